/-
  The document's own answer of layer 7: what lockboxref07.Pad and lockboxref07.Retail return.
-/
import Derived.Test.YtmmgimpokpgnaaaGreatDoorAwake07
import Derived.Test.YtmmgimpokpgnaaaGreatDoorRef03B
import Derived.Test.YtmmgimpokpgnaaaGreatDoorModeXorsWalk
import Derived.Deep.RegionHeld3
namespace Go.Proofs.YtmmgimpokpgnaaaGreatDoor.Mc
open Mem Bk Md Go.ChangeShapes Go.WideShapes Go.ChangeAt Go.RowKit
def lenV : Value → Nat
  | .slice _ n _ => n
  | _ => 0
theorem no_mult {L n m : Nat} (h1 : L < m) (h2 : m < padN L n) : m % n ≠ 0 := fun h => by
  have e1 := Nat.div_add_mod L n
  have e2 := Nat.div_add_mod m n
  rw [h, Nat.add_zero] at e2
  unfold padN at h2
  have h3 : L / n < m / n := by
    apply Classical.byContradiction
    intro hq
    have := Nat.mul_le_mul_left n (Nat.le_of_not_lt hq)
    omega
  have h4 := Nat.mul_le_mul_right n (Nat.succ_le_of_lt h3)
  rw [Nat.mul_comm (m / n)] at h4
  have h5 : (L / n).succ * n = (L / n + 1) * n := rfl
  omega
theorem up {W W' : World} {A : Option Addr} {n : Nat} {f : Nat → Nat} (h : Reads W W.heap.size A n f) (hB : Below W.heap.size W W') : Reads W' W'.heap.size A n f := (h.below hB).more hB.size
theorem lst_reads {W : World} {A : Option Addr} {n : Nat} {f : Nat → Nat} (h : Lst W 5 A n (iv .u8 f)) : Reads W W.heap.size A n f := fun _ => by
  obtain ⟨ad, rfl, had⟩ := h.some
  exact ⟨ad, rfl, had, fun i hi => h.at i hi⟩
theorem bs1 (x : Int) (w : World) : (Instr.buildSlice 22 1 #[(0, .int .u8 x)]).run Tryz.prog w = .ok (.slice (some ⟨w.heap.size, 0, none⟩) 1 1) (w.alloc (.cells #[.int .u8 x] 5)) := by kernel_rfl
theorem one_reads (w : World) (x : Nat) : Reads (w.alloc (.cells #[.int .u8 (x : Int)] 5)) (w.heap.size + 1) (some ⟨w.heap.size, 0, none⟩) 1 (fun _ => x) := fun _ => ⟨_, rfl, Nat.lt_succ_self _, fun j hj => by
  have : j = 0 := by omega
  subst this
  exact (Blk.fresh w 5 #[.int .u8 (x : Int)]).cell 0⟩
set_option maxRecDepth 100000 in
set_option maxHeartbeats 1000000 in
/-- lockboxref07.Pad -/
theorem rpad_any (A : Option Addr) (L c : Nat) (f : Nat → Nat) (n M : Nat) (w : World) (hL : L ≤ 1000) (hn : 1 ≤ n) (hn' : n ≤ 64) (hM : M = padN L n) (hA : A = none → L = 0 ∧ c = 0) (hR : Reads w w.heap.size A L f) :
    Calls Tryz.prog 34 #[.slice A L c, .int .i64 (n : Int)] w fun e w' => ∃ v, e = .returned v ∧ Mem.Own w' w.heap.size 5 1 v M (padF L f) ∧ Below w.heap.size w w' := by
  have hLM : L < M := by rw [hM]; exact padN_gt hn
  have hML : M ≤ L + n := by rw [hM]; exact padN_le
  have Hno : Hid (∀ m, L < m → m < M → ((m : Int) % (n : Int) != 0) = true) := hid fun m h1 h2 => by
    rw [(rem_n (u := m) hn rfl).2.2, bne_iff_ne]
    exact fun h => no_mult h1 (hM ▸ h2) (Int.natCast_eq_zero.1 h)
  have Hyes : Hid (((M : Int) % (n : Int) != 0) = false) := hid (by
    rw [(rem_n (u := M) hn rfl).2.2]
    have : M % n = 0 := by rw [hM]; unfold padN; exact Nat.mul_mod_left _ _
    rw [this]; rfl)
  have HA := hid hA
  have hMs : M ≤ 2000 := by omega
  have hBe := (Below.refl w.heap.size w).alloc (Nat.le_refl _) (.cells #[] 5)
  have He := hid (Mem.Own.empty w w.heap.size 5 (fun _ => 0) (Nat.le_refl _))
  have HRe := hid ((hR.below hBe).more hBe.size)
  have HBe := hid hBe
  have hL6 : 0 + L ≤ 1000000 := by omega
  have hL7 : L + 1 ≤ 1000000 := by omega
  clear hM hA hR hBe
  go_enter Tryz.func34, Tryz.ntmps34
  go_wp2_with (at_builtin; (refine wpl_app_gen rfl _ _ 22 rfl w.heap.size 5 (.int .u8 0) Tryz.underlying22 info_u8 rfl _ 0 _ rfl He.out A L c _ _ HRe.out HA.out rfl hL6 (by simp) ?_))
  intro v1 w1 ho1 hB1
  try rw [Nat.zero_add] at ho1
  have hB01 := HBe.out.trans hB1
  obtain ⟨A1, c1, rfl, hc1, -, -⟩ := ho1.slice'
  have hBn := (Below.refl w1.heap.size w1).alloc (Nat.le_refl _) (.cells #[.int .u8 128] 5)
  have Ho1 := hid (ho1.below hBn (Nat.le_refl _))
  have HN1 := hid (one_reads w1 128)
  have HB1 := hid (hB01.trans (hBn.mono hB01.size))
  have hs1 := HB1.out.size
  clear ho1 hB1 He HRe HBe hBn hB01
  go_wp2_with (at_builtin; (refine wpl_app_gen rfl _ _ 22 rfl w.heap.size 5 (.int .u8 0) Tryz.underlying22 info_u8 rfl _ L _ rfl Ho1.out (some ⟨w1.heap.size, 0, none⟩) 1 1 _ _ HN1.out (fun h => by cases h) rfl hL7 hs1 ?_))
  intro v2 w2 ho2 hB2
  have HB2 := hid (HB1.out.trans hB2)
  have Ho2 : Hid (Mem.Own w2 w.heap.size 5 1 v2 (L + 1) (padF L f)) := hid (ho2.ext (fun i hi => by
    unfold cat padF
    by_cases h1 : i < L
    · simp [h1]
    · have : i = L := by omega
      simp [this]))
  clear ho2 hB2 Ho1 HN1 HB1 hs1
  go_wp2_with fail
  go_loopw [5] (fun v wr => ∃ m : Nat, L < m ∧ m ≤ M ∧ Mem.Own wr w.heap.size 5 1 v m (padF L f) ∧ Below w.heap.size w wr) (fun v _ => M - lenV v)
  case atStart => exact ⟨L + 1, by omega, by omega, Ho2.out, HB2.out⟩
  case round =>
    clear Ho2 HB2
    obtain ⟨m, hm1, hm2, ho, hB⟩ := hrel
    obtain ⟨g, cm, rfl, hcm⟩ := own_at ho (by omega)
    by_cases hlt : m < M
    · have hno := Hno.out m hm1 hlt
      have hBn := (Below.refl wr.heap.size wr).alloc (Nat.le_refl _) (.cells #[.int .u8 0] 5)
      have Ho := hid (ho.below hBn (Nat.le_refl _))
      have HN := hid (one_reads wr 0)
      have HB := hid (hB.trans (hBn.mono hB.size))
      have hs := HB.out.size
      have hm6 : m + 1 ≤ 1000000 := by omega
      have hmM : m + 1 ≤ M := by omega
      have hLm : L < m + 1 := by omega
      have hdec : M - (m + 1) < M - m := by omega
      clear ho hB hBn
      go_wp2_with (at_builtin; (refine wpl_app_gen rfl _ _ 22 rfl w.heap.size 5 (.int .u8 0) Tryz.underlying22 info_u8 rfl _ m _ rfl Ho.out (some ⟨wr.heap.size, 0, none⟩) 1 1 _ _ HN.out (fun h => by cases h) rfl hm6 hs ?_))
      intro v3 w3 ho3 hB3
      obtain ⟨A3, c3, rfl, hc3, -, -⟩ := ho3.slice'
      clear hno
      have Ho3 : Hid (Mem.Own w3 w.heap.size 5 1 (.slice A3 (m + 1) c3) (m + 1) (padF L f)) := hid (ho3.ext (fun i hi => by
        unfold cat
        by_cases h1 : i < m
        · rw [if_pos h1]
        · rw [if_neg h1]
          unfold padF
          rw [if_neg (by omega), if_neg (by omega)]))
      have HB3 := hid (HB.out.trans hB3)
      clear ho3 hB3 Ho HN HB
      go_wp2_with fail
      go_round
      case rel => exact ⟨m + 1, hLm, hmM, Ho3.out, HB3.out⟩
      case measure => exact hdec
    · have hmM : m = M := by omega
      have hyes := Hyes.out
      rw [← hmM] at hyes
      have HmM := hid hmM
      clear hmM
      go_wp2_with fail
      go_ret
      refine ⟨_, rfl, ?_, hB⟩
      have h := HmM.out
      subst h
      exact ho
section
variable {P : Program} {o : Oper} {x : Act} {w : World}
theorem exec_cutH (ty : TypeId) (p hi : Operand) (ho : o.op = .slice ty p none (some hi) none) (u z v : Value) (hp : x.eval p = u) (hh : x.eval hi = z) (hr : (Instr.sliceAt ty u none (some z) none).run P w = .ok v w) : (execOp x.eval o).run P w = .ok (.value v) w := by
  subst hp; subst hh
  unfold execOp
  simp [ho, hr]
theorem exec_cutL (ty : TypeId) (p lo : Operand) (ho : o.op = .slice ty p (some lo) none none) (u z v : Value) (hp : x.eval p = u) (hh : x.eval lo = z) (hr : (Instr.sliceAt ty u (some z) none none).run P w = .ok v w) : (execOp x.eval o).run P w = .ok (.value v) w := by
  subst hp; subst hh
  unfold execOp
  simp [ho, hr]
theorem exec_cutLH (ty : TypeId) (p lo hi : Operand) (ho : o.op = .slice ty p (some lo) (some hi) none) (u y z v : Value) (hp : x.eval p = u) (hl : x.eval lo = y) (hh : x.eval hi = z) (hr : (Instr.sliceAt ty u (some y) (some z) none).run P w = .ok v w) : (execOp x.eval o).run P w = .ok (.value v) w := by
  subst hp; subst hl; subst hh
  unfold execOp
  simp [ho, hr]
end
theorem uS8 : Tryz.prog.underlying 22 = some (.slice (Tryz.prog.elem 22)) := by kernel_rfl
theorem eS8 : Tryz.prog.elem 22 = 5 := by kernel_rfl
theorem cutHi (g : Addr) (n c m : Nat) (h : m ≤ c) (w : World) : (Instr.sliceAt 22 (.slice (some g) n c) none (some (.int .i64 (m : Int))) none).run Tryz.prog w = .ok (.slice (some g) m c) w := by
  rw [run_sliceAt_slice w 22 _ _ _ _ uS8, run_slice_h w 22 _ _ _ uS8 .i64 (m : Int) (by omega) (by omega), eS8, run_size i8q]
  simp [Result.andThen, sliced, Addr.add]
theorem cutLo (g : Addr) (n c m : Nat) (h : m ≤ n) (hc : m < c) (w : World) : (Instr.sliceAt 22 (.slice (some g) n c) (some (.int .i64 (m : Int))) none none).run Tryz.prog w = .ok (.slice (some (g.add m)) (n - m) (c - m)) w := by
  rw [run_sliceAt_slice w 22 _ _ _ _ uS8, run_slice_l w 22 _ _ _ uS8 .i64 (m : Int) (by omega) (by omega), eS8, run_size i8q]
  simp [Result.andThen, sliced, show ¬ c = m by omega]
theorem cutLoHi (g : Addr) (n c l m : Nat) (h : l ≤ m) (hm : m ≤ c) (hc : l < c) (w : World) : (Instr.sliceAt 22 (.slice (some g) n c) (some (.int .i64 (l : Int))) (some (.int .i64 (m : Int))) none).run Tryz.prog w = .ok (.slice (some (g.add l)) (m - l) (c - l)) w := by
  rw [run_sliceAt_slice w 22 _ _ _ _ uS8, run_slice_lh w 22 _ _ _ uS8 .i64 .i64 (l : Int) (m : Int) (by omega) (by omega) (by omega), eS8, run_size i8q]
  simp [Result.andThen, sliced, show ¬ c = l by omega]
theorem tc8 {key x : Nat → Nat} {bk : Bool} (hx : Des.By8 x) : tc 2 8 key bk x = Des.des key x bk := by
  unfold tc
  rw [if_neg (by omega), Des.tdes_one (k := key) (fun j _ i _ => by unfold Des.tkey; rw [if_pos rfl]) hx]
theorem ah_by {key t : Nat → Nat} (ht : ∀ i, t i < 256) (hk : ∀ i, i < 8 → key i < 256) (j : Nat) : Des.By8 (ah 2 8 key zf t j) := ah_lt (N := j) fits8 (by omega) hk (zf_lt _) (fun i _ => ht i) j (Nat.le_refl _)
theorem xr_comm (f g : Nat → Nat) : xr f g = xr g f := by funext i; unfold xr; exact Nat.xor_comm _ _
set_option maxRecDepth 100000 in
set_option maxHeartbeats 1000000 in
set_option linter.unusedSimpArgs false in
/-- lockboxref07.Retail -/
theorem rretail_any (gk : Addr) (c : Nat) (key : Nat → Nat) (A2 : Option Addr) (L c2 : Nat) (t : Nat → Nat) (w : World) (hc : 16 ≤ c) (hL : L ≤ 1000) (hk : ∀ i, i < 16 → key i < 256) (ht : ∀ i, i < L → t i < 256) (hA2 : A2 = none → L = 0 ∧ c2 = 0) (hR : Reads w w.heap.size (some gk) 16 key) (hR2 : Reads w w.heap.size A2 L t) :
    Calls Tryz.prog 36 #[.slice (some gk) 16 c, .slice A2 L c2] w fun e w' => ∃ A' c', e = .returned (.slice A' 8 c') ∧ 8 ≤ c' ∧ Reads w' w'.heap.size A' 8 (retF key L t) ∧ Below w.heap.size w w' := by
  have Hk1 : Hid (Des.By8 key) := hid fun i hi => hk i (by omega)
  have Hk2 : Hid (Des.By8 fun q => key (8 + q)) := hid fun i hi => hk _ (by omega)
  have Ht := hid ht
  have HA2 := hid hA2
  have HR := hid hR
  have HR2 := hid hR2
  have hk1 : ∀ W, (Instr.sliceAt 22 (.slice (some gk) 16 c) none (some (.int .i64 8)) none).run Tryz.prog W = .ok (.slice (some gk) 8 c) W := fun W => cutHi gk 16 c 8 (by omega) W
  have hk2 : ∀ W, (Instr.sliceAt 22 (.slice (some gk) 16 c) (some (.int .i64 8)) none none).run Tryz.prog W = .ok (.slice (some (gk.add 8)) 8 (c - 8)) W := fun W => cutLo gk 16 c 8 (by omega) (by omega) W
  obtain ⟨M, hM⟩ : ∃ M, M = padN L 8 := ⟨_, rfl⟩
  have hLM : L < M := by rw [hM]; exact padN_gt (by omega)
  have hML : M ≤ L + 8 := by rw [hM]; exact padN_le
  have hMN : M = (L / 8 + 1) * 8 := hM
  have HMN := hid hMN
  have HM := hid hM
  have hm8 : ∀ w, (Instr.makeSlice 22 (.int .i64 8) (.int .i64 8)).run Tryz.prog w = .ok (.slice (some ⟨w.heap.size, 0, none⟩) 8 8) (w.alloc (.cells (row 8 (b8 zf)) 5)) := fun w => by
    have hr := run_make_row' (P := Tryz.prog) 22 5 (.int .u8 0) 1 Tryz.underlying22 info8 rfl .i64 .i64 8 (by omega) (by omega) w
    rwa [made_b8] at hr
  clear hR hR2 hk ht hA2 hM hMN
  go_enter Tryz.func36, Tryz.ntmps36
  go_wp2_with fail
  refine (rpad_any A2 L c2 t 8 M _ hL (by omega) (by omega) HM.out HA2.out HR2.out).mono ?_
  rintro e w1 ⟨v1, rfl, ho1, hB1⟩
  obtain ⟨gt, ct, rfl, hct⟩ := own_at ho1 (by omega)
  have hBz := (Below.refl w1.heap.size w1).alloc (Nat.le_refl _) (.cells (row 8 (b8 zf)) 5)
  have HZ := hid (Blk.reads (Blk.fresh w1 5 (row 8 (b8 zf))))
  have HT := hid (up ho1.reads hBz)
  have HK := hid (up (up HR.out hB1) hBz)
  have HB := hid (hB1.trans (hBz.mono hB1.size))
  clear ho1 hB1 hBz HR HR2
  go_wp2_with fail
  clear hm8
  go_loopw [6, 7] (fun x y wr => ∃ (j : Nat) (Ax : Option Addr) (cx : Nat), j ≤ L / 8 + 1 ∧ x = .slice Ax 8 cx ∧ 8 ≤ cx ∧ y = .int .i64 ((8 * j : Nat) : Int) ∧ Reads wr wr.heap.size Ax 8 (ah 2 8 key zf (padF L t) j) ∧ Reads wr wr.heap.size (some ⟨gt, 0, none⟩) M (padF L t) ∧ Reads wr wr.heap.size (some gk) 16 key ∧ Below w.heap.size w wr) (fun _ y _ => M - (intOf y).toNat)
  case atStart => exact ⟨0, _, _, by omega, rfl, by omega, rfl, HZ.out, HT.out, HK.out, HB.out⟩
  case round =>
    clear HZ HT HK HB
    obtain ⟨j, Ax, cx, hj, rfl, hcx, rfl, hRx, hRt, hRk, hB⟩ := hrel
    have Rx := hid hRx
    have Rk := hid (hRk.less (show 8 ≤ 16 by omega))
    have Hx : Hid (Des.By8 (ah 2 8 key zf (padF L t) j)) := hid (ah_by (fun i => padF_lt Ht.out i) Hk1.out j)
    obtain ⟨i, hi⟩ : ∃ i, i = 8 * j := ⟨_, rfl⟩
    rw [← hi]
    have hMM := HMN.out
    by_cases hlt : j < L / 8 + 1
    · have hiM : i + 8 ≤ M := by omega
      have hic : i < ct := by omega
      have ht8 : ∀ W, (Instr.sliceAt 22 (.slice (some ⟨gt, 0, none⟩) M ct) (some (.int .i64 (i : Int))) (some (.int .i64 ((i + 8 : Nat) : Int))) none).run Tryz.prog W = .ok (.slice (some ⟨gt, i, none⟩) 8 (ct - i)) W := fun W => by
        rw [cutLoHi ⟨gt, 0, none⟩ M ct i (i + 8) (by omega) (by omega) hic W, add_zero_off, Nat.add_sub_cancel_left]
      have Ri : Hid (Reads wr wr.heap.size (some ⟨gt, i, none⟩) 8 (fun q => padF L t (i + q))) := hid (by
        have h := (hRt.less hiM).cut (k := i) (cap := ct) (by omega) (by omega)
        rw [if_neg (by omega), show i + 8 - i = 8 by omega] at h
        simp only [Option.map_some, add_zero_off] at h
        exact h)
      have Hij := hid hi
      have hltI : (i : Int) < (M : Int) := by omega
      have hnext : Hid (i + 8 = 8 * (j + 1) ∧ j + 1 ≤ L / 8 + 1 ∧ M - (i + 8) < M - i) := hid (by omega)
      clear hi hMM hlt hRx
      go_wp2_with fail
      refine wp_region_held_drew (S := fun W => Below wr.heap.size wr W) (by kernel_rfl) (Below.refl _ _).drew (fun hS0 => ?_)
      refine wpAnyH_take (i := 0) (v := .slice (some gk) 16 c) rfl (by kernel_rfl) (by kernel_rfl) (by kernel_rfl) (fun _ _ _ h => h) (Or.inl ⟨rfl, fun _ _ => exec_move _ rfl _ rfl⟩) hS0 ?_
      (try simp only [Act.put, List.getElem_toArray, List.getElem_cons_zero, List.getElem_cons_succ, List.setIfInBounds_toArray, List.set_cons_zero, List.set_cons_succ])
      refine wpAnyH_take (i := 1) (v := .slice (some gk) 8 c) rfl (by kernel_rfl) (by kernel_rfl) (by kernel_rfl) (fun _ _ _ h => h) (Or.inl ⟨rfl, fun W _ => exec_cutH 22 _ _ rfl (.slice (some gk) 16 c) (.int .i64 8) _ rfl rfl (hk1 W)⟩) hS0 ?_
      (try simp only [Act.put, List.getElem_toArray, List.getElem_cons_zero, List.getElem_cons_succ, List.setIfInBounds_toArray, List.set_cons_zero, List.set_cons_succ])
      refine wpAnyH_take (i := 2) (v := .slice Ax 8 cx) rfl (by kernel_rfl) (by kernel_rfl) (by kernel_rfl) (fun _ _ _ h => h) (Or.inl ⟨rfl, fun _ _ => exec_move _ rfl _ rfl⟩) hS0 ?_
      (try simp only [Act.put, List.getElem_toArray, List.getElem_cons_zero, List.getElem_cons_succ, List.setIfInBounds_toArray, List.set_cons_zero, List.set_cons_succ])
      refine wpAnyH_take (i := 3) (v := .slice (some ⟨gt, 0, none⟩) M ct) rfl (by kernel_rfl) (by kernel_rfl) (by kernel_rfl) (fun _ _ _ h => h) (Or.inl ⟨rfl, fun _ _ => exec_move _ rfl _ rfl⟩) hS0 ?_
      (try simp only [Act.put, List.getElem_toArray, List.getElem_cons_zero, List.getElem_cons_succ, List.setIfInBounds_toArray, List.set_cons_zero, List.set_cons_succ])
      refine wpAnyH_take (i := 4) (v := .int .i64 (i : Int)) rfl (by kernel_rfl) (by kernel_rfl) (by kernel_rfl) (fun _ _ _ h => h) (Or.inl ⟨rfl, fun _ _ => exec_move _ rfl _ rfl⟩) hS0 ?_
      (try simp only [Act.put, List.getElem_toArray, List.getElem_cons_zero, List.getElem_cons_succ, List.setIfInBounds_toArray, List.set_cons_zero, List.set_cons_succ])
      refine wpAnyH_take (i := 5) (v := .int .i64 (i : Int)) rfl (by kernel_rfl) (by kernel_rfl) (by kernel_rfl) (fun _ _ _ h => h) (Or.inl ⟨rfl, fun _ _ => exec_move _ rfl _ rfl⟩) hS0 ?_
      (try simp only [Act.put, List.getElem_toArray, List.getElem_cons_zero, List.getElem_cons_succ, List.setIfInBounds_toArray, List.set_cons_zero, List.set_cons_succ])
      refine wpAnyH_take (i := 6) (v := .int .i64 ((i + 8 : Nat) : Int)) rfl (by kernel_rfl) (by kernel_rfl) (by kernel_rfl) (fun _ _ _ h => h) (Or.inl ⟨rfl, fun _ _ => exec_arith .add (.inl rfl) _ _ _ _ rfl (i : Int) 8 rfl rfl ((i + 8 : Nat) : Int) (show (i : Int) + 8 = ((i + 8 : Nat) : Int) by omega) (by omega) (by omega)⟩) hS0 ?_
      (try simp only [Act.put, List.getElem_toArray, List.getElem_cons_zero, List.getElem_cons_succ, List.setIfInBounds_toArray, List.set_cons_zero, List.set_cons_succ])
      refine wpAnyH_take (i := 7) (v := .slice (some ⟨gt, i, none⟩) 8 (ct - i)) rfl (by kernel_rfl) (by kernel_rfl) (by kernel_rfl) (fun _ _ _ h => h) (Or.inl ⟨rfl, fun W _ => exec_cutLH 22 _ _ _ rfl (.slice (some ⟨gt, 0, none⟩) M ct) (.int .i64 (i : Int)) (.int .i64 ((i + 8 : Nat) : Int)) _ rfl rfl rfl (ht8 W)⟩) hS0 ?_
      (try simp only [Act.put, List.getElem_toArray, List.getElem_cons_zero, List.getElem_cons_succ, List.setIfInBounds_toArray, List.set_cons_zero, List.set_cons_succ])
      refine wpAnyH_ready (rs := [8]) (by kernel_rfl) (by simp) (AllReadyH.cons rfl (fun K hK => ?_) AllReadyH.nil)
      (try simp only [Act.put, List.getElem_toArray, List.getElem_cons_zero, List.getElem_cons_succ, List.setIfInBounds_toArray, List.set_cons_zero, List.set_cons_succ])
      refine Eq.mpr (if_pos (by rfl)) ?_
      go_simp
      refine (Md.rxor_any Ax (some ⟨gt, i, none⟩) 8 cx (ct - i) _ (fun q => padF L t (i + q)) _ (by omega) Hx.out (fun q _ => padF_lt Ht.out _) (up Rx.out hS0) (up Ri.out hS0)).mono ?_
      rintro e wq1 ⟨vq, rfl, hoq, hBq1⟩
      obtain ⟨Aq, cq, rfl, hcq, -, -⟩ := hoq.slice'
      refine hK.out _ _ (hS0.trans (hBq1.mono hS0.size)) (fun hS1 => ?_)
      (try simp only [Act.put, List.getElem_toArray, List.getElem_cons_zero, List.getElem_cons_succ, List.setIfInBounds_toArray, List.set_cons_zero, List.set_cons_succ])
      clear hK K
      refine wpAnyH_ready (rs := [9]) (by kernel_rfl) (by simp) (AllReadyH.cons rfl (fun K hK => ?_) AllReadyH.nil)
      (try simp only [Act.put, List.getElem_toArray, List.getElem_cons_zero, List.getElem_cons_succ, List.setIfInBounds_toArray, List.set_cons_zero, List.set_cons_succ])
      refine Eq.mpr (if_pos (by rfl)) ?_
      go_simp
      refine (Des.rblock_any (some gk) Aq c cq key _ false Hk1.out (xr_by Hx.out (fun q _ => padF_lt Ht.out _)) _ (up Rk.out hS1) hoq.reads).mono ?_
      rintro e wq2 ⟨Ar, cr, rfl, hcr, hLr, hBq2⟩
      refine hK.out _ _ (hS1.trans (hBq2.mono hS1.size)) (fun hS2 => ?_)
      (try simp only [Act.put, List.getElem_toArray, List.getElem_cons_zero, List.getElem_cons_succ, List.setIfInBounds_toArray, List.set_cons_zero, List.set_cons_succ])
      clear hK K
      refine wpAnyH_take (i := 10) (v := .slice Ar 8 cr) rfl (by kernel_rfl) (by kernel_rfl) (by kernel_rfl) (fun _ _ _ h => h) (Or.inl ⟨rfl, fun _ _ => exec_assign _ rfl _ rfl⟩) hS2 ?_
      (try simp only [Act.put, List.getElem_toArray, List.getElem_cons_zero, List.getElem_cons_succ, List.setIfInBounds_toArray, List.set_cons_zero, List.set_cons_succ])
      refine wpAnyH_done (by kernel_rfl) ?_ _
      have he : xr (bl 2 (padF L t) j) (ah 2 8 key zf (padF L t) j) = xr (ah 2 8 key zf (padF L t) j) (fun q => padF L t (i + q)) := by
        rw [xr_comm]
        congr 1
        funext q
        unfold bl
        rw [sz2, Hij.out, Nat.mul_comm]
      have HRn : Hid (Reads wq2 wq2.heap.size Ar 8 (ah 2 8 key zf (padF L t) (j + 1))) := hid (by
        rw [ah_next, he, tc8 (xr_by Hx.out (fun q _ => padF_lt Ht.out _))]
        exact lst_reads hLr)
      clear hLr he
      go_wp2_with fail
      exact ⟨⟨j + 1, Ar, cr, hnext.out.2.1, rfl, hcr, val_int (by rw [← hnext.out.1]; rfl), HRn.out, up hRt hS2, up hRk hS2, hB.trans (hS2.mono hB.size)⟩, hnext.out.2.2⟩
    · have hltI : ¬ (i : Int) < (M : Int) := by omega
      have Hj : Hid (j = L / 8 + 1) := hid (by omega)
      have Rk2 : Hid (Reads wr wr.heap.size (some (gk.add 8)) 8 (fun q => key (8 + q))) := hid (by
        have h := hRk.cut (k := 8) (cap := c) (by omega) hc
        rw [if_neg (by omega)] at h
        exact h)
      clear hi hMM hlt hRx
      go_wp2_with fail
      refine wp_region_held_drew (S := fun W => Below wr.heap.size wr W) (by kernel_rfl) (Below.refl _ _).drew (fun hS0 => ?_)
      refine wpAnyH_take (i := 0) (v := .slice (some gk) 16 c) rfl (by kernel_rfl) (by kernel_rfl) (by kernel_rfl) (fun _ _ _ h => h) (Or.inl ⟨rfl, fun _ _ => exec_move _ rfl _ rfl⟩) hS0 ?_
      (try simp only [Act.put, List.getElem_toArray, List.getElem_cons_zero, List.getElem_cons_succ, List.setIfInBounds_toArray, List.set_cons_zero, List.set_cons_succ])
      refine wpAnyH_take (i := 1) (v := .slice (some gk) 8 c) rfl (by kernel_rfl) (by kernel_rfl) (by kernel_rfl) (fun _ _ _ h => h) (Or.inl ⟨rfl, fun W _ => exec_cutH 22 _ _ rfl (.slice (some gk) 16 c) (.int .i64 8) _ rfl rfl (hk1 W)⟩) hS0 ?_
      (try simp only [Act.put, List.getElem_toArray, List.getElem_cons_zero, List.getElem_cons_succ, List.setIfInBounds_toArray, List.set_cons_zero, List.set_cons_succ])
      refine wpAnyH_take (i := 2) (v := .slice (some gk) 16 c) rfl (by kernel_rfl) (by kernel_rfl) (by kernel_rfl) (fun _ _ _ h => h) (Or.inl ⟨rfl, fun _ _ => exec_move _ rfl _ rfl⟩) hS0 ?_
      (try simp only [Act.put, List.getElem_toArray, List.getElem_cons_zero, List.getElem_cons_succ, List.setIfInBounds_toArray, List.set_cons_zero, List.set_cons_succ])
      refine wpAnyH_take (i := 3) (v := .slice (some (gk.add 8)) 8 (c - 8)) rfl (by kernel_rfl) (by kernel_rfl) (by kernel_rfl) (fun _ _ _ h => h) (Or.inl ⟨rfl, fun W _ => exec_cutL 22 _ _ rfl (.slice (some gk) 16 c) (.int .i64 8) _ rfl rfl (hk2 W)⟩) hS0 ?_
      (try simp only [Act.put, List.getElem_toArray, List.getElem_cons_zero, List.getElem_cons_succ, List.setIfInBounds_toArray, List.set_cons_zero, List.set_cons_succ])
      refine wpAnyH_take (i := 4) (v := .slice Ax 8 cx) rfl (by kernel_rfl) (by kernel_rfl) (by kernel_rfl) (fun _ _ _ h => h) (Or.inl ⟨rfl, fun _ _ => exec_move _ rfl _ rfl⟩) hS0 ?_
      (try simp only [Act.put, List.getElem_toArray, List.getElem_cons_zero, List.getElem_cons_succ, List.setIfInBounds_toArray, List.set_cons_zero, List.set_cons_succ])
      refine wpAnyH_ready (rs := [5]) (by kernel_rfl) (by simp) (AllReadyH.cons rfl (fun K hK => ?_) AllReadyH.nil)
      (try simp only [Act.put, List.getElem_toArray, List.getElem_cons_zero, List.getElem_cons_succ, List.setIfInBounds_toArray, List.set_cons_zero, List.set_cons_succ])
      refine Eq.mpr (if_pos (by rfl)) ?_
      go_simp
      refine (Des.rblock_any (some (gk.add 8)) Ax (c - 8) cx (fun q => key (8 + q)) _ true Hk2.out Hx.out _ (up Rk2.out hS0) (up Rx.out hS0)).mono ?_
      rintro e wq1 ⟨Aq, cq, rfl, hcq, hLq, hBq1⟩
      refine hK.out _ _ (hS0.trans (hBq1.mono hS0.size)) (fun hS1 => ?_)
      (try simp only [Act.put, List.getElem_toArray, List.getElem_cons_zero, List.getElem_cons_succ, List.setIfInBounds_toArray, List.set_cons_zero, List.set_cons_succ])
      clear hK K
      refine wpAnyH_ready (rs := [6]) (by kernel_rfl) (by simp) (AllReadyH.cons rfl (fun K hK => ?_) AllReadyH.nil)
      (try simp only [Act.put, List.getElem_toArray, List.getElem_cons_zero, List.getElem_cons_succ, List.setIfInBounds_toArray, List.set_cons_zero, List.set_cons_succ])
      refine Eq.mpr (if_pos (by rfl)) ?_
      go_simp
      refine (Des.rblock_any (some gk) Aq c cq key _ false Hk1.out (Des.des_by _ _ _) _ (up Rk.out hS1) (lst_reads hLq)).mono ?_
      rintro e wq2 ⟨Ar, cr, rfl, hcr, hLr, hBq2⟩
      refine hK.out _ _ (hS1.trans (hBq2.mono hS1.size)) (fun hS2 => ?_)
      (try simp only [Act.put, List.getElem_toArray, List.getElem_cons_zero, List.getElem_cons_succ, List.setIfInBounds_toArray, List.set_cons_zero, List.set_cons_succ])
      clear hK K
      refine wpAnyH_take (i := 7) (v := .slice Ar 8 cr) rfl (by kernel_rfl) (by kernel_rfl) (by kernel_rfl) (fun _ _ _ h => h) (Or.inl ⟨rfl, fun _ _ => exec_assign _ rfl _ rfl⟩) hS2 ?_
      (try simp only [Act.put, List.getElem_toArray, List.getElem_cons_zero, List.getElem_cons_succ, List.setIfInBounds_toArray, List.set_cons_zero, List.set_cons_succ])
      refine wpAnyH_done (by kernel_rfl) ?_ _
      have HRn : Hid (Reads wq2 wq2.heap.size Ar 8 (retF key L t)) := hid (by
        unfold retF
        rw [← Hj.out, tc8 Hx.out, tc8 (Des.des_by _ _ _)]
        exact lst_reads hLr)
      clear hLr
      go_wp2_with fail
      go_ret
      exact ⟨Ar, cr, rfl, hcr, HRn.out, hB.trans (hS2.mono hB.size)⟩
end Go.Proofs.YtmmgimpokpgnaaaGreatDoor.Mc
