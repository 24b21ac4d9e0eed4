/-
  What Hex, Unhex and Decimal of package digit return.
-/
import Derived.Test.YtomeeebiijmnmaaDig1
import Derived.Test.YtomeeebiijmnmaaBits
import Derived.Test.YtomeeebiijmnmaaTapeX
namespace Go.Proofs.Ytomeeebiijmnmaa.Dg
open Mem Go.ChangeShapes Go.WideShapes Go.ChangeAt Go.RowKit
theorem info8 : (Try.prog.info? 5).map (fun i => (i.zero, i.size, i.bytes)) = some (some (.int .u8 0), 1, 1) := by kernel_rfl
theorem i8q : (Try.prog.info? 5).map (·.size) = some 1 := by kernel_rfl
theorem make_own (w : World) (z : Nat) (hz : z ≤ 1000000) : ∃ w', (Instr.makeSlice 22 (.int .i64 0) (.int .i64 (z : Int))).run Try.prog w = .ok (.slice (some ⟨w.heap.size, 0, none⟩) 0 z) w' ∧ (∀ f, Own w' w.heap.size 5 1 (.slice (some ⟨w.heap.size, 0, none⟩) 0 z) 0 f) ∧ Below w.heap.size w w' := by
  obtain ⟨i, hi, hz0, hz1, hz2⟩ := info_parts info8
  obtain ⟨w', h1, h2, h3⟩ := run_make_own (P := Try.prog) w w.heap.size 22 5 i _ 1 Try.underlying22 hi hz0 hz1 .i64 .i64 z (by rw [hz2]; omega) (by unfold maxLen; omega) (Nat.le_refl _)
  exact ⟨w', h1, fun f => by simpa [Own] using h2, (Below.refl _ w).grown h3 (Nat.le_refl _) (fun k hk => by cases hk)⟩
theorem own_blk {w : World} {g n : Nat} {f : Nat → Nat} (hn : n ≤ 1000000) (h : Blk w g 5 (row n (b8 f))) : Own w 0 5 1 (.slice (some ⟨g, 0, none⟩) n n) n f :=
  ⟨by simp, .inr ⟨_, _, _, rfl, Nat.zero_le _, h, Nat.le_refl _, by unfold maxLen; omega, by simp [row_size], by
    apply List.ext_getElem?
    intro i
    by_cases hi : i < n
    · simp [hi, row_get _ _ _ hi]
    · rw [List.getElem?_eq_none (by simp [row_size]; omega), List.getElem?_eq_none (by simp; omega)]⟩⟩
theorem conv_blk {w : World} {g n : Nat} {f : Nat → Nat} (hn : n ≤ 1000000) (h : Blk w g 5 (row n (b8 f))) : (convert 22 9 (.slice (some ⟨g, 0, none⟩) n n)).run Try.prog w = .ok (.string (strF n f)) w := conv_own (own_blk hn h)
theorem and15 (x : Nat) (h : x < 256) : bits .and .u8 (x : Int) 15 = ((x % 16 : Nat) : Int) := by
  have e := u8_and_nat x 15 h (by omega)
  have e2 : x &&& 15 = x % 16 := Nat.and_two_pow_sub_one_eq_mod x 4
  rw [e2] at e
  exact e
theorem bs2 (x y : Int) (w : World) : (Instr.buildSlice 22 2 #[(0, .int .u8 x), (1, .int .u8 y)]).run Try.prog w = .ok (.slice (some ⟨w.heap.size, 0, none⟩) 2 2) (w.alloc (.cells #[.int .u8 x, .int .u8 y] 5)) := by kernel_rfl
section
variable {P : Program} {o : Oper} {a : Act} {w : World}
theorem wp_bs2 {K : Act → World → Prop} {Q : Exit → Act → World → Prop} (t : TypeId) (p q : Operand) (ho : o.op = .buildSlice t 2 #[(0, p), (1, q)]) (u v : Value) (hp : a.eval p = u) (hq : a.eval q = v) (cs : Array Value) (e : TypeId)
    (hr : (Instr.buildSlice t 2 #[(0, u), (1, v)]).run P w = .ok (.slice (some ⟨w.heap.size, 0, none⟩) 2 2) (w.alloc (.cells cs e)))
    (h : K (a.put o.dst (.slice (some ⟨w.heap.size, 0, none⟩) 2 2)) (w.alloc (.cells cs e))) : o.wp P a w K Q := by
  unfold Oper.wp execOp
  simp only [ho, List.map_toArray, List.map_cons, List.map_nil, hp, hq, hr, Sem.run_bind, Sem.run_pure, Result.andThen_ok]
  exact h
theorem exec_shr4 (t : TypeId) (x y : Operand) (rt : TypeId) (ho : o.op = .binOp .shr t x y rt) (n : Nat) (_hn : n < 256) (hx : a.eval x = .int .u8 (n : Int)) (hy : a.eval y = .int .u64 4) : (execOp a.eval o).run P w = .ok (.value (.int .u8 ((n / 16 : Nat) : Int))) w := by
  have e : Op.shift .shr .u8 (n : Int) .u64 4 = pure (.int .u8 ((n : Int) / 2 ^ (4 : Int).toNat)) := shift_shr .u8 .u64 (n : Int) 4 (by omega) (by decide)
  have e2 : (n : Int) / 2 ^ (4 : Int).toNat = ((n / 16 : Nat) : Int) := by
    show (n : Int) / 16 = _
    omega
  unfold execOp
  simp only [ho, hx, hy, Sem.run_bind, binOp_shr, e, e2]
  simp [eqGuard]
theorem exec_shl4 (t : TypeId) (x y : Operand) (rt : TypeId) (ho : o.op = .binOp .shl t x y rt) (n : Nat) (hn : n < 256) (hx : a.eval x = .int .i64 (n : Int)) (hy : a.eval y = .int .u64 4) : (execOp a.eval o).run P w = .ok (.value (.int .i64 ((16 * n : Nat) : Int))) w := by
  have e : Op.shift .shl .i64 (n : Int) .u64 4 = pure (.int .i64 (IntKind.i64.wrap ((n : Int) * 2 ^ (4 : Int).toNat))) := shift_shl .i64 .u64 (n : Int) 4 (by omega) (by decide)
  have e2 : IntKind.i64.wrap ((n : Int) * 2 ^ (4 : Int).toNat) = ((16 * n : Nat) : Int) := wrap_i64 _ _ (by show (n : Int) * 16 = _; omega) (by omega) (by omega)
  unfold execOp
  simp only [ho, hx, hy, Sem.run_bind, binOp_shl, e, e2]
  simp [eqGuard]
theorem exec_or4 (t : TypeId) (x y : Operand) (rt : TypeId) (ho : o.op = .binOp .or t x y rt) (n m : Nat) (hn : n < 256) (hm : m < 16) (hx : a.eval x = .int .i64 ((16 * n : Nat) : Int)) (hy : a.eval y = .int .i64 (m : Int)) : (execOp a.eval o).run P w = .ok (.value (.int .i64 ((16 * n + m : Nat) : Int))) w := by
  have e : Op.intBits BinOp.or IntKind.i64 ((16 * n : Nat) : Int) (m : Int) = pure (.int .i64 (bits .or .i64 ((16 * n : Nat) : Int) (m : Int))) := rfl
  have h : bits .or .i64 ((16 * n : Nat) : Int) (m : Int) = ((16 * n + m : Nat) : Int) := by
    rw [i64_or_nat _ _ (by omega) (by omega)]
    have := Nat.two_pow_add_eq_or_of_lt (i := 4) (b := m) (by omega) n
    rw [show 16 * n = 2 ^ 4 * n by omega, this]
  unfold execOp
  simp only [ho, hx, hy, Sem.run_bind]
  simp only [eqGuard, binOp]
  simp only [e, h]
  simp
theorem exec_c8 (t t' : TypeId) (x : Operand) (ho : o.op = .convert t t' x) (n : Nat) (hn : n < 256) (hx : a.eval x = .int .i64 (n : Int)) (ht : P.underlying t = some (.int .i64)) (ht' : P.underlying t' = some (.int .u8)) : (execOp a.eval o).run P w = .ok (.value (.int .u8 (n : Int))) w := by
  have hw : IntKind.u8.wrap (n : Int) = (n : Int) := by simp [IntKind.wrap_u8]; omega
  have e : (convert t t' (.int .i64 (n : Int))).run P w = .ok (.int .u8 (n : Int)) w := by
    simp [convert, run_underlying ht, run_underlying ht', Conv.intToInt, hw]
  unfold execOp
  simp only [ho, hx, e, Sem.run_bind, Sem.run_pure, Result.andThen_ok]
theorem exec_and15 (t : TypeId) (x y : Operand) (rt : TypeId) (ho : o.op = .binOp .and t x y rt) (n : Nat) (hn : n < 256) (hx : a.eval x = .int .u8 (n : Int)) (hy : a.eval y = .int .u8 15) : (execOp a.eval o).run P w = .ok (.value (.int .u8 ((n % 16 : Nat) : Int))) w := by
  have h := and15 n hn
  have e : Op.intBits BinOp.and IntKind.u8 (n : Int) 15 = pure (.int .u8 (bits .and .u8 (n : Int) 15)) := rfl
  unfold execOp
  simp only [ho, hx, hy, Sem.run_bind]
  simp only [eqGuard, binOp]
  simp only [e, h]
  simp
end
theorem hex_step (k : Nat) (f : Nat → Nat) (i : Nat) (_hi : i < 2 * k + 2) : cat (2 * k) (hexF f) (fun j => if j = 0 then dg (f k / 16) else dg (f k % 16)) i = hexF f i := by
  unfold cat
  by_cases h : i < 2 * k
  · rw [if_pos h]
  · rw [if_neg h]
    unfold hexF
    by_cases h0 : i = 2 * k
    · subst h0
      rw [if_pos (by omega), show 2 * k / 2 = k by omega]
      show (if 2 * k - 2 * k = 0 then _ else _) = _
      rw [if_pos (by omega)]
    · obtain rfl : i = 2 * k + 1 := by omega
      rw [if_neg (by omega), show (2 * k + 1) / 2 = k by omega]
      show (if 2 * k + 1 - 2 * k = 0 then _ else _) = _
      rw [if_neg (by omega)]
theorem two_reads (w : World) (x y : Nat) : Reads (w.alloc (.cells #[.int .u8 (x : Int), .int .u8 (y : Int)] 5)) (w.heap.size + 1) (some ⟨w.heap.size, 0, none⟩) 2 (fun j => if j = 0 then x else y) := fun _ =>
  ⟨_, rfl, Nat.lt_succ_self _, fun i hi => by
    rw [add_zero_off, (Blk.fresh w 5 _).cell]
    match i, hi with
    | 0, _ => rfl
    | 1, _ => rfl⟩
set_option maxRecDepth 100000 in
set_option maxHeartbeats 1000000 in
set_option linter.unusedSimpArgs false in
theorem hex_any (A : Option Addr) (L c : Nat) (f : Nat → Nat) (w : World) (hL : L ≤ 1000) (hf : ∀ i, i < L → f i < 256) (hR : Reads w w.heap.size A L f) :
    Calls Try.prog 7 #[.slice A L c] w fun e w' => e = .returned (.string (strF (2 * L) (hexF f))) ∧ Below w.heap.size w w' := by
  have HR := hid hR
  have Hf := hid hf
  obtain ⟨w2, hmk, hom, hB2⟩ := make_own w (2 * L) (by omega)
  have e2 : ((2 * L : Nat) : Int) = 2 * (L : Int) := by omega
  rw [e2] at hmk
  clear hR hf
  go_enter Try.func7, Try.ntmps7
  go_wp2
  have ho2 := hom (hexF f)
  clear hmk hom
  go_loopw [3, 5, 12] (fun v _ y wr => ∃ k : Nat, k ≤ L ∧ y = .int .i64 (k : Int) ∧ Own wr w.heap.size 5 1 v (2 * k) (hexF f) ∧ Below w.heap.size w wr) (fun _ _ y _ => L - (intOf y).toNat)
  case atStart => exact ⟨0, by omega, rfl, ho2, hB2⟩
  case round =>
    clear ho2 hB2
    obtain ⟨k, hk, rfl, hov, hBr⟩ := hrel
    obtain ⟨A', c', rfl, hc', -⟩ := hov.slice'
    have Hov := hid hov
    have HBr := hid hBr
    clear hov hBr
    by_cases hlt : k < L
    · obtain ⟨ad, rfl, had, hcs⟩ := HR.out (by omega)
      have hcx : wr.cell? (ad.add k) = some (.int .u8 ((f k : Nat) : Int)) := (HBr.out.cell (p := ad.add k) (by rw [add_block]; exact had)).trans (hcs _ hlt)
      have hx := Hf.out k hlt
      have HS := hid (hex_step k f)
      generalize f k = x at *
      clear hcs
      go_wp2_with (first
        | (with_reducible refine wpl_sl1 rfl 22 _ _ rfl ad L c rfl .i64 _ rfl k rfl 5 Try.underlying22 hlt i8q ?_)
        | (with_reducible refine wpl_ld rfl 5 _ rfl _ rfl .u8 Try.underlying5 _ hcx ?_))
      have hd1 := digs_at (x / 16) (by omega)
      have hd2 := digs_at (x % 16) (by omega)
      unfold digs at hd1 hd2
      have HovA : Hid (∀ cs, Own (wr.drew.alloc (.cells cs 5)) w.heap.size 5 1 (.slice A' (2 * k) c') (2 * k) (hexF f)) := hid (fun cs => Own.alloc (show Own wr.drew w.heap.size 5 1 (.slice A' (2 * k) c') (2 * k) (hexF f) from Hov.out) _)
      refine wp_region_held_drew (S := fun W => Below w.heap.size w W) (by kernel_rfl) HBr.out.drew (fun hS0 => ?_)
      refine wpAnyH_take (i := 0) (v := .slice A' (2 * k) c') rfl (by kernel_rfl) (by kernel_rfl) (by kernel_rfl) (fun _ _ _ h => h) (Or.inl ⟨rfl, fun _ _ => exec_move _ rfl _ rfl⟩) hS0 ?_
      (try simp only [Act.put, List.getElem_toArray, List.getElem_cons_zero, List.getElem_cons_succ, List.setIfInBounds_toArray, List.set_cons_zero, List.set_cons_succ])
      refine wpAnyH_take (i := 1) (v := .int .u8 (x : Int)) rfl (by kernel_rfl) (by kernel_rfl) (by kernel_rfl) (fun _ _ _ h => h) (Or.inl ⟨rfl, fun _ _ => exec_move _ rfl _ rfl⟩) hS0 ?_
      (try simp only [Act.put, List.getElem_toArray, List.getElem_cons_zero, List.getElem_cons_succ, List.setIfInBounds_toArray, List.set_cons_zero, List.set_cons_succ])
      refine wpAnyH_take (i := 2) (v := .int .u8 ((x / 16 : Nat) : Int)) rfl (by kernel_rfl) (by kernel_rfl) (by kernel_rfl) (fun _ _ _ h => h) (Or.inl ⟨rfl, fun _ _ => exec_shr4 _ _ _ _ rfl x hx rfl rfl⟩) hS0 ?_
      (try simp only [Act.put, List.getElem_toArray, List.getElem_cons_zero, List.getElem_cons_succ, List.setIfInBounds_toArray, List.set_cons_zero, List.set_cons_succ])
      refine wpAnyH_take (i := 3) (v := .int .u8 ((dg (x / 16) : Nat) : Int)) rfl (by kernel_rfl) (by kernel_rfl) (by kernel_rfl) (fun _ _ _ h => h) (Or.inl ⟨rfl, fun _ _ => exec_str 9 _ _ rfl ⟨#[48, 49, 50, 51, 52, 53, 54, 55, 56, 57, 65, 66, 67, 68, 69, 70]⟩ rfl .u8 _ rfl (x / 16) rfl Try.underlying9 _ hd1⟩) hS0 ?_
      (try simp only [Act.put, List.getElem_toArray, List.getElem_cons_zero, List.getElem_cons_succ, List.setIfInBounds_toArray, List.set_cons_zero, List.set_cons_succ])
      refine wpAnyH_take (i := 4) (v := .int .u8 (x : Int)) rfl (by kernel_rfl) (by kernel_rfl) (by kernel_rfl) (fun _ _ _ h => h) (Or.inl ⟨rfl, fun _ _ => exec_move _ rfl _ rfl⟩) hS0 ?_
      (try simp only [Act.put, List.getElem_toArray, List.getElem_cons_zero, List.getElem_cons_succ, List.setIfInBounds_toArray, List.set_cons_zero, List.set_cons_succ])
      refine wpAnyH_take (i := 5) (v := .int .u8 ((x % 16 : Nat) : Int)) rfl (by kernel_rfl) (by kernel_rfl) (by kernel_rfl) (fun _ _ _ h => h) (Or.inl ⟨rfl, fun _ _ => exec_and15 _ _ _ _ rfl x hx rfl rfl⟩) hS0 ?_
      (try simp only [Act.put, List.getElem_toArray, List.getElem_cons_zero, List.getElem_cons_succ, List.setIfInBounds_toArray, List.set_cons_zero, List.set_cons_succ])
      refine wpAnyH_take (i := 6) (v := .int .u8 ((dg (x % 16) : Nat) : Int)) rfl (by kernel_rfl) (by kernel_rfl) (by kernel_rfl) (fun _ _ _ h => h) (Or.inl ⟨rfl, fun _ _ => exec_str 9 _ _ rfl ⟨#[48, 49, 50, 51, 52, 53, 54, 55, 56, 57, 65, 66, 67, 68, 69, 70]⟩ rfl .u8 _ rfl (x % 16) rfl Try.underlying9 _ hd2⟩) hS0 ?_
      (try simp only [Act.put, List.getElem_toArray, List.getElem_cons_zero, List.getElem_cons_succ, List.setIfInBounds_toArray, List.set_cons_zero, List.set_cons_succ])
      refine wpAnyH_ready (rs := [7]) (by kernel_rfl) (by simp) (AllReadyH.cons rfl (fun K hK => ?_) AllReadyH.nil)
      (try simp only [Act.put, List.getElem_toArray, List.getElem_cons_zero, List.getElem_cons_succ, List.setIfInBounds_toArray, List.set_cons_zero, List.set_cons_succ])
      refine Eq.mpr (if_pos (by rfl)) ?_
      refine wp_bs2 22 _ _ rfl (.int .u8 ((dg (x / 16) : Nat) : Int)) (.int .u8 ((dg (x % 16) : Nat) : Int)) rfl rfl _ _ (bs2 _ _ _) ?_
      refine hK.out _ _ (hS0.alloc hS0.size _) (fun hS1 => ?_)
      (try simp only [Act.put, List.getElem_toArray, List.getElem_cons_zero, List.getElem_cons_succ, List.setIfInBounds_toArray, List.set_cons_zero, List.set_cons_succ])
      clear hK K
      refine wpAnyH_ready (rs := [8]) (by kernel_rfl) (by simp) (AllReadyH.cons rfl (fun K hK => ?_) AllReadyH.nil)
      (try simp only [Act.put, List.getElem_toArray, List.getElem_cons_zero, List.getElem_cons_succ, List.setIfInBounds_toArray, List.set_cons_zero, List.set_cons_succ])
      refine Eq.mpr (if_pos (by rfl)) ?_
      refine wp_app_gen _ _ 22 rfl w.heap.size 5 (.int .u8 0) Try.underlying22 info8 rfl _ (2 * k) (hexF f) rfl (HovA.out _) (some ⟨wr.drew.heap.size, 0, none⟩) 2 2 _ _ (two_reads wr.drew _ _) (fun h => by cases h) rfl (by omega) (by have := HBr.out.size; simp; omega) ?_
      intro v3 w3 ho3 hB3
      refine hK.out _ _ (hS1.trans hB3) (fun hS2 => ?_)
      (try simp only [Act.put, List.getElem_toArray, List.getElem_cons_zero, List.getElem_cons_succ, List.setIfInBounds_toArray, List.set_cons_zero, List.set_cons_succ])
      clear hK K
      refine wpAnyH_take (i := 9) (v := v3) rfl (by kernel_rfl) (by kernel_rfl) (by kernel_rfl) (fun _ _ _ h => h) (Or.inl ⟨rfl, fun _ _ => exec_assign _ rfl _ rfl⟩) hS2 ?_
      (try simp only [Act.put, List.getElem_toArray, List.getElem_cons_zero, List.getElem_cons_succ, List.setIfInBounds_toArray, List.set_cons_zero, List.set_cons_succ])
      refine wpAnyH_done (by kernel_rfl) ?_ _
      go_wp2_with fail
      go_round
      case rel => exact ⟨k + 1, by omega, val_int (by omega), ho3.ext (fun i hi => HS.out i (by omega)), hS2⟩
      case measure => simp [intOf]; omega
    · obtain rfl : k = L := by omega
      have hcv := conv_own Hov.out
      go_wp2
      go_ret
      exact ⟨rfl, HBr.out⟩
theorem unhex_bad (n : Nat) (f : Nat → Nat) (i : Nat) (w : World) (hf : ∀ i, f i < 256) (hn : n ≤ 1000000) (h : BadD 16 n f i) :
    Calls Try.prog 6 #[.string (strF n f)] w fun e w' => e = .returned (.tuple #[.slice none 0 0, .iface 45 (.pointer (some ⟨w.heap.size, 0, none⟩))]) ∧ Blk w' w.heap.size 47 #[.int .i64 (i : Int), .iface 41 (.int .i64 16)] ∧ Below w.heap.size w w' := by
  have HR := hid (rej_bad n f 16 0 i w (.inr rfl) hf hn (by omega) h)
  go_enter Try.func6, Try.ntmps6
  go_wp2_with (go_at_call 15; refine HR.out.mono ?_; rintro e w1 ⟨rfl, hb, hB⟩)
  go_ret2
  rw [Nat.zero_add] at hb
  exact ⟨rfl, hb, hB⟩
theorem unhex_odd (n : Nat) (f : Nat → Nat) (w : World) (hf : ∀ i, f i < 256) (hn : n ≤ 1000000) (h : AllD 16 n f) (ho : n % 2 = 1) :
    Calls Try.prog 6 #[.string (strF n f)] w fun e w' => e = .returned (.tuple #[.slice none 0 0, .iface 41 (.int .i64 2)]) ∧ w' = w := by
  have HR := hid (rej_ok n f 16 0 w (.inr rfl) hf hn h)
  have hsz := strF_size n f
  have hoI : (n : Int) % 2 = 1 := by omega
  go_enter Try.func6, Try.ntmps6
  go_wp2_with (go_at_call 15; refine HR.out.mono ?_; rintro e w1 ⟨rfl, rfl⟩)
  go_ret2
  exact ⟨rfl, rfl⟩
set_option maxRecDepth 100000 in
set_option maxHeartbeats 1000000 in
theorem unhex_ok (n m : Nat) (f : Nat → Nat) (w : World) (hf : ∀ i, f i < 256) (hn : n ≤ 1000000) (h : AllD 16 n f) (ho : n = 2 * m) :
    Calls Try.prog 6 #[.string (strF n f)] w fun e w' => e = .returned (.tuple #[.slice (some ⟨w.heap.size, 0, none⟩) m m, .nilIface]) ∧ Blk w' w.heap.size 5 (row m (b8 (unhF f))) ∧ Below w.heap.size w w' := by
  have HR := hid (rej_ok n f 16 0 w (.inr rfl) hf hn h)
  have hsz := strF_size n f
  have hoI : (n : Int) % 2 = 0 := by omega
  have HA := hid h
  have Ho := hid ho
  clear h ho
  go_enter Try.func6, Try.ntmps6
  go_wp2_with (first
    | (go_at_call 15; refine HR.out.mono ?_; rintro e w1 ⟨rfl, rfl⟩)
    | (with_reducible refine wpl_make rfl 22 5 _ _ rfl Try.underlying22 info8 _ _ _ _ rfl rfl m (by have := Ho.out; omega) (by have := Ho.out; omega) (by have := Ho.out; omega) ?_))
  have hb0 := Blk.fresh w1 5 (row m (b8 fun _ => 0))
  have hB0 : Below w1.heap.size w1 (w1.alloc (.cells (row m (b8 fun _ => 0)) 5)) := (Below.refl _ _).alloc (Nat.le_refl _) _
  go_loopw [6, 23] (fun _ y wr => ∃ (k : Nat) (g : Nat → Nat), k ≤ m ∧ y = .int .i64 (k : Int) ∧ Hid (∀ j, j < k → g j = unhF f j) ∧ Blk wr w1.heap.size 5 (row m (b8 g)) ∧ Below w1.heap.size w1 wr) (fun _ y _ => m - (intOf y).toNat)
  case atStart => exact ⟨0, fun _ => 0, by omega, rfl, hid (fun j hj => by omega), hb0, hB0⟩
  case round =>
    clear hb0 hB0
    obtain ⟨k, g, hk, rfl, HG, hb, hB⟩ := hrel
    by_cases hlt : k < m
    · have hl1 : 2 * k < n := by have := Ho.out; omega
      have hl2 : 2 * k + 1 < n := by have := Ho.out; omega
      have hd1 := HA.out _ hl1
      have hd2 := HA.out _ hl2
      have hu : unhF f k = 16 * dv (f (2 * k)) + dv (f (2 * k + 1)) := rfl
      have HU := hid hu
      clear hu
      go_wp2_with fail
      refine wp_region_still_tail 17 (by kernel_rfl) (by kernel_rfl) ?_
      simp only [List.take_succ_cons, List.take_zero, List.drop_succ_cons, List.drop_zero]
      change wpStill _ _ wr.drew (fun a' => wpList _ _ _ _ a' wr.drew) _ _
      have hb1 : Blk wr.drew w1.heap.size 5 (row m (b8 g)) := hb
      have hB1 := hB.drew
      clear hb hB
      generalize wr.drew = w2 at *
      repeat (first
        | (with_reducible refine wps_val rfl _ (exec_arith .mul (.inr (.inr rfl)) _ _ _ _ rfl 2 (k : Int) rfl rfl (2 * (k : Int)) (by rfl) (by omega) (by omega)) ?_)
        | (with_reducible refine wps_val rfl _ (exec_arith .add (.inl rfl) _ _ _ _ rfl (2 * (k : Int)) 1 rfl rfl (2 * (k : Int) + 1) (by rfl) (by omega) (by omega)) ?_)
        | (with_reducible refine wps_str rfl 9 _ _ rfl (strF n f) rfl .i64 _ rfl (2 * k) (by omega) Try.underlying9 _ (byteAt_strF hl1 (hf _)) ?_)
        | (with_reducible refine wps_str rfl 9 _ _ rfl (strF n f) rfl .i64 _ rfl (2 * k + 1) (by omega) Try.underlying9 _ (byteAt_strF hl2 (hf _)) ?_)
        | (with_reducible refine wps_val rfl _ (exec_shl4 _ _ _ _ rfl (dv (f (2 * k))) (by omega) rfl rfl) ?_)
        | (with_reducible refine wps_val rfl _ (exec_or4 _ _ _ _ rfl (dv (f (2 * k))) (dv (f (2 * k + 1))) (by omega) (by omega) rfl rfl) ?_)
        | (with_reducible refine wps_val rfl _ (exec_c8 _ _ _ rfl (16 * dv (f (2 * k)) + dv (f (2 * k + 1))) (by omega) rfl Try.underlying3 Try.underlying5) ?_)
        | (with_reducible refine wps_sl rfl 22 _ _ rfl _ m m rfl .i64 _ rfl k rfl 5 Try.underlying22 hlt 1 i8q ?_; rw [Nat.mul_one, add_zero_off])
        | still_step
        | still_call (worth_dig (f (2 * k)) hd1 (hf _) _)
        | still_call (worth_dig (f (2 * k + 1)) hd2 (hf _) _))
      refine wpStill_nil ?_
      go_wp2_with (with_reducible refine wpl_st rfl 5 _ _ rfl _ rfl .u8 _ rfl i8q _ (hb1.val k hlt) (hb1.free k) ?_)
      go_round
      case rel =>
        refine ⟨k + 1, _, by omega, val_int (by omega), hid (fun j hj => ?_), hb1.put k _, hB1.setCell (by simp) _⟩
        by_cases hjk : j = k
        · subst hjk; rw [upd_same, HU.out]
        · rw [upd_other _ _ _ _ hjk]; exact HG.out j (by omega)
      case measure => simp [intOf]; omega
    · obtain rfl : k = m := by omega
      have e := row_b8_ext HG.out
      rw [e] at hb
      clear e
      go_wp2_with fail
      go_ret2
      exact ⟨rfl, hb, hB⟩
end Go.Proofs.Ytomeeebiijmnmaa.Dg
