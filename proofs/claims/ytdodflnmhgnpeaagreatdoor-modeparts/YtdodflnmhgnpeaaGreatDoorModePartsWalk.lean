/-
  ModeParts returns true: its walk.
-/
import Derived.Test.YtdodflnmhgnpeaaGreatDoorAwake06
namespace Go.Proofs.YtdodflnmhgnpeaaGreatDoor.Md.Parts
open Mem Bk As Go.ChangeShapes Go.WideShapes Go.ChangeAt Go.RowKit
theorem kind_of (n : Nat) : ∃ k : Nat, (k = 1 ∨ k = 2) ∧ 1 + (n : Int) % 2 = (k : Int) := ⟨1 + n % 2, by omega, by omega⟩
theorem cutX (k g : Nat) (w : World) : (Instr.sliceAt 37 (.pointer (some ⟨g, 0, none⟩)) none (some (.int .i64 (sz k : Int))) none).run Tryz.prog w = .ok (.slice (some ⟨g, 0, none⟩) (sz k) 16) w := by
  unfold sz
  split <;> kernel_rfl
theorem wrap64_small {x : Int} (h1 : -9223372036854775808 ≤ x) (h2 : x < 9223372036854775808) : wrap64 x = x := by unfold wrap64; omega
theorem cut_int (L2 n : Nat) (h : L2 ≤ 1000) : wrap64 (wrap64 ((L2 : Int) / (n : Int)) * (n : Int)) = ((L2 / n * n : Nat) : Int) := by
  have h1 : L2 / n ≤ L2 := Nat.div_le_self _ _
  have h2 : L2 / n * n ≤ L2 := Nat.div_mul_le_self _ _
  have e1 : (L2 : Int) / (n : Int) = ((L2 / n : Nat) : Int) := (Int.natCast_ediv L2 n).symm
  rw [e1]
  clear e1
  generalize L2 / n = q at *
  have e2 : wrap64 (q : Int) = (q : Int) := wrap64_small (by omega) (by omega)
  rw [e2, ← Int.natCast_mul]
  generalize q * n = r at *
  exact wrap64_small (by omega) (by omega)
theorem sz_le (k : Nat) : sz k ≤ 16 := by rcases sz_or k with h | h <;> omega
theorem suffP {F G : World → Value → Prop} {R : Prop} (h1 : (∀ W v, F W v → G W v) → R) (h2 : ∀ W v, F W v → G W v) : R := h1 h2
theorem mod_le (u N : Nat) : u % (N + 1) ≤ N := Nat.le_of_lt_succ (Nat.mod_lt u (Nat.succ_pos N))
section
variable {P : Program} {o : Oper} {a : Act} {w : World}
theorem exec_quoI (t : TypeId) (x y : Operand) (rt : TypeId) (ho : o.op = .binOp .quo t x y rt) (p q r : Int) (hx : a.eval x = .int .i64 p) (hy : a.eval y = .int .i64 q) (h : 0 ≤ p ∧ 0 < q ∧ p / q = r ∧ 0 ≤ r ∧ r ≤ 100000) : (execOp a.eval o).run P w = .ok (.value (.int .i64 r)) w := by
  obtain ⟨hp, hq, hr, hr0, hr1⟩ := h
  have hm : p.tdiv q = r := by rw [Int.tdiv_eq_ediv_of_nonneg hp, hr]
  have hw : IntKind.i64.wrap r = r := wrap_i64 r r rfl (by clear hm hr; omega) (by clear hm hr; omega)
  have hq0 : ¬ q = 0 := by clear hm hr; omega
  unfold execOp
  simp [ho, hx, hy, eqGuard, binOp, Op.intDiv, hm, hq0, hw]
theorem exec_remI (t : TypeId) (x y : Operand) (rt : TypeId) (ho : o.op = .binOp .rem t x y rt) (p q r : Int) (hx : a.eval x = .int .i64 p) (hy : a.eval y = .int .i64 q) (h : 0 ≤ p ∧ 0 < q ∧ p % q = r) : (execOp a.eval o).run P w = .ok (.value (.int .i64 r)) w := by
  obtain ⟨hp, hq, hr⟩ := h
  have hm : p.tmod q = r := by rw [Int.tmod_eq_emod_of_nonneg hp, hr]
  have hq0 : ¬ q = 0 := by clear hm hr; omega
  unfold execOp
  simp [ho, hx, hy, eqGuard, binOp, Op.intDiv, hm, hq0]
theorem exec_mulI (t : TypeId) (x y : Operand) (rt : TypeId) (ho : o.op = .binOp .mul t x y rt) (p q r : Int) (hx : a.eval x = .int .i64 p) (hy : a.eval y = .int .i64 q) (h : p * q = r ∧ 0 ≤ r ∧ r ≤ 100000) : (execOp a.eval o).run P w = .ok (.value (.int .i64 r)) w :=
  exec_arith .mul (.inr (.inr rfl)) t x y rt ho p q hx hy r h.1 (by have := h.2; omega) (by have := h.2; omega)
end
theorem quo_f {a n r : Nat} (hn : 0 < n) (h : r = a / n) (hr : r ≤ 100000) : (0 : Int) ≤ (a : Int) ∧ (0 : Int) < (n : Int) ∧ (a : Int) / (n : Int) = (r : Int) ∧ (0 : Int) ≤ (r : Int) ∧ (r : Int) ≤ 100000 :=
  ⟨Int.natCast_nonneg _, Int.natCast_pos.2 hn, by rw [h]; exact (Int.natCast_ediv a n).symm, Int.natCast_nonneg _, Int.ofNat_le.2 hr⟩
theorem mul_f {a n r : Nat} (h : r = a * n) (hr : r ≤ 100000) : (a : Int) * (n : Int) = (r : Int) ∧ (0 : Int) ≤ (r : Int) ∧ (r : Int) ≤ 100000 :=
  ⟨by rw [h]; exact (Int.natCast_mul a n).symm, Int.natCast_nonneg _, Int.ofNat_le.2 hr⟩
theorem rem_f {u N K : Nat} (h : K = u % (N + 1)) : (0 : Int) ≤ (u : Int) ∧ (0 : Int) < (N : Int) + 1 ∧ (u : Int) % ((N : Int) + 1) = (K : Int) :=
  ⟨Int.natCast_nonneg _, Int.natCast_pos.2 (Nat.succ_pos N), by rw [h]; exact (Int.natCast_emod u (N + 1)).symm⟩
set_option maxRecDepth 100000 in
set_option maxHeartbeats 1000000 in
theorem parts_true (n : Nat) (A : Option Addr) (L c : Nat) (key x : Nat → Nat) (A2 : Option Addr) (L2 c2 : Nat) (t : Nat → Nat) (u : Nat) (w : World) (hg : Laid w) (_hn : n < 256) (hR : Reads w w.heap.size A L key) (hk : ∀ i, i < L → key i < 256) (hx : ∀ i, i < 16 → x i < 256) (hR2 : Reads w w.heap.size A2 L2 t) (ht : ∀ i, i < L2 → t i < 256) (hA2 : A2 = none → L2 = 0 ∧ c2 = 0) (hC2 : L2 ≤ c2) (hu : u < 256) :
    Calls Tryz.prog 7 #[.int .u8 (n : Int), .slice A L c, .agg (row 16 (b8 x)), .slice A2 L2 c2, .int .u8 (u : Int)] w fun e w' => e = .returned (.bool true) ∧ Below w.heap.size w w' := by
  obtain ⟨k, hkk, hkI⟩ := kind_of n
  have hk3 : k ≠ 3 := by omega
  have hkk3 : k = 1 ∨ k = 2 ∨ k = 3 := by omega
  have hB0 : Below w.heap.size w (w.alloc (.cells (row 16 (b8 x)) 37)) := (Below.refl _ _).alloc (Nat.le_refl _) _
  have HX := hid (Blk.fresh w 37 (row 16 (b8 x)))
  have Hg := hid (hg.below hB0)
  have HR := hid ((hR.below hB0).more hB0.size)
  have HR2 := hid ((hR2.below hB0).more hB0.size)
  have Hk := hid hk
  have Ht := hid ht
  have HA2 := hid hA2
  have Hx := hid hx
  have HB0 := hid hB0
  clear hg hR hR2 hk ht hA2 hx hB0
  by_cases hL : L ≤ 100 ∧ L2 ≤ 200
  · obtain ⟨hL1, hL2⟩ := hL
    have hL1I : ¬ (L : Int) > 100 := by omega
    have hL2I : ¬ (L2 : Int) > 200 := by omega
    go_enter Tryz.func7, Tryz.ntmps7
    go_wp2_with fail
    generalize w.alloc (.cells (row 16 (b8 x)) 37) = w0 at *
    refine (awake6_any _ Hg.out).mono ?_
    rintro e w1 ⟨rfl, hB1⟩
    have HR1 := hid ((HR.out.below hB1).more hB1.size)
    have HR21 := hid ((HR2.out.below hB1).more hB1.size)
    have HX1 := hid (HX.out.below hB1 HX.out.lt)
    have HB1 := hid (HB0.out.trans (hB1.mono HB0.out.size))
    clear HR HR2 HX HB0 hB1 hkI
    go_wp2_with fail
    refine (right6_any _ k rfl hkk3 A L c key _ (by omega) HR1.out).mono ?_
    rintro e w3 ⟨v, rfl, ho, hB3⟩
    obtain ⟨A3, c3, rfl, hc3, hA3, -⟩ := ho.slice'
    have HX3 := hid (HX1.out.below hB3 HX1.out.lt)
    have HR23 := hid ((HR21.out.below hB3).more hB3.size)
    have HB3 := hid (HB1.out.trans (hB3.mono HB1.out.size))
    have Ho := hid ho
    clear HR1 HR21 HX1 HB1 hB3 ho
    have hfit := rn_fits hkk3
    have hrl := (rn_le k).1
    go_wp2_with fail
    refine (cipher6_any k A3 (rn k) c3 (rk L key) none 0 0 (fun _ => 0) _ (by omega) hA3 (fun i _ => rk_lt Hk.out i) Ho.out.reads hfit (by omega) (fun _ => ⟨rfl, rfl⟩) (fun i hi => by omega) (fun h => absurd h (by omega))).mono ?_
    rintro e w4 ⟨p, gc, base, rfl, -, -, -, -, hci, -, -, hB4⟩
    have HX4 := hid (HX3.out.below hB4 HX3.out.lt)
    have HR4 := hid ((HR23.out.below hB4).more hB4.size)
    have Hci4 := hid hci
    have HB4 := hid (HB3.out.trans (hB4.mono HB3.out.size))
    clear HX3 HB3 HR23 hB4 hci Ho hA3 hc3
    go_wp2_with fail
    refine (size_any _ p k gc _ _ _ Hci4.out).mono ?_
    rintro e w' ⟨rfl, rfl⟩
    have hsl := sz_le k
    have hsp := sz_pos k
    have hcut := cutX k
    obtain ⟨N, hN⟩ : ∃ N, N = L2 / sz k := ⟨_, rfl⟩
    obtain ⟨M, hM⟩ : ∃ M, M = N * sz k := ⟨_, rfl⟩
    have hML : M ≤ L2 := by rw [hM, hN]; exact Nat.div_mul_le_self _ _
    have hMc := Nat.le_trans hML hC2
    have hM0 : (0 : Int) ≤ (M : Int) ∧ (M : Int) ≤ (c2 : Int) := ⟨Int.natCast_nonneg _, Int.ofNat_le.2 hMc⟩
    have hNM : N ≤ M := by rw [hM]; exact Nat.le_mul_of_pos_right _ hsp
    have hN1 : N ≤ 1000 := Nat.le_trans hNM (Nat.le_trans hML (Nat.le_trans hL2 (by decide)))
    have HF1 := hid (quo_f (a := L2) hsp hN (Nat.le_trans hN1 (by decide)))
    have HF2 := hid (mul_f hM (Nat.le_trans hML (Nat.le_trans hL2 (by decide))))
    have HF3 := hid (quo_f (a := M) hsp (show N = M / sz k by rw [hM, Nat.mul_div_cancel _ hsp]) (Nat.le_trans hN1 (by decide)))
    have HM := hid hM
    clear hN hM
    obtain ⟨K, hK0⟩ : ∃ K, K = u % (N + 1) := ⟨_, rfl⟩
    obtain ⟨P, hP⟩ : ∃ P, P = K * sz k := ⟨_, rfl⟩
    have hKN : K ≤ N := hK0 ▸ mod_le u N
    have hPM : P ≤ M := by rw [HM.out, hP]; exact Nat.mul_le_mul_right _ hKN
    have HF4 := hid (rem_f hK0)
    have HF5 := hid (mul_f hP (Nat.le_trans hPM (Nat.le_trans hML (Nat.le_trans hL2 (by decide)))))
    have HP := hid hP
    clear hK0 hP
    go_wp2_with (first
      | (with_reducible refine wpl_val rfl _ (exec_quoI _ _ _ _ rfl _ _ _ rfl rfl HF1.out) ?_)
      | (with_reducible refine wpl_val rfl _ (exec_mulI _ _ _ _ rfl _ _ _ rfl rfl HF2.out) ?_)
      | (with_reducible refine wpl_val rfl _ (exec_quoI _ _ _ _ rfl _ _ _ rfl rfl HF3.out) ?_)
      | (with_reducible refine wpl_val rfl _ (exec_remI _ _ _ _ rfl _ _ _ rfl rfl HF4.out) ?_)
      | (with_reducible refine wpl_val rfl _ (exec_mulI _ _ _ _ rfl _ _ _ rfl rfl HF5.out) ?_))
    have hK : Hid (∀ i, i < rn k → rk L key i < 256) := hid fun i _ => rk_lt Hk.out i
    have hMs : M ≤ 100000 := Nat.le_trans hML (Nat.le_trans hL2 (by decide))
    have htM : Hid (∀ i, i < M → t i < 256) := hid fun i hi => Ht.out i (Nat.lt_of_lt_of_le hi hML)
    have HA : Hid (A2 = none → M = 0) := hid fun h => by have := (HA2.out h).1; omega
    have HRM := hid (HR4.out.less hML)
    have hxs : Hid (∀ i, i < sz k → x i < 256) := hid fun i hi => Hx.out i (Nat.lt_of_lt_of_le hi hsl)
    clear HR4 HA2 Ht hM0 HF1 HF2 HF3 HF4 HF5 Hx
    refine (chained_any w4 p k gc _ (rn k) (rk L key) ⟨w.heap.size, 0, none⟩ 16 x A2 N M c2 false t hk3 Hci4.out HM.out hMs hMc HA.out htM.out HRM.out HX4.out.lt (fun i hi => by rw [add_zero_off]; exact HX4.out.val i (by omega)) hxs.out).mono ?_
    rintro e w5 ⟨v5, rfl, ho5, hB5⟩
    obtain ⟨A5, c5, rfl, hc5, -, -⟩ := ho5.slice'
    have Ho5 := hid ho5
    have HR5 := hid ((HRM.out.below hB5).more hB5.size)
    have HX5 := hid (HX4.out.below hB5 HX4.out.lt)
    have Hci5 := hid (Hci4.out.keep hB5)
    have HB5 := hid (HB4.out.trans (hB5.mono HB4.out.size))
    clear ho5 hB5 HRM HX4 Hci4 HB4
    have hPc : P ≤ c2 := Nat.le_trans hPM hMc
    have hP0 : (0 : Int) ≤ (P : Int) ∧ (P : Int) ≤ (c2 : Int) := ⟨Int.natCast_nonneg _, Int.ofNat_le.2 hPc⟩
    go_wp2_with fail
    have HCH : ∀ (W : World), Below w5.heap.size w5 W → Calls Tryz.prog 23 #[.pointer (some ⟨gc, 0, none⟩), .slice (some ⟨w.heap.size, 0, none⟩) (sz k) 16, .slice A2 P c2, .bool false] W fun e w' => ∃ v, e = .returned (.tuple #[v, .nilIface]) ∧ Mem.Own w' w5.heap.size 5 1 v P (chainF k (rn k) (rk L key) false x t K) ∧ Below w5.heap.size w5 w' := fun W hB => by
      have hXW := HX5.out.below hB HX5.out.lt
      refine (chained_any W p k gc _ (rn k) (rk L key) ⟨w.heap.size, 0, none⟩ 16 x A2 K P c2 false t hk3 (Hci5.out.keep hB) HP.out (Nat.le_trans hPM hMs) hPc (fun h => Nat.le_zero.1 (HA.out h ▸ hPM)) (fun i hi => htM.out i (Nat.lt_of_lt_of_le hi hPM)) (((HR5.out.below hB).more hB.size).less hPM) hXW.lt (fun i hi => by rw [add_zero_off]; exact hXW.val i (Nat.lt_of_lt_of_le hi hsl)) hxs.out).mono ?_
      rintro e w' ⟨v, rfl, ho, hB'⟩
      exact ⟨v, rfl, own_base ho hB.size, hB.trans (hB'.mono hB.size)⟩
    apply suffP (F := fun W v => Below w5.heap.size w5 W ∧ Mem.Own W w5.heap.size 5 1 v P (chainF k (rn k) (rk L key) false x t K))
    case h1 =>
      intro key2
      go_region_with (go_at_call 23; refine (HCH _ (Below.refl w5.heap.size w5).drew).mono ?_; rintro e w6 ⟨v, rfl, ho6, hB6⟩)
      all_goals simp only [Act.put, List.getElem_toArray, List.getElem_cons_zero, List.getElem_cons_succ, List.setIfInBounds_toArray, List.set_cons_zero, List.set_cons_succ]
      all_goals exact key2 w6 v ⟨hB6, ho6⟩
    intro w6 v6 ⟨hB6, ho6⟩
    try dsimp only
    obtain ⟨A6, c6, rfl, hc6, hA6', -⟩ := ho6.slice'
    clear HCH
    have Ho6 := hid ho6
    have HR6 := hid ((HR5.out.below hB6).more hB6.size)
    have HX6 := hid (HX5.out.below hB6 HX5.out.lt)
    have Hci6 := hid (Hci5.out.keep hB6)
    have Ho56 := hid (Ho5.out.below hB6 (Nat.le_refl _))
    have HB6 := hid (HB5.out.trans (hB6.mono HB5.out.size))
    clear ho6 hB6 HR5 HX5 Hci5 HB5 Ho5 hP0
    have hP1 : (0 : Int) ≤ (P : Int) ∧ (P : Int) ≤ (M : Int) := ⟨Int.natCast_nonneg _, Int.ofNat_le.2 hPM⟩
    have HMP : Hid (M - P = (N - K) * sz k) := hid (by rw [HM.out, HP.out, Nat.sub_mul])
    have HNK : Hid (K + (N - K) = N) := hid (Nat.add_sub_cancel' hKN)
    have HC3 : ∀ (ads : Addr) (cs : Nat) (s' : Nat → Nat) (A' : Option Addr) (c' : Nat), ads.block < w6.heap.size → (∀ i, i < sz k → w6.cell? (ads.add i) = some (.int .u8 ((s' i : Nat) : Int))) → (∀ i, i < sz k → s' i < 256) → Eqn (sz k) s' (ah k (rn k) (rk L key) x t K) → Reads w6 w6.heap.size A' (M - P) (fun i => t (P + i)) → (A' = none → M - P = 0) → M - P ≤ c' →
        Calls Tryz.prog 23 #[.pointer (some ⟨gc, 0, none⟩), .slice (some ads) (sz k) cs, .slice A' (M - P) c', .bool false] w6 fun e w' => ∃ v gf, e = .returned (.tuple #[v, .nilIface]) ∧ Mem.Own w' w6.heap.size 5 1 v (M - P) gf ∧ (∀ i, i < M → cat P (chainF k (rn k) (rk L key) false x t K) gf i = chainF k (rn k) (rk L key) false x t N i) ∧ Below w6.heap.size w6 w' := by
      intro ads cs s' A' c' h1 h2 h3 h4 h5 h6 h7
      refine (chained_any w6 p k gc _ (rn k) (rk L key) ads cs s' A' (N - K) (M - P) c' false (fun i => t (P + i)) hk3 Hci6.out HMP.out (Nat.le_trans (Nat.sub_le _ _) hMs) h7 h6 (fun i hi => htM.out _ (by omega)) h5 h1 h2 h3).mono ?_
      rintro e w' ⟨v, rfl, ho, hB⟩
      refine ⟨v, _, rfl, ho, fun i hi => ?_, hB⟩
      have h8 := chain_parts (key := rk L key) (x := t) (s := x) (K := K) (N := N - K) (s' := s') hfit hk3 h4 i (by rw [HNK.out, ← HM.out]; exact hi)
      rw [HNK.out, ← HP.out] at h8
      exact h8
    have hRt := HR6.out.cut (k := P) (cap := c2) hPM hMc
    have hA6 := hA6'
    rcases Nat.eq_zero_or_pos K with hK0 | hK0
    · have HPz : Hid (P = 0) := hid (by rw [HP.out, hK0, Nat.zero_mul])
      have hPI : ¬ (P : Int) > 0 := by rw [HPz.out]; decide
      have hsA : Eqn (sz k) x (ah k (rn k) (rk L key) x t K) := by rw [hK0]; exact Eqn.refl _ _
      clear hK0
      by_cases hcp : c2 = P
      · rw [if_pos hcp] at hRt
        have HMz : Hid (M - P ≤ 0) := hid (by omega)
        go_wp2_with fail
        refine (HC3 ⟨w.heap.size, 0, none⟩ 16 x A2 0 HX6.out.lt (fun i hi => by rw [add_zero_off]; exact HX6.out.val i (Nat.lt_of_lt_of_le hi hsl)) hxs.out hsA hRt (fun h => by have := HA.out h; omega) HMz.out).mono ?_
        rintro e w7 ⟨v7, gf, rfl, ho7, hgf, hB7⟩
        obtain ⟨A7, c7, rfl, hc7, hA7, -⟩ := ho7.slice'
        have Hgf := hid hgf
        have Ho57 := hid (Ho56.out.below hB7 (Nat.le_refl _))
        have HB7 := hid (HB6.out.trans (hB7.mono HB6.out.size))
        have He := hid (Mem.Own.empty w7 w7.heap.size 5 (fun _ => 0) (Nat.le_refl _))
        have hBe := (Below.refl w7.heap.size w7).alloc (Nat.le_refl _) (.cells #[] 5)
        have HR67 := hid ((Ho6.out.reads.below hB7).below (hBe.mono hB7.size))
        have HRg := hid (ho7.reads.below hBe)
        have HA7 := hid hA7
        have HA6 := hid hA6
        clear ho7 hB7 hgf Ho56 HB6 Ho6 HX6 Hci6 HR6 HC3 hRt hA7 hA6
        go_wp2_with (at_builtin; (refine wpg_app_gen ?_ _ _ 22 rfl w7.heap.size 5 (.int .u8 0) Tryz.underlying22 info_u8 rfl _ 0 _ rfl He.out A6 P c6 _ _ HR67.out HA6.out rfl (by omega) (by simp) ?_); (exact rfl))
        intro v8 w8 ho8 hB8
        try rw [Nat.zero_add] at ho8
        have Ho8 := hid (ho8.ext (g := chainF k (rn k) (rk L key) false x t K) (fun i hi => by unfold cat; rw [if_neg (by omega), Nat.sub_zero]))
        have HRg8 := hid (HRg.out.below hB8)
        have hs8 := hB8.size
        clear ho8 He HR67 HRg
        go_wp2_with (at_builtin; (refine wpg_app_gen ?_ _ _ 22 rfl w7.heap.size 5 (.int .u8 0) Tryz.underlying22 info_u8 rfl _ P _ rfl Ho8.out A7 (M - P) c7 _ _ HRg8.out HA7.out rfl (by omega) (by have := hBe.size; omega) ?_); (exact rfl))
        intro v9 w9 ho9 hB9
        have hPD : P + (M - P) = M := by omega
        try rw [hPD] at ho9
        obtain ⟨A9, c9, rfl, hc9, -, -⟩ := ho9.slice'
        have hB79 := hBe.trans (hB8.trans hB9)
        have HRa := hid ((Ho57.out.reads.below hB79).more hB79.size)
        have HR9 := hid ho9.reads
        have HB9 := hid (HB7.out.trans (hB79.mono HB7.out.size))
        have hE : Hid (eqB M (chainF k (rn k) (rk L key) false x t N) (cat P (chainF k (rn k) (rk L key) false x t K) gf) = true) := hid (eqB_true fun i hi => (Hgf.out i hi).symm)
        clear ho9 hB8 hB9 hBe HRg8 Ho8 Ho57 HB7 hB79
        go_wp2_with fail
        refine (same_any A5 A9 M c5 c9 _ _ w9 hMs HRa.out HR9.out).mono ?_
        rintro e w10 ⟨rfl, hB10⟩
        rw [hE.out]
        have HB10 := hid (HB9.out.trans (hB10.mono HB9.out.size))
        clear hB10 HRa HR9 HB9 hE
        go_wp2_with fail
        go_ret
        exact ⟨rfl, HB10.out⟩
      · rw [if_neg hcp] at hRt
        go_wp2_with fail
        refine (HC3 ⟨w.heap.size, 0, none⟩ 16 x (Option.map (fun x => x.add P) A2) (c2 - P) HX6.out.lt (fun i hi => by rw [add_zero_off]; exact HX6.out.val i (Nat.lt_of_lt_of_le hi hsl)) hxs.out hsA hRt (fun h => by cases hA0 : A2 with | none => have := HA.out hA0; omega | some a => rw [hA0] at h; cases h) (by omega)).mono ?_
        rintro e w7 ⟨v7, gf, rfl, ho7, hgf, hB7⟩
        obtain ⟨A7, c7, rfl, hc7, hA7, -⟩ := ho7.slice'
        have Hgf := hid hgf
        have Ho57 := hid (Ho56.out.below hB7 (Nat.le_refl _))
        have HB7 := hid (HB6.out.trans (hB7.mono HB6.out.size))
        have He := hid (Mem.Own.empty w7 w7.heap.size 5 (fun _ => 0) (Nat.le_refl _))
        have hBe := (Below.refl w7.heap.size w7).alloc (Nat.le_refl _) (.cells #[] 5)
        have HR67 := hid ((Ho6.out.reads.below hB7).below (hBe.mono hB7.size))
        have HRg := hid (ho7.reads.below hBe)
        have HA7 := hid hA7
        have HA6 := hid hA6
        clear ho7 hB7 hgf Ho56 HB6 Ho6 HX6 Hci6 HR6 HC3 hRt hA7 hA6
        go_wp2_with (at_builtin; (refine wpg_app_gen ?_ _ _ 22 rfl w7.heap.size 5 (.int .u8 0) Tryz.underlying22 info_u8 rfl _ 0 _ rfl He.out A6 P c6 _ _ HR67.out HA6.out rfl (by omega) (by simp) ?_); (exact rfl))
        intro v8 w8 ho8 hB8
        try rw [Nat.zero_add] at ho8
        have Ho8 := hid (ho8.ext (g := chainF k (rn k) (rk L key) false x t K) (fun i hi => by unfold cat; rw [if_neg (by omega), Nat.sub_zero]))
        have HRg8 := hid (HRg.out.below hB8)
        have hs8 := hB8.size
        clear ho8 He HR67 HRg
        go_wp2_with (at_builtin; (refine wpg_app_gen ?_ _ _ 22 rfl w7.heap.size 5 (.int .u8 0) Tryz.underlying22 info_u8 rfl _ P _ rfl Ho8.out A7 (M - P) c7 _ _ HRg8.out HA7.out rfl (by omega) (by have := hBe.size; omega) ?_); (exact rfl))
        intro v9 w9 ho9 hB9
        have hPD : P + (M - P) = M := by omega
        try rw [hPD] at ho9
        obtain ⟨A9, c9, rfl, hc9, -, -⟩ := ho9.slice'
        have hB79 := hBe.trans (hB8.trans hB9)
        have HRa := hid ((Ho57.out.reads.below hB79).more hB79.size)
        have HR9 := hid ho9.reads
        have HB9 := hid (HB7.out.trans (hB79.mono HB7.out.size))
        have hE : Hid (eqB M (chainF k (rn k) (rk L key) false x t N) (cat P (chainF k (rn k) (rk L key) false x t K) gf) = true) := hid (eqB_true fun i hi => (Hgf.out i hi).symm)
        clear ho9 hB8 hB9 hBe HRg8 Ho8 Ho57 HB7 hB79
        go_wp2_with fail
        refine (same_any A5 A9 M c5 c9 _ _ w9 hMs HRa.out HR9.out).mono ?_
        rintro e w10 ⟨rfl, hB10⟩
        rw [hE.out]
        have HB10 := hid (HB9.out.trans (hB10.mono HB9.out.size))
        clear hB10 HRa HR9 HB9 hE
        go_wp2_with fail
        go_ret
        exact ⟨rfl, HB10.out⟩
    · have hszP : sz k ≤ P := by rw [HP.out]; exact Nat.le_mul_of_pos_left _ hK0
      have hPI : (P : Int) > 0 := Int.natCast_pos.2 (Nat.lt_of_lt_of_le hsp hszP)
      obtain ⟨g6, rfl⟩ : ∃ g, A6 = some ⟨g, 0, none⟩ := by
        obtain ⟨g, c, h, -⟩ := own_some Ho6.out (Nat.lt_of_lt_of_le hsp hszP)
        injection h with h1
        exact ⟨g, h1⟩
      have hne6 : ¬ c6 = P - sz k := by omega
      have hl6 : P - (P - sz k) = sz k := by omega
      obtain ⟨J, rfl⟩ : ∃ J, K = J + 1 := ⟨K - 1, by omega⟩
      have hPJ : P - sz k = J * sz k := by rw [HP.out, Nat.succ_mul, Nat.add_sub_cancel]
      have HPJ := hid hPJ
      have htK : ∀ i, i < (J + 1) * sz k → t i < 256 := by rw [← HP.out]; exact fun i hi => htM.out i (Nat.lt_of_lt_of_le hi hPM)
      obtain ⟨ad6, e6, hlt6', hcell6⟩ := Ho6.out.reads (Nat.lt_of_lt_of_le hsp hszP)
      cases e6
      have hlt6 : g6 < w6.heap.size := hlt6'
      have hcl6 : ∀ i, i < sz k → w6.cell? ((⟨g6, P - sz k, none⟩ : Addr).add i) = some (.int .u8 ((chainF k (rn k) (rk L key) false x t (J + 1) (P - sz k + i) : Nat) : Int)) := fun i hi => by
        rw [← add_zero_off g6 (P - sz k), add_add]
        exact hcell6 _ (by omega)
      have hby6 : ∀ i, i < sz k → chainF k (rn k) (rk L key) false x t (J + 1) (P - sz k + i) < 256 := fun i hi => chain_lt hfit hk3 hK.out hxs.out htK _ (by rw [← HP.out]; omega)
      have hsA : Eqn (sz k) (fun i => chainF k (rn k) (rk L key) false x t (J + 1) (P - sz k + i)) (ah k (rn k) (rk L key) x t (J + 1)) := by
        rw [hPJ]
        exact forth_blk (N := J + 1) (j := J) (Nat.lt_succ_self J)
      clear hPJ hcell6 hlt6'
      by_cases hcp : c2 = P
      · rw [if_pos hcp] at hRt
        have HMz : Hid (M - P ≤ 0) := hid (by omega)
        go_wp2_with fail
        refine (HC3 (⟨g6, P - sz k, none⟩) (c6 - (P - sz k)) (fun i => chainF k (rn k) (rk L key) false x t (J + 1) (P - sz k + i)) A2 0 hlt6 hcl6 hby6 hsA hRt (fun h => by have := HA.out h; omega) HMz.out).mono ?_
        rintro e w7 ⟨v7, gf, rfl, ho7, hgf, hB7⟩
        obtain ⟨A7, c7, rfl, hc7, hA7, -⟩ := ho7.slice'
        have Hgf := hid hgf
        have Ho57 := hid (Ho56.out.below hB7 (Nat.le_refl _))
        have HB7 := hid (HB6.out.trans (hB7.mono HB6.out.size))
        have He := hid (Mem.Own.empty w7 w7.heap.size 5 (fun _ => 0) (Nat.le_refl _))
        have hBe := (Below.refl w7.heap.size w7).alloc (Nat.le_refl _) (.cells #[] 5)
        have HR67 := hid ((Ho6.out.reads.below hB7).below (hBe.mono hB7.size))
        have HRg := hid (ho7.reads.below hBe)
        have HA7 := hid hA7
        have HA6 := hid hA6
        clear ho7 hB7 hgf Ho56 HB6 Ho6 HX6 Hci6 HR6 HC3 hRt hA7 hA6
        go_wp2_with (at_builtin; (refine wpg_app_gen ?_ _ _ 22 rfl w7.heap.size 5 (.int .u8 0) Tryz.underlying22 info_u8 rfl _ 0 _ rfl He.out (some ⟨g6, 0, none⟩) P c6 _ _ HR67.out HA6.out rfl (by omega) (by simp) ?_); (exact rfl))
        intro v8 w8 ho8 hB8
        try rw [Nat.zero_add] at ho8
        have Ho8 := hid (ho8.ext (g := chainF k (rn k) (rk L key) false x t (J + 1)) (fun i hi => by unfold cat; rw [if_neg (by omega), Nat.sub_zero]))
        have HRg8 := hid (HRg.out.below hB8)
        have hs8 := hB8.size
        clear ho8 He HR67 HRg
        go_wp2_with (at_builtin; (refine wpg_app_gen ?_ _ _ 22 rfl w7.heap.size 5 (.int .u8 0) Tryz.underlying22 info_u8 rfl _ P _ rfl Ho8.out A7 (M - P) c7 _ _ HRg8.out HA7.out rfl (by omega) (by have := hBe.size; omega) ?_); (exact rfl))
        intro v9 w9 ho9 hB9
        have hPD : P + (M - P) = M := by omega
        try rw [hPD] at ho9
        obtain ⟨A9, c9, rfl, hc9, -, -⟩ := ho9.slice'
        have hB79 := hBe.trans (hB8.trans hB9)
        have HRa := hid ((Ho57.out.reads.below hB79).more hB79.size)
        have HR9 := hid ho9.reads
        have HB9 := hid (HB7.out.trans (hB79.mono HB7.out.size))
        have hE : Hid (eqB M (chainF k (rn k) (rk L key) false x t N) (cat P (chainF k (rn k) (rk L key) false x t (J + 1)) gf) = true) := hid (eqB_true fun i hi => (Hgf.out i hi).symm)
        clear ho9 hB8 hB9 hBe HRg8 Ho8 Ho57 HB7 hB79
        go_wp2_with fail
        refine (same_any A5 A9 M c5 c9 _ _ w9 hMs HRa.out HR9.out).mono ?_
        rintro e w10 ⟨rfl, hB10⟩
        rw [hE.out]
        have HB10 := hid (HB9.out.trans (hB10.mono HB9.out.size))
        clear hB10 HRa HR9 HB9 hE
        go_wp2_with fail
        go_ret
        exact ⟨rfl, HB10.out⟩
      · rw [if_neg hcp] at hRt
        go_wp2_with fail
        refine (HC3 (⟨g6, P - sz k, none⟩) (c6 - (P - sz k)) (fun i => chainF k (rn k) (rk L key) false x t (J + 1) (P - sz k + i)) (Option.map (fun x => x.add P) A2) (c2 - P) hlt6 hcl6 hby6 hsA hRt (fun h => by cases hA0 : A2 with | none => have := HA.out hA0; omega | some a => rw [hA0] at h; cases h) (by omega)).mono ?_
        rintro e w7 ⟨v7, gf, rfl, ho7, hgf, hB7⟩
        obtain ⟨A7, c7, rfl, hc7, hA7, -⟩ := ho7.slice'
        have Hgf := hid hgf
        have Ho57 := hid (Ho56.out.below hB7 (Nat.le_refl _))
        have HB7 := hid (HB6.out.trans (hB7.mono HB6.out.size))
        have He := hid (Mem.Own.empty w7 w7.heap.size 5 (fun _ => 0) (Nat.le_refl _))
        have hBe := (Below.refl w7.heap.size w7).alloc (Nat.le_refl _) (.cells #[] 5)
        have HR67 := hid ((Ho6.out.reads.below hB7).below (hBe.mono hB7.size))
        have HRg := hid (ho7.reads.below hBe)
        have HA7 := hid hA7
        have HA6 := hid hA6
        clear ho7 hB7 hgf Ho56 HB6 Ho6 HX6 Hci6 HR6 HC3 hRt hA7 hA6
        go_wp2_with (at_builtin; (refine wpg_app_gen ?_ _ _ 22 rfl w7.heap.size 5 (.int .u8 0) Tryz.underlying22 info_u8 rfl _ 0 _ rfl He.out (some ⟨g6, 0, none⟩) P c6 _ _ HR67.out HA6.out rfl (by omega) (by simp) ?_); (exact rfl))
        intro v8 w8 ho8 hB8
        try rw [Nat.zero_add] at ho8
        have Ho8 := hid (ho8.ext (g := chainF k (rn k) (rk L key) false x t (J + 1)) (fun i hi => by unfold cat; rw [if_neg (by omega), Nat.sub_zero]))
        have HRg8 := hid (HRg.out.below hB8)
        have hs8 := hB8.size
        clear ho8 He HR67 HRg
        go_wp2_with (at_builtin; (refine wpg_app_gen ?_ _ _ 22 rfl w7.heap.size 5 (.int .u8 0) Tryz.underlying22 info_u8 rfl _ P _ rfl Ho8.out A7 (M - P) c7 _ _ HRg8.out HA7.out rfl (by omega) (by have := hBe.size; omega) ?_); (exact rfl))
        intro v9 w9 ho9 hB9
        have hPD : P + (M - P) = M := by omega
        try rw [hPD] at ho9
        obtain ⟨A9, c9, rfl, hc9, -, -⟩ := ho9.slice'
        have hB79 := hBe.trans (hB8.trans hB9)
        have HRa := hid ((Ho57.out.reads.below hB79).more hB79.size)
        have HR9 := hid ho9.reads
        have HB9 := hid (HB7.out.trans (hB79.mono HB7.out.size))
        have hE : Hid (eqB M (chainF k (rn k) (rk L key) false x t N) (cat P (chainF k (rn k) (rk L key) false x t (J + 1)) gf) = true) := hid (eqB_true fun i hi => (Hgf.out i hi).symm)
        clear ho9 hB8 hB9 hBe HRg8 Ho8 Ho57 HB7 hB79
        go_wp2_with fail
        refine (same_any A5 A9 M c5 c9 _ _ w9 hMs HRa.out HR9.out).mono ?_
        rintro e w10 ⟨rfl, hB10⟩
        rw [hE.out]
        have HB10 := hid (HB9.out.trans (hB10.mono HB9.out.size))
        clear hB10 HRa HR9 HB9 hE
        go_wp2_with fail
        go_ret
        exact ⟨rfl, HB10.out⟩
  · have hor : 100 < L ∨ (L ≤ 100 ∧ 200 < L2) := by omega
    clear hC2 HR HR2 HX HA2 Hx Hk Ht
    rcases hor with h1 | ⟨h1, h2⟩
    · have h1I : (L : Int) > 100 := by omega
      go_enter Tryz.func7, Tryz.ntmps7
      go_wp2_with fail
      generalize w.alloc (.cells (row 16 (b8 x)) 37) = w0 at *
      refine (awake6_any _ Hg.out).mono ?_
      rintro e w1 ⟨rfl, hB1⟩
      go_wp2_with fail
      refine (awake6_any _ (Hg.out.below hB1)).mono ?_
      rintro e w2 ⟨rfl, hB2⟩
      go_wp2_with fail
      go_ret
      exact ⟨rfl, HB0.out.trans ((hB1.trans (hB2.mono hB1.size)).mono HB0.out.size)⟩
    · have h1I : ¬ (L : Int) > 100 := by omega
      have h2I : (L2 : Int) > 200 := by omega
      go_enter Tryz.func7, Tryz.ntmps7
      go_wp2_with fail
      generalize w.alloc (.cells (row 16 (b8 x)) 37) = w0 at *
      refine (awake6_any _ Hg.out).mono ?_
      rintro e w1 ⟨rfl, hB1⟩
      go_wp2_with fail
      refine (awake6_any _ (Hg.out.below hB1)).mono ?_
      rintro e w2 ⟨rfl, hB2⟩
      go_wp2_with fail
      go_ret
      exact ⟨rfl, HB0.out.trans ((hB1.trans (hB2.mono hB1.size)).mono HB0.out.size)⟩
end Go.Proofs.YtdodflnmhgnpeaaGreatDoor.Md.Parts
