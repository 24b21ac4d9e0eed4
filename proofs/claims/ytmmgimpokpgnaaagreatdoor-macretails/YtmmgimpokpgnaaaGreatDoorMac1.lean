/-
  What package mac's small functions return: Pad, endOf, doubled.
-/
import Derived.Test.YtmmgimpokpgnaaaGreatDoorMacMath
import Derived.Deep.RegionWith
namespace Go.Proofs.YtmmgimpokpgnaaaGreatDoor.Mc
open Mem Bk Md Go.ChangeShapes Go.WideShapes Go.ChangeAt Go.RowKit
section
variable {P : Program} {o : Oper} {a : Act} {w : World}
theorem exec_quoN (t : TypeId) (x y : Operand) (rt : TypeId) (ho : o.op = .binOp .quo t x y rt) (p q r : Int) (hx : a.eval x = .int .i64 p) (hy : a.eval y = .int .i64 q) (h : 0 ≤ p ∧ 0 < q ∧ p / q = r ∧ 0 ≤ r ∧ r ≤ 100000) : (execOp a.eval o).run P w = .ok (.value (.int .i64 r)) w := by
  obtain ⟨hp, hq, hr, hr0, hr1⟩ := h
  have hm : p.tdiv q = r := by rw [Int.tdiv_eq_ediv_of_nonneg hp, hr]
  have hw : IntKind.i64.wrap r = r := wrap_i64 r r rfl (by clear hm hr; omega) (by clear hm hr; omega)
  have hq0 : ¬ q = 0 := by clear hm hr; omega
  unfold execOp
  simp [ho, hx, hy, eqGuard, binOp, Op.intDiv, hm, hq0, hw]
theorem exec_remN (t : TypeId) (x y : Operand) (rt : TypeId) (ho : o.op = .binOp .rem t x y rt) (p q r : Int) (hx : a.eval x = .int .i64 p) (hy : a.eval y = .int .i64 q) (h : 0 ≤ p ∧ 0 < q ∧ p % q = r) : (execOp a.eval o).run P w = .ok (.value (.int .i64 r)) w := by
  obtain ⟨hp, hq, hr⟩ := h
  have hm : p.tmod q = r := by rw [Int.tmod_eq_emod_of_nonneg hp, hr]
  have hq0 : ¬ q = 0 := by clear hm hr; omega
  unfold execOp
  simp [ho, hx, hy, eqGuard, binOp, Op.intDiv, hm, hq0]
theorem exec_mulN (t : TypeId) (x y : Operand) (rt : TypeId) (ho : o.op = .binOp .mul t x y rt) (p q r : Int) (hx : a.eval x = .int .i64 p) (hy : a.eval y = .int .i64 q) (h : p * q = r ∧ 0 ≤ r ∧ r ≤ 100000) : (execOp a.eval o).run P w = .ok (.value (.int .i64 r)) w :=
  exec_arith .mul (.inr (.inr rfl)) t x y rt ho p q hx hy r h.1 (by have := h.2; omega) (by have := h.2; omega)
end
theorem quo_n {a n r : Nat} (hn : 0 < n) (h : r = a / n) (hr : r ≤ 100000) : (0 : Int) ≤ (a : Int) ∧ (0 : Int) < (n : Int) ∧ (a : Int) / (n : Int) = (r : Int) ∧ (0 : Int) ≤ (r : Int) ∧ (r : Int) ≤ 100000 :=
  ⟨Int.natCast_nonneg _, Int.natCast_pos.2 hn, by rw [h]; exact (Int.natCast_ediv a n).symm, Int.natCast_nonneg _, Int.ofNat_le.2 hr⟩
theorem mul_n {a n r : Nat} (h : r = (a + 1) * n) (hr : r ≤ 100000) : ((a : Int) + 1) * (n : Int) = (r : Int) ∧ (0 : Int) ≤ (r : Int) ∧ (r : Int) ≤ 100000 :=
  ⟨by rw [h]; exact (Int.natCast_mul (a + 1) n).symm, Int.natCast_nonneg _, Int.ofNat_le.2 hr⟩
theorem rem_n {u N K : Nat} (hN : 0 < N) (h : K = u % N) : (0 : Int) ≤ (u : Int) ∧ (0 : Int) < (N : Int) ∧ (u : Int) % (N : Int) = (K : Int) :=
  ⟨Int.natCast_nonneg _, Int.natCast_pos.2 hN, by rw [h]; exact (Int.natCast_emod u N).symm⟩
set_option maxRecDepth 100000 in
set_option maxHeartbeats 1000000 in
/-- Pad: the text, 80 and zeros -/
theorem pad_any (A : Option Addr) (L c : Nat) (f : Nat → Nat) (n M : Nat) (w : World) (hL : L ≤ 1000) (hn : 1 ≤ n) (hn' : n ≤ 64) (hM : M = padN L n) (hA : A = none → L = 0 ∧ c = 0) (hR : Reads w w.heap.size A L f) :
    Calls Tryz.prog 33 #[.slice A L c, .int .i64 (n : Int)] w fun e w' => e = .returned (.slice (some ⟨w.heap.size, 0, none⟩) M M) ∧ Blk w' w.heap.size 5 (row M (b8 (padF L f))) ∧ Below w.heap.size w w' := by
  have h1I : ¬ (n : Int) < 1 := by omega
  have h2I : ¬ (n : Int) > 64 := by omega
  obtain ⟨q, hq⟩ : ∃ q, q = L / n := ⟨_, rfl⟩
  have hqL : q ≤ L := by rw [hq]; exact Nat.div_le_self _ _
  have hLM : L < M := by rw [hM]; exact padN_gt hn
  have hML : M ≤ L + n := by rw [hM]; exact padN_le
  have hM' : M = (q + 1) * n := by rw [hM, hq]; rfl
  have HF1 := hid (quo_n (a := L) hn hq (by omega))
  have HF2 := hid (mul_n hM' (by omega))
  have hMs : M ≤ 2000 := by omega
  have hB0 : Below w.heap.size w (w.alloc (.cells (row M (b8 fun _ => 0)) 5)) := (Below.refl _ _).alloc (Nat.le_refl _) _
  have HR0 := hid (hR.below hB0)
  have hb0 := Blk.fresh w 5 (row M (b8 fun _ => 0))
  have HB0 := hid hB0
  clear hM hM' hq hR hB0
  rcases Nat.eq_zero_or_pos L with hz | hp
  · subst hz
    go_enter Tryz.func33, Tryz.ntmps33
    go_wp2_with (first
      | (with_reducible refine wpl_val rfl _ (exec_quoN _ _ _ _ rfl _ _ _ rfl rfl HF1.out) ?_)
      | (with_reducible refine wpl_val rfl _ (exec_mulN _ _ _ _ rfl _ _ _ rfl rfl HF2.out) ?_)
      | (with_reducible refine wpl_make rfl 22 5 _ _ rfl Tryz.underlying22 info8 _ _ _ _ rfl rfl M rfl rfl (by omega) ?_)
      | (with_reducible refine wpList_copy_nothing rfl _ _ 22 22 rfl 5 Tryz.underlying22 i8q _ _ _ _ _ _ rfl rfl (Nat.zero_min _) ?_)
      | (with_reducible refine wpl_slb rfl 22 _ _ rfl w.heap.size M M rfl .i64 _ rfl 0 rfl 5 Tryz.underlying22 hLM i8q ?_)
      | (with_reducible refine wpl_st rfl 5 _ _ rfl _ rfl .u8 _ rfl i8q _ (hb0.val 0 hLM) (hb0.free 0) ?_))
    go_ret
    have e : (row M (b8 fun _ => 0)).setIfInBounds 0 (Value.int IntKind.u8 128) = row M (b8 (padF 0 f)) := by
      rw [row_set]
      refine row_ext fun i hi => ?_
      unfold upd padF b8
      by_cases h1 : i = 0
      · subst h1; simp
      · simp [h1]
    rw [e]
    exact ⟨rfl, Blk.fresh _ _ _, (Below.refl _ _).alloc (Nat.le_refl _) _⟩
  · have hb1 : Blk ((w.alloc (.cells (row M (b8 fun _ => 0)) 5)).setRow w.heap.size (row M (b8 fun i => if i < L then f i else 0))) w.heap.size 5 (row M (b8 fun i => if i < L then f i else 0)) := hb0.setRow _
    have hB1 : Below w.heap.size w ((w.alloc (.cells (row M (b8 fun _ => 0)) 5)).setRow w.heap.size (row M (b8 fun i => if i < L then f i else 0))) := below_setRow' HB0.out (Nat.le_refl _) _
    go_enter Tryz.func33, Tryz.ntmps33
    go_wp2_with (first
      | (with_reducible refine wpl_val rfl _ (exec_quoN _ _ _ _ rfl _ _ _ rfl rfl HF1.out) ?_)
      | (with_reducible refine wpl_val rfl _ (exec_mulN _ _ _ _ rfl _ _ _ rfl rfl HF2.out) ?_)
      | (with_reducible refine wpl_make rfl 22 5 _ _ rfl Tryz.underlying22 info8 _ _ _ _ rfl rfl M rfl rfl (by omega) ?_)
      | (with_reducible refine wpl_copy rfl _ _ 22 22 rfl 5 Tryz.underlying22 i8q w.heap.size M M A L c rfl rfl 5 _ f hb0 _ HR0.out hp (Nat.le_of_lt hLM) ?_)
      | (with_reducible refine wpl_slb rfl 22 _ _ rfl w.heap.size M M rfl .i64 _ rfl L rfl 5 Tryz.underlying22 hLM i8q ?_)
      | (with_reducible refine wpl_st rfl 5 _ _ rfl _ rfl .u8 _ rfl i8q _ (hb1.val L hLM) (hb1.free L) ?_))
    go_ret
    refine ⟨rfl, ?_, hB1.setCell (by simp) _⟩
    have h := hb1.put L 128
    have e : row M (b8 (upd (fun i => if i < L then f i else 0) L 128)) = row M (b8 (padF L f)) := row_b8_ext fun i hi => by
      unfold upd padF
      by_cases h1 : i = L
      · subst h1; simp
      · simp [h1]
    rw [e] at h
    exact h
set_option maxRecDepth 100000 in
theorem endOf_any (n : Nat) (w : World) : Calls Tryz.prog 73 #[.int .i64 (n : Int)] w fun e w' => e = .returned (.int .u8 ((en n : Nat) : Int)) ∧ w = w' := by
  by_cases h : n = 8
  · have he : ((n : Int) == 8) = true := by simp; omega
    have hn : en n = 27 := by unfold en; rw [if_pos h]
    rw [hn]
    clear h hn
    go_enter Tryz.func73, Tryz.ntmps73
    go_wp2_with fail
    go_ret
    exact ⟨rfl, rfl⟩
  · have he : ((n : Int) == 8) = false := by simp; omega
    have hn : en n = 135 := by unfold en; rw [if_neg h]
    rw [hn]
    clear h hn
    go_enter Tryz.func73, Tryz.ntmps73
    go_wp2_with fail
    go_ret
    exact ⟨rfl, rfl⟩
theorem endOf_still (n : Nat) (w : World) : Calls Tryz.prog 73 #[.int .i64 (n : Int)] w fun e w' => e = .returned (.int .u8 ((en n : Nat) : Int)) ∧ w' = w := (endOf_any n w).mono fun _ _ ⟨h1, h2⟩ => ⟨h1, h2.symm⟩
theorem shl1 (x b : Nat) (hb : b ≤ 1) : bits .or .u8 ((x : Int) * 2 % 256) (b : Int) = (((x * 2 % 256) ||| b : Nat) : Int) := by
  have e : (x : Int) * 2 % 256 = ((x * 2 % 256 : Nat) : Int) := by omega
  rw [e, u8_or_nat _ _ (by omega) (by omega)]
set_option maxRecDepth 100000 in
set_option maxHeartbeats 1000000 in
/-- doubled -/
theorem doubled_any (ad : Addr) (n c : Nat) (f : Nat → Nat) (w : World) (hn : 1 ≤ n) (hn' : n ≤ 1000) (hf : ∀ i, i < n → f i < 256) (hR : Reads w w.heap.size (some ad) n f) :
    Calls Tryz.prog 55 #[.slice (some ad) n c] w fun e w' => e = .returned (.slice (some ⟨w.heap.size, 0, none⟩) n n) ∧ Blk w' w.heap.size 5 (row n (b8 (dbl n f))) ∧ Below w.heap.size w w' := by
  obtain ⟨ad', h', hbl, hcs⟩ := hR hn
  cases h'
  have Hcs := hid hcs
  have Hf := hid hf
  clear hcs hf hR
  go_enter Tryz.func55, Tryz.ntmps55
  go_wp2_with (with_reducible refine wpl_make rfl 22 5 _ _ rfl Tryz.underlying22 info8 _ _ _ _ rfl rfl n rfl rfl (by omega) ?_)
  go_loopw [4, 5] (fun o i wr => ∃ (k b : Nat) (z : Int) (m : Nat → Nat), k ≤ n ∧ z = (k : Int) - 1 ∧ i = .int .i64 z ∧ o = .int .u8 (b : Int) ∧ b ≤ 1 ∧ Hid (b = if k < n then f k / 128 else 0) ∧ Hid (∀ j, j < n → m j = if k ≤ j then sh n f j else 0) ∧ Blk wr w.heap.size 5 (row n (b8 m)) ∧ Below w.heap.size w wr) (fun _ i _ => (intOf i + 1).toNat)
  case atStart => exact ⟨n, 0, _, fun _ => 0, Nat.le_refl _, rfl, rfl, rfl, by omega, hid (by simp), hid (fun j hj => by rw [if_neg (by omega)]), Blk.fresh _ _ _, (Below.refl _ _).alloc (Nat.le_refl _) _⟩
  case round =>
    obtain ⟨k, b, z, m, hk, hz, rfl, rfl, hb1, Hb, HM, hb, hB⟩ := hrel
    rcases Nat.eq_zero_or_pos k with h0 | hp
    · subst h0
      obtain rfl : z = -1 := by omega
      have hM : ∀ j, j < n → m j = sh n f j := fun j hj => by rw [HM.out j hj, if_pos (Nat.zero_le _)]
      have hb0 : b = f 0 / 128 := by rw [Hb.out, if_pos (by omega)]
      clear hz Hb HM
      by_cases h1 : b = 1
      · have hl : n - 1 < n := by omega
        have hnI : ((n : Int) - 1) = ((n - 1 : Nat) : Int) := by omega
        have hr : row n (b8 (upd m (n - 1) (m (n - 1) ^^^ en n))) = row n (b8 (dbl n f)) := row_b8_ext fun i hi => by
          unfold upd dbl
          by_cases h2 : i = n - 1
          · subst h2
            rw [if_pos rfl, if_pos ⟨by rw [← hb0]; exact h1, by omega⟩, hM _ hi]
          · rw [if_neg h2, if_neg (by omega), hM _ hi]
        have Hr := hid hr
        have hml : m (n - 1) < 256 := by rw [hM _ hl]; exact sh_lt Hf.out _ hl
        have hb1I : ((b : Int) == 1) = true := by simp; omega
        have Hh1 := hid h1
        clear hr h1 hb0 hb1
        go_wp2_with fail
        refine wp_region_still_tail 11 (by kernel_rfl) (by kernel_rfl) ?_
        simp only [List.take_succ_cons, List.take_zero, List.drop_succ_cons, List.drop_zero]
        change wpStill _ _ wr.drew (fun a' => wpList _ _ _ _ a' wr.drew) _ _
        have hw : IntKind.i64.wrap ((n : Int) - 1) = ((n - 1 : Nat) : Int) := wrap_i64 _ _ hnI (by omega) (by omega)
        have hb1 : Blk wr.drew w.heap.size 5 (row n (b8 m)) := hb
        have hB1 := hB.drew
        clear hb hB hnI hM
        generalize wr.drew = w2 at *
        have hv1 := hb1.val (n - 1) hl
        have hv2 := hb1.free (n - 1)
        generalize n - 1 = q at *
        repeat (first
          | (with_reducible refine wps_sl rfl 22 _ _ rfl _ n n rfl .i64 _ rfl q rfl 5 Tryz.underlying22 hl 1 i8q ?_; rw [Nat.mul_one, add_zero_off])
          | (with_reducible refine wps_ld rfl 5 _ rfl _ rfl .u8 Tryz.underlying5 _ hv1 ?_)
          | still_step
          | still_call (endOf_still n _))
        refine wpStill_nil ?_
        go_wp2_with (with_reducible refine wpl_st rfl 5 _ _ rfl _ rfl .u8 _ rfl i8q _ hv1 hv2 ?_)
        go_ret
        rw [u8_xor_nat _ _ hml (en_lt n)]
        exact ⟨rfl, Hr.out ▸ hb1.put q _, hB1.setCell (by simp) _⟩
      · have hb1I : ((b : Int) == 1) = false := by simp; omega
        have hr : row n (b8 m) = row n (b8 (dbl n f)) := row_b8_ext fun i hi => by
          unfold dbl
          rw [if_neg (fun h => h1 (hb0.trans h.1)), hM _ hi]
        rw [hr] at hb
        clear hr hb0 h1
        go_wp2_with fail
        go_ret
        exact ⟨rfl, hb, hB⟩
    · obtain ⟨j, rfl⟩ : ∃ j, k = j + 1 := ⟨k - 1, by omega⟩
      obtain rfl : z = (j : Int) := by omega
      have hj : j < n := by omega
      have hc : wr.cell? (ad.add j) = some (.int .u8 ((f j : Nat) : Int)) := (hB.cell (p := ad.add j) (by rw [add_block]; exact hbl)).trans (Hcs.out j hj)
      have hfj := Hf.out j hj
      have hv1 := hb.val j hj
      have hv2 := hb.free j
      have hc2 : (wr.setCell ⟨w.heap.size, j, none⟩ (.int .u8 (bits .or .u8 ((f j : Int) * 2 % 256) (b : Int)))).cell? (ad.add j) = some (.int .u8 ((f j : Nat) : Int)) := by
        exact ((hB.setCell (by simp) _).cell (p := ad.add j) (by rw [add_block]; exact hbl)).trans (Hcs.out j hj)
      clear hz
      go_wp2_with (first
        | (with_reducible refine wpl_sl1 rfl 22 _ _ rfl ad n c rfl .i64 _ rfl j rfl 5 Tryz.underlying22 hj i8q ?_)
        | (with_reducible refine wpl_slb rfl 22 _ _ rfl w.heap.size n n rfl .i64 _ rfl j rfl 5 Tryz.underlying22 hj i8q ?_)
        | (with_reducible refine wpl_ld rfl 5 _ rfl _ rfl .u8 Tryz.underlying5 _ hc ?_)
        | (with_reducible refine wpl_ld rfl 5 _ rfl _ rfl .u8 Tryz.underlying5 _ hc2 ?_)
        | (with_reducible refine wpl_st rfl 5 _ _ rfl _ rfl .u8 _ rfl i8q _ hv1 hv2 ?_))
      have Hc : Hid (f j / 128 ≤ 1) := hid (by omega)
      rw [shl1 _ _ hb1]
      refine ⟨⟨j, f j / 128, _, upd m j ((f j * 2 % 256) ||| b), by omega, rfl, rfl, by simp, Hc.out, hid (by rw [if_pos hj]), hid (fun q hq => ?_), hb.put j _, hB.setCell (by simp) _⟩, by simp [intOf]⟩
      by_cases hqj : q = j
      · subst hqj
        rw [upd_same, if_pos (Nat.le_refl _), Hb.out]
        rfl
      · rw [upd_other _ _ _ _ hqj, HM.out q hq]
        by_cases h1 : j + 1 ≤ q
        · rw [if_pos h1, if_pos (by omega)]
        · rw [if_neg h1, if_neg (by omega)]
end Go.Proofs.YtmmgimpokpgnaaaGreatDoor.Mc
