/-
 LadderFull returns true: its walk.
-/
import Derived.Test.YtinejbjndpdcmaaDoorLaw13b
set_option linter.unusedSimpArgs false
set_option linter.unusedVariables false
namespace Go.Proofs.YtinejbjndpdcmaaDoor.Lad
open Go.ChangeShapes Go.WideShapes Go.ChangeAt Go.RowKit Mem Dk
set_option maxRecDepth 100000 in
set_option maxHeartbeats 4000000 in
theorem full_neg (f0 f1 : Nat → Nat) (z : Int) (hz : z ≤ 0) (w : World) (hT : Tab w) (B0 : ∀ i, i < 16 → f0 i < 256) (B1 : ∀ i, i < 10 → f1 i < 256) :
  Calls Tryd.prog 5 #[.agg (row 16 (b8 f0)), .agg (row 10 (b8 f1)), .int .i64 z] w fun e w' => e = .returned (.bool true) ∧ Below w.heap.size w w' := by
 have hl2 := hT.lt
 have hz0 : ¬ 0 < z := by omega
 have hnb : By10 (atF f1 0) := atF_lt B1 0
 have hb0 : Blk ((w.alloc (.cells (row 16 (b8 f0)) 27)).alloc (.cells (row 10 (b8 f1)) 28)) w.heap.size 27 (row 16 (b8 f0)) := (Blk.fresh _ _ _).alloc _
 have hb1 : Blk ((w.alloc (.cells (row 16 (b8 f0)) 27)).alloc (.cells (row 10 (b8 f1)) 28)) (w.heap.size + 1) 28 (row 10 (b8 f1)) := by simpa using Blk.fresh (w.alloc (.cells (row 16 (b8 f0)) 27)) 28 (row 10 (b8 f1))
 have hB : Below w.heap.size w ((w.alloc (.cells (row 16 (b8 f0)) 27)).alloc (.cells (row 10 (b8 f1)) 28)) := ((Below.refl _ _).alloc (Nat.le_refl _) _).alloc (by simp) _
 have hTa := hT.below hB hl2
 have Hnb := hid hnb
 have HB0 := hid B0
 have HB1 := hid B1
 clear hT hnb B0 B1
 go_enter Tryd.func5, Tryd.ntmps5
 go_wp2_with (first
  | (with_reducible refine wpl_load rfl 27 _ rfl _ rfl 27 _ hb0 16 5 Tryd.underlying27 (i16' _) ?_)
  | (with_reducible refine wpl_load rfl 28 _ rfl _ rfl 28 _ hb1 10 5 Tryd.underlying28 (i10' _) ?_))
 generalize ((w.alloc (.cells (row 16 (b8 f0)) 27)).alloc (.cells (row 10 (b8 f1)) 28)) = w0 at *
 refine (new_any f0 f1 HB0.out HB1.out _).mono ?_
 rintro e w1 ⟨g1, hg1, rfl, hL1, hBn⟩
 replace hb0 := hb0.below hBn hb0.lt
 replace hb1 := hb1.below hBn hb1.lt
 replace hTa := hTa.below hBn hTa.lt
 have hgw : w.heap.size ≤ g1 := Nat.le_trans hB.size hg1
 replace hB := hB.trans (hBn.mono hB.size)
 clear hBn hg1
 go_simp
 go_wp2_with (first
  | (with_reducible refine wpl_load rfl 27 _ rfl _ rfl 27 _ hb0 16 5 Tryd.underlying27 (i16' _) ?_)
  | (with_reducible refine wpl_load rfl 28 _ rfl _ rfl 28 _ hb1 10 5 Tryd.underlying28 (i10' _) ?_))
 refine (new_any f0 f1 HB0.out HB1.out _).mono ?_
 rintro e w2 ⟨g2, hg2, rfl, hL2, hBn⟩
 have hlt := hL1.lt
 replace hL1 := hL1.sv (Sv.of (X := fun _ => False) hBn) id
 replace hTa := hTa.below hBn hTa.lt
 have hgw2 : w.heap.size ≤ g2 := Nat.le_trans hB.size hg2
 have hg12 : g1 ≠ g2 := by omega
 have hg1n : g1 ≠ 2 := by omega
 have hg2n : g2 ≠ 2 := by omega
 replace hB := hB.trans (hBn.mono hB.size)
 clear hBn hg2 hlt hb0 hb1
 go_simp
 go_wp2_with fail
 refine (awake13_any _ hTa).mono ?_
 rintro e w3 ⟨rfl, hBn⟩
 replace hL1 := hL1.sv (Sv.of (X := fun _ => False) hBn) id
 replace hL2 := hL2.sv (Sv.of (X := fun _ => False) hBn) id
 replace hTa := hTa.below hBn hTa.lt
 replace hB := hB.trans (hBn.mono hB.size)
 clear hBn
 go_simp
 go_wp2_with fail
 refine (skip_any f0 (atF f1 0) HB0.out Hnb.out 0 0 (by omega) (by omega) _ (Or.inl (by omega)) g1 _ hL1 hTa hg1n).mono ?_
 rintro e w4 ⟨rfl, hLn, hS⟩
 rw [Nat.zero_add] at hLn
 replace hL1 := hLn
 replace hL2 := hL2.sv hS (by omega)
 replace hTa := hTa.sv hS (by omega)
 replace hB := hS.below hB (fun q hq => by omega) hB.size
 clear hS hLn
 go_simp
 go_wp2_with fail
 go_loopw [11] (fun i wr => ∃ j : Nat, j ≤ 0 ∧ i = .int .i64 j ∧ Term wr g1 f0 (atF f1 0) 0 ∧ Term wr g2 f0 (atF f1 0) j ∧ Tab wr ∧ Below w.heap.size w wr) (fun i _ => 0 - (intOf i).toNat)
 case atStart => exact ⟨0, by omega, rfl, hL1, hL2, hTa, hB⟩
 case round =>
  clear hL1 hL2 hTa hB
  obtain ⟨j, hj, rfl, hL1, hL2, hTa, hB⟩ := hrel
  by_cases hlt : j < 0
  ·exfalso; omega
  have hj0 : Hid (j = 0) := hid (by omega)
  have hd : decide ((j : Int) < 0) = false := decide_eq_false (by omega)
  replace hL1 : Term wr g1 f0 (atF f1 0) j := by rw [hj0.out]; exact hL1
  have hj2 : j < 200 := by omega
  clear hlt hj
  obtain ⟨y, hyy⟩ : ∃ y, many (fl (j + 1)) 21 = y := ⟨_, rfl⟩
  have hy21 : decide ((y : Int) ≤ 21) = true := decide_eq_true (by have := many_le (fl (j + 1)) 21; omega)
  go_wp2_with fail
  refine (skip_any f0 (atF f1 0) HB0.out Hnb.out j 0 (by omega) (by omega) _ (Or.inr ⟨by omega, rfl⟩) g2 _ hL2 hTa hg2n).mono ?_
  rintro e w4 ⟨rfl, hLn, hS⟩
  replace hL1 := hL1.sv hS hg12
  replace hTa := hTa.sv hS (by omega)
  replace hB := hS.below hB (fun q hq => by omega) hB.size
  replace hL2 : Term w4 g2 f0 (atF f1 0) j := hLn
  clear hS hLn
  go_simp
  go_wp2_with fail
  refine (take_term f0 (atF f1 0) HB0.out Hnb.out j (by omega) g1 _ hL1 hTa hg1n).mono ?_
  rintro e w5 ⟨rfl, hLn, hS⟩
  replace hL2 := hL2.sv hS (fun h => hg12 h.symm)
  replace hTa := hTa.sv hS (by omega)
  replace hB := hS.below hB (fun q hq => by omega) hB.size
  replace hL1 := hLn
  clear hS hLn
  obtain ⟨h5, h6, hk1, hn1, hBt, hsz3⟩ := taken w5 (kD f0 (atF f1 0) (j + 1)) (atF (atF f1 0) (j + 1))
  generalize hW : (World.setRow (World.setRow _ w5.heap.size _) (w5.heap.size + 1) _) = w6 at hk1 hn1 hBt
  have hl5 := hL2.lt
  replace hL1 := hL1.sv (Sv.of (X := fun _ => False) hBt) id
  replace hL2 := hL2.sv (Sv.of (X := fun _ => False) hBt) id
  replace hTa := hTa.below hBt hTa.lt
  replace hB := hB.trans (hBt.mono hB.size)
  clear hBt
  go_simp
  go_wp2_with (first
   | (with_reducible refine wpl_alloc rfl 27 rfl _ z16 ?_)
   | (with_reducible refine wpl_alloc rfl 28 rfl _ z10 ?_; rw [hsz3])
   | (with_reducible refine wpl_store rfl 27 _ _ rfl _ _ rfl rfl 27 _ h5 (i16' _) (by simp [row_size]) (one_b8 _ _) ?_)
   | (with_reducible refine wpl_store rfl 28 _ _ rfl _ _ rfl rfl 28 _ h6 (i10' _) (by simp [row_size]) (one_b8 _ _) ?_; rw [hW]))
  clear h5 h6 hsz3 hW
  generalize w5.heap.size = s1 at *
  refine (take_term f0 (atF f1 0) HB0.out Hnb.out j (by omega) g2 _ hL2 hTa hg2n).mono ?_
  rintro e w7 ⟨rfl, hLn, hS⟩
  replace hL1 := hL1.sv hS hg12
  replace hB := hS.below hB (fun q hq => by omega) hB.size
  replace hL2 := hLn
  replace hk1 := hS.blk hk1 (by omega)
  replace hn1 := hS.blk hn1 (by omega)
  clear hS hLn hTa
  obtain ⟨h5, h6, hk2, hn2, hBt, hsz3⟩ := taken w7 (kD f0 (atF f1 0) (j + 1)) (atF (atF f1 0) (j + 1))
  generalize hW : (World.setRow (World.setRow _ w7.heap.size _) (w7.heap.size + 1) _) = w8 at hk2 hn2 hBt
  replace hL1 := hL1.sv (Sv.of (X := fun _ => False) hBt) id
  replace hL2 := hL2.sv (Sv.of (X := fun _ => False) hBt) id
  replace hB := hB.trans (hBt.mono hB.size)
  replace hk1 := hk1.below hBt hk1.lt
  replace hn1 := hn1.below hBt hn1.lt
  clear hBt
  go_simp
  go_wp2_with (first
   | (with_reducible refine wpl_alloc rfl 27 rfl _ z16 ?_)
   | (with_reducible refine wpl_alloc rfl 28 rfl _ z10 ?_; rw [hsz3])
   | (with_reducible refine wpl_store rfl 27 _ _ rfl _ _ rfl rfl 27 _ h5 (i16' _) (by simp [row_size]) (one_b8 _ _) ?_)
   | (with_reducible refine wpl_store rfl 28 _ _ rfl _ _ rfl rfl 28 _ h6 (i10' _) (by simp [row_size]) (one_b8 _ _) ?_; rw [hW])
   | ((with_reducible refine wpg_val ?_ _ (exec_load 27 _ rfl _ rfl 27 16 _ hk1 5 Tryd.underlying27 i16) ?_); exact rfl)
   | ((with_reducible refine wpg_val ?_ _ (exec_load 27 _ rfl _ rfl 27 16 _ hk2 5 Tryd.underlying27 i16) ?_); exact rfl)
   | ((with_reducible refine wpg_val ?_ _ (exec_load 28 _ rfl _ rfl 28 10 _ hn1 5 Tryd.underlying28 i10) ?_); exact rfl)
   | ((with_reducible refine wpg_val ?_ _ (exec_load 28 _ rfl _ rfl 28 10 _ hn2 5 Tryd.underlying28 i10) ?_); exact rfl)
   | ((with_reducible refine wpg_val ?_ _ (exec_eqL 27 _ _ _ rfl 16 _ rfl rfl 5 Tryd.underlying27 Tryd.underlying5 i1 eqG16) ?_); exact rfl)
   | ((with_reducible refine wpg_val ?_ _ (exec_eqL 28 _ _ _ rfl 10 _ rfl rfl 5 Tryd.underlying28 Tryd.underlying5 i1 eqG10) ?_); exact rfl))
  refine (full_any _ _ _ _ g1 _ hL1).mono ?_
  rintro e wf ⟨rfl, hBf⟩
  rw [hyy]
  replace hL1 := hL1.sv (Sv.of (X := fun _ => False) hBf) id
  replace hL2 := hL2.sv (Sv.of (X := fun _ => False) hBf) id
  replace hB := hB.trans (hBf.mono hB.size)
  clear hBf
  go_simp
  go_wp2_with fail
  refine (full_any _ _ _ _ g2 _ hL2).mono ?_
  rintro e wf ⟨rfl, hBf⟩
  rw [hyy]
  replace hL1 := hL1.sv (Sv.of (X := fun _ => False) hBf) id
  replace hL2 := hL2.sv (Sv.of (X := fun _ => False) hBf) id
  replace hB := hB.trans (hBf.mono hB.size)
  clear hBf
  go_simp
  go_wp2_with fail
  refine (full_any _ _ _ _ g1 _ hL1).mono ?_
  rintro e wf ⟨rfl, hBf⟩
  rw [hyy]
  replace hL1 := hL1.sv (Sv.of (X := fun _ => False) hBf) id
  replace hL2 := hL2.sv (Sv.of (X := fun _ => False) hBf) id
  replace hB := hB.trans (hBf.mono hB.size)
  clear hBf
  go_simp
  go_wp2_with fail
  go_ret
  exact ⟨rfl, hB⟩
set_option maxRecDepth 100000 in
set_option maxHeartbeats 4000000 in
theorem full_pos (f0 f1 : Nat → Nat) (z : Nat) (hz : 0 < z) (m : Nat) (hm : m = z % 200) (w : World) (hT : Tab w) (B0 : ∀ i, i < 16 → f0 i < 256) (B1 : ∀ i, i < 10 → f1 i < 256) :
  Calls Tryd.prog 5 #[.agg (row 16 (b8 f0)), .agg (row 10 (b8 f1)), .int .i64 z] w fun e w' => e = .returned (.bool true) ∧ Below w.heap.size w w' := by
 have hl2 := hT.lt
 have hm2 : m < 200 := by omega
 have hmod : ((z : Int) % 200) = (m : Int) := by omega
 clear hm
 have hnb : By10 (atF f1 0) := atF_lt B1 0
 have hb0 : Blk ((w.alloc (.cells (row 16 (b8 f0)) 27)).alloc (.cells (row 10 (b8 f1)) 28)) w.heap.size 27 (row 16 (b8 f0)) := (Blk.fresh _ _ _).alloc _
 have hb1 : Blk ((w.alloc (.cells (row 16 (b8 f0)) 27)).alloc (.cells (row 10 (b8 f1)) 28)) (w.heap.size + 1) 28 (row 10 (b8 f1)) := by simpa using Blk.fresh (w.alloc (.cells (row 16 (b8 f0)) 27)) 28 (row 10 (b8 f1))
 have hB : Below w.heap.size w ((w.alloc (.cells (row 16 (b8 f0)) 27)).alloc (.cells (row 10 (b8 f1)) 28)) := ((Below.refl _ _).alloc (Nat.le_refl _) _).alloc (by simp) _
 have hTa := hT.below hB hl2
 have Hnb := hid hnb
 have HB0 := hid B0
 have HB1 := hid B1
 clear hT hnb B0 B1
 go_enter Tryd.func5, Tryd.ntmps5
 go_wp2_with (first
  | (with_reducible refine wpl_load rfl 27 _ rfl _ rfl 27 _ hb0 16 5 Tryd.underlying27 (i16' _) ?_)
  | (with_reducible refine wpl_load rfl 28 _ rfl _ rfl 28 _ hb1 10 5 Tryd.underlying28 (i10' _) ?_))
 generalize ((w.alloc (.cells (row 16 (b8 f0)) 27)).alloc (.cells (row 10 (b8 f1)) 28)) = w0 at *
 refine (new_any f0 f1 HB0.out HB1.out _).mono ?_
 rintro e w1 ⟨g1, hg1, rfl, hL1, hBn⟩
 replace hb0 := hb0.below hBn hb0.lt
 replace hb1 := hb1.below hBn hb1.lt
 replace hTa := hTa.below hBn hTa.lt
 have hgw : w.heap.size ≤ g1 := Nat.le_trans hB.size hg1
 replace hB := hB.trans (hBn.mono hB.size)
 clear hBn hg1
 go_simp
 go_wp2_with (first
  | (with_reducible refine wpl_load rfl 27 _ rfl _ rfl 27 _ hb0 16 5 Tryd.underlying27 (i16' _) ?_)
  | (with_reducible refine wpl_load rfl 28 _ rfl _ rfl 28 _ hb1 10 5 Tryd.underlying28 (i10' _) ?_))
 refine (new_any f0 f1 HB0.out HB1.out _).mono ?_
 rintro e w2 ⟨g2, hg2, rfl, hL2, hBn⟩
 have hlt := hL1.lt
 replace hL1 := hL1.sv (Sv.of (X := fun _ => False) hBn) id
 replace hTa := hTa.below hBn hTa.lt
 have hgw2 : w.heap.size ≤ g2 := Nat.le_trans hB.size hg2
 have hg12 : g1 ≠ g2 := by omega
 have hg1n : g1 ≠ 2 := by omega
 have hg2n : g2 ≠ 2 := by omega
 replace hB := hB.trans (hBn.mono hB.size)
 clear hBn hg2 hlt hb0 hb1
 go_simp
 go_wp2_with fail
 refine (awake13_any _ hTa).mono ?_
 rintro e w3 ⟨rfl, hBn⟩
 replace hL1 := hL1.sv (Sv.of (X := fun _ => False) hBn) id
 replace hL2 := hL2.sv (Sv.of (X := fun _ => False) hBn) id
 replace hTa := hTa.below hBn hTa.lt
 replace hB := hB.trans (hBn.mono hB.size)
 clear hBn
 go_simp
 go_wp2_with fail
 refine (skip_any f0 (atF f1 0) HB0.out Hnb.out 0 m (by omega) (by omega) _ (Or.inl (by omega)) g1 _ hL1 hTa hg1n).mono ?_
 rintro e w4 ⟨rfl, hLn, hS⟩
 rw [Nat.zero_add] at hLn
 replace hL1 := hLn
 replace hL2 := hL2.sv hS (by omega)
 replace hTa := hTa.sv hS (by omega)
 replace hB := hS.below hB (fun q hq => by omega) hB.size
 clear hS hLn
 go_simp
 go_wp2_with fail
 go_loopw [11] (fun i wr => ∃ j : Nat, j ≤ m ∧ i = .int .i64 j ∧ Term wr g1 f0 (atF f1 0) m ∧ Term wr g2 f0 (atF f1 0) j ∧ Tab wr ∧ Below w.heap.size w wr) (fun i _ => m - (intOf i).toNat)
 case atStart => exact ⟨0, by omega, rfl, hL1, hL2, hTa, hB⟩
 case round =>
  clear hL1 hL2 hTa hB
  obtain ⟨j, hj, rfl, hL1, hL2, hTa, hB⟩ := hrel
  by_cases hlt : j < m
  ·go_wp2_with fail
   refine (take_term f0 (atF f1 0) HB0.out Hnb.out j (by omega) g2 _ hL2 hTa hg2n).mono ?_
   rintro e w5 ⟨rfl, hLn, hS⟩
   replace hL1 := hL1.sv hS hg12
   replace hTa := hTa.sv hS (by omega)
   replace hB := hS.below hB (fun q hq => by omega) hB.size
   clear hS hL2
   go_simp
   go_wp2_with fail
   exact ⟨⟨j + 1, by omega, val_int (by omega), hL1, hLn, hTa, hB⟩, by simp [intOf]; omega⟩
  have hneg : wrap64 (-(m : Int)) = -(m : Int) := by unfold wrap64; omega
  obtain rfl : j = m := by omega
  obtain ⟨y, hyy⟩ : ∃ y, many (fl (j + 1)) 21 = y := ⟨_, rfl⟩
  have hy21 : decide ((y : Int) ≤ 21) = true := decide_eq_true (by have := many_le (fl (j + 1)) 21; omega)
  go_wp2_with fail
  refine (skip_any f0 (atF f1 0) HB0.out Hnb.out j 0 (by omega) (by omega) _ (Or.inr ⟨by omega, rfl⟩) g2 _ hL2 hTa hg2n).mono ?_
  rintro e w4 ⟨rfl, hLn, hS⟩
  replace hL1 := hL1.sv hS hg12
  replace hTa := hTa.sv hS (by omega)
  replace hB := hS.below hB (fun q hq => by omega) hB.size
  replace hL2 : Term w4 g2 f0 (atF f1 0) j := hLn
  clear hS hLn
  go_simp
  go_wp2_with fail
  refine (take_term f0 (atF f1 0) HB0.out Hnb.out j (by omega) g1 _ hL1 hTa hg1n).mono ?_
  rintro e w5 ⟨rfl, hLn, hS⟩
  replace hL2 := hL2.sv hS (fun h => hg12 h.symm)
  replace hTa := hTa.sv hS (by omega)
  replace hB := hS.below hB (fun q hq => by omega) hB.size
  replace hL1 := hLn
  clear hS hLn
  obtain ⟨h5, h6, hk1, hn1, hBt, hsz3⟩ := taken w5 (kD f0 (atF f1 0) (j + 1)) (atF (atF f1 0) (j + 1))
  generalize hW : (World.setRow (World.setRow _ w5.heap.size _) (w5.heap.size + 1) _) = w6 at hk1 hn1 hBt
  have hl5 := hL2.lt
  replace hL1 := hL1.sv (Sv.of (X := fun _ => False) hBt) id
  replace hL2 := hL2.sv (Sv.of (X := fun _ => False) hBt) id
  replace hTa := hTa.below hBt hTa.lt
  replace hB := hB.trans (hBt.mono hB.size)
  clear hBt
  go_simp
  go_wp2_with (first
   | (with_reducible refine wpl_alloc rfl 27 rfl _ z16 ?_)
   | (with_reducible refine wpl_alloc rfl 28 rfl _ z10 ?_; rw [hsz3])
   | (with_reducible refine wpl_store rfl 27 _ _ rfl _ _ rfl rfl 27 _ h5 (i16' _) (by simp [row_size]) (one_b8 _ _) ?_)
   | (with_reducible refine wpl_store rfl 28 _ _ rfl _ _ rfl rfl 28 _ h6 (i10' _) (by simp [row_size]) (one_b8 _ _) ?_; rw [hW]))
  clear h5 h6 hsz3 hW
  generalize w5.heap.size = s1 at *
  refine (take_term f0 (atF f1 0) HB0.out Hnb.out j (by omega) g2 _ hL2 hTa hg2n).mono ?_
  rintro e w7 ⟨rfl, hLn, hS⟩
  replace hL1 := hL1.sv hS hg12
  replace hB := hS.below hB (fun q hq => by omega) hB.size
  replace hL2 := hLn
  replace hk1 := hS.blk hk1 (by omega)
  replace hn1 := hS.blk hn1 (by omega)
  clear hS hLn hTa
  obtain ⟨h5, h6, hk2, hn2, hBt, hsz3⟩ := taken w7 (kD f0 (atF f1 0) (j + 1)) (atF (atF f1 0) (j + 1))
  generalize hW : (World.setRow (World.setRow _ w7.heap.size _) (w7.heap.size + 1) _) = w8 at hk2 hn2 hBt
  replace hL1 := hL1.sv (Sv.of (X := fun _ => False) hBt) id
  replace hL2 := hL2.sv (Sv.of (X := fun _ => False) hBt) id
  replace hB := hB.trans (hBt.mono hB.size)
  replace hk1 := hk1.below hBt hk1.lt
  replace hn1 := hn1.below hBt hn1.lt
  clear hBt
  go_simp
  go_wp2_with (first
   | (with_reducible refine wpl_alloc rfl 27 rfl _ z16 ?_)
   | (with_reducible refine wpl_alloc rfl 28 rfl _ z10 ?_; rw [hsz3])
   | (with_reducible refine wpl_store rfl 27 _ _ rfl _ _ rfl rfl 27 _ h5 (i16' _) (by simp [row_size]) (one_b8 _ _) ?_)
   | (with_reducible refine wpl_store rfl 28 _ _ rfl _ _ rfl rfl 28 _ h6 (i10' _) (by simp [row_size]) (one_b8 _ _) ?_; rw [hW])
   | ((with_reducible refine wpg_val ?_ _ (exec_load 27 _ rfl _ rfl 27 16 _ hk1 5 Tryd.underlying27 i16) ?_); exact rfl)
   | ((with_reducible refine wpg_val ?_ _ (exec_load 27 _ rfl _ rfl 27 16 _ hk2 5 Tryd.underlying27 i16) ?_); exact rfl)
   | ((with_reducible refine wpg_val ?_ _ (exec_load 28 _ rfl _ rfl 28 10 _ hn1 5 Tryd.underlying28 i10) ?_); exact rfl)
   | ((with_reducible refine wpg_val ?_ _ (exec_load 28 _ rfl _ rfl 28 10 _ hn2 5 Tryd.underlying28 i10) ?_); exact rfl)
   | ((with_reducible refine wpg_val ?_ _ (exec_eqL 27 _ _ _ rfl 16 _ rfl rfl 5 Tryd.underlying27 Tryd.underlying5 i1 eqG16) ?_); exact rfl)
   | ((with_reducible refine wpg_val ?_ _ (exec_eqL 28 _ _ _ rfl 10 _ rfl rfl 5 Tryd.underlying28 Tryd.underlying5 i1 eqG10) ?_); exact rfl))
  refine (full_any _ _ _ _ g1 _ hL1).mono ?_
  rintro e wf ⟨rfl, hBf⟩
  rw [hyy]
  replace hL1 := hL1.sv (Sv.of (X := fun _ => False) hBf) id
  replace hL2 := hL2.sv (Sv.of (X := fun _ => False) hBf) id
  replace hB := hB.trans (hBf.mono hB.size)
  clear hBf
  go_simp
  go_wp2_with fail
  refine (full_any _ _ _ _ g2 _ hL2).mono ?_
  rintro e wf ⟨rfl, hBf⟩
  rw [hyy]
  replace hL1 := hL1.sv (Sv.of (X := fun _ => False) hBf) id
  replace hL2 := hL2.sv (Sv.of (X := fun _ => False) hBf) id
  replace hB := hB.trans (hBf.mono hB.size)
  clear hBf
  go_simp
  go_wp2_with fail
  refine (full_any _ _ _ _ g1 _ hL1).mono ?_
  rintro e wf ⟨rfl, hBf⟩
  rw [hyy]
  replace hL1 := hL1.sv (Sv.of (X := fun _ => False) hBf) id
  replace hL2 := hL2.sv (Sv.of (X := fun _ => False) hBf) id
  replace hB := hB.trans (hBf.mono hB.size)
  clear hBf
  go_simp
  go_wp2_with fail
  go_ret
  exact ⟨rfl, hB⟩
theorem full_true (f0 f1 : Nat → Nat) (z : Int) (w : World) (hT : Tab w) (B0 : ∀ i, i < 16 → f0 i < 256) (B1 : ∀ i, i < 10 → f1 i < 256) (_hz : (Lit.int .i64 z).wf = true) :
  Calls Tryd.prog 5 #[.agg (row 16 (b8 f0)), .agg (row 10 (b8 f1)), .int .i64 z] w fun e w' => e = .returned (.bool true) ∧ Below w.heap.size w w' := by
 by_cases h : z ≤ 0
 ·exact full_neg f0 f1 z h w hT B0 B1
 obtain ⟨c, rfl⟩ := Int.eq_ofNat_of_zero_le (show 0 ≤ z by omega)
 exact full_pos f0 f1 c (by omega) (c % 200) rfl w hT B0 B1
end Go.Proofs.YtinejbjndpdcmaaDoor.Lad
