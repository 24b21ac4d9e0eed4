/-
 The statements of layer 13: what their walks share; 'awake' returns true.
-/
import Derived.Test.YtinejbjndpdcmaaDoorLad4
import Derived.Test.YtinejbjndpdcmaaDoorRefKsn
namespace Go.Proofs.YtinejbjndpdcmaaDoor.Lad
open Go.ChangeShapes Go.WideShapes Go.ChangeAt Go.RowKit Mem Dk
open Des (exec_loadR)
theorem taken (w3 : World) (K N : Nat → Nat) :
  Blk ((w3.alloc (.cells (row 16 (b8 fun _ => 0)) 27)).alloc (.cells (row 10 (b8 fun _ => 0)) 28)) w3.heap.size 27 (row 16 (b8 fun _ => 0)) ∧
  Blk (((w3.alloc (.cells (row 16 (b8 fun _ => 0)) 27)).alloc (.cells (row 10 (b8 fun _ => 0)) 28)).setRow w3.heap.size (row 16 (b8 K))) (w3.heap.size + 1) 28 (row 10 (b8 fun _ => 0)) ∧
  Blk ((((w3.alloc (.cells (row 16 (b8 fun _ => 0)) 27)).alloc (.cells (row 10 (b8 fun _ => 0)) 28)).setRow w3.heap.size (row 16 (b8 K))).setRow (w3.heap.size + 1) (row 10 (b8 N))) w3.heap.size 27 (row 16 (b8 K)) ∧
  Blk ((((w3.alloc (.cells (row 16 (b8 fun _ => 0)) 27)).alloc (.cells (row 10 (b8 fun _ => 0)) 28)).setRow w3.heap.size (row 16 (b8 K))).setRow (w3.heap.size + 1) (row 10 (b8 N))) (w3.heap.size + 1) 28 (row 10 (b8 N)) ∧
  Below w3.heap.size w3 ((((w3.alloc (.cells (row 16 (b8 fun _ => 0)) 27)).alloc (.cells (row 10 (b8 fun _ => 0)) 28)).setRow w3.heap.size (row 16 (b8 K))).setRow (w3.heap.size + 1) (row 10 (b8 N))) ∧
  (w3.alloc (.cells (row 16 (b8 fun _ => 0)) 27)).heap.size = w3.heap.size + 1 := by
 have h5 : Blk ((w3.alloc (.cells (row 16 (b8 fun _ => 0)) 27)).alloc (.cells (row 10 (b8 fun _ => 0)) 28)) w3.heap.size 27 (row 16 (b8 fun _ => 0)) := (Blk.fresh _ _ _).alloc _
 have h6 : Blk ((w3.alloc (.cells (row 16 (b8 fun _ => 0)) 27)).alloc (.cells (row 10 (b8 fun _ => 0)) 28)) (w3.heap.size + 1) 28 (row 10 (b8 fun _ => 0)) := by simpa using Blk.fresh (w3.alloc (.cells (row 16 (b8 fun _ => 0)) 27)) 28 (row 10 (b8 fun _ => 0))
 have h6' := h6.otherRow w3.heap.size (row 16 (b8 K)) (by omega)
 have hB : Below w3.heap.size w3 ((w3.alloc (.cells (row 16 (b8 fun _ => 0)) 27)).alloc (.cells (row 10 (b8 fun _ => 0)) 28)) := ((Below.refl _ _).alloc (Nat.le_refl _) _).alloc (by simp) _
 exact ⟨h5, h6', (h5.setRow _).otherRow _ _ (by omega), h6'.setRow _, below_setRow' (below_setRow' hB (Nat.le_refl _) _) (by omega) _, size_up _ _⟩
def kE : Nat → Nat := fun i => if i = 0 then 1 else 0
def nE : Nat → Nat := fun i => if i = 0 then 2 else 0
theorem kE_by : ∀ i, i < 16 → kE i < 256 := fun i _ => by unfold kE; split <;> omega
theorem nE_by : By10 nE := fun i _ => by unfold nE; split <;> omega
theorem next_three (w : World) : Calls Tryd.prog 7 #[.int .i64 3] w fun e w' => e = .returned (.tuple #[.int .i64 4, .bool true]) ∧ w = w' :=
 (next_in 3 (by omega) w).mono (by
  rintro e w' ⟨⟨r, hr, rfl⟩, rfl⟩
  have e2 : r = 4 := hr.uniq (next_few (by omega))
  subst e2
  exact ⟨rfl, rfl⟩)
theorem next_top (w : World) : Calls Tryd.prog 7 #[.int .i64 2097151] w fun e w' => e = .returned (.tuple #[.int .i64 0, .bool false]) ∧ w = w' :=
 (next_in 2097151 (by omega) w).mono (by
  rintro e w' ⟨⟨r, hr, rfl⟩, rfl⟩
  refine ⟨?_, rfl⟩
  have h1 := hr.1
  unfold nxE
  rw [if_neg (by omega)])
theorem next_one (c : Nat) (hc : c < 1023) (w : World) : Calls Tryd.prog 7 #[.int .i64 c] w fun e w' => e = .returned (.tuple #[.int .i64 (c + 1 : Nat), .bool true]) ∧ w = w' :=
 (next_in c (by omega) w).mono (by
  rintro e w' ⟨⟨r, hr, rfl⟩, rfl⟩
  have e2 : r = c + 1 := hr.uniq (next_few hc)
  subst e2
  refine ⟨?_, rfl⟩
  unfold nxE
  rw [if_pos (by omega)])
set_option maxRecDepth 100000 in
set_option maxHeartbeats 400000 in
theorem awake13_any (w : World) (hT : Tab w) : Calls Tryd.prog 8 #[] w fun e w' => e = .returned (.bool true) ∧ Below w.heap.size w w' := by
 have hl2 := hT.lt
 have HT := hid hT
 clear hT
 go_enter Tryd.func8, Tryd.ntmps8
 go_wp2_with (first
  | (with_reducible refine Des.wpl_build rfl 27 [(0, .const (.int .u8 1))] rfl (row 16 (b8 kE)) (by kernel_rfl) ?_)
  | (with_reducible refine Des.wpl_build rfl 28 [(0, .const (.int .u8 2))] rfl (row 10 (b8 nE)) (by kernel_rfl) ?_)
  | (go_at_call 10; refine (new_any kE nE kE_by nE_by _).mono ?_; rintro e w1 ⟨g, hg, rfl, hL1, hB1⟩; have hg2 : g ≠ 2 := (by omega); have HT1 := hid (HT.out.below hB1 hl2); go_simp)
  | (go_at_call 16; refine (full_any _ _ _ _ g _ hL1).mono ?_; rintro e w2 ⟨rfl, hB2⟩; rw [many_zero]; have hL2 := Term.sv hL1 (Sv.of (X := fun _ => False) hB2) id; have HT2 := hid (HT1.out.below hB2 HT1.out.lt); have HB2 := hid (hB1.trans (hB2.mono hB1.size)); clear hL1 hB1 hB2 HT1; go_simp)
  | (go_at_call 12; refine (take_c kE (atF nE 0) kE_by (atF_lt nE_by 0) 0 1 rfl (by omega) g _ hL2 HT2.out hg2).mono ?_; rintro e w3 ⟨rfl, hL3, hS3⟩; have HB3 := hid (hS3.below HB2.out (fun q hq => by rw [hq]; exact hg) HB2.out.size); obtain ⟨h5, h6, h7, h8, hB4, hsz3⟩ := taken w3 (kD kE (atF nE 0) 1) (atF (atF nE 0) 1); clear hL2 HB2 HT2 hS3; go_simp)
  | (with_reducible refine wpl_alloc rfl 27 rfl _ z16 ?_)
  | (with_reducible refine wpl_alloc rfl 28 rfl _ z10 ?_; rw [hsz3])
  | (with_reducible refine wpl_store rfl 27 _ _ rfl _ _ rfl rfl 27 _ h5 (i16' _) (by simp [row_size]) (one_b8 _ _) ?_)
  | (with_reducible refine wpl_store rfl 28 _ _ rfl _ _ rfl rfl 28 _ h6 (i10' _) (by simp [row_size]) (one_b8 _ _) ?_))
 have hL4 : Term _ g kE (atF nE 0) 1 := Term.sv (t := 1) hL3 (Sv.of (X := fun _ => False) hB4) id
 have HB4 := hid (HB3.out.trans (hB4.mono HB3.out.size))
 clear h5 h6 h7 hB4 HB3 hL3
 generalize (World.setRow (World.setRow _ w3.heap.size _) (w3.heap.size + 1) _) = w4 at *
 refine (next_three _).mono ?_
 rintro e w' ⟨rfl, rfl⟩
 go_simp
 go_wp2_with fail
 refine (next_top _).mono ?_
 rintro e w' ⟨rfl, rfl⟩
 go_simp
 go_wp2_with (first
  | ((with_reducible refine wpg_val ?_ _ (exec_load 28 _ rfl _ rfl 28 10 _ h8 5 Tryd.underlying28 i10) ?_); exact rfl)
  | (go_at_call 17; refine (rcnt_any _ (atF_lt (atF_lt nE_by 0) 1) _).mono ?_; rintro e w5 ⟨rfl, hB5⟩; rw [cnt_at (by omega)]; have hL5 : Term w5 g kE (atF nE 0) 1 := Term.sv (t := 1) hL4 (Sv.of (X := fun _ => False) hB5) id; have HB5 := hid (HB4.out.trans (hB5.mono HB4.out.size)); clear hL4 HB4 hB5 h8; go_simp)
  | (go_at_call 16; refine (full_any _ _ _ _ g _ hL5).mono ?_; rintro e w6 ⟨rfl, hB6⟩; rw [many_one]; have HB6 := hid (HB5.out.trans (hB6.mono HB5.out.size)); clear hL5 HB5 hB6; go_simp))
 go_ret
 exact ⟨rfl, HB6.out⟩
end Go.Proofs.YtinejbjndpdcmaaDoor.Lad
