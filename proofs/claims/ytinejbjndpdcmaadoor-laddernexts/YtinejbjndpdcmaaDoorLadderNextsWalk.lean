/-
 LadderNexts returns true: its walk.
-/
import Derived.Test.YtinejbjndpdcmaaDoorLaw13
namespace Go.Proofs.YtinejbjndpdcmaaDoor.Lad
open Go.ChangeShapes Go.WideShapes Go.ChangeAt Go.RowKit Mem Dk
set_option maxRecDepth 100000 in
set_option maxHeartbeats 1000000 in
theorem nexts_out (z : Int) (hz : z < 0 ∨ 2097152 ≤ z) (w : World) (hT : Tab w) :
  Calls Tryd.prog 3 #[.int .i64 z] w fun e w' => e = .returned (.bool true) ∧ Below w.heap.size w w' := by
 have hnx := hid (next_out z hz w)
 have haw := hid (awake13_any w hT)
 rcases hz with h | h
 ·go_enter Tryd.func3, Tryd.ntmps3
  go_wp2_with (first
   | (go_at_call 7; refine hnx.out.mono ?_; rintro e w' ⟨rfl, rfl⟩; go_simp)
   | (go_at_call 8; refine haw.out.mono ?_; rintro e w1 ⟨rfl, hB⟩; go_simp))
  go_ret
  exact ⟨rfl, hB⟩
 have h0 : ¬ z < 0 := by omega
 go_enter Tryd.func3, Tryd.ntmps3
 go_wp2_with (first
  | (go_at_call 7; refine hnx.out.mono ?_; rintro e w' ⟨rfl, rfl⟩; go_simp)
  | (go_at_call 8; refine haw.out.mono ?_; rintro e w1 ⟨rfl, hB⟩; go_simp))
 go_ret
 exact ⟨rfl, hB⟩
set_option maxRecDepth 100000 in
set_option maxHeartbeats 1000000 in
theorem nexts_in (c : Nat) (hc : c < 2097152) (w : World) (hT : Tab w) :
  Calls Tryd.prog 3 #[.int .i64 c] w fun e w' => e = .returned (.bool true) ∧ Below w.heap.size w w' := by
 have hnx := hid (next_in c hc w)
 have haw := hid (awake13_any w hT)
 have hd1 : decide ((c : Int) < 0) = false := decide_eq_false (by omega)
 have hd2 : decide ((2097152 : Int) ≤ (c : Int)) = false := decide_eq_false (by omega)
 go_enter Tryd.func3, Tryd.ntmps3
 go_wp2_with fail
 refine hnx.out.mono ?_
 rintro e w' ⟨⟨r, hr, rfl⟩, rfl⟩
 obtain ⟨r1, r2, r3, r4⟩ := hr
 have R3 := hid r3
 have R4 := hid r4
 clear r3 r4 hnx
 by_cases hr : r < 2097152
 ·rw [show nxE r = .returned (.tuple #[.int .i64 (r : Nat), .bool true]) by unfold nxE; rw [if_pos hr]]
  go_simp
  go_wp2_with (go_at_call 8; refine haw.out.mono ?_; rintro e w1 ⟨rfl, hB⟩; go_simp)
  have HB := hid hB
  clear hB haw
  go_loopw [5] (fun i wr => ∃ m : Nat, c < m ∧ m ≤ r ∧ i = .int .i64 m ∧ wr = w1) (fun i _ => r - (intOf i).toNat)
  case atStart => exact ⟨c + 1, by omega, by omega, val_int (by omega), rfl⟩
  case round =>
   obtain ⟨m, m1, m2, rfl, rfl⟩ := hrel
   have hd3 : decide ((m : Int) < 2097152) = true := decide_eq_true (by omega)
   have hon := rones_any m (by omega)
   by_cases hm : m < r
   ·have h4 := R4.out m m1 hm
    generalize Pop.ones 24 m = o at *
    have hd4 : decide ((10 : Int) < (o : Int)) = true := decide_eq_true (by omega)
    go_wp2_with (go_at_call 9; refine (hon _).mono ?_; rintro e w' ⟨rfl, rfl⟩; clear hon; go_simp)
    exact ⟨⟨m + 1, by omega, by omega, val_int (by omega), trivial⟩, by simp [intOf]; omega⟩
   obtain rfl : m = r := by omega
   have h4 := R3.out
   generalize Pop.ones 24 m = o at *
   have hd4 : decide ((10 : Int) < (o : Int)) = false := decide_eq_false (by omega)
   have hd5 : ((m : Int) == 2097152) = false := by simp; omega
   clear h4
   go_wp2_with (go_at_call 9; refine (hon _).mono ?_; rintro e w' ⟨rfl, rfl⟩; clear hon; go_simp)
   go_ret
   exact ⟨rfl, HB.out⟩
 rw [show nxE r = .returned (.tuple #[.int .i64 0, .bool false]) by unfold nxE; rw [if_neg hr]]
 obtain rfl : r = 2097152 := by omega
 go_simp
 go_wp2_with (go_at_call 8; refine haw.out.mono ?_; rintro e w1 ⟨rfl, hB⟩; go_simp)
 have HB := hid hB
 clear hB haw
 go_loopw [5] (fun i wr => ∃ m : Nat, c < m ∧ m ≤ 2097152 ∧ i = .int .i64 m ∧ wr = w1) (fun i _ => 2097152 - (intOf i).toNat)
 case atStart => exact ⟨c + 1, by omega, by omega, val_int (by omega), rfl⟩
 case round =>
  obtain ⟨m, m1, m2, rfl, rfl⟩ := hrel
  by_cases hm : m < 2097152
  ·have h4 := R4.out m m1 hm
   have hd3 : decide ((m : Int) < 2097152) = true := decide_eq_true (by omega)
   have hon := rones_any m (by omega)
   generalize Pop.ones 24 m = o at *
   have hd4 : decide ((10 : Int) < (o : Int)) = true := decide_eq_true (by omega)
   go_wp2_with (go_at_call 9; refine (hon _).mono ?_; rintro e w' ⟨rfl, rfl⟩; clear hon; go_simp)
   exact ⟨⟨m + 1, by omega, by omega, val_int (by omega), trivial⟩, by simp [intOf]; omega⟩
  obtain rfl : m = 2097152 := by omega
  go_wp2_with fail
  go_ret
  exact ⟨rfl, HB.out⟩
theorem nexts_true (z : Int) (w : World) (hT : Tab w) (_hz : (Lit.int .i64 z).wf = true) :
  Calls Tryd.prog 3 #[.int .i64 z] w fun e w' => e = .returned (.bool true) ∧ Below w.heap.size w w' := by
 by_cases h : z < 0 ∨ 2097152 ≤ z
 ·exact nexts_out z h w hT
 obtain ⟨c, rfl⟩ := Int.eq_ofNat_of_zero_le (show 0 ≤ z by omega)
 exact nexts_in c (by omega) w hT
end Go.Proofs.YtinejbjndpdcmaaDoor.Lad
