/-
 What the functions of package gf return, of whatever bytes: contracts over the loaded program.
-/
import Derived.Test.YtlmnoapoofmmnaaGreatDoorRows
import Derived.WalkKit
import Derived.ProofKit
import Derived.OpenShut
import Derived.Outline
import Derived.WalkLawsBesides
import Derived.Deep.QuietTactic
import Derived.BigQuiet
import Derived.Test.YtlmnoapoofmmnaaGreatDoorGfMath
namespace Go.Proofs.YtlmnoapoofmmnaaGreatDoor.Gf
open Go.ChangeShapes Go.WideShapes Go.ChangeAt Go.RowKit
theorem hid {p : Prop} (h : p) : Hid p := h
theorem val_int {k : IntKind} {a b : Int} (h : a = b) : Value.int k a = Value.int k b := by rw [h]
theorem ret_int {k : IntKind} {a b : Int} (h : a = b) : Ending.returned (.int k a) = .returned (.int k b) := by rw [h]
theorem tx_int : ∀ n < 256, bits BinOp.xor IntKind.u8 ((n : Nat) * 2 % 256 : Int) (bits BinOp.and IntKind.u8 27 (-((n : Nat) / 128 : Int) % 256)) = ((tx n : Nat) : Int) := by decide +kernel
theorem timesX_any (n : Nat) (hn : n < 256) (w : World) :
  Calls Tryz.prog 115 #[.int .u8 n] w fun e w' => e = .returned (.int .u8 (tx n : Nat)) ∧ w = w' := by
 go_enter Tryz.func115, Tryz.ntmps115
 go_wp2
 go_ret
 exact ⟨ret_int (tx_int n hn), rfl⟩
theorem turn0 : ∀ n < 256, bits BinOp.or IntKind.u8 (n : Nat) ((n : Nat) / 256 : Int) = ((turn n 0 : Nat) : Int) := by decide +kernel
theorem turn1 : ∀ n < 256, bits BinOp.or IntKind.u8 ((n : Nat) * 2 % 256 : Int) ((n : Nat) / 128 : Int) = ((turn n 1 : Nat) : Int) := by decide +kernel
theorem turn2 : ∀ n < 256, bits BinOp.or IntKind.u8 ((n : Nat) * 4 % 256 : Int) ((n : Nat) / 64 : Int) = ((turn n 2 : Nat) : Int) := by decide +kernel
theorem turn3 : ∀ n < 256, bits BinOp.or IntKind.u8 ((n : Nat) * 8 % 256 : Int) ((n : Nat) / 32 : Int) = ((turn n 3 : Nat) : Int) := by decide +kernel
theorem turn4 : ∀ n < 256, bits BinOp.or IntKind.u8 ((n : Nat) * 16 % 256 : Int) ((n : Nat) / 16 : Int) = ((turn n 4 : Nat) : Int) := by decide +kernel
theorem turn6 : ∀ n < 256, bits BinOp.or IntKind.u8 ((n : Nat) * 64 % 256 : Int) ((n : Nat) / 4 : Int) = ((turn n 6 : Nat) : Int) := by decide +kernel
theorem turnLeft_any (n : Nat) (hn : n < 256) (k : Int) (hk : k = 0 ∨ k = 1 ∨ k = 2 ∨ k = 3 ∨ k = 4 ∨ k = 6) (w : World) :
  Calls Tryz.prog 105 #[.int .u8 n, .int .i64 k] w fun e w' => e = .returned (.int .u8 (turn n k.toNat : Nat)) ∧ ∃ q, w' = w.drewN q := by
 rcases hk with rfl | rfl | rfl | rfl | rfl | rfl
 all_goals
  go_enter Tryz.func105, Tryz.ntmps105
  go_wp2
  go_quiet (fail)
  go_wp2
  go_ret
  refine ⟨ret_int ?_, _, rfl⟩
  first | exact turn0 n hn | exact turn1 n hn | exact turn2 n hn | exact turn3 n hn | exact turn4 n hn | exact turn6 n hn
theorem step_int : ∀ x < 256, ∀ b < 256, bits BinOp.and IntKind.u8 ((x : Nat) : Int) (-(bits BinOp.and IntKind.u8 ((b : Nat) : Int) 1) % 256) = ((x &&& ((256 - b % 2) % 256) : Nat) : Int) := by
 intro x hx b hb
 have e : ∀ b < 256, -(bits BinOp.and IntKind.u8 ((b : Nat) : Int) 1) % 256 = (((256 - b % 2) % 256 : Nat) : Int) := by decide +kernel
 rw [e b hb, u8_and_nat _ _ hx (Nat.mod_lt _ (by omega))]
theorem and_lt (x y : Nat) (hx : x < 256) : x &&& y < 256 := Nat.lt_of_le_of_lt Nat.and_le_left hx
theorem step_sum (S X Y : Nat) (hS : S < 256) (hX : X < 256) (hY : Y < 256) :
  bits BinOp.xor IntKind.u8 (S : Int) (bits BinOp.and IntKind.u8 (X : Int) (-(bits BinOp.and IntKind.u8 (Y : Int) 1) % 256)) = ((S ^^^ (X &&& ((256 - Y % 2) % 256)) : Nat) : Int) := by
 rw [step_int X hX Y hY, u8_xor_nat _ _ hS (and_lt _ _ hX)]
set_option maxHeartbeats 400000 in
theorem mul_any (a b : Nat) (ha : a < 256) (hb : b < 256) (w : World) :
  Calls Tryz.prog 102 #[.int .u8 a, .int .u8 b] w fun e w' => e = .returned (.int .u8 (mul a b : Nat)) ∧ w = w' := by
 go_enter Tryz.func102, Tryz.ntmps102
 go_wp2
 go_loop [0, 1, 5, 6] (fun x y s i => ∃ k X Y S : Nat, k ≤ 8 ∧ X < 256 ∧ Y < 256 ∧ S < 256 ∧ Hid (stepTo k (0, a, b) = (S, X, Y)) ∧ x = .int .u8 X ∧ y = .int .u8 Y ∧ s = .int .u8 S ∧ i = .int .i64 k) (fun _ _ _ i => 8 - (intOf i).toNat)
 case atStart => exact ⟨0, a, b, 0, by omega, ha, hb, by omega, hid rfl, rfl, rfl, rfl, rfl⟩
 case round =>
  obtain ⟨k, X, Y, S, hk, hX, hY, hS, H, rfl, rfl, rfl, rfl⟩ := hrel
  by_cases hlt : k < 8
  ·go_wp2_with (go_at_call 115; refine (timesX_any _ hX _).mono ?_; rintro e w' ⟨rfl, rfl⟩)
   refine ⟨⟨k + 1, tx X, Y / 2, S ^^^ (X &&& ((256 - Y % 2) % 256)), by omega, tx_lt X hX, by omega, xor_lt hS (and_lt _ _ hX), ?_, rfl, val_int (by omega), val_int (step_sum S X Y hS hX hY), val_int (by omega)⟩, by simp [intOf]; omega⟩
   exact hid (by show step (stepTo k (0, a, b)) = _; rw [H.out]; rfl)
  go_wp2
  go_ret
  obtain rfl : k = 8 := by omega
  exact ⟨ret_int (by show (S : Int) = ((stepTo 8 (0, a, b)).1 : Nat); rw [H.out]), rfl⟩
set_option maxHeartbeats 400000 in
theorem inv_any (a : Nat) (ha : a < 256) (w : World) :
  Calls Tryz.prog 104 #[.int .u8 a] w fun e w' => e = .returned (.int .u8 (inv a : Nat)) ∧ w = w' := by
 go_enter Tryz.func104, Tryz.ntmps104
 go_wp2
 go_loop [0, 3, 4] (fun x p i => ∃ k X P : Nat, k ≤ 7 ∧ X < 256 ∧ P < 256 ∧ Hid (invTo k (a, 1) = (X, P)) ∧ x = .int .u8 X ∧ p = .int .u8 P ∧ i = .int .i64 k) (fun _ _ i => 7 - (intOf i).toNat)
 case atStart => exact ⟨0, a, 1, by omega, ha, by omega, hid rfl, rfl, rfl, rfl⟩
 case round =>
  obtain ⟨k, X, P, hk, hX, hP, H, rfl, rfl, rfl⟩ := hrel
  by_cases hlt : k < 7
  ·have hm := mul_lt X X hX
   go_wp2_with (go_at_call 102; refine (mul_any _ _ (by assumption) (by assumption) _).mono ?_; rintro e w' ⟨rfl, rfl⟩)
   refine ⟨⟨k + 1, mul X X, mul P (mul X X), by omega, hm, mul_lt _ _ hP, ?_, rfl, rfl, val_int (by omega)⟩, by simp [intOf]; omega⟩
   exact hid (by show (mul (invTo k (a, 1)).1 (invTo k (a, 1)).1, mul (invTo k (a, 1)).2 (mul (invTo k (a, 1)).1 (invTo k (a, 1)).1)) = _; rw [H.out])
  go_wp2
  go_ret
  obtain rfl : k = 7 := by omega
  exact ⟨ret_int (by show (P : Int) = ((invTo 7 (a, 1)).2 : Nat); rw [H.out]), rfl⟩
set_option maxHeartbeats 400000 in
theorem box_any (a : Nat) (ha : a < 256) (w : World) :
  Calls Tryz.prog 89 #[.int .u8 a] w fun e w' => e = .returned (.int .u8 (box a : Nat)) ∧ ∃ q, w' = w.drewN q := by
 have hi := inv_lt a ha
 go_enter Tryz.func89, Tryz.ntmps89
 go_wp2_with (go_at_call 104; refine (inv_any _ ha _).mono ?_; rintro e w' ⟨rfl, rfl⟩)
 go_loopw [4, 5, 8] (fun s _ i wr => ∃ k S q : Nat, k ≤ 5 ∧ S < 256 ∧ Hid (boxTo (inv a) k = S) ∧ s = .int .u8 S ∧ i = .int .i64 k ∧ Hid (wr = w.drewN q)) (fun _ _ i _ => 5 - (intOf i).toNat)
 case atStart => exact ⟨0, 99, 0, by omega, by omega, hid rfl, rfl, rfl, hid rfl⟩
 case round =>
  obtain ⟨k, S, q, hk, hS, H, rfl, rfl, HW⟩ := hrel
  by_cases hlt : k < 5
  ·go_wp2_with (go_at_call 105; refine (turnLeft_any _ hi _ (by omega) _).mono ?_; rintro e w' ⟨rfl, q', rfl⟩)
   refine ⟨⟨k + 1, S ^^^ turn (inv a) k, q + q', by omega, xor_lt hS (turn_lt _ hi k (by omega)), ?_, val_int (u8_xor_nat _ _ hS (turn_lt _ hi k (by omega))), val_int (by omega), ?_⟩, by simp [intOf]; omega⟩
   ·exact hid (by show boxTo (inv a) k ^^^ turn (inv a) k = _; rw [H.out])
   exact hid (by rw [HW.out, World.drewN_drewN])
  go_wp2
  go_ret
  obtain rfl : k = 5 := by omega
  exact ⟨ret_int (by show (S : Int) = ((boxTo (inv a) 5 : Nat) : Int); rw [H.out]), q, HW.out⟩
set_option maxHeartbeats 400000 in
theorem unbox_any (a : Nat) (ha : a < 256) (w : World) :
  Calls Tryz.prog 92 #[.int .u8 a] w fun e w' => e = .returned (.int .u8 (unbox a : Nat)) ∧ ∃ q, w' = w.drewN q := by
 have h1 := turn_lt a ha 1 (by omega)
 have h3 := turn_lt a ha 3 (by omega)
 have h6 := turn_lt a ha 6 (by omega)
 have e : bits .xor .u8 (bits .xor .u8 (bits .xor .u8 ((turn a 1 : Nat) : Int) ((turn a 3 : Nat) : Int)) ((turn a 6 : Nat) : Int)) 5 = ((unaff a : Nat) : Int) := by
  rw [u8_xor_nat _ _ h1 h3, u8_xor_nat _ _ (xor_lt h1 h3) h6]
  exact u8_xor_nat _ 5 (xor_lt (xor_lt h1 h3) h6) (by omega)
 have E := hid e
 clear e
 go_enter Tryz.func92, Tryz.ntmps92
 go_wp2_with (go_at_call 105; refine (turnLeft_any _ ha _ (by omega) _).mono ?_; rintro e w' ⟨rfl, q', rfl⟩)
 rw [E.out]
 refine (inv_any _ (unaff_lt a ha) _).mono ?_
 rintro e w' ⟨rfl, rfl⟩
 go_wp2
 go_ret
 exact ⟨rfl, _, rfl⟩
end Go.Proofs.YtlmnoapoofmmnaaGreatDoor.Gf
