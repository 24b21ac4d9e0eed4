/-
 What mayBe, isPair, unformed and Right of package head return; lockboxref10's Wrong.
-/
import Derived.Test.YtklgngdcihkfjaaDoorHdMath
namespace Go.Proofs.YtklgngdcihkfjaaDoor.Hd
open Mem Go.ChangeShapes Go.WideShapes Go.ChangeAt Go.RowKit
theorem one_any (s : ByteArray) (c : Nat) (w : World) : Calls Tryd.prog 29 #[.int .u8 (c : Int), .string s] w fun e w' => e = .returned (.bool (ixB s c)) ∧ w' = w := by
 go_enter Tryd.func29, Tryd.ntmps29
 go_wp2_with (go_at_call 36; refine (Sh.strings_IndexByte s (c : Int) w).mono ?_; rintro e w' ⟨rfl, rfl⟩)
 go_ret
 refine ⟨?_, rfl⟩
 simp [ixB]
 try rfl
theorem may0 (c : Nat) (hc : c < 256) (w : World) : Calls Tryd.prog 19 #[.int .i64 0, .int .u8 (c : Int)] w fun e w' => e = .returned (.bool (verB c)) ∧ w' = w := by
 go_enter Tryd.func19, Tryd.ntmps19
 go_wp2_with (go_at_call 29; refine (one_any _ c w).mono ?_; rintro e w' ⟨rfl, rfl⟩)
 go_ret
 exact ⟨by rw [← ix_ver c hc]; rfl, rfl⟩
theorem may7 (c : Nat) (hc : c < 256) (w : World) : Calls Tryd.prog 19 #[.int .i64 7, .int .u8 (c : Int)] w fun e w' => e = .returned (.bool (algB c)) ∧ w' = w := by
 go_enter Tryd.func19, Tryd.ntmps19
 go_wp2_with (go_at_call 29; refine (one_any _ c w).mono ?_; rintro e w' ⟨rfl, rfl⟩)
 go_ret
 exact ⟨by rw [← ix_alg c hc]; rfl, rfl⟩
theorem may8 (c : Nat) (hc : c < 256) (w : World) : Calls Tryd.prog 19 #[.int .i64 8, .int .u8 (c : Int)] w fun e w' => e = .returned (.bool (modB c)) ∧ w' = w := by
 go_enter Tryd.func19, Tryd.ntmps19
 go_wp2_with (go_at_call 29; refine (one_any _ c w).mono ?_; rintro e w' ⟨rfl, rfl⟩)
 go_ret
 exact ⟨by rw [← ix_mod c hc]; rfl, rfl⟩
theorem may11 (c : Nat) (hc : c < 256) (w : World) : Calls Tryd.prog 19 #[.int .i64 11, .int .u8 (c : Int)] w fun e w' => e = .returned (.bool (expB c)) ∧ w' = w := by
 go_enter Tryd.func19, Tryd.ntmps19
 go_wp2_with (go_at_call 29; refine (one_any _ c w).mono ?_; rintro e w' ⟨rfl, rfl⟩)
 go_ret
 exact ⟨by rw [← ix_exp c hc]; rfl, rfl⟩
theorem rbool {a b : Bool} (h : a = b) : Ending.returned (Value.bool a) = .returned (Value.bool b) := by rw [h]
theorem dg_eq {c : Nat} {b : Bool} (h : b = true ↔ (48 ≤ (c : Int) ∧ (c : Int) ≤ 57)) : b = dgB c := by
 apply Bool.eq_iff_iff.2
 rw [h]
 simp [dgB]
 omega
theorem pc_eq {c : Nat} {b : Bool} (h : b = true ↔ ((65 ≤ (c : Int) ∧ (c : Int) ≤ 90) ∨ (48 ≤ (c : Int) ∧ (c : Int) ≤ 57))) : b = pcB c := by
 apply Bool.eq_iff_iff.2
 rw [h]
 simp [pcB, dgB]
 omega
theorem may1 (c : Nat) (w : World) : Calls Tryd.prog 19 #[.int .i64 1, .int .u8 (c : Int)] w fun e w' => e = .returned (.bool (dgB c)) ∧ w' = w := by
 go_enter Tryd.func19, Tryd.ntmps19
 go_wp2_with fail
 all_goals
  go_ret
  refine ⟨rbool (dg_eq ?_), rfl⟩
  simp
  omega
theorem may5 (c : Nat) (w : World) : Calls Tryd.prog 19 #[.int .i64 5, .int .u8 (c : Int)] w fun e w' => e = .returned (.bool (pcB c)) ∧ w' = w := by
 go_enter Tryd.func19, Tryd.ntmps19
 go_wp2_with fail
 all_goals
  go_ret
  refine ⟨rbool (pc_eq ?_), rfl⟩
  simp
  omega
theorem may9 (c : Nat) (w : World) : Calls Tryd.prog 19 #[.int .i64 9, .int .u8 (c : Int)] w fun e w' => e = .returned (.bool (pcB c)) ∧ w' = w := by
 go_enter Tryd.func19, Tryd.ntmps19
 go_wp2_with fail
 all_goals
  go_ret
  refine ⟨rbool (pc_eq ?_), rfl⟩
  simp
  omega
theorem may59 (p : Nat) (hp : p = 5 ∨ p = 9) (c : Nat) (w : World) : Calls Tryd.prog 19 #[.int .i64 (p : Int), .int .u8 (c : Int)] w fun e w' => e = .returned (.bool (pcB c)) ∧ w' = w := by
 rcases hp with rfl | rfl
 ·exact may5 c w
 exact may9 c w
set_option maxRecDepth 100000 in
theorem pair_any (p : Nat) (hp : p = 5 ∨ p = 9) (n : Nat) (f : Nat → Nat) (hf : ∀ i, f i < 256) (w : World) : Calls Tryd.prog 21 #[.int .i64 (p : Int), .string (strF n f)] w fun e w' => e = .returned (.bool (prB n f)) ∧ w' = w := by
 have hsz := strF_size n f
 by_cases hn : n = 2
 ·subst hn
  have h0 := byteAt_strF (n := 2) (k := 0) (by omega) (hf 0)
  have h1 := byteAt_strF (n := 2) (k := 1) (by omega) (hf 1)
  have HM := hid (may59 p hp)
  clear hp
  go_enter Tryd.func21, Tryd.ntmps21
  go_wp2_with (first
   | ((with_reducible refine wpg_val ?_ _ (exec_str 9 _ _ rfl (strF 2 f) rfl .i64 _ rfl 0 rfl Tryd.underlying9 (f 0) h0) ?_); exact rfl)
   | ((with_reducible refine wpg_val ?_ _ (exec_str 9 _ _ rfl (strF 2 f) rfl .i64 _ rfl 1 rfl Tryd.underlying9 (f 1) h1) ?_); exact rfl)
   | (go_at_call 19; refine (HM.out _ _).mono ?_; rintro e w' ⟨rfl, rfl⟩))
  all_goals
   go_ret
   refine ⟨rbool ?_, rfl⟩
   unfold prB
   simp [*]
 have hnI : ¬ (n : Int) = 2 := by omega
 go_enter Tryd.func21, Tryd.ntmps21
 go_wp2_with fail
 go_ret
 refine ⟨rbool ?_, rfl⟩
 unfold prB
 simp [hn]
theorem unf_any (p : Int) (w : World) : Calls Tryd.prog 20 #[.int .i64 p] w fun e w' => e = .returned (.iface 53 (.pointer (some ⟨w.heap.size, 0, none⟩))) ∧ Blk w' w.heap.size 56 #[.int .i64 p, .iface 44 (.int .i64 6)] ∧ Below w.heap.size w w' := by
 go_enter Tryd.func20, Tryd.ntmps20
 go_wp2_with fail
 go_ret
 exact ⟨rfl, Blk.fresh _ _ _, (Below.refl _ _).alloc (Nat.le_refl _) _⟩
end Go.Proofs.YtklgngdcihkfjaaDoor.Hd
