/-
  'awake' of layer 1's statements returns true.
-/
import Derived.Test.YtnhibbepdlolnaaGfWalks
namespace Go.Proofs.Ytnhibbepdlolnaa.Gf
open Go.ChangeShapes Go.WideShapes Go.ChangeAt Go.RowKit

theorem grown_drewN {w w' : World} (h : Grown w w') (n : Nat) : Grown w (w'.drewN n) := h

theorem awake_any (w : World) :
    Calls Try.prog 8 #[] w fun e w' => e = .returned (.bool true) ∧ ∃ q, w' = w.drewN q := by
  have e1 := hid (show mul 87 131 = 193 by decide +kernel)
  have e2 := hid (show box 0 = 99 by decide +kernel)
  have e3 := hid (show box 83 = 237 by decide +kernel)
  have e4 := hid (show unbox 237 = 83 by decide +kernel)
  have e5 := hid (show inv 1 = 1 by decide +kernel)
  go_enter Try.func8, Try.ntmps8
  go_wp2_with fail
  refine (mul_any 87 131 (by omega) (by omega) _).mono ?_
  rintro e w' ⟨rfl, rfl⟩
  rw [e1.out]
  go_wp2_with fail
  refine (box_any 0 (by omega) _).mono ?_
  rintro e w' ⟨rfl, q1, rfl⟩
  rw [e2.out]
  go_wp2_with fail
  refine (box_any 83 (by omega) _).mono ?_
  rintro e w' ⟨rfl, q2, rfl⟩
  rw [e3.out]
  go_wp2_with fail
  refine (unbox_any 237 (by omega) _).mono ?_
  rintro e w' ⟨rfl, q3, rfl⟩
  rw [e4.out]
  go_wp2_with fail
  refine (inv_any 1 (by omega) _).mono ?_
  rintro e w' ⟨rfl, rfl⟩
  rw [e5.out]
  go_wp2
  go_ret
  exact ⟨rfl, _, rfl⟩
theorem byte_of {a : Int} (h : (Lit.int .u8 a).wf = true) : ∃ n : Nat, n < 256 ∧ a = n := by
  have : 0 ≤ a ∧ a < 256 := by
    simp [Lit.wf, IntKind.min, IntKind.max, IntKind.signed, IntKind.bits] at h
    omega
  exact ⟨a.toNat, by omega, by omega⟩
end Go.Proofs.Ytnhibbepdlolnaa.Gf
