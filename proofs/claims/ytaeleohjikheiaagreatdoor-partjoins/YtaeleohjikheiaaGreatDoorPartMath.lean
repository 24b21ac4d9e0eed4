/-
  Bytes' parity, and keys put together: the mathematics of layer 9.
-/
import Derived.Test.YtaeleohjikheiaaGreatDoorModeX
namespace Go.Proofs.YtaeleohjikheiaaGreatDoor.Pt
open Mem Md
/-- how many bits are 1, of a byte -/
def pc (b : Nat) : Nat := b % 2 + b / 2 % 2 + b / 4 % 2 + b / 8 % 2 + b / 16 % 2 + b / 32 % 2 + b / 64 % 2 + b / 128 % 2
/-- a byte made odd -/
def od (b : Nat) : Nat := if pc b % 2 = 0 then b ^^^ 1 else b
def odF (f : Nat → Nat) : Nat → Nat := fun i => od (f i)
theorem pc_le (b : Nat) : pc b ≤ 8 := by unfold pc; omega
theorem od_lt : ∀ b, b < 256 → od b < 256 := by decide +kernel
theorem od_odd : ∀ b, b < 256 → pc (od b) % 2 = 1 := by decide +kernel
theorem od_od : ∀ b, b < 256 → od (od b) = od b := by decide +kernel
theorem od_half : ∀ b, b < 256 → od b / 2 = b / 2 := by decide +kernel
theorem od_same : ∀ b, b < 256 → pc b % 2 = 1 → od b = b := fun b _ h => by unfold od; rw [if_neg (by omega)]
theorem od_up : ∀ b, b < 256 → pc b % 2 = 0 → (if b % 2 = 1 then b - 1 else b + 1) = od b := by decide +kernel
theorem half_od : ∀ b, b < 256 → od b = od (b / 2 * 2) := by decide +kernel
theorem od_eq {a b : Nat} (ha : a < 256) (hb : b < 256) : od a = od b ↔ a / 2 = b / 2 := by
  constructor
  · intro h
    rw [← od_half a ha, ← od_half b hb, h]
  · intro h
    rw [half_od a ha, half_od b hb, h]
theorem odF_lt {n : Nat} {f : Nat → Nat} (hf : ∀ i, i < n → f i < 256) : ∀ i, i < n → odF f i < 256 := fun i hi => od_lt _ (hf i hi)
/-- all of the first n bytes are odd -/
def AllOdd (n : Nat) (f : Nat → Nat) : Prop := ∀ i, i < n → pc (f i) % 2 = 1
/-- byte i is the first one that isn't -/
def EvenAt (n : Nat) (f : Nat → Nat) (i : Nat) : Prop := i < n ∧ pc (f i) % 2 = 0 ∧ ∀ j, j < i → pc (f j) % 2 = 1
theorem odd_or (f : Nat → Nat) : ∀ n, AllOdd n f ∨ ∃ i, EvenAt n f i
  | 0 => .inl fun i hi => by omega
  | n + 1 => by
    rcases odd_or f n with h | ⟨i, h1, h2, h3⟩
    · by_cases he : pc (f n) % 2 = 0
      · exact .inr ⟨n, by omega, he, h⟩
      · refine .inl fun i hi => ?_
        by_cases hin : i = n
        · subst hin; omega
        · exact h i (by omega)
    · exact .inr ⟨i, by omega, h2, h3⟩
theorem odF_all {n : Nat} {f : Nat → Nat} (hf : ∀ i, i < n → f i < 256) : AllOdd n (odF f) := fun i hi => od_odd _ (hf i hi)
theorem xr_half {a b c : Nat} (ha : a < 256) (hb : b < 256) (hc : c < 256) : od (a ^^^ b) = od (a ^^^ c) ↔ b / 2 = c / 2 := by
  rw [od_eq (Nat.xor_lt_two_pow (n := 8) ha hb) (Nat.xor_lt_two_pow (n := 8) ha hc)]
  have e : ∀ x y : Nat, (x ^^^ y) / 2 = x / 2 ^^^ y / 2 := fun x y => by
    have := Nat.shiftRight_xor_distrib (a := x) (b := y) (i := 1)
    simpa [Nat.shiftRight_eq_div_pow] using this
  rw [e, e]
  constructor
  · intro h
    have := congrArg (fun z => a / 2 ^^^ z) h
    simpa [← Nat.xor_assoc] using this
  · intro h; rw [h]
/-- a key's length may be -/
def fit9 (k n : Nat) : Prop := (k = 1 ∨ k = 2) ∧ (n = 16 ∨ n = 24 ∨ (k = 1 ∧ n = 32))
instance (k n : Nat) : Decidable (fit9 k n) := by unfold fit9; infer_instance
end Go.Proofs.YtaeleohjikheiaaGreatDoor.Pt
