/-
  The mathematics of package mac: a text filled up, a block doubled, the codes.
-/
import Derived.Test.YtmmgimpokpgnaaaGreatDoorMode5
namespace Go.Proofs.YtmmgimpokpgnaaaGreatDoor.Mc
open Mem Bk Md Go.ChangeShapes Go.WideShapes Go.ChangeAt Go.RowKit
/-- the text, 80 and zeros -/
def padF (L : Nat) (f : Nat → Nat) : Nat → Nat := fun i => if i < L then f i else if i = L then 128 else 0
theorem padF_lt {L : Nat} {f : Nat → Nat} (hf : ∀ i, i < L → f i < 256) (i : Nat) : padF L f i < 256 := by
  unfold padF
  split
  · exact hf i (by assumption)
  · split <;> omega
/-- how long a text is that is filled up -/
def padN (L n : Nat) : Nat := (L / n + 1) * n
theorem padN_gt {L n : Nat} (hn : 0 < n) : L < padN L n := by
  unfold padN
  have := Nat.div_add_mod L n
  have h2 := Nat.mod_lt L hn
  rw [Nat.add_mul, Nat.one_mul, Nat.mul_comm]
  omega
theorem padN_le {L n : Nat} : padN L n ≤ L + n := by
  unfold padN
  have := Nat.div_mul_le_self L n
  rw [Nat.add_mul, Nat.one_mul]
  omega
/-- all bits one to the left -/
def sh (n : Nat) (f : Nat → Nat) : Nat → Nat := fun i => (f i * 2 % 256) ||| (if i + 1 < n then f (i + 1) / 128 else 0)
/-- what the last byte is turned by -/
def en (n : Nat) : Nat := if n = 8 then 27 else 135
/-- a block, doubled -/
def dbl (n : Nat) (f : Nat → Nat) : Nat → Nat := fun i => if f 0 / 128 = 1 ∧ i + 1 = n then sh n f i ^^^ en n else sh n f i
theorem or_by : ∀ a, a < 256 → ∀ b, b < 2 → (a * 2 % 256) ||| b < 256 := by decide +kernel
theorem sh_lt {n : Nat} {f : Nat → Nat} (hf : ∀ i, i < n → f i < 256) : ∀ i, i < n → sh n f i < 256 := fun i hi => by
  unfold sh
  split
  · have := hf (i + 1) (by omega)
    exact or_by _ (hf i hi) _ (by omega)
  · exact or_by _ (hf i hi) _ (by omega)
theorem en_lt (n : Nat) : en n < 256 := by unfold en; split <;> omega
theorem dbl_lt {n : Nat} {f : Nat → Nat} (hf : ∀ i, i < n → f i < 256) : ∀ i, i < n → dbl n f i < 256 := fun i hi => by
  unfold dbl
  split
  · exact Nat.xor_lt_two_pow (n := 8) (sh_lt hf i hi) (en_lt n)
  · exact sh_lt hf i hi
theorem dbl_ext {n : Nat} {f g : Nat → Nat} (hn : 0 < n) (h : Eqn n f g) : Eqn n (dbl n f) (dbl n g) := fun i hi => by
  have h0 := h 0 hn
  have hs : sh n f i = sh n g i := by
    unfold sh
    rw [h i hi]
    by_cases h1 : i + 1 < n
    · rw [if_pos h1, if_pos h1, h (i + 1) h1]
    · rw [if_neg h1, if_neg h1]
  unfold dbl
  rw [h0, hs]
theorem own_b : ∀ b, b < 256 → (b * 2 % 256) ||| 0 = b → b = 0 := by decide +kernel
theorem own_b27 : ∀ b, b < 256 → ((b * 2 % 256) ||| 0) ^^^ 27 = b → b / 128 = 0 := by decide +kernel
theorem no_27 : ∀ b, b < 256 → ((b * 2 % 256) ||| 0) ^^^ 27 = 0 → False := by decide +kernel
theorem or_zero : ∀ a, a < 256 → ∀ b, b < 2 → (a * 2 % 256) ||| b = 0 → a * 2 % 256 = 0 ∧ b = 0 := by decide +kernel
/-- a block of 8 bytes that is itself when it is doubled is zeros -/
theorem dbl_self {f : Nat → Nat} (hf : ∀ i, i < 8 → f i < 256) (h : Eqn 8 (dbl 8 f) f) : ∀ i, i < 8 → f i = 0 := by
  have h7 := h 7 (by omega)
  have step : ∀ i, i < 7 → f (i + 1) / 128 = 0 → f i = 0 := fun i hi h1 => by
    have h2 := h i (by omega)
    unfold dbl at h2
    rw [if_neg (by omega)] at h2
    unfold sh at h2
    rw [if_pos (by omega), h1] at h2
    exact own_b _ (hf i (by omega)) h2
  have e7 : f 7 / 128 = 0 := by
    unfold dbl at h7
    by_cases h0 : f 0 / 128 = 1
    · rw [if_pos ⟨h0, rfl⟩] at h7
      unfold sh en at h7
      rw [if_neg (by omega), if_pos rfl] at h7
      exact own_b27 _ (hf 7 (by omega)) h7
    · rw [if_neg (fun h => h0 h.1)] at h7
      unfold sh at h7
      rw [if_neg (by omega)] at h7
      rw [own_b _ (hf 7 (by omega)) h7]
  have e6 := step 6 (by omega) e7
  have e5 := step 5 (by omega) (by rw [e6])
  have e4 := step 4 (by omega) (by rw [e5])
  have e3 := step 3 (by omega) (by rw [e4])
  have e2 := step 2 (by omega) (by rw [e3])
  have e1 := step 1 (by omega) (by rw [e2])
  have e0 := step 0 (by omega) (by rw [e1])
  have e7' : f 7 = 0 := by
    unfold dbl at h7
    rw [if_neg (fun h => by rw [e0] at h; omega)] at h7
    unfold sh at h7
    rw [if_neg (by omega)] at h7
    exact own_b _ (hf 7 (by omega)) h7
  intro i hi
  match i, hi with
  | 0, _ => exact e0
  | 1, _ => exact e1
  | 2, _ => exact e2
  | 3, _ => exact e3
  | 4, _ => exact e4
  | 5, _ => exact e5
  | 6, _ => exact e6
  | 7, _ => exact e7'
  | k + 8, h => omega
/-- a block of 8 bytes whose double is zeros is zeros -/
theorem dbl_zero {f : Nat → Nat} (hf : ∀ i, i < 8 → f i < 256) (h : ∀ i, i < 8 → dbl 8 f i = 0) : ∀ i, i < 8 → f i = 0 := by
  have h0 : ¬ f 0 / 128 = 1 := fun h0 => by
    have h7 := h 7 (by omega)
    unfold dbl at h7
    rw [if_pos ⟨h0, rfl⟩] at h7
    unfold sh en at h7
    rw [if_neg (by omega), if_pos rfl] at h7
    exact no_27 _ (hf 7 (by omega)) h7
  have hs : ∀ i, i < 8 → sh 8 f i = 0 := fun i hi => by
    have := h i hi
    unfold dbl at this
    rw [if_neg (fun h => h0 h.1)] at this
    exact this
  have hlo : ∀ i, i < 8 → f i * 2 % 256 = 0 := fun i hi => by
    have := hs i hi
    unfold sh at this
    split at this
    · have hb := hf (i + 1) (by omega)
      exact (or_zero _ (hf i hi) _ (by omega) this).1
    · exact (or_zero _ (hf i hi) _ (by omega) this).1
  intro i hi
  have h1 := hlo i hi
  have hb := hf i hi
  have h2 : f i / 128 = 0 := by
    rcases Nat.eq_zero_or_pos i with rfl | hp
    · omega
    · have := hs (i - 1) (by omega)
      unfold sh at this
      rw [show i - 1 + 1 = i by omega, if_pos hi] at this
      exact (or_zero _ (hf (i - 1) (by omega)) _ (by omega) this).2
  omega
/-- both turns of a code are alike only of zeros -/
theorem turns_unlike {f : Nat → Nat} (hf : ∀ i, i < 8 → f i < 256) (h : Eqn 8 (dbl 8 f) (dbl 8 (dbl 8 f))) : ∀ i, i < 8 → f i = 0 :=
  dbl_zero hf (dbl_self (dbl_lt hf) h.symm)
end Go.Proofs.YtmmgimpokpgnaaaGreatDoor.Mc
