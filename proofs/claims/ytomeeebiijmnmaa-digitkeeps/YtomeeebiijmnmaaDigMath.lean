/-
  Digits: what one stands for, the first byte that is none, the check digit; plain mathematics.
-/
import Derived.Test.YtomeeebiijmnmaaStrF
namespace Go.Proofs.Ytomeeebiijmnmaa.Dg
open Mem
/-- what a hexadecimal digit stands for; 99: it is none -/
def dv (c : Nat) : Nat := if 48 ≤ c ∧ c ≤ 57 then c - 48 else if 65 ≤ c ∧ c ≤ 70 then c - 55 else 99
/-- the same, below 0 if it is none -/
def wv (c : Nat) : Int := if dv c = 99 then -1 else (dv c : Int)
/-- the digit of a number below 16 -/
def dg (n : Nat) : Nat := if n < 10 then 48 + n else 55 + n
theorem dv_cases (c : Nat) : dv c < 16 ∨ dv c = 99 := by
  unfold dv
  split
  · omega
  · split <;> omega
theorem dv_dg {n : Nat} (h : n < 16) : dv (dg n) = n := by
  unfold dv dg
  by_cases h1 : n < 10
  · rw [if_pos h1, if_pos (by omega)]; omega
  · rw [if_neg h1, if_neg (by omega), if_pos (by omega)]; omega
theorem dg_dv {c : Nat} (h : dv c < 16) : dg (dv c) = c := by
  unfold dv at h ⊢
  unfold dg
  split at h <;> rename_i h1
  · rw [if_pos h1, if_pos (by omega)]; omega
  · split at h <;> rename_i h2
    · rw [if_neg h1, if_pos h2, if_neg (by omega)]; omega
    · omega
theorem dg_lt {n : Nat} (h : n < 16) : dg n < 256 := by unfold dg; split <;> omega
theorem wv_lt {c : Nat} (h : dv c < 16) : wv c = (dv c : Int) := by unfold wv; rw [if_neg (by omega)]
theorem wv_no {c : Nat} (h : 16 ≤ dv c) : wv c = -1 := by unfold wv; rw [if_pos]; rcases dv_cases c with h' | h' <;> omega
/-- each of the n bytes is a digit below the base -/
def AllD (base n : Nat) (f : Nat → Nat) : Prop := ∀ i, i < n → dv (f i) < base
/-- byte i is the first one that is none -/
def BadD (base n : Nat) (f : Nat → Nat) (i : Nat) : Prop := i < n ∧ (∀ j, j < i → dv (f j) < base) ∧ base ≤ dv (f i)
theorem allD_or (base : Nat) (f : Nat → Nat) (n : Nat) : AllD base n f ∨ ∃ i, BadD base n f i := by
  induction n with
  | zero => exact .inl fun i hi => by omega
  | succ n ih =>
    rcases ih with h | ⟨i, h1, h2, h3⟩
    · by_cases hn : dv (f n) < base
      · exact .inl fun i hi => by
          rcases Nat.lt_or_ge i n with h' | h'
          · exact h i h'
          · have : i = n := by omega
            subst this; exact hn
      · exact .inr ⟨n, by omega, h, by omega⟩
    · exact .inr ⟨i, by omega, h2, h3⟩
/-- the digits of bytes -/
def hexF (f : Nat → Nat) (i : Nat) : Nat := dg (if i % 2 = 0 then f (i / 2) / 16 else f (i / 2) % 16)
theorem hexF_lt {f : Nat → Nat} (hf : ∀ i, f i < 256) (i : Nat) : hexF f i < 256 := by
  unfold hexF
  apply dg_lt
  have := hf (i / 2)
  split <;> omega
/-- the bytes of digits -/
def unhF (f : Nat → Nat) (i : Nat) : Nat := 16 * dv (f (2 * i)) + dv (f (2 * i + 1))
theorem unhF_lt {n : Nat} {f : Nat → Nat} (h : AllD 16 n f) {i : Nat} (hi : 2 * i + 1 < n) : unhF f i < 256 := by
  have h1 := h (2 * i) (by omega)
  have h2 := h (2 * i + 1) hi
  unfold unhF
  omega
theorem hex_all (n : Nat) (f : Nat → Nat) (hf : ∀ i, i < n → f i < 256) : AllD 16 (2 * n) (hexF f) := by
  intro i hi
  have h := hf (i / 2) (by omega)
  unfold hexF
  split
  · rw [dv_dg (by omega)]; omega
  · rw [dv_dg (by omega)]; omega
theorem unh_hex (f : Nat → Nat) (i : Nat) (hf : f i < 256) : unhF (hexF f) i = f i := by
  unfold unhF hexF
  rw [if_pos (by omega), if_neg (by omega), show 2 * i / 2 = i by omega, show (2 * i + 1) / 2 = i by omega, dv_dg (by omega), dv_dg (by omega)]
  omega
/-- what digit i of L adds to the sum: every other one from the last one on is doubled -/
def cd (L : Nat) (f : Nat → Nat) (i : Nat) : Nat := if (L - i) % 2 = 1 then (if 4 < dv (f i) then 2 * dv (f i) - 9 else 2 * dv (f i)) else dv (f i)
def sumD (c : Nat → Nat) : Nat → Nat
  | 0 => 0
  | k + 1 => sumD c k + c k
/-- the check digit's number -/
def chk (L : Nat) (f : Nat → Nat) : Nat := (10 - sumD (cd L f) L % 10) % 10
theorem chk_lt (L : Nat) (f : Nat → Nat) : chk L f < 10 := by unfold chk; omega
theorem cd_lt {L : Nat} {f : Nat → Nat} {i : Nat} (h : dv (f i) < 10) : cd L f i < 10 := by
  unfold cd
  split
  · split <;> omega
  · omega
theorem sumD_le {c : Nat → Nat} {n : Nat} (h : ∀ i, i < n → c i < 10) : ∀ k, k ≤ n → sumD c k ≤ 9 * k := by
  intro k hk
  induction k with
  | zero => simp [sumD]
  | succ k ih => have := ih (by omega); have := h k (by omega); simp only [sumD]; omega
theorem sumD_ext {c d : Nat → Nat} {n : Nat} (h : ∀ i, i < n → c i = d i) : ∀ k, k ≤ n → sumD c k = sumD d k := by
  intro k hk
  induction k with
  | zero => rfl
  | succ k ih => simp only [sumD]; rw [ih (by omega), h k (by omega)]
/-- with the check digit and a 0 behind it the check digit is 0 -/
theorem chk_chk (L : Nat) (f g : Nat → Nat) (hg : ∀ i, i < L → g i = f i) (hc : dv (g L) = chk L f) (h0 : dv (g (L + 1)) = 0) : chk (L + 2) g = 0 := by
  have e : sumD (cd (L + 2) g) L = sumD (cd L f) L := sumD_ext (n := L) (fun i hi => by
    unfold cd
    rw [hg i hi]
    have : (L + 2 - i) % 2 = (L - i) % 2 := by omega
    rw [this]) L (Nat.le_refl _)
  have e1 : cd (L + 2) g L = chk L f := by unfold cd; rw [if_neg (by omega), hc]
  have e2 : cd (L + 2) g (L + 1) = 0 := by unfold cd; rw [if_pos (by omega), h0]; rfl
  have : sumD (cd (L + 2) g) (L + 2) = sumD (cd L f) L + chk L f + 0 := by
    show sumD (cd (L + 2) g) L + cd (L + 2) g L + cd (L + 2) g (L + 1) = _
    rw [e, e1, e2]
  unfold chk at *
  rw [this]
  omega
/-- digit by digit the sum's rest by 10; back: the difference's -/
def modF (f g : Nat → Nat) (back : Bool) (i : Nat) : Nat := dg ((dv (f i) + if back then 10 - dv (g i) else dv (g i)) % 10)
theorem modF_lt (f g : Nat → Nat) (b : Bool) (i : Nat) : modF f g b i < 256 := dg_lt (by omega)
theorem mod_all (n : Nat) (f g : Nat → Nat) (b : Bool) : AllD 10 n (modF f g b) := fun i _ => by
  unfold modF
  rw [dv_dg (by omega)]
  omega
theorem mod_mod {n : Nat} {f g : Nat → Nat} (hf : AllD 10 n f) (hg : AllD 10 n g) {i : Nat} (hi : i < n) : modF (modF f g false) g true i = f i := by
  have h1 := hf i hi
  have h2 := hg i hi
  unfold modF
  rw [dv_dg (by split <;> omega)]
  simp only [Bool.false_eq_true, if_false, if_true]
  have e : ((dv (f i) + dv (g i)) % 10 + (10 - dv (g i))) % 10 = dv (f i) := by omega
  rw [e, dg_dv (by omega)]
/-- the first k digits of a number, the lowest first -/
def numF (n : Nat) (i : Nat) : Nat := dg (n / 10 ^ i % 10)
theorem num_all (n k : Nat) : AllD 10 k (numF n) := fun i _ => by
  unfold numF
  rw [dv_dg (by omega)]
  omega
theorem numF_lt (n i : Nat) : numF n i < 256 := dg_lt (by omega)
end Go.Proofs.Ytomeeebiijmnmaa.Dg
