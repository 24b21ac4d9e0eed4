/-
 The terminal's registers (layer 13), as numbers go: lowest bits, next counters, and which register has which key behind t keys.
-/
import Derived.Test.YtinejbjndpdcmaaDoorDkMath
import Derived.Test.YtinejbjndpdcmaaDoorPopMath
namespace Go.Proofs.YtinejbjndpdcmaaDoor.Lad
open Pop
def LowAt (c p : Nat) : Prop := c % 2 ^ p = 0 ∧ c / 2 ^ p % 2 = 1
theorem low_ex (k : Nat) : ∀ c, 0 < c → c < 2 ^ k → ∃ p, p < k ∧ LowAt c p := by
 induction k with
 | zero => intro c h0 h1; simp at h1; omega
 | succ k ih =>
  intro c h0 h1
  by_cases h : c % 2 = 1
  ·exact ⟨0, by omega, by simp [LowAt, h, Nat.mod_one]⟩
  have h2 : 2 ^ (k + 1) = 2 * 2 ^ k := by rw [Nat.pow_succ, Nat.mul_comm]
  obtain ⟨p, hp, ha, hb⟩ := ih (c / 2) (by omega) (by omega)
  refine ⟨p + 1, by omega, ?_, ?_⟩
  ·have e : 2 ^ (p + 1) = 2 * 2 ^ p := by rw [Nat.pow_succ, Nat.mul_comm]
   have := Nat.div_add_mod (c / 2) (2 ^ p)
   rw [ha] at this
   have e2 : c = 2 * 2 ^ p * (c / 2 / 2 ^ p) := by rw [Nat.mul_assoc]; omega
   rw [e, e2]; exact Nat.mul_mod_right _ _
  have e : 2 ^ (p + 1) = 2 * 2 ^ p := by rw [Nat.pow_succ, Nat.mul_comm]
  rw [e, ← Nat.div_div_eq_div_mul]; exact hb
theorem bit_dec (x i : Nat) : x.testBit i = decide (x / 2 ^ i % 2 = 1) := Nat.testBit_eq_decide_div_mod_eq
theorem LowAt.below {c p i : Nat} (h : LowAt c p) (hi : i < p) : c / 2 ^ i % 2 = 0 := Dk.bit_zero h.1 hi
theorem LowAt.mod {c p i : Nat} (h : LowAt c p) (hi : i ≤ p) : c % 2 ^ i = 0 := Dk.mod_le h.1 hi
theorem LowAt.pos {c p : Nat} (h : LowAt c p) : 2 ^ p ≤ c := by
 rcases Nat.lt_or_ge c (2 ^ p) with h0 | h0
 ·have := h.2; rw [Nat.div_eq_of_lt h0] at this; omega
 exact h0
theorem LowAt.form {c p : Nat} (h : LowAt c p) : c = 2 ^ p * (2 * (c / 2 ^ (p + 1)) + 1) := by
 have := Nat.div_add_mod c (2 ^ p)
 have e : c / 2 ^ p / 2 = c / 2 ^ (p + 1) := by rw [Nat.div_div_eq_div_mul, Nat.pow_succ]
 have e2 : c / 2 ^ p = 2 * (c / 2 ^ (p + 1)) + 1 := by have := h.2; omega
 rw [← e2]; have := h.1; omega
theorem LowAt.pred {c p : Nat} (h : LowAt c p) : (∀ i, i ≤ p → (c - 1) / 2 ^ i = (c - 1) / 2 ^ i) ∧ (c - 1) / 2 ^ p % 2 = 0 ∧ ∀ i, p < i → (c - 1) / 2 ^ i = c / 2 ^ i := by
 have hp := Nat.two_pow_pos p
 have hf := h.form
 generalize hq : c / 2 ^ (p + 1) = q at hf
 have h1 : (c - 1) / 2 ^ p = 2 * q := by
  rw [hf, show 2 ^ p * (2 * q + 1) - 1 = 2 ^ p * (2 * q) + (2 ^ p - 1) by rw [Nat.mul_add]; omega, Nat.mul_add_div hp, Nat.div_eq_of_lt (by omega)]; rfl
 refine ⟨fun _ _ => rfl, by omega, fun i hi => ?_⟩
 obtain ⟨e, rfl⟩ : ∃ e, i = p + 1 + e := ⟨i - (p + 1), by omega⟩
 rw [Nat.pow_add (m := p + 1), ← Nat.div_div_eq_div_mul, ← Nat.div_div_eq_div_mul, hq, Nat.pow_succ, ← Nat.div_div_eq_div_mul, h1]
 congr 1; omega
theorem LowAt.one {c p : Nat} (h : LowAt c p) {i : Nat} (hi : i < p) : (c - 1) / 2 ^ i % 2 = 1 := by
 have hp := h.pos
 have e : 2 ^ p = 2 ^ i * (2 * 2 ^ (p - i - 1)) := by rw [← Nat.pow_succ', ← Nat.pow_add]; congr 1; omega
 obtain ⟨k, hk⟩ := Nat.dvd_of_mod_eq_zero h.1
 have hi2 := Nat.two_pow_pos i
 have hk0 : 0 < 2 ^ (p - i - 1) * k := by
  rcases Nat.eq_zero_or_pos (2 ^ (p - i - 1) * k) with h0 | h0
  ·have : c = 2 ^ i * (2 * (2 ^ (p - i - 1) * k)) := by rw [hk, e, Nat.mul_assoc, Nat.mul_assoc]
   rw [h0] at this; have := Nat.two_pow_pos p; omega
  exact h0
 have e2 : c = 2 ^ i * (2 * (2 ^ (p - i - 1) * k)) := by rw [hk, e, Nat.mul_assoc, Nat.mul_assoc]
 generalize 2 ^ (p - i - 1) * k = m at *
 rw [e2, show 2 ^ i * (2 * m) - 1 = 2 ^ i * (2 * (m - 1) + 1) + (2 ^ i - 1) by
  obtain ⟨n, rfl⟩ : ∃ n, m = n + 1 := ⟨m - 1, by omega⟩
  rw [Nat.add_sub_cancel, show 2 * (n + 1) = 2 * n + 1 + 1 by omega, Nat.mul_add (2 ^ i) (2 * n + 1) 1]; omega, Nat.mul_add_div hi2, Nat.div_eq_of_lt (a := 2 ^ i - 1) (by omega)]
 omega
theorem LowAt.neg {c p : Nat} (h : LowAt c p) (hc : c < 2 ^ 63) : c &&& (2 ^ 64 - c) = 2 ^ p := by
 have hp := h.pos
 have h0 := Nat.two_pow_pos p
 have hp64 : p < 63 := by
  rcases Nat.lt_or_ge p 63 with h1 | h1
  ·exact h1
  have := Nat.pow_le_pow_right (n := 2) (by omega) h1; omega
 apply Nat.eq_of_testBit_eq
 intro i
 rw [Nat.testBit_and, show 2 ^ 64 - c = 2 ^ 64 - (c - 1 + 1) by congr 1; omega, Nat.testBit_two_pow_sub_succ (by omega), Nat.testBit_two_pow, bit_dec c, bit_dec (c - 1)]
 rcases Nat.lt_trichotomy i p with hi | rfl | hi
 ·have := h.below hi
  simp [this]; omega
 ·have := h.pred.2.1
  have := h.2
  simp [*]; omega
 rw [h.pred.2.2 i hi]
 by_cases h1 : c / 2 ^ i % 2 = 1 <;> simp [h1] <;> omega
theorem LowAt.uniq {c p q : Nat} (h : LowAt c p) (h' : LowAt c q) : p = q := by
 rcases Nat.lt_trichotomy p q with hi | rfl | hi
 ·have := h'.below hi; have := h.2; omega
 ·rfl
 have := h.below hi; have := h'.2; omega
theorem ones_up {n p m : Nat} (h : LowAt n p) (hp : p ≤ 24) (h1 : n ≤ m) (h2 : m < n + 2 ^ p) : ones 24 n ≤ ones 24 m := by
 obtain ⟨e, he⟩ : ∃ e, 24 = p + e := ⟨24 - p, by omega⟩
 have hp0 := Nat.two_pow_pos p
 have hm : m / 2 ^ p = n / 2 ^ p := by
  obtain ⟨d, rfl⟩ : ∃ d, m = n + d := ⟨m - n, by omega⟩
  obtain ⟨k, hk⟩ := Nat.dvd_of_mod_eq_zero h.1
  subst hk
  rw [Nat.mul_add_div hp0, Nat.mul_div_cancel_left _ hp0, Nat.div_eq_of_lt (by omega)]; rfl
 rw [he, ones_add, ones_add p e m, hm, ← ones_mod p n, h.1, ones_zero]
 omega
theorem carry_le {n p : Nat} (h : LowAt n p) (hn : n < 2097152) : n + 2 ^ p ≤ 2097152 := by
 have hp := h.pos
 have hp21 : p < 21 := by
  rcases Nat.lt_or_ge p 21 with h1 | h1
  ·exact h1
  have := Nat.pow_le_pow_right (n := 2) (by omega) h1; omega
 obtain ⟨e, he⟩ : ∃ e, 21 = p + e := ⟨21 - p, by omega⟩
 obtain ⟨k, hk⟩ := Nat.dvd_of_mod_eq_zero h.1
 have h2 : (2097152 : Nat) = 2 ^ p * 2 ^ e := by rw [← Nat.pow_add, ← he]
 rw [h2] at hn ⊢
 subst hk
 have := Nat.lt_of_mul_lt_mul_left hn
 calc 2 ^ p * k + 2 ^ p = 2 ^ p * (k + 1) := by rw [Nat.mul_add, Nat.mul_one]
  _ ≤ 2 ^ p * 2 ^ e := Nat.mul_le_mul_left _ (by omega)
def IsNext (c n : Nat) : Prop := c < n ∧ n ≤ 2097152 ∧ ones 24 n ≤ 10 ∧ ∀ m, c < m → m < n → 10 < ones 24 m
theorem IsNext.uniq {c n m : Nat} (h : IsNext c n) (h' : IsNext c m) : n = m := by
 rcases Nat.lt_trichotomy n m with hi | rfl | hi
 ·have := h'.2.2.2 n h.1 hi; have := h.2.2.1; omega
 ·rfl
 have := h.2.2.2 m h'.1 hi; have := h'.2.2.1; omega
theorem next_few {c : Nat} (hc : c < 1023) : IsNext c (c + 1) := by
 refine ⟨by omega, by omega, ?_, fun m h1 h2 => by omega⟩
 have e : ones 24 (c + 1) = ones 10 (c + 1) + ones 14 ((c + 1) / 2 ^ 10) := ones_add 10 14 (c + 1)
 rw [Nat.div_eq_of_lt (show c + 1 < 2 ^ 10 by omega), ones_zero] at e
 have := ones_le 10 (c + 1)
 omega
theorem few_ones {c : Nat} (hc : c < 1023) : ones 24 c < 10 := by
 have h : ∀ x : Fin 1023, ones 24 x.val < 10 := by decide +kernel
 exact h ⟨c, hc⟩
def fl (t i : Nat) : Bool := t / 2 ^ i % 2 == 0
def rc (t i : Nat) : Nat := (t / 2 ^ i + 1) * 2 ^ i
theorem or_two {c p i : Nat} (h : LowAt c p) (hi : i < p) : c ||| 2 ^ i = c + 2 ^ i := by
 obtain ⟨k, hk⟩ := Nat.dvd_of_mod_eq_zero (h.mod (i := i + 1) (by omega))
 rw [hk, Nat.two_pow_add_eq_or_of_lt (Nat.pow_lt_pow_right (by omega) (by omega))]
theorem low_fl {t p : Nat} (h : LowAt (t + 1) p) : fl t p = true ∧ rc t p = t + 1 := by
 have h1 := h.pred.2.1
 rw [Nat.add_sub_cancel] at h1
 refine ⟨by simp [fl, h1], ?_⟩
 have hf := h.form
 have hp := Nat.two_pow_pos p
 generalize (t + 1) / 2 ^ (p + 1) = q at hf
 have h2 : t / 2 ^ p = 2 * q := by
  rw [show t = 2 ^ p * (2 * q) + (2 ^ p - 1) by rw [Nat.mul_add] at hf; omega, Nat.mul_add_div hp, Nat.div_eq_of_lt (by omega)]; rfl
 rw [rc, h2, hf, Nat.mul_comm]
theorem low_above {t p i : Nat} (h : LowAt (t + 1) p) (hi : p < i) : fl (t + 1) i = fl t i ∧ rc (t + 1) i = rc t i := by
 have h1 := h.pred.2.2 i hi
 rw [Nat.add_sub_cancel] at h1
 simp [fl, rc, h1]
theorem low_self {t p : Nat} (h : LowAt (t + 1) p) : fl (t + 1) p = false := by simp [fl, h.2]
theorem low_below {t p i : Nat} (h : LowAt (t + 1) p) (hi : i < p) : fl (t + 1) i = true ∧ rc (t + 1) i = t + 1 + 2 ^ i := by
 refine ⟨by simp [fl, h.below hi], ?_⟩
 have := Nat.div_add_mod (t + 1) (2 ^ i)
 rw [h.mod (i := i) (by omega), Nat.add_zero] at this
 rw [rc, Nat.add_mul, Nat.one_mul, Nat.mul_comm, this]
def many (f : Nat → Bool) : Nat → Nat
 | 0 => 0
 | k + 1 => many f k + if f k then 1 else 0
theorem many_le (f : Nat → Bool) (k : Nat) : many f k ≤ k := by
 induction k with
 | zero => exact Nat.le_refl _
 | succ k ih => rw [many]; split <;> omega
theorem many_zero : many (fl 0) 21 = 21 := by decide
theorem many_one : many (fl 1) 21 = 20 := by decide
end Go.Proofs.YtinejbjndpdcmaaDoor.Lad
