/-
 The keys of numbers (layer 12), as numbers go: what is left of a counter behind so many places, from the highest one down, and what one bit more does.
-/
namespace Go.Proofs.YtinejbjndpdcmaaDoor.Dk
def dk {α β : Type} (st : α → β → α) (x : Nat → β) (f : α) (c : Nat) : Nat → α
 | 0 => f
 | n + 1 => if c / 2 ^ (20 - n) % 2 = 1 then st (dk st x f c n) (x (c / 2 ^ (20 - n) * 2 ^ (20 - n))) else dk st x f c n
def dkey {α β : Type} (st : α → β → α) (x : Nat → β) (f : α) (c : Nat) : α := dk st x f c 21
variable {α β : Type} {st : α → β → α} {x : Nat → β} {f : α}
theorem dk_congr {c d : Nat} (n : Nat) (hn : n ≤ 21) (h : ∀ p, 20 < p + n → p ≤ 20 → c / 2 ^ p = d / 2 ^ p) : dk st x f c n = dk st x f d n := by
 induction n with
 | zero => rfl
 | succ n ih =>
  have e := h (20 - n) (by omega) (by omega)
  have i := ih (by omega) (fun p h1 h2 => h p (by omega) h2)
  simp only [dk, e, i]
theorem mod_le {c p q : Nat} (h : c % 2 ^ q = 0) (hpq : p ≤ q) : c % 2 ^ p = 0 := by
 obtain ⟨k, rfl⟩ := Nat.dvd_of_mod_eq_zero h
 obtain ⟨e, rfl⟩ : ∃ e, q = p + e := ⟨q - p, by omega⟩
 rw [Nat.pow_add, Nat.mul_assoc]
 exact Nat.mul_mod_right _ _
theorem bit_zero {c p q : Nat} (h : c % 2 ^ q = 0) (hpq : p < q) : c / 2 ^ p % 2 = 0 := by
 obtain ⟨k, rfl⟩ := Nat.dvd_of_mod_eq_zero h
 obtain ⟨e, rfl⟩ : ∃ e, q = p + (e + 1) := ⟨q - p - 1, by omega⟩
 rw [Nat.pow_add, Nat.mul_assoc, Nat.mul_div_cancel_left _ (Nat.two_pow_pos p), Nat.pow_succ]
 have e2 : 2 ^ e * 2 * k = 2 * (2 ^ e * k) := by
  rw [Nat.mul_comm (2 ^ e) 2, Nat.mul_assoc]
 rw [e2, Nat.mul_mod_right]
theorem dk_low {c : Nat} (n k : Nat) (hk : n + k ≤ 21) (h : c % 2 ^ (21 - n) = 0) : dk st x f c (n + k) = dk st x f c n := by
 induction k with
 | zero => rfl
 | succ k ih =>
  have e := bit_zero (p := 20 - (n + k)) h (by omega)
  show dk st x f c (n + k + 1) = _
  rw [dk, if_neg (by omega), ih (by omega)]
theorem div_add {c i p : Nat} (h : c % 2 ^ (i + 1) = 0) (hp : i < p) : (c + 2 ^ i) / 2 ^ p = c / 2 ^ p := by
 obtain ⟨e, rfl⟩ : ∃ e, p = i + 1 + e := ⟨p - (i + 1), by omega⟩
 have hp2 := Nat.two_pow_pos i
 have h2 : 2 ^ (i + 1) = 2 * 2 ^ i := by rw [Nat.pow_succ, Nat.mul_comm]
 rw [Nat.pow_add (m := i + 1), ← Nat.div_div_eq_div_mul, ← Nat.div_div_eq_div_mul]
 have e1 : (c + 2 ^ i) / 2 ^ (i + 1) = c / 2 ^ (i + 1) := by
  obtain ⟨k, rfl⟩ := Nat.dvd_of_mod_eq_zero h
  generalize 2 ^ (i + 1) = M at h2
  subst h2
  rw [Nat.mul_add_div (by omega), Nat.mul_div_cancel_left _ (by omega), Nat.div_eq_of_lt (by omega), Nat.add_zero]
 rw [e1]
theorem dkey_bit {c i : Nat} (hi : i ≤ 20) (h : c % 2 ^ (i + 1) = 0) : dkey st x f (c + 2 ^ i) = st (dkey st x f c) (x (c + 2 ^ i)) := by
 have hp := Nat.two_pow_pos i
 have h0 : (c + 2 ^ i) % 2 ^ i = 0 := by rw [Nat.add_mod_right]; exact mod_le h (by omega)
 have h1 : (c + 2 ^ i) / 2 ^ i = c / 2 ^ i + 1 := by rw [Nat.add_div_right _ hp]
 have h2 : c / 2 ^ i % 2 = 0 := bit_zero h (by omega)
 have h3 : (c + 2 ^ i) / 2 ^ i * 2 ^ i = c + 2 ^ i := by
  have := Nat.div_add_mod (c + 2 ^ i) (2 ^ i)
  rw [h0, Nat.mul_comm] at this; omega
 have a := dk_low (st := st) (x := x) (f := f) (c := c + 2 ^ i) (21 - i) i (by omega) (by rw [show 21 - (21 - i) = i from by omega]; exact h0)
 have b := dk_low (st := st) (x := x) (f := f) (c := c) (20 - i) (i + 1) (by omega) (by rw [show 21 - (20 - i) = i + 1 from by omega]; exact h)
 rw [show 21 - i + i = 21 from by omega] at a
 rw [show 20 - i + (i + 1) = 21 from by omega] at b
 show dk _ _ _ _ 21 = st (dk _ _ _ _ 21) _
 rw [a, b, show 21 - i = 20 - i + 1 from by omega, dk, show 20 - (20 - i) = i from by omega, if_pos (by omega), h3]
 rw [dk_congr (20 - i) (by omega) (fun p h4 _ => div_add h (by omega))]
theorem dkey_zero : dkey st x f 0 = f := by
 have a := dk_low (st := st) (x := x) (f := f) (c := 0) 0 21 (by omega) (by simp)
 exact a
end Go.Proofs.YtinejbjndpdcmaaDoor.Dk
