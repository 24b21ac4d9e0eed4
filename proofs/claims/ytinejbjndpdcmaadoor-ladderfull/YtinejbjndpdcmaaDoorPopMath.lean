/-
 How many bits of a number are 1: what the library's adding in lanes comes to, for three bytes.
-/
namespace Go.Proofs.YtinejbjndpdcmaaDoor.Pop
def ones : Nat → Nat → Nat
 | 0, _ => 0
 | k + 1, c => c % 2 + ones k (c / 2)
theorem land_lane (a b m n : Nat) (ha : a < 256) (hm : m < 256) : (256 * b + a) &&& (256 * n + m) = 256 * (b &&& n) + (a &&& m) := by
 have hl : a &&& m < 256 := Nat.lt_of_le_of_lt Nat.and_le_left ha
 apply Nat.eq_of_testBit_eq
 intro i
 rw [Nat.testBit_and, show (256 : Nat) = 2 ^ 8 from rfl, Nat.testBit_two_pow_mul_add _ ha, Nat.testBit_two_pow_mul_add _ hm, Nat.testBit_two_pow_mul_add _ hl]
 by_cases h : i < 8
 ·simp only [if_pos h, Nat.testBit_and]
 simp only [if_neg h, Nat.testBit_and]
def pa (m x : Nat) : Nat := (x / 2 &&& m) + (x &&& m)
def pb (m x : Nat) : Nat := (x / 4 &&& m) + (x &&& m)
def pc (m x : Nat) : Nat := x / 16 + x &&& m
theorem ha1 : ∀ r : Fin 2, ∀ q : Fin 128, (128 * r.val + q.val) &&& 0x55 = q.val &&& 0x55 := by decide +kernel
theorem hb1 : ∀ r : Fin 4, ∀ q : Fin 64, (64 * r.val + q.val) &&& 0x33 = q.val &&& 0x33 := by decide +kernel
theorem hc1 : ∀ r : Fin 5, ∀ q : Fin 73, (16 * r.val + q.val) &&& 0x0f = q.val &&& 0x0f := by decide +kernel
theorem pa_lane (n y x : Nat) (hx : x < 256) : pa (256 * n + 0x55) (256 * y + x) = 256 * pa n y + pa 0x55 x := by
 have e : (256 * y + x) / 2 = 256 * (y / 2) + (128 * (y % 2) + x / 2) := by omega
 have h := ha1 ⟨y % 2, by omega⟩ ⟨x / 2, by omega⟩
 simp only at h
 unfold pa
 rw [e, land_lane _ _ _ _ (by omega) (by omega), land_lane _ _ _ _ hx (by omega), h]
 omega
theorem pb_lane (n y x : Nat) (hx : x < 256) : pb (256 * n + 0x33) (256 * y + x) = 256 * pb n y + pb 0x33 x := by
 have e : (256 * y + x) / 4 = 256 * (y / 4) + (64 * (y % 4) + x / 4) := by omega
 have h := hb1 ⟨y % 4, by omega⟩ ⟨x / 4, by omega⟩
 simp only at h
 unfold pb
 rw [e, land_lane _ _ _ _ (by omega) (by omega), land_lane _ _ _ _ hx (by omega), h]
 omega
theorem pc_lane (n y x : Nat) (hx : x ≤ 68) (hy : y % 16 ≤ 4) : pc (256 * n + 0x0f) (256 * y + x) = 256 * pc n y + pc 0x0f x := by
 have e : (256 * y + x) / 16 + (256 * y + x) = 256 * (y / 16 + y) + (16 * (y % 16) + (x / 16 + x)) := by omega
 have h := hc1 ⟨y % 16, by omega⟩ ⟨x / 16 + x, by omega⟩
 simp only at h
 unfold pc
 rw [e, land_lane _ _ _ _ (by omega) (by omega), h]
theorem pa_zero (m : Nat) : pa m 0 = 0 := by simp [pa]
theorem pb_zero (m : Nat) : pb m 0 = 0 := by simp [pb]
theorem pc_zero (m : Nat) : pc m 0 = 0 := by simp [pc]
theorem pa_byte : ∀ x : Fin 256, pa 0x55 x.val < 256 ∧ pb 0x33 (pa 0x55 x.val) ≤ 68 ∧ pb 0x33 (pa 0x55 x.val) % 16 ≤ 4 ∧ pc 0x0f (pb 0x33 (pa 0x55 x.val)) = ones 8 x.val ∧ ones 8 x.val ≤ 8 := by decide +kernel
theorem ones_add (k j c : Nat) : ones (k + j) c = ones k c + ones j (c / 2 ^ k) := by
 induction k generalizing c with
 | zero => simp [ones]
 | succ k ih =>
  rw [show k + 1 + j = k + j + 1 by omega, ones, ih, ones, Nat.div_div_eq_div_mul, show 2 * 2 ^ k = 2 ^ (k + 1) by rw [Nat.pow_succ, Nat.mul_comm]]
  omega
theorem ones_mod (k c : Nat) : ones k (c % 2 ^ k) = ones k c := by
 induction k generalizing c with
 | zero => rfl
 | succ k ih =>
  have h2 : 2 ^ (k + 1) = 2 * 2 ^ k := by rw [Nat.pow_succ, Nat.mul_comm]
  rw [ones, ones, h2, Nat.mod_mul_right_mod, Nat.mod_mul_right_div_self, ih]
theorem ones_zero (k : Nat) : ones k 0 = 0 := by
 induction k with
 | zero => rfl
 | succ k ih => rw [ones, Nat.zero_div, ih]
theorem ones_le (k c : Nat) : ones k c ≤ k := by
 induction k generalizing c with
 | zero => exact Nat.le_refl _
 | succ k ih => have := ih (c / 2); rw [ones]; omega
theorem lanes (a b c : Nat) (l0 : a < 256) (l1 : b < 256) (l2 : c < 256) :
  pc 0x0f0f0f0f0f0f0f0f (pb 0x3333333333333333 (pa 0x5555555555555555 (256 * (256 * c + b) + a))) = 256 * (256 * ones 8 c + ones 8 b) + ones 8 a := by
 have h0 := pa_byte ⟨a, l0⟩
 have h1 := pa_byte ⟨b, l1⟩
 have h2 := pa_byte ⟨c, l2⟩
 simp only at h0 h1 h2
 have ea : pa 0x5555555555555555 (256 * (256 * c + b) + a) = 256 * (256 * pa 0x55 c + pa 0x55 b) + pa 0x55 a := by
  rw [show (0x5555555555555555 : Nat) = 256 * 0x55555555555555 + 0x55 from rfl, pa_lane _ _ _ l0, show (0x55555555555555 : Nat) = 256 * 0x555555555555 + 0x55 from rfl, pa_lane _ _ _ l1,
   show (0x555555555555 : Nat) = 256 * 0x5555555555 + 0x55 from rfl, show c = 256 * 0 + c by omega, pa_lane _ _ _ l2, pa_zero]
  simp
 have eb : pb 0x3333333333333333 (256 * (256 * pa 0x55 c + pa 0x55 b) + pa 0x55 a) = 256 * (256 * pb 0x33 (pa 0x55 c) + pb 0x33 (pa 0x55 b)) + pb 0x33 (pa 0x55 a) := by
  rw [show (0x3333333333333333 : Nat) = 256 * 0x33333333333333 + 0x33 from rfl, pb_lane _ _ _ h0.1, show (0x33333333333333 : Nat) = 256 * 0x333333333333 + 0x33 from rfl, pb_lane _ _ _ h1.1,
   show (0x333333333333 : Nat) = 256 * 0x3333333333 + 0x33 from rfl]
  have := pb_lane 0x3333333333 0 _ h2.1
  rw [pb_zero, Nat.mul_zero, Nat.zero_add, Nat.zero_add] at this
  rw [this]
 have ec : pc 0x0f0f0f0f0f0f0f0f (256 * (256 * pb 0x33 (pa 0x55 c) + pb 0x33 (pa 0x55 b)) + pb 0x33 (pa 0x55 a)) = 256 * (256 * ones 8 c + ones 8 b) + ones 8 a := by
  rw [show (0x0f0f0f0f0f0f0f0f : Nat) = 256 * 0x0f0f0f0f0f0f0f + 0x0f from rfl, pc_lane _ _ _ h0.2.1 (by have := h1.2.2.1; omega), show (0x0f0f0f0f0f0f0f : Nat) = 256 * 0x0f0f0f0f0f0f + 0x0f from rfl, pc_lane _ _ _ h1.2.1 h2.2.2.1,
   show (0x0f0f0f0f0f0f : Nat) = 256 * 0x0f0f0f0f0f + 0x0f from rfl]
  have := pc_lane 0x0f0f0f0f0f 0 _ h2.2.1 (by omega)
  rw [pc_zero, Nat.mul_zero, Nat.zero_add, Nat.zero_add] at this
  rw [this, h0.2.2.2.1, h1.2.2.2.1, h2.2.2.2.1]
 rw [ea, eb, ec]
theorem ones24 (x : Nat) : ones 24 x = ones 8 (x % 256) + ones 8 (x / 256 % 256) + ones 8 (x / 65536 % 256) := by
 rw [show (24 : Nat) = 8 + 16 from rfl, ones_add, show (16 : Nat) = 8 + 8 from rfl, ones_add]
 have a := ones_mod 8 x
 have b := ones_mod 8 (x / 2 ^ 8)
 have c := ones_mod 8 (x / 2 ^ 8 / 2 ^ 8)
 rw [← a, ← b, ← c, Nat.div_div_eq_div_mul]
 simp only [Nat.reducePow, Nat.reduceMul]
 omega
theorem sum24 (x : Nat) (hx : x < 16777216) :
  let c := pc 0x0f0f0f0f0f0f0f0f (pb 0x3333333333333333 (pa 0x5555555555555555 x))
  let d := c + c / 256
  let e := d + d / 65536
  (e + e / 4294967296) % 128 = ones 24 x ∧ c < 16777216 := by
 have h := lanes (x % 256) (x / 256 % 256) (x / 65536) (by omega) (by omega) (by omega)
 rw [show 256 * (256 * (x / 65536) + x / 256 % 256) + x % 256 = x by omega] at h
 have a := ones_le 8 (x % 256)
 have b := ones_le 8 (x / 256 % 256)
 have c := ones_le 8 (x / 65536)
 rw [h, ones24, show x / 65536 % 256 = x / 65536 by omega]
 generalize ones 8 (x % 256) = g at *
 generalize ones 8 (x / 256 % 256) = f at *
 generalize ones 8 (x / 65536) = t at *
 have e1 : (256 * (256 * t + f) + g) / 256 = 256 * t + f := by omega
 have e2 : (256 * (256 * t + f) + g + (256 * t + f)) / 65536 = t := by omega
 have e3 : (256 * (256 * t + f) + g + (256 * t + f) + t) / 4294967296 = 0 := by omega
 simp only [e1, e2, e3]
 omega
end Go.Proofs.YtinejbjndpdcmaaDoor.Pop
