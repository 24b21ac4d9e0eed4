/-
  DES and TDES by numbers: back undoes forth, all bits turned, a key's lowest bits.
-/
namespace Go.Proofs.YtdodflnmhgnpeaaGreatDoor.Des
def tabIP : List Nat := [58, 50, 42, 34, 26, 18, 10, 2, 60, 52, 44, 36, 28, 20, 12, 4, 62, 54, 46, 38, 30, 22, 14, 6, 64, 56, 48, 40, 32, 24, 16, 8, 57, 49, 41, 33, 25, 17, 9, 1, 59, 51, 43, 35, 27, 19, 11, 3, 61, 53, 45, 37, 29, 21, 13, 5, 63, 55, 47, 39, 31, 23, 15, 7]
def tabP : List Nat := [16, 7, 20, 21, 29, 12, 28, 17, 1, 15, 23, 26, 5, 18, 31, 10, 2, 8, 24, 14, 32, 27, 3, 9, 19, 13, 30, 6, 22, 11, 4, 25]
def tabPC1 : List Nat := [57, 49, 41, 33, 25, 17, 9, 1, 58, 50, 42, 34, 26, 18, 10, 2, 59, 51, 43, 35, 27, 19, 11, 3, 60, 52, 44, 36, 63, 55, 47, 39, 31, 23, 15, 7, 62, 54, 46, 38, 30, 22, 14, 6, 61, 53, 45, 37, 29, 21, 13, 5, 28, 20, 12, 4]
def tabPC2 : List Nat := [14, 17, 11, 24, 1, 5, 3, 28, 15, 6, 21, 10, 23, 19, 12, 4, 26, 8, 16, 7, 27, 20, 13, 2, 41, 52, 31, 37, 47, 55, 30, 40, 51, 45, 33, 48, 44, 49, 39, 56, 34, 53, 46, 42, 50, 36, 29, 32]
def invIP : List Nat := [24, 56, 16, 48, 8, 40, 0, 32, 25, 57, 17, 49, 9, 41, 1, 33, 26, 58, 18, 50, 10, 42, 2, 34, 27, 59, 19, 51, 11, 43, 3, 35, 28, 60, 20, 52, 12, 44, 4, 36, 29, 61, 21, 53, 13, 45, 5, 37, 30, 62, 22, 54, 14, 46, 6, 38, 31, 63, 23, 55, 15, 47, 7, 39]
def boxes : List (List Nat) := [[14, 4, 13, 1, 2, 15, 11, 8, 3, 10, 6, 12, 5, 9, 0, 7, 0, 15, 7, 4, 14, 2, 13, 1, 10, 6, 12, 11, 9, 5, 3, 8, 4, 1, 14, 8, 13, 6, 2, 11, 15, 12, 9, 7, 3, 10, 5, 0, 15, 12, 8, 2, 4, 9, 1, 7, 5, 11, 3, 14, 10, 0, 6, 13],
  [15, 1, 8, 14, 6, 11, 3, 4, 9, 7, 2, 13, 12, 0, 5, 10, 3, 13, 4, 7, 15, 2, 8, 14, 12, 0, 1, 10, 6, 9, 11, 5, 0, 14, 7, 11, 10, 4, 13, 1, 5, 8, 12, 6, 9, 3, 2, 15, 13, 8, 10, 1, 3, 15, 4, 2, 11, 6, 7, 12, 0, 5, 14, 9],
  [10, 0, 9, 14, 6, 3, 15, 5, 1, 13, 12, 7, 11, 4, 2, 8, 13, 7, 0, 9, 3, 4, 6, 10, 2, 8, 5, 14, 12, 11, 15, 1, 13, 6, 4, 9, 8, 15, 3, 0, 11, 1, 2, 12, 5, 10, 14, 7, 1, 10, 13, 0, 6, 9, 8, 7, 4, 15, 14, 3, 11, 5, 2, 12],
  [7, 13, 14, 3, 0, 6, 9, 10, 1, 2, 8, 5, 11, 12, 4, 15, 13, 8, 11, 5, 6, 15, 0, 3, 4, 7, 2, 12, 1, 10, 14, 9, 10, 6, 9, 0, 12, 11, 7, 13, 15, 1, 3, 14, 5, 2, 8, 4, 3, 15, 0, 6, 10, 1, 13, 8, 9, 4, 5, 11, 12, 7, 2, 14],
  [2, 12, 4, 1, 7, 10, 11, 6, 8, 5, 3, 15, 13, 0, 14, 9, 14, 11, 2, 12, 4, 7, 13, 1, 5, 0, 15, 10, 3, 9, 8, 6, 4, 2, 1, 11, 10, 13, 7, 8, 15, 9, 12, 5, 6, 3, 0, 14, 11, 8, 12, 7, 1, 14, 2, 13, 6, 15, 0, 9, 10, 4, 5, 3],
  [12, 1, 10, 15, 9, 2, 6, 8, 0, 13, 3, 4, 14, 7, 5, 11, 10, 15, 4, 2, 7, 12, 9, 5, 6, 1, 13, 14, 0, 11, 3, 8, 9, 14, 15, 5, 2, 8, 12, 3, 7, 0, 4, 10, 1, 13, 11, 6, 4, 3, 2, 12, 9, 5, 15, 10, 11, 14, 1, 7, 6, 0, 8, 13],
  [4, 11, 2, 14, 15, 0, 8, 13, 3, 12, 9, 7, 5, 10, 6, 1, 13, 0, 11, 7, 4, 9, 1, 10, 14, 3, 5, 12, 2, 15, 8, 6, 1, 4, 11, 13, 12, 3, 7, 14, 10, 15, 6, 8, 0, 5, 9, 2, 6, 11, 13, 8, 1, 4, 10, 7, 9, 5, 0, 15, 14, 2, 3, 12],
  [13, 2, 8, 4, 6, 15, 11, 1, 10, 9, 3, 14, 5, 0, 12, 7, 1, 15, 13, 8, 10, 3, 7, 4, 12, 5, 6, 11, 0, 14, 9, 2, 7, 11, 4, 1, 9, 12, 14, 2, 0, 6, 10, 13, 15, 3, 5, 8, 2, 1, 14, 7, 4, 10, 8, 13, 15, 12, 9, 0, 3, 5, 6, 11]]
def ip (i : Nat) : Nat := tabIP.getD i 0
def tp (i : Nat) : Nat := tabP.getD i 0
def pc1 (i : Nat) : Nat := tabPC1.getD i 0
def pc2 (i : Nat) : Nat := tabPC2.getD i 0
/-- what a box makes of six bits -/
def sb (i v : Nat) : Nat := (boxes.getD i []).getD (16 * (2 * (v / 32 % 2) + v % 2) + v / 2 % 16) 0

/-- the bits that a table names -/
def pk (p : Nat → Nat) (sz x : Nat) : Nat → Nat
  | 0 => 0
  | k + 1 => 2 * pk p sz x k + x / 2 ^ (sz - p k) % 2
/-- the number of which a table picks -/
def up (p : Nat → Nat) (sz x : Nat) : Nat → Nat
  | 0 => 0
  | k + 1 => up p sz x k ||| (x / 2 ^ (sz - 1 - k) % 2) * 2 ^ (sz - p k)
/-- a number of n bits, turned to the left -/
def rt (n x k : Nat) : Nat := (x * 2 ^ k ||| x / 2 ^ (n - k)) % 2 ^ n
/-- all bits turned -/
def cp (n x : Nat) : Nat := x ^^^ (2 ^ n - 1)
def tn (r : Nat) : Nat := if r = 0 ∨ r = 1 ∨ r = 8 ∨ r = 15 then 1 else 2
def hl (c : Nat) : Nat → Nat
  | 0 => c
  | r + 1 => rt 28 (hl c r) (tn r)
def rkOf (b r : Nat) : Nat := pk pc2 56 (hl (b / 2 ^ 28) (r + 1) * 2 ^ 28 + hl (b % 2 ^ 28) (r + 1)) 48
/-- the round keys of a key, a number of 64 bits -/
def rounds (n r : Nat) : Nat := rkOf (pk pc1 64 n 56) r
def e6 (h i : Nat) : Nat := rt 32 h ((4 * i + 5) % 32) % 64
def k6 (k i : Nat) : Nat := k / 2 ^ (42 - 6 * i) % 64
def mx (h k : Nat) : Nat → Nat
  | 0 => 0
  | i + 1 => 16 * mx h k i + sb i (e6 h i ^^^ k6 k i)
def ff (h k : Nat) : Nat := pk tp 32 (mx h k 8) 32
def fe (K : Nat → Nat) (l r : Nat) : Nat → Nat × Nat
  | 0 => (l, r)
  | i + 1 => ((fe K l r i).2, (fe K l r i).1 ^^^ ff (fe K l r i).2 (K i))
def fin (s : Nat × Nat) : Nat := up ip 64 (s.2 * 2 ^ 32 + s.1) 64
def blk (K : Nat → Nat) (b : Nat) : Nat := fin (fe K (pk ip 64 b 64 / 2 ^ 32) (pk ip 64 b 64 % 2 ^ 32) 16)
def rev (K : Nat → Nat) : Nat → Nat := fun i => K (15 - i)
def num (f : Nat → Nat) : Nat → Nat
  | 0 => 0
  | k + 1 => 256 * num f k + f k
def byt (n : Nat) : Nat → Nat := fun i => n / 2 ^ (56 - 8 * i) % 256
def kk (key : Nat → Nat) (back : Bool) : Nat → Nat := if back then rev (rounds (num key 8)) else rounds (num key 8)
/-- DES of a block -/
def des (key b : Nat → Nat) (back : Bool) : Nat → Nat := byt (blk (kk key back) (num b 8))

theorem pk_lt (p : Nat → Nat) (sz x n : Nat) : pk p sz x n < 2 ^ n := by
  induction n with
  | zero => simp [pk]
  | succ n ih => rw [pk, Nat.pow_succ]; omega
theorem bit_mod (x m : Nat) : x.testBit m = decide (x / 2 ^ m % 2 = 1) := Nat.testBit_eq_decide_div_mod_eq
theorem pk_bit (p : Nat → Nat) (sz x n j : Nat) (h : j < n) : (pk p sz x n).testBit j = x.testBit (sz - p (n - 1 - j)) := by
  induction n generalizing j with
  | zero => omega
  | succ n ih =>
    rw [pk]
    cases j with
    | zero =>
      rw [bit_mod, bit_mod, Nat.pow_zero, Nat.div_one, show n + 1 - 1 - 0 = n by omega]
      congr 1
      simp only [eq_iff_iff]
      omega
    | succ j =>
      rw [Nat.testBit_succ, show (2 * pk p sz x n + x / 2 ^ (sz - p n) % 2) / 2 = pk p sz x n by omega, ih j (by omega), show n + 1 - 1 - (j + 1) = n - 1 - j by omega]
theorem pow_bit (b m j : Nat) (hb : b < 2) : (b * 2 ^ m).testBit j = (decide (m = j) && decide (b = 1)) := by
  rcases (show b = 0 ∨ b = 1 by omega) with rfl | rfl
  · simp
  · rw [Nat.one_mul, Nat.testBit_two_pow]; simp
theorem up_bit (p : Nat → Nat) (sz x n j : Nat) : (up p sz x n).testBit j = true ↔ ∃ k, k < n ∧ sz - p k = j ∧ x.testBit (sz - 1 - k) = true := by
  induction n with
  | zero => simp [up]
  | succ n ih =>
    rw [up, Nat.testBit_or, Bool.or_eq_true, ih, pow_bit _ _ _ (Nat.mod_lt _ (by omega))]
    constructor
    · rintro (⟨k, h1, h2, h3⟩ | h)
      · exact ⟨k, by omega, h2, h3⟩
      · simp only [Bool.and_eq_true, decide_eq_true_eq] at h
        exact ⟨n, by omega, h.1, by rw [bit_mod]; exact decide_eq_true h.2⟩
    · rintro ⟨k, h1, h2, h3⟩
      by_cases hk : k = n
      · subst hk
        right
        rw [bit_mod] at h3
        simp only [Bool.and_eq_true, decide_eq_true_eq]
        exact ⟨h2, of_decide_eq_true h3⟩
      · exact .inl ⟨k, by omega, h2, h3⟩
theorem ip_range : ∀ k, k < 64 → 1 ≤ ip k ∧ ip k ≤ 64 := by decide +kernel
theorem ip_inv : ∀ k, k < 64 → invIP.getD (64 - ip k) 0 = k := by decide +kernel
theorem ip_sur : ∀ j, j < 64 → invIP.getD j 0 < 64 ∧ 64 - ip (invIP.getD j 0) = j := by decide +kernel
theorem pc1_range : ∀ k, k < 56 → 1 ≤ pc1 k ∧ pc1 k ≤ 64 ∧ pc1 k % 8 ≠ 0 := by decide +kernel
theorem pc2_range : ∀ k, k < 48 → 1 ≤ pc2 k ∧ pc2 k ≤ 56 := by decide +kernel
theorem tp_range : ∀ k, k < 32 → 1 ≤ tp k ∧ tp k ≤ 32 := by decide +kernel
theorem high {x n j : Nat} (hx : x < 2 ^ n) (hj : n ≤ j) : x.testBit j = false := Nat.testBit_lt_two_pow (Nat.lt_of_lt_of_le hx (Nat.pow_le_pow_right (by omega) hj))
theorem up_lt (x : Nat) : up ip 64 x 64 < 2 ^ 64 := by
  apply Nat.lt_pow_two_of_testBit
  intro j hj
  cases h : (up ip 64 x 64).testBit j with
  | false => rfl
  | true =>
    obtain ⟨k, h1, h2, _⟩ := (up_bit ip 64 x 64 j).1 h
    have := ip_range k h1
    omega
theorem eq_of_bits {n x y : Nat} (hx : x < 2 ^ n) (hy : y < 2 ^ n) (h : ∀ j, j < n → x.testBit j = y.testBit j) : x = y := by
  apply Nat.eq_of_testBit_eq
  intro j
  by_cases hj : j < n
  · exact h j hj
  · rw [high hx (by omega), high hy (by omega)]
theorem up_pk (x : Nat) (hx : x < 2 ^ 64) : up ip 64 (pk ip 64 x 64) 64 = x := by
  refine eq_of_bits (up_lt _) hx fun j hj => ?_
  rw [Bool.eq_iff_iff, up_bit]
  constructor
  · rintro ⟨k, h1, h2, h3⟩
    rw [pk_bit _ _ _ _ _ (by omega), show 64 - 1 - (64 - 1 - k) = k by omega, h2] at h3
    exact h3
  · intro h
    obtain ⟨h1, h2⟩ := ip_sur j hj
    refine ⟨_, h1, h2, ?_⟩
    rw [pk_bit _ _ _ _ _ (by omega), show 64 - 1 - (64 - 1 - invIP.getD j 0) = invIP.getD j 0 by omega, h2]
    exact h
theorem pk_up (y : Nat) (hy : y < 2 ^ 64) : pk ip 64 (up ip 64 y 64) 64 = y := by
  refine eq_of_bits (pk_lt _ _ _ _) hy fun j hj => ?_
  rw [pk_bit _ _ _ _ _ hj, Bool.eq_iff_iff, up_bit]
  constructor
  · rintro ⟨k, h1, h2, h3⟩
    have e1 := ip_inv k h1
    have e2 := ip_inv (64 - 1 - j) (by omega)
    rw [h2, e2] at e1
    rw [← e1, show 64 - 1 - (64 - 1 - j) = j by omega] at h3
    exact h3
  · intro h
    exact ⟨64 - 1 - j, by omega, rfl, by rw [show 64 - 1 - (64 - 1 - j) = j by omega]; exact h⟩
theorem rt_lt (n x k : Nat) : rt n x k < 2 ^ n := Nat.mod_lt _ (Nat.two_pow_pos n)
theorem rt_bit (n x k j : Nat) (hx : x < 2 ^ n) (hk : k ≤ n) (hj : j < n) : (rt n x k).testBit j = x.testBit (if j < k then n - k + j else j - k) := by
  unfold rt
  rw [Nat.testBit_mod_two_pow, Nat.testBit_or, Nat.testBit_mul_two_pow, Nat.testBit_div_two_pow]
  by_cases h : j < k
  · simp [h, hj, show ¬ k ≤ j by omega, Nat.add_comm]
  · rw [high (j := j + (n - k)) hx (by omega)]
    simp [h, hj, show k ≤ j by omega]
theorem cp_bit (n x j : Nat) : (cp n x).testBit j = (x.testBit j ^^ decide (j < n)) := by unfold cp; rw [Nat.testBit_xor, Nat.testBit_two_pow_sub_one]
theorem cp_lt {n x : Nat} (hx : x < 2 ^ n) : cp n x < 2 ^ n := Nat.xor_lt_two_pow hx (Nat.sub_lt (Nat.two_pow_pos n) (by omega))
theorem rt_cp (n x k : Nat) (hx : x < 2 ^ n) (hk : k ≤ n) : rt n (cp n x) k = cp n (rt n x k) := by
  refine eq_of_bits (rt_lt _ _ _) (cp_lt (rt_lt _ _ _)) fun j hj => ?_
  rw [rt_bit _ _ _ _ (cp_lt hx) hk hj, cp_bit, cp_bit, rt_bit _ _ _ _ hx hk hj]
  congr 1
  rw [decide_eq_true hj]
  apply decide_eq_true
  split <;> omega
theorem pk_cp (p : Nat → Nat) (sz x n : Nat) (hp : ∀ k, k < n → 1 ≤ p k ∧ p k ≤ sz) : pk p sz (cp sz x) n = cp n (pk p sz x n) := by
  refine eq_of_bits (pk_lt _ _ _ _) (cp_lt (pk_lt _ _ _ _)) fun j hj => ?_
  rw [pk_bit _ _ _ _ _ hj, cp_bit, cp_bit, pk_bit _ _ _ _ _ hj]
  have := hp (n - 1 - j) (by omega)
  rw [decide_eq_true hj, decide_eq_true (show sz - p (n - 1 - j) < sz by omega)]
theorem tn_le (r : Nat) : 1 ≤ tn r ∧ tn r ≤ 2 := by unfold tn; split <;> omega
theorem hl_lt {c : Nat} (hc : c < 2 ^ 28) (r : Nat) : hl c r < 2 ^ 28 := by
  cases r with
  | zero => exact hc
  | succ r => exact rt_lt _ _ _
theorem hl_cp {c : Nat} (hc : c < 2 ^ 28) (r : Nat) : hl (cp 28 c) r = cp 28 (hl c r) := by
  induction r with
  | zero => rfl
  | succ r ih => rw [hl, hl, ih, rt_cp _ _ _ (hl_lt hc r) (by have := tn_le r; omega)]
theorem split_cp (m n x : Nat) : cp (m + n) x / 2 ^ n = cp m (x / 2 ^ n) ∧ cp (m + n) x % 2 ^ n = cp n (x % 2 ^ n) := by
  constructor
  · apply Nat.eq_of_testBit_eq
    intro j
    rw [Nat.testBit_div_two_pow, cp_bit, cp_bit, Nat.testBit_div_two_pow]
    congr 1
    apply decide_eq_decide.2
    omega
  · apply Nat.eq_of_testBit_eq
    intro j
    rw [Nat.testBit_mod_two_pow, cp_bit, cp_bit, Nat.testBit_mod_two_pow]
    by_cases h : j < n
    · simp [h, show j < m + n by omega]
    · simp [h]
theorem join_bit {n x y : Nat} (hy : y < 2 ^ n) (j : Nat) : (x * 2 ^ n + y).testBit j = if j < n then y.testBit j else x.testBit (j - n) := by
  rw [Nat.mul_comm, Nat.testBit_two_pow_mul_add _ hy]
theorem join_cp {m n x y : Nat} (hy : y < 2 ^ n) : cp m x * 2 ^ n + cp n y = cp (m + n) (x * 2 ^ n + y) := by
  apply Nat.eq_of_testBit_eq
  intro j
  rw [join_bit (cp_lt hy), cp_bit, cp_bit, cp_bit, join_bit hy]
  by_cases h : j < n
  · simp [h, show j < m + n by omega]
  · simp only [h, if_false]
    congr 1
    apply decide_eq_decide.2
    omega
theorem rkOf_lt (b r : Nat) : rkOf b r < 2 ^ 48 := pk_lt _ _ _ _
theorem rkOf_cp (b r : Nat) (hb : b < 2 ^ 56) : rkOf (cp 56 b) r = cp 48 (rkOf b r) := by
  have h1 := split_cp 28 28 b
  have hq : b / 2 ^ 28 < 2 ^ 28 := by omega
  have hm : b % 2 ^ 28 < 2 ^ 28 := by omega
  unfold rkOf
  rw [show (56 : Nat) = 28 + 28 from rfl, h1.1, h1.2, hl_cp hq, hl_cp hm, join_cp (hl_lt hm _), pk_cp _ _ _ _ pc2_range]
theorem rounds_cp (n r : Nat) : rounds (cp 64 n) r = cp 48 (rounds n r) := by
  unfold rounds
  rw [pk_cp _ _ _ _ (fun k hk => ⟨(pc1_range k hk).1, (pc1_range k hk).2.1⟩), rkOf_cp _ _ (pk_lt _ _ _ _)]
theorem e6_cp (h i : Nat) (hh : h < 2 ^ 32) : e6 (cp 32 h) i = cp 6 (e6 h i) := by
  unfold e6
  rw [rt_cp _ _ _ hh (by omega)]
  exact (split_cp 26 6 _).2
theorem k6_cp (k i : Nat) (hi : i < 8) : k6 (cp 48 k) i = cp 6 (k6 k i) := by
  unfold k6
  rw [show (48 : Nat) = (6 * i + 6) + (42 - 6 * i) by omega, (split_cp (6 * i + 6) (42 - 6 * i) k).1]
  exact (split_cp (6 * i) 6 _).2
theorem cp_xor (n x y : Nat) : cp n x ^^^ cp n y = x ^^^ y := by
  unfold cp
  rw [Nat.xor_assoc, ← Nat.xor_assoc (2 ^ n - 1), Nat.xor_comm (2 ^ n - 1) y, Nat.xor_assoc y, Nat.xor_self, Nat.xor_zero]
theorem mx_cp (h k i : Nat) (hh : h < 2 ^ 32) (hi : i ≤ 8) : mx (cp 32 h) (cp 48 k) i = mx h k i := by
  induction i with
  | zero => rfl
  | succ i ih => rw [mx, mx, ih (by omega), e6_cp _ _ hh, k6_cp _ _ (by omega), cp_xor]
theorem ff_cp (h k : Nat) (hh : h < 2 ^ 32) : ff (cp 32 h) (cp 48 k) = ff h k := by unfold ff; rw [mx_cp _ _ _ hh (by omega)]
theorem ff_lt (h k : Nat) : ff h k < 2 ^ 32 := pk_lt _ _ _ _
theorem fe_lt (K : Nat → Nat) {l r : Nat} (hl : l < 2 ^ 32) (hr : r < 2 ^ 32) (i : Nat) : (fe K l r i).1 < 2 ^ 32 ∧ (fe K l r i).2 < 2 ^ 32 := by
  induction i with
  | zero => exact ⟨hl, hr⟩
  | succ i ih => exact ⟨ih.2, Nat.xor_lt_two_pow ih.1 (ff_lt _ _)⟩
theorem fe_ext {K J : Nat → Nat} (l r i : Nat) (h : ∀ j, j < i → K j = J j) : fe K l r i = fe J l r i := by
  induction i with
  | zero => rfl
  | succ i ih => rw [fe, fe, ih (fun j hj => h j (by omega)), h i (by omega)]
theorem blk_ext {K J : Nat → Nat} (b : Nat) (h : ∀ j, j < 16 → K j = J j) : blk K b = blk J b := by unfold blk; rw [fe_ext _ _ _ h]
theorem blk_lt (K : Nat → Nat) (b : Nat) : blk K b < 2 ^ 64 := up_lt _
theorem fe_back (K : Nat → Nat) (l r i : Nat) (hi : i ≤ 16) : fe (rev K) (fe K l r 16).2 (fe K l r 16).1 i = ((fe K l r (16 - i)).2, (fe K l r (16 - i)).1) := by
  induction i with
  | zero => rfl
  | succ i ih =>
    rw [fe, ih (by omega)]
    have e : 16 - i = (16 - (i + 1)) + 1 := by omega
    have e2 : rev K i = K (16 - (i + 1)) := by unfold rev; rw [show 15 - i = 16 - (i + 1) by omega]
    rw [e2]
    generalize 16 - (i + 1) = m at *
    rw [e, fe]
    simp only
    rw [Nat.xor_assoc, Nat.xor_self, Nat.xor_zero]
theorem fin_split {l r : Nat} (hl : l < 2 ^ 32) : (r * 2 ^ 32 + l) / 2 ^ 32 = r ∧ (r * 2 ^ 32 + l) % 2 ^ 32 = l := by omega
theorem blk_rev (K : Nat → Nat) (b : Nat) (hb : b < 2 ^ 64) : blk (rev K) (blk K b) = b := by
  have hp := pk_lt ip 64 b 64
  have hl : pk ip 64 b 64 / 2 ^ 32 < 2 ^ 32 := by omega
  have hr : pk ip 64 b 64 % 2 ^ 32 < 2 ^ 32 := by omega
  obtain ⟨h1, h2⟩ := fe_lt K hl hr 16
  have hu : pk ip 64 (blk K b) 64 = (fe K (pk ip 64 b 64 / 2 ^ 32) (pk ip 64 b 64 % 2 ^ 32) 16).2 * 2 ^ 32 + (fe K (pk ip 64 b 64 / 2 ^ 32) (pk ip 64 b 64 % 2 ^ 32) 16).1 := by
    unfold blk fin
    exact pk_up _ (by omega)
  show fin (fe (rev K) (pk ip 64 (blk K b) 64 / 2 ^ 32) (pk ip 64 (blk K b) 64 % 2 ^ 32) 16) = b
  rw [hu, (fin_split h1).1, (fin_split h1).2, fe_back _ _ _ _ (Nat.le_refl _), Nat.sub_self]
  show up ip 64 (pk ip 64 b 64 / 2 ^ 32 * 2 ^ 32 + pk ip 64 b 64 % 2 ^ 32) 64 = b
  rw [show pk ip 64 b 64 / 2 ^ 32 * 2 ^ 32 + pk ip 64 b 64 % 2 ^ 32 = pk ip 64 b 64 by omega, up_pk b hb]
theorem rev_rev (K : Nat → Nat) (i : Nat) (hi : i < 16) : rev (rev K) i = K i := by unfold rev; rw [show 15 - (15 - i) = i by omega]
theorem blk_rev' (K : Nat → Nat) (b : Nat) (hb : b < 2 ^ 64) : blk K (blk (rev K) b) = b := by
  have := blk_rev (rev K) b hb
  rwa [blk_ext _ (rev_rev K)] at this
theorem fe_cp (K : Nat → Nat) {l r : Nat} (hl : l < 2 ^ 32) (hr : r < 2 ^ 32) (i : Nat) : fe (fun j => cp 48 (K j)) (cp 32 l) (cp 32 r) i = (cp 32 (fe K l r i).1, cp 32 (fe K l r i).2) := by
  induction i with
  | zero => rfl
  | succ i ih =>
    rw [fe, ih, fe]
    simp only
    rw [ff_cp _ _ (fe_lt K hl hr i).2]
    congr 1
    unfold cp
    rw [Nat.xor_assoc, Nat.xor_comm (2 ^ 32 - 1), ← Nat.xor_assoc]
theorem up_cp (x : Nat) (hx : x < 2 ^ 64) : up ip 64 (cp 64 x) 64 = cp 64 (up ip 64 x 64) := by
  have h := pk_cp ip 64 (up ip 64 x 64) 64 ip_range
  rw [pk_up x hx] at h
  rw [← h, up_pk _ (cp_lt (up_lt _))]
theorem blk_cp (K : Nat → Nat) (b : Nat) : blk (fun j => cp 48 (K j)) (cp 64 b) = cp 64 (blk K b) := by
  have hp := pk_lt ip 64 b 64
  have hl : pk ip 64 b 64 / 2 ^ 32 < 2 ^ 32 := by omega
  have hr : pk ip 64 b 64 % 2 ^ 32 < 2 ^ 32 := by omega
  have hs := split_cp 32 32 (pk ip 64 b 64)
  obtain ⟨h1, h2⟩ := fe_lt K hl hr 16
  unfold blk
  rw [pk_cp _ _ _ _ ip_range, show (64 : Nat) = 32 + 32 from rfl, hs.1, hs.2, fe_cp K hl hr 16]
  unfold fin
  simp only
  rw [join_cp h1, up_cp _ (by omega)]

/-! ### numbers and bytes -/
def By8 (f : Nat → Nat) : Prop := ∀ i, i < 8 → f i < 256
theorem byt_by (n : Nat) : By8 (byt n) := fun _ _ => Nat.mod_lt _ (by omega)
theorem num_lt {f : Nat → Nat} (hf : By8 f) (k : Nat) (hk : k ≤ 8) : num f k < 2 ^ (8 * k) := by
  induction k with
  | zero => simp [num]
  | succ k ih =>
    have := ih (by omega)
    have := hf k (by omega)
    rw [num, show 8 * (k + 1) = 8 * k + 8 by omega, Nat.pow_add]
    omega
theorem num_bit {f : Nat → Nat} (hf : By8 f) (k j : Nat) (hk : k ≤ 8) (hj : j < 8 * k) : (num f k).testBit j = (f (k - 1 - j / 8)).testBit (j % 8) := by
  induction k generalizing j with
  | zero => omega
  | succ k ih =>
    have e := join_bit (n := 8) (x := num f k) (y := f k) (hf k (by omega)) j
    rw [Nat.mul_comm] at e
    rw [num, show (256 : Nat) = 2 ^ 8 from rfl, e]
    by_cases h : j < 8
    · rw [if_pos h, show k + 1 - 1 - j / 8 = k by omega, show j % 8 = j by omega]
    · rw [if_neg h, ih (j - 8) (by omega) (by omega), show k - 1 - (j - 8) / 8 = k + 1 - 1 - j / 8 by omega, show (j - 8) % 8 = j % 8 by omega]
theorem num_byt (n : Nat) (hn : n < 2 ^ 64) : num (byt n) 8 = n := by
  simp only [num, byt]
  omega
theorem byt_num {f : Nat → Nat} (hf : By8 f) (i : Nat) (hi : i < 8) : byt (num f 8) i = f i := by
  have h0 := hf 0 (by omega); have h1 := hf 1 (by omega); have h2 := hf 2 (by omega); have h3 := hf 3 (by omega)
  have h4 := hf 4 (by omega); have h5 := hf 5 (by omega); have h6 := hf 6 (by omega); have h7 := hf 7 (by omega)
  simp only [num, byt]
  rcases (show i = 0 ∨ i = 1 ∨ i = 2 ∨ i = 3 ∨ i = 4 ∨ i = 5 ∨ i = 6 ∨ i = 7 by omega) with rfl | rfl | rfl | rfl | rfl | rfl | rfl | rfl <;> omega
theorem num_ext {f g : Nat → Nat} (k : Nat) (h : ∀ i, i < k → f i = g i) : num f k = num g k := by
  induction k with
  | zero => rfl
  | succ k ih => rw [num, num, ih (fun i hi => h i (by omega)), h k (by omega)]
theorem num_cp {f : Nat → Nat} (hf : By8 f) : num (fun i => cp 8 (f i)) 8 = cp 64 (num f 8) := by
  refine eq_of_bits (n := 64) (num_lt (fun i hi => cp_lt (hf i hi)) 8 (by omega)) (cp_lt (num_lt hf 8 (by omega))) fun j hj => ?_
  rw [num_bit (fun i hi => cp_lt (n := 8) (hf i hi)) 8 j (by omega) (by omega), cp_bit, cp_bit, num_bit hf 8 j (by omega) (by omega)]
  congr 1
  rw [decide_eq_true hj, decide_eq_true (show j % 8 < 8 by omega)]
theorem byt_cp {n m : Nat} (hn : n < 2 ^ 64) (h : m = cp 64 n) (i : Nat) (hi : i < 8) : byt m i = cp 8 (byt n i) := by
  have e := num_cp (byt_by n)
  rw [num_byt n hn] at e
  rw [h, ← e, byt_num (fun i hi => cp_lt (byt_by n i hi)) i hi]
/-- a key's lowest bits say nothing -/
theorem rounds_low {f g : Nat → Nat} (hf : By8 f) (hg : By8 g) (h : ∀ i, i < 8 → f i / 2 = g i / 2) (r : Nat) : rounds (num f 8) r = rounds (num g 8) r := by
  unfold rounds
  refine congrArg (fun x => rkOf x r) ?_
  refine eq_of_bits (pk_lt _ _ _ _) (pk_lt _ _ _ _) fun j hj => ?_
  have hp := pc1_range (56 - 1 - j) (by omega)
  rw [pk_bit _ _ _ _ _ hj, pk_bit _ _ _ _ _ hj, num_bit hf 8 _ (by omega) (by omega), num_bit hg 8 _ (by omega) (by omega)]
  have hb : ∃ t, (64 - pc1 (56 - 1 - j)) % 8 = t + 1 := ⟨(64 - pc1 (56 - 1 - j)) % 8 - 1, by omega⟩
  obtain ⟨t, ht⟩ := hb
  rw [ht, Nat.testBit_succ, Nat.testBit_succ, h _ (by omega)]
theorem kk_ext {f g : Nat → Nat} (h : ∀ i, i < 8 → f i = g i) (back : Bool) : kk f back = kk g back := by unfold kk; rw [num_ext 8 h]
theorem des_by (key b : Nat → Nat) (back : Bool) : By8 (des key b back) := byt_by _
theorem des_ext {k k' b b' : Nat → Nat} (h : ∀ i, i < 8 → k i = k' i) (hb : ∀ i, i < 8 → b i = b' i) (back : Bool) : des k b back = des k' b' back := by unfold des; rw [kk_ext h, num_ext 8 hb]
theorem des_back (key b : Nat → Nat) (hb : By8 b) (back : Bool) (i : Nat) (hi : i < 8) : des key (des key b back) (!back) i = b i := by
  unfold des
  rw [num_byt _ (blk_lt _ _), ← byt_num hb i hi]
  congr 1
  cases back
  · exact blk_rev _ _ (num_lt hb 8 (by omega))
  · exact blk_rev' _ _ (num_lt hb 8 (by omega))
theorem des_low {f g b : Nat → Nat} (hf : By8 f) (hg : By8 g) (h : ∀ i, i < 8 → f i / 2 = g i / 2) (back : Bool) : des f b back = des g b back := by
  unfold des kk
  rw [show rounds (num f 8) = rounds (num g 8) from funext (rounds_low hf hg h)]
theorem des_cp {f b : Nat → Nat} (hf : By8 f) (hb : By8 b) (i : Nat) (hi : i < 8) : des (fun i => cp 8 (f i)) (fun i => cp 8 (b i)) false i = cp 8 (des f b false i) := by
  refine byt_cp (blk_lt _ _) ?_ i hi
  rw [num_cp hb, ← blk_cp]
  congr 1
  unfold kk
  simp only [Bool.false_eq_true, if_false]
  rw [num_cp hf]
  exact funext (rounds_cp _)

/-! ### three keys -/
def part8 (key : Nat → Nat) (k : Nat) : Nat → Nat := fun i => key (8 * k + i)
/-- the three keys of a key of L bytes -/
def tkey (L : Nat) (key : Nat → Nat) (k : Nat) : Nat → Nat := fun i => if L = 8 then key i else if L = 16 then key ((8 * k + i) % 16) else key (8 * k + i)
/-- TDES of a block -/
def tdes (L : Nat) (key b : Nat → Nat) (back : Bool) : Nat → Nat :=
  des (tkey L key (if back then 0 else 2)) (des (tkey L key 1) (des (tkey L key (if back then 2 else 0)) b back) (!back)) back
theorem tdes_by (L : Nat) (key b : Nat → Nat) (back : Bool) : By8 (tdes L key b back) := byt_by _
theorem tdes_back (L : Nat) (key b : Nat → Nat) (hb : By8 b) (back : Bool) (i : Nat) (hi : i < 8) : tdes L key (tdes L key b back) (!back) i = b i := by
  unfold tdes
  generalize h0 : tkey L key (if back then 2 else 0) = k0
  generalize h1 : tkey L key 1 = k1
  generalize h2 : tkey L key (if back then 0 else 2) = k2
  have e0 : tkey L key (if (!back) = true then 0 else 2) = k0 := by rw [← h0]; cases back <;> rfl
  have e2 : tkey L key (if (!back) = true then 2 else 0) = k2 := by rw [← h2]; cases back <;> rfl
  rw [e0, e2, Bool.not_not]
  rw [des_ext (k := k2) (b := des k2 _ back) (fun _ _ => rfl) (fun _ _ => rfl)]
  have s1 : ∀ i, i < 8 → des k2 (des k2 (des k1 (des k0 b back) (!back)) back) (!back) i = des k1 (des k0 b back) (!back) i := des_back k2 _ (des_by _ _ _) back
  rw [des_ext (k := k1) (k' := k1) (fun _ _ => rfl) s1]
  have s2 : ∀ i, i < 8 → des k1 (des k1 (des k0 b back) (!back)) back i = des k0 b back i := by
    have := des_back k1 (des k0 b back) (des_by _ _ _) (!back)
    rwa [Bool.not_not] at this
  rw [des_ext (k := k0) (k' := k0) (fun _ _ => rfl) s2]
  exact des_back k0 b hb back i hi
/-- of equal keys TDES is DES -/
theorem tdes_one {L : Nat} {key b k : Nat → Nat} (h : ∀ j, j < 3 → ∀ i, i < 8 → tkey L key j i = k i) (hb : By8 b) (back : Bool) : tdes L key b back = des k b back := by
  unfold tdes
  have s : ∀ i, i < 8 → des k (des k b back) (!back) i = b i := des_back k b hb back
  have e1 : des (tkey L key 1) (des (tkey L key (if back then 2 else 0)) b back) (!back) = des k (des k b back) (!back) := by
    refine des_ext (h 1 (by omega)) ?_ _
    intro i _
    rw [des_ext (k := tkey L key (if back then 2 else 0)) (k' := k) (h _ (by split <;> omega)) (fun _ _ => rfl)]
  rw [e1, des_ext (k' := k) (h _ (by split <;> omega)) s]
end Go.Proofs.YtdodflnmhgnpeaaGreatDoor.Des
