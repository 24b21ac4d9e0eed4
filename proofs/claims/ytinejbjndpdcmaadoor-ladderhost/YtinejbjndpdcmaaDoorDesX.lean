/-
 DesMath DesWalks DesMix DesRounds DesRev
-/
import Derived.Test.YtinejbjndpdcmaaDoorMemX
import Derived.Laws.BitsAllLaws
import Derived.RegionTactic
import Derived.BigRegion
namespace Go.Proofs.YtinejbjndpdcmaaDoor.Des
def tabIP : List Nat := [58, 50, 42, 34, 26, 18, 10, 2, 60, 52, 44, 36, 28, 20, 12, 4, 62, 54, 46, 38, 30, 22, 14, 6, 64, 56, 48, 40, 32, 24, 16, 8, 57, 49, 41, 33, 25, 17, 9, 1, 59, 51, 43, 35, 27, 19, 11, 3, 61, 53, 45, 37, 29, 21, 13, 5, 63, 55, 47, 39, 31, 23, 15, 7]
def tabP : List Nat := [16, 7, 20, 21, 29, 12, 28, 17, 1, 15, 23, 26, 5, 18, 31, 10, 2, 8, 24, 14, 32, 27, 3, 9, 19, 13, 30, 6, 22, 11, 4, 25]
def tabPC1 : List Nat := [57, 49, 41, 33, 25, 17, 9, 1, 58, 50, 42, 34, 26, 18, 10, 2, 59, 51, 43, 35, 27, 19, 11, 3, 60, 52, 44, 36, 63, 55, 47, 39, 31, 23, 15, 7, 62, 54, 46, 38, 30, 22, 14, 6, 61, 53, 45, 37, 29, 21, 13, 5, 28, 20, 12, 4]
def tabPC2 : List Nat := [14, 17, 11, 24, 1, 5, 3, 28, 15, 6, 21, 10, 23, 19, 12, 4, 26, 8, 16, 7, 27, 20, 13, 2, 41, 52, 31, 37, 47, 55, 30, 40, 51, 45, 33, 48, 44, 49, 39, 56, 34, 53, 46, 42, 50, 36, 29, 32]
def invIP : List Nat := [24, 56, 16, 48, 8, 40, 0, 32, 25, 57, 17, 49, 9, 41, 1, 33, 26, 58, 18, 50, 10, 42, 2, 34, 27, 59, 19, 51, 11, 43, 3, 35, 28, 60, 20, 52, 12, 44, 4, 36, 29, 61, 21, 53, 13, 45, 5, 37, 30, 62, 22, 54, 14, 46, 6, 38, 31, 63, 23, 55, 15, 47, 7, 39]
def boxes : List (List Nat) := [[14, 4, 13, 1, 2, 15, 11, 8, 3, 10, 6, 12, 5, 9, 0, 7, 0, 15, 7, 4, 14, 2, 13, 1, 10, 6, 12, 11, 9, 5, 3, 8, 4, 1, 14, 8, 13, 6, 2, 11, 15, 12, 9, 7, 3, 10, 5, 0, 15, 12, 8, 2, 4, 9, 1, 7, 5, 11, 3, 14, 10, 0, 6, 13],
 [15, 1, 8, 14, 6, 11, 3, 4, 9, 7, 2, 13, 12, 0, 5, 10, 3, 13, 4, 7, 15, 2, 8, 14, 12, 0, 1, 10, 6, 9, 11, 5, 0, 14, 7, 11, 10, 4, 13, 1, 5, 8, 12, 6, 9, 3, 2, 15, 13, 8, 10, 1, 3, 15, 4, 2, 11, 6, 7, 12, 0, 5, 14, 9],
 [10, 0, 9, 14, 6, 3, 15, 5, 1, 13, 12, 7, 11, 4, 2, 8, 13, 7, 0, 9, 3, 4, 6, 10, 2, 8, 5, 14, 12, 11, 15, 1, 13, 6, 4, 9, 8, 15, 3, 0, 11, 1, 2, 12, 5, 10, 14, 7, 1, 10, 13, 0, 6, 9, 8, 7, 4, 15, 14, 3, 11, 5, 2, 12],
 [7, 13, 14, 3, 0, 6, 9, 10, 1, 2, 8, 5, 11, 12, 4, 15, 13, 8, 11, 5, 6, 15, 0, 3, 4, 7, 2, 12, 1, 10, 14, 9, 10, 6, 9, 0, 12, 11, 7, 13, 15, 1, 3, 14, 5, 2, 8, 4, 3, 15, 0, 6, 10, 1, 13, 8, 9, 4, 5, 11, 12, 7, 2, 14],
 [2, 12, 4, 1, 7, 10, 11, 6, 8, 5, 3, 15, 13, 0, 14, 9, 14, 11, 2, 12, 4, 7, 13, 1, 5, 0, 15, 10, 3, 9, 8, 6, 4, 2, 1, 11, 10, 13, 7, 8, 15, 9, 12, 5, 6, 3, 0, 14, 11, 8, 12, 7, 1, 14, 2, 13, 6, 15, 0, 9, 10, 4, 5, 3],
 [12, 1, 10, 15, 9, 2, 6, 8, 0, 13, 3, 4, 14, 7, 5, 11, 10, 15, 4, 2, 7, 12, 9, 5, 6, 1, 13, 14, 0, 11, 3, 8, 9, 14, 15, 5, 2, 8, 12, 3, 7, 0, 4, 10, 1, 13, 11, 6, 4, 3, 2, 12, 9, 5, 15, 10, 11, 14, 1, 7, 6, 0, 8, 13],
 [4, 11, 2, 14, 15, 0, 8, 13, 3, 12, 9, 7, 5, 10, 6, 1, 13, 0, 11, 7, 4, 9, 1, 10, 14, 3, 5, 12, 2, 15, 8, 6, 1, 4, 11, 13, 12, 3, 7, 14, 10, 15, 6, 8, 0, 5, 9, 2, 6, 11, 13, 8, 1, 4, 10, 7, 9, 5, 0, 15, 14, 2, 3, 12],
 [13, 2, 8, 4, 6, 15, 11, 1, 10, 9, 3, 14, 5, 0, 12, 7, 1, 15, 13, 8, 10, 3, 7, 4, 12, 5, 6, 11, 0, 14, 9, 2, 7, 11, 4, 1, 9, 12, 14, 2, 0, 6, 10, 13, 15, 3, 5, 8, 2, 1, 14, 7, 4, 10, 8, 13, 15, 12, 9, 0, 3, 5, 6, 11]]
def ip (i : Nat) : Nat := tabIP.getD i 0
def tp (i : Nat) : Nat := tabP.getD i 0
def pc1 (i : Nat) : Nat := tabPC1.getD i 0
def pc2 (i : Nat) : Nat := tabPC2.getD i 0
def sb (i v : Nat) : Nat := (boxes.getD i []).getD (16 * (2 * (v / 32 % 2) + v % 2) + v / 2 % 16) 0
def pk (p : Nat → Nat) (sz x : Nat) : Nat → Nat
 | 0 => 0
 | k + 1 => 2 * pk p sz x k + x / 2 ^ (sz - p k) % 2
def up (p : Nat → Nat) (sz x : Nat) : Nat → Nat
 | 0 => 0
 | k + 1 => up p sz x k ||| (x / 2 ^ (sz - 1 - k) % 2) * 2 ^ (sz - p k)
def rt (n x k : Nat) : Nat := (x * 2 ^ k ||| x / 2 ^ (n - k)) % 2 ^ n
def cp (n x : Nat) : Nat := x ^^^ (2 ^ n - 1)
def tn (r : Nat) : Nat := if r = 0 ∨ r = 1 ∨ r = 8 ∨ r = 15 then 1 else 2
def hl (c : Nat) : Nat → Nat
 | 0 => c
 | r + 1 => rt 28 (hl c r) (tn r)
def rkOf (b r : Nat) : Nat := pk pc2 56 (hl (b / 2 ^ 28) (r + 1) * 2 ^ 28 + hl (b % 2 ^ 28) (r + 1)) 48
def rounds (n r : Nat) : Nat := rkOf (pk pc1 64 n 56) r
def e6 (h i : Nat) : Nat := rt 32 h ((4 * i + 5) % 32) % 64
def k6 (k i : Nat) : Nat := k / 2 ^ (42 - 6 * i) % 64
def mx (h k : Nat) : Nat → Nat
 | 0 => 0
 | i + 1 => 16 * mx h k i + sb i (e6 h i ^^^ k6 k i)
def ff (h k : Nat) : Nat := pk tp 32 (mx h k 8) 32
def fe (K : Nat → Nat) (l r : Nat) : Nat → Nat × Nat
 | 0 => (l, r)
 | i + 1 => ((fe K l r i).2, (fe K l r i).1 ^^^ ff (fe K l r i).2 (K i))
def fin (s : Nat × Nat) : Nat := up ip 64 (s.2 * 2 ^ 32 + s.1) 64
def blk (K : Nat → Nat) (b : Nat) : Nat := fin (fe K (pk ip 64 b 64 / 2 ^ 32) (pk ip 64 b 64 % 2 ^ 32) 16)
def rev (K : Nat → Nat) : Nat → Nat := fun i => K (15 - i)
def num (f : Nat → Nat) : Nat → Nat
 | 0 => 0
 | k + 1 => 256 * num f k + f k
def byt (n : Nat) : Nat → Nat := fun i => n / 2 ^ (56 - 8 * i) % 256
def kk (key : Nat → Nat) (back : Bool) : Nat → Nat := if back then rev (rounds (num key 8)) else rounds (num key 8)
def des (key b : Nat → Nat) (back : Bool) : Nat → Nat := byt (blk (kk key back) (num b 8))
theorem pk_lt (p : Nat → Nat) (sz x n : Nat) : pk p sz x n < 2 ^ n := by
 induction n with
 | zero => simp [pk]
 | succ n ih => rw [pk, Nat.pow_succ]; omega
theorem bit_mod (x m : Nat) : x.testBit m = decide (x / 2 ^ m % 2 = 1) := Nat.testBit_eq_decide_div_mod_eq
theorem pk_bit (p : Nat → Nat) (sz x n j : Nat) (h : j < n) : (pk p sz x n).testBit j = x.testBit (sz - p (n - 1 - j)) := by
 induction n generalizing j with
 | zero => omega
 | succ n ih =>
  rw [pk]
  cases j with
  | zero =>
   rw [bit_mod, bit_mod, Nat.pow_zero, Nat.div_one, show n + 1 - 1 - 0 = n by omega]
   congr 1
   simp only [eq_iff_iff]
   omega
  | succ j =>
   rw [Nat.testBit_succ, show (2 * pk p sz x n + x / 2 ^ (sz - p n) % 2) / 2 = pk p sz x n by omega, ih j (by omega), show n + 1 - 1 - (j + 1) = n - 1 - j by omega]
theorem pow_bit (b m j : Nat) (hb : b < 2) : (b * 2 ^ m).testBit j = (decide (m = j) && decide (b = 1)) := by
 rcases (show b = 0 ∨ b = 1 by omega) with rfl | rfl
 ·simp
 rw [Nat.one_mul, Nat.testBit_two_pow]; simp
theorem up_bit (p : Nat → Nat) (sz x n j : Nat) : (up p sz x n).testBit j = true ↔ ∃ k, k < n ∧ sz - p k = j ∧ x.testBit (sz - 1 - k) = true := by
 induction n with
 | zero => simp [up]
 | succ n ih =>
  rw [up, Nat.testBit_or, Bool.or_eq_true, ih, pow_bit _ _ _ (Nat.mod_lt _ (by omega))]
  constructor
  ·rintro (⟨k, h1, h2, h3⟩ | h)
   ·exact ⟨k, by omega, h2, h3⟩
   simp only [Bool.and_eq_true, decide_eq_true_eq] at h
   exact ⟨n, by omega, h.1, by rw [bit_mod]; exact decide_eq_true h.2⟩
  rintro ⟨k, h1, h2, h3⟩
  by_cases hk : k = n
  ·subst hk
   right
   rw [bit_mod] at h3
   simp only [Bool.and_eq_true, decide_eq_true_eq]
   exact ⟨h2, of_decide_eq_true h3⟩
  exact .inl ⟨k, by omega, h2, h3⟩
theorem ip_range : ∀ k, k < 64 → 1 ≤ ip k ∧ ip k ≤ 64 := by decide +kernel
theorem ip_inv : ∀ k, k < 64 → invIP.getD (64 - ip k) 0 = k := by decide +kernel
theorem ip_sur : ∀ j, j < 64 → invIP.getD j 0 < 64 ∧ 64 - ip (invIP.getD j 0) = j := by decide +kernel
theorem pc1_range : ∀ k, k < 56 → 1 ≤ pc1 k ∧ pc1 k ≤ 64 ∧ pc1 k % 8 ≠ 0 := by decide +kernel
theorem pc2_range : ∀ k, k < 48 → 1 ≤ pc2 k ∧ pc2 k ≤ 56 := by decide +kernel
theorem tp_range : ∀ k, k < 32 → 1 ≤ tp k ∧ tp k ≤ 32 := by decide +kernel
theorem high {x n j : Nat} (hx : x < 2 ^ n) (hj : n ≤ j) : x.testBit j = false := Nat.testBit_lt_two_pow (Nat.lt_of_lt_of_le hx (Nat.pow_le_pow_right (by omega) hj))
theorem up_lt (x : Nat) : up ip 64 x 64 < 2 ^ 64 := by
 apply Nat.lt_pow_two_of_testBit
 intro j hj
 cases h : (up ip 64 x 64).testBit j with
 | false => rfl
 | true =>
  obtain ⟨k, h1, h2, _⟩ := (up_bit ip 64 x 64 j).1 h
  have := ip_range k h1
  omega
theorem eq_of_bits {n x y : Nat} (hx : x < 2 ^ n) (hy : y < 2 ^ n) (h : ∀ j, j < n → x.testBit j = y.testBit j) : x = y := by
 apply Nat.eq_of_testBit_eq
 intro j
 by_cases hj : j < n
 ·exact h j hj
 rw [high hx (by omega), high hy (by omega)]
theorem up_pk (x : Nat) (hx : x < 2 ^ 64) : up ip 64 (pk ip 64 x 64) 64 = x := by
 refine eq_of_bits (up_lt _) hx fun j hj => ?_
 rw [Bool.eq_iff_iff, up_bit]
 constructor
 ·rintro ⟨k, h1, h2, h3⟩
  rw [pk_bit _ _ _ _ _ (by omega), show 64 - 1 - (64 - 1 - k) = k by omega, h2] at h3
  exact h3
 intro h
 obtain ⟨h1, h2⟩ := ip_sur j hj
 refine ⟨_, h1, h2, ?_⟩
 rw [pk_bit _ _ _ _ _ (by omega), show 64 - 1 - (64 - 1 - invIP.getD j 0) = invIP.getD j 0 by omega, h2]
 exact h
theorem pk_up (y : Nat) (hy : y < 2 ^ 64) : pk ip 64 (up ip 64 y 64) 64 = y := by
 refine eq_of_bits (pk_lt _ _ _ _) hy fun j hj => ?_
 rw [pk_bit _ _ _ _ _ hj, Bool.eq_iff_iff, up_bit]
 constructor
 ·rintro ⟨k, h1, h2, h3⟩
  have e1 := ip_inv k h1
  have e2 := ip_inv (64 - 1 - j) (by omega)
  rw [h2, e2] at e1
  rw [← e1, show 64 - 1 - (64 - 1 - j) = j by omega] at h3
  exact h3
 intro h
 exact ⟨64 - 1 - j, by omega, rfl, by rw [show 64 - 1 - (64 - 1 - j) = j by omega]; exact h⟩
theorem rt_lt (n x k : Nat) : rt n x k < 2 ^ n := Nat.mod_lt _ (Nat.two_pow_pos n)
theorem rt_bit (n x k j : Nat) (hx : x < 2 ^ n) (hk : k ≤ n) (hj : j < n) : (rt n x k).testBit j = x.testBit (if j < k then n - k + j else j - k) := by
 unfold rt
 rw [Nat.testBit_mod_two_pow, Nat.testBit_or, Nat.testBit_mul_two_pow, Nat.testBit_div_two_pow]
 by_cases h : j < k
 ·simp [h, hj, show ¬ k ≤ j by omega, Nat.add_comm]
 rw [high (j := j + (n - k)) hx (by omega)]
 simp [h, hj, show k ≤ j by omega]
theorem cp_bit (n x j : Nat) : (cp n x).testBit j = (x.testBit j ^^ decide (j < n)) := by unfold cp; rw [Nat.testBit_xor, Nat.testBit_two_pow_sub_one]
theorem cp_lt {n x : Nat} (hx : x < 2 ^ n) : cp n x < 2 ^ n := Nat.xor_lt_two_pow hx (Nat.sub_lt (Nat.two_pow_pos n) (by omega))
theorem rt_cp (n x k : Nat) (hx : x < 2 ^ n) (hk : k ≤ n) : rt n (cp n x) k = cp n (rt n x k) := by
 refine eq_of_bits (rt_lt _ _ _) (cp_lt (rt_lt _ _ _)) fun j hj => ?_
 rw [rt_bit _ _ _ _ (cp_lt hx) hk hj, cp_bit, cp_bit, rt_bit _ _ _ _ hx hk hj]
 congr 1
 rw [decide_eq_true hj]
 apply decide_eq_true
 split <;> omega
theorem pk_cp (p : Nat → Nat) (sz x n : Nat) (hp : ∀ k, k < n → 1 ≤ p k ∧ p k ≤ sz) : pk p sz (cp sz x) n = cp n (pk p sz x n) := by
 refine eq_of_bits (pk_lt _ _ _ _) (cp_lt (pk_lt _ _ _ _)) fun j hj => ?_
 rw [pk_bit _ _ _ _ _ hj, cp_bit, cp_bit, pk_bit _ _ _ _ _ hj]
 have := hp (n - 1 - j) (by omega)
 rw [decide_eq_true hj, decide_eq_true (show sz - p (n - 1 - j) < sz by omega)]
theorem tn_le (r : Nat) : 1 ≤ tn r ∧ tn r ≤ 2 := by unfold tn; split <;> omega
theorem hl_lt {c : Nat} (hc : c < 2 ^ 28) (r : Nat) : hl c r < 2 ^ 28 := by
 cases r with
 | zero => exact hc
 | succ r => exact rt_lt _ _ _
theorem hl_cp {c : Nat} (hc : c < 2 ^ 28) (r : Nat) : hl (cp 28 c) r = cp 28 (hl c r) := by
 induction r with
 | zero => rfl
 | succ r ih => rw [hl, hl, ih, rt_cp _ _ _ (hl_lt hc r) (by have := tn_le r; omega)]
theorem split_cp (m n x : Nat) : cp (m + n) x / 2 ^ n = cp m (x / 2 ^ n) ∧ cp (m + n) x % 2 ^ n = cp n (x % 2 ^ n) := by
 constructor
 ·apply Nat.eq_of_testBit_eq
  intro j
  rw [Nat.testBit_div_two_pow, cp_bit, cp_bit, Nat.testBit_div_two_pow]
  congr 1
  apply decide_eq_decide.2
  omega
 apply Nat.eq_of_testBit_eq
 intro j
 rw [Nat.testBit_mod_two_pow, cp_bit, cp_bit, Nat.testBit_mod_two_pow]
 by_cases h : j < n
 ·simp [h, show j < m + n by omega]
 simp [h]
theorem join_bit {n x y : Nat} (hy : y < 2 ^ n) (j : Nat) : (x * 2 ^ n + y).testBit j = if j < n then y.testBit j else x.testBit (j - n) := by
 rw [Nat.mul_comm, Nat.testBit_two_pow_mul_add _ hy]
theorem join_cp {m n x y : Nat} (hy : y < 2 ^ n) : cp m x * 2 ^ n + cp n y = cp (m + n) (x * 2 ^ n + y) := by
 apply Nat.eq_of_testBit_eq
 intro j
 rw [join_bit (cp_lt hy), cp_bit, cp_bit, cp_bit, join_bit hy]
 by_cases h : j < n
 ·simp [h, show j < m + n by omega]
 simp only [h, if_false]
 congr 1
 apply decide_eq_decide.2
 omega
theorem rkOf_lt (b r : Nat) : rkOf b r < 2 ^ 48 := pk_lt _ _ _ _
theorem rkOf_cp (b r : Nat) (hb : b < 2 ^ 56) : rkOf (cp 56 b) r = cp 48 (rkOf b r) := by
 have h1 := split_cp 28 28 b
 have hq : b / 2 ^ 28 < 2 ^ 28 := by omega
 have hm : b % 2 ^ 28 < 2 ^ 28 := by omega
 unfold rkOf
 rw [show (56 : Nat) = 28 + 28 from rfl, h1.1, h1.2, hl_cp hq, hl_cp hm, join_cp (hl_lt hm _), pk_cp _ _ _ _ pc2_range]
theorem rounds_cp (n r : Nat) : rounds (cp 64 n) r = cp 48 (rounds n r) := by
 unfold rounds
 rw [pk_cp _ _ _ _ (fun k hk => ⟨(pc1_range k hk).1, (pc1_range k hk).2.1⟩), rkOf_cp _ _ (pk_lt _ _ _ _)]
theorem e6_cp (h i : Nat) (hh : h < 2 ^ 32) : e6 (cp 32 h) i = cp 6 (e6 h i) := by
 unfold e6
 rw [rt_cp _ _ _ hh (by omega)]
 exact (split_cp 26 6 _).2
theorem k6_cp (k i : Nat) (hi : i < 8) : k6 (cp 48 k) i = cp 6 (k6 k i) := by
 unfold k6
 rw [show (48 : Nat) = (6 * i + 6) + (42 - 6 * i) by omega, (split_cp (6 * i + 6) (42 - 6 * i) k).1]
 exact (split_cp (6 * i) 6 _).2
theorem cp_xor (n x y : Nat) : cp n x ^^^ cp n y = x ^^^ y := by
 unfold cp
 rw [Nat.xor_assoc, ← Nat.xor_assoc (2 ^ n - 1), Nat.xor_comm (2 ^ n - 1) y, Nat.xor_assoc y, Nat.xor_self, Nat.xor_zero]
theorem mx_cp (h k i : Nat) (hh : h < 2 ^ 32) (hi : i ≤ 8) : mx (cp 32 h) (cp 48 k) i = mx h k i := by
 induction i with
 | zero => rfl
 | succ i ih => rw [mx, mx, ih (by omega), e6_cp _ _ hh, k6_cp _ _ (by omega), cp_xor]
theorem ff_cp (h k : Nat) (hh : h < 2 ^ 32) : ff (cp 32 h) (cp 48 k) = ff h k := by unfold ff; rw [mx_cp _ _ _ hh (by omega)]
theorem ff_lt (h k : Nat) : ff h k < 2 ^ 32 := pk_lt _ _ _ _
theorem fe_lt (K : Nat → Nat) {l r : Nat} (hl : l < 2 ^ 32) (hr : r < 2 ^ 32) (i : Nat) : (fe K l r i).1 < 2 ^ 32 ∧ (fe K l r i).2 < 2 ^ 32 := by
 induction i with
 | zero => exact ⟨hl, hr⟩
 | succ i ih => exact ⟨ih.2, Nat.xor_lt_two_pow ih.1 (ff_lt _ _)⟩
theorem fe_ext {K J : Nat → Nat} (l r i : Nat) (h : ∀ j, j < i → K j = J j) : fe K l r i = fe J l r i := by
 induction i with
 | zero => rfl
 | succ i ih => rw [fe, fe, ih (fun j hj => h j (by omega)), h i (by omega)]
theorem blk_ext {K J : Nat → Nat} (b : Nat) (h : ∀ j, j < 16 → K j = J j) : blk K b = blk J b := by unfold blk; rw [fe_ext _ _ _ h]
theorem blk_lt (K : Nat → Nat) (b : Nat) : blk K b < 2 ^ 64 := up_lt _
theorem fe_back (K : Nat → Nat) (l r i : Nat) (hi : i ≤ 16) : fe (rev K) (fe K l r 16).2 (fe K l r 16).1 i = ((fe K l r (16 - i)).2, (fe K l r (16 - i)).1) := by
 induction i with
 | zero => rfl
 | succ i ih =>
  rw [fe, ih (by omega)]
  have e : 16 - i = (16 - (i + 1)) + 1 := by omega
  have e2 : rev K i = K (16 - (i + 1)) := by unfold rev; rw [show 15 - i = 16 - (i + 1) by omega]
  rw [e2]
  generalize 16 - (i + 1) = m at *
  rw [e, fe]
  simp only
  rw [Nat.xor_assoc, Nat.xor_self, Nat.xor_zero]
theorem fin_split {l r : Nat} (hl : l < 2 ^ 32) : (r * 2 ^ 32 + l) / 2 ^ 32 = r ∧ (r * 2 ^ 32 + l) % 2 ^ 32 = l := by omega
theorem blk_rev (K : Nat → Nat) (b : Nat) (hb : b < 2 ^ 64) : blk (rev K) (blk K b) = b := by
 have hp := pk_lt ip 64 b 64
 have hl : pk ip 64 b 64 / 2 ^ 32 < 2 ^ 32 := by omega
 have hr : pk ip 64 b 64 % 2 ^ 32 < 2 ^ 32 := by omega
 obtain ⟨h1, h2⟩ := fe_lt K hl hr 16
 have hu : pk ip 64 (blk K b) 64 = (fe K (pk ip 64 b 64 / 2 ^ 32) (pk ip 64 b 64 % 2 ^ 32) 16).2 * 2 ^ 32 + (fe K (pk ip 64 b 64 / 2 ^ 32) (pk ip 64 b 64 % 2 ^ 32) 16).1 := by
  unfold blk fin
  exact pk_up _ (by omega)
 show fin (fe (rev K) (pk ip 64 (blk K b) 64 / 2 ^ 32) (pk ip 64 (blk K b) 64 % 2 ^ 32) 16) = b
 rw [hu, (fin_split h1).1, (fin_split h1).2, fe_back _ _ _ _ (Nat.le_refl _), Nat.sub_self]
 show up ip 64 (pk ip 64 b 64 / 2 ^ 32 * 2 ^ 32 + pk ip 64 b 64 % 2 ^ 32) 64 = b
 rw [show pk ip 64 b 64 / 2 ^ 32 * 2 ^ 32 + pk ip 64 b 64 % 2 ^ 32 = pk ip 64 b 64 by omega, up_pk b hb]
theorem rev_rev (K : Nat → Nat) (i : Nat) (hi : i < 16) : rev (rev K) i = K i := by unfold rev; rw [show 15 - (15 - i) = i by omega]
theorem blk_rev' (K : Nat → Nat) (b : Nat) (hb : b < 2 ^ 64) : blk K (blk (rev K) b) = b := by
 have := blk_rev (rev K) b hb
 rwa [blk_ext _ (rev_rev K)] at this
theorem fe_cp (K : Nat → Nat) {l r : Nat} (hl : l < 2 ^ 32) (hr : r < 2 ^ 32) (i : Nat) : fe (fun j => cp 48 (K j)) (cp 32 l) (cp 32 r) i = (cp 32 (fe K l r i).1, cp 32 (fe K l r i).2) := by
 induction i with
 | zero => rfl
 | succ i ih =>
  rw [fe, ih, fe]
  simp only
  rw [ff_cp _ _ (fe_lt K hl hr i).2]
  congr 1
  unfold cp
  rw [Nat.xor_assoc, Nat.xor_comm (2 ^ 32 - 1), ← Nat.xor_assoc]
theorem up_cp (x : Nat) (hx : x < 2 ^ 64) : up ip 64 (cp 64 x) 64 = cp 64 (up ip 64 x 64) := by
 have h := pk_cp ip 64 (up ip 64 x 64) 64 ip_range
 rw [pk_up x hx] at h
 rw [← h, up_pk _ (cp_lt (up_lt _))]
theorem blk_cp (K : Nat → Nat) (b : Nat) : blk (fun j => cp 48 (K j)) (cp 64 b) = cp 64 (blk K b) := by
 have hp := pk_lt ip 64 b 64
 have hl : pk ip 64 b 64 / 2 ^ 32 < 2 ^ 32 := by omega
 have hr : pk ip 64 b 64 % 2 ^ 32 < 2 ^ 32 := by omega
 have hs := split_cp 32 32 (pk ip 64 b 64)
 obtain ⟨h1, h2⟩ := fe_lt K hl hr 16
 unfold blk
 rw [pk_cp _ _ _ _ ip_range, show (64 : Nat) = 32 + 32 from rfl, hs.1, hs.2, fe_cp K hl hr 16]
 unfold fin
 simp only
 rw [join_cp h1, up_cp _ (by omega)]
def By8 (f : Nat → Nat) : Prop := ∀ i, i < 8 → f i < 256
theorem byt_by (n : Nat) : By8 (byt n) := fun _ _ => Nat.mod_lt _ (by omega)
theorem num_lt {f : Nat → Nat} (hf : By8 f) (k : Nat) (hk : k ≤ 8) : num f k < 2 ^ (8 * k) := by
 induction k with
 | zero => simp [num]
 | succ k ih =>
  have := ih (by omega)
  have := hf k (by omega)
  rw [num, show 8 * (k + 1) = 8 * k + 8 by omega, Nat.pow_add]
  omega
theorem num_bit {f : Nat → Nat} (hf : By8 f) (k j : Nat) (hk : k ≤ 8) (hj : j < 8 * k) : (num f k).testBit j = (f (k - 1 - j / 8)).testBit (j % 8) := by
 induction k generalizing j with
 | zero => omega
 | succ k ih =>
  have e := join_bit (n := 8) (x := num f k) (y := f k) (hf k (by omega)) j
  rw [Nat.mul_comm] at e
  rw [num, show (256 : Nat) = 2 ^ 8 from rfl, e]
  by_cases h : j < 8
  ·rw [if_pos h, show k + 1 - 1 - j / 8 = k by omega, show j % 8 = j by omega]
  rw [if_neg h, ih (j - 8) (by omega) (by omega), show k - 1 - (j - 8) / 8 = k + 1 - 1 - j / 8 by omega, show (j - 8) % 8 = j % 8 by omega]
theorem num_byt (n : Nat) (hn : n < 2 ^ 64) : num (byt n) 8 = n := by
 simp only [num, byt]
 omega
theorem byt_num {f : Nat → Nat} (hf : By8 f) (i : Nat) (hi : i < 8) : byt (num f 8) i = f i := by
 have h0 := hf 0 (by omega); have h1 := hf 1 (by omega); have h2 := hf 2 (by omega); have h3 := hf 3 (by omega)
 have h4 := hf 4 (by omega); have h5 := hf 5 (by omega); have h6 := hf 6 (by omega); have h7 := hf 7 (by omega)
 simp only [num, byt]
 rcases (show i = 0 ∨ i = 1 ∨ i = 2 ∨ i = 3 ∨ i = 4 ∨ i = 5 ∨ i = 6 ∨ i = 7 by omega) with rfl | rfl | rfl | rfl | rfl | rfl | rfl | rfl <;> omega
theorem num_ext {f g : Nat → Nat} (k : Nat) (h : ∀ i, i < k → f i = g i) : num f k = num g k := by
 induction k with
 | zero => rfl
 | succ k ih => rw [num, num, ih (fun i hi => h i (by omega)), h k (by omega)]
theorem num_cp {f : Nat → Nat} (hf : By8 f) : num (fun i => cp 8 (f i)) 8 = cp 64 (num f 8) := by
 refine eq_of_bits (n := 64) (num_lt (fun i hi => cp_lt (hf i hi)) 8 (by omega)) (cp_lt (num_lt hf 8 (by omega))) fun j hj => ?_
 rw [num_bit (fun i hi => cp_lt (n := 8) (hf i hi)) 8 j (by omega) (by omega), cp_bit, cp_bit, num_bit hf 8 j (by omega) (by omega)]
 congr 1
 rw [decide_eq_true hj, decide_eq_true (show j % 8 < 8 by omega)]
theorem byt_cp {n m : Nat} (hn : n < 2 ^ 64) (h : m = cp 64 n) (i : Nat) (hi : i < 8) : byt m i = cp 8 (byt n i) := by
 have e := num_cp (byt_by n)
 rw [num_byt n hn] at e
 rw [h, ← e, byt_num (fun i hi => cp_lt (byt_by n i hi)) i hi]
theorem rounds_low {f g : Nat → Nat} (hf : By8 f) (hg : By8 g) (h : ∀ i, i < 8 → f i / 2 = g i / 2) (r : Nat) : rounds (num f 8) r = rounds (num g 8) r := by
 unfold rounds
 refine congrArg (fun x => rkOf x r) ?_
 refine eq_of_bits (pk_lt _ _ _ _) (pk_lt _ _ _ _) fun j hj => ?_
 have hp := pc1_range (56 - 1 - j) (by omega)
 rw [pk_bit _ _ _ _ _ hj, pk_bit _ _ _ _ _ hj, num_bit hf 8 _ (by omega) (by omega), num_bit hg 8 _ (by omega) (by omega)]
 have hb : ∃ t, (64 - pc1 (56 - 1 - j)) % 8 = t + 1 := ⟨(64 - pc1 (56 - 1 - j)) % 8 - 1, by omega⟩
 obtain ⟨t, ht⟩ := hb
 rw [ht, Nat.testBit_succ, Nat.testBit_succ, h _ (by omega)]
theorem kk_ext {f g : Nat → Nat} (h : ∀ i, i < 8 → f i = g i) (back : Bool) : kk f back = kk g back := by unfold kk; rw [num_ext 8 h]
theorem des_by (key b : Nat → Nat) (back : Bool) : By8 (des key b back) := byt_by _
theorem des_ext {k k' b b' : Nat → Nat} (h : ∀ i, i < 8 → k i = k' i) (hb : ∀ i, i < 8 → b i = b' i) (back : Bool) : des k b back = des k' b' back := by unfold des; rw [kk_ext h, num_ext 8 hb]
theorem des_back (key b : Nat → Nat) (hb : By8 b) (back : Bool) (i : Nat) (hi : i < 8) : des key (des key b back) (!back) i = b i := by
 unfold des
 rw [num_byt _ (blk_lt _ _), ← byt_num hb i hi]
 congr 1
 cases back
 ·exact blk_rev _ _ (num_lt hb 8 (by omega))
 exact blk_rev' _ _ (num_lt hb 8 (by omega))
theorem des_low {f g b : Nat → Nat} (hf : By8 f) (hg : By8 g) (h : ∀ i, i < 8 → f i / 2 = g i / 2) (back : Bool) : des f b back = des g b back := by
 unfold des kk
 rw [show rounds (num f 8) = rounds (num g 8) from funext (rounds_low hf hg h)]
theorem des_cp {f b : Nat → Nat} (hf : By8 f) (hb : By8 b) (i : Nat) (hi : i < 8) : des (fun i => cp 8 (f i)) (fun i => cp 8 (b i)) false i = cp 8 (des f b false i) := by
 refine byt_cp (blk_lt _ _) ?_ i hi
 rw [num_cp hb, ← blk_cp]
 congr 1
 unfold kk
 simp only [Bool.false_eq_true, if_false]
 rw [num_cp hf]
 exact funext (rounds_cp _)
def part8 (key : Nat → Nat) (k : Nat) : Nat → Nat := fun i => key (8 * k + i)
def tkey (L : Nat) (key : Nat → Nat) (k : Nat) : Nat → Nat := fun i => if L = 8 then key i else if L = 16 then key ((8 * k + i) % 16) else key (8 * k + i)
def tdes (L : Nat) (key b : Nat → Nat) (back : Bool) : Nat → Nat :=
 des (tkey L key (if back then 0 else 2)) (des (tkey L key 1) (des (tkey L key (if back then 2 else 0)) b back) (!back)) back
theorem tdes_by (L : Nat) (key b : Nat → Nat) (back : Bool) : By8 (tdes L key b back) := byt_by _
theorem tdes_back (L : Nat) (key b : Nat → Nat) (hb : By8 b) (back : Bool) (i : Nat) (hi : i < 8) : tdes L key (tdes L key b back) (!back) i = b i := by
 unfold tdes
 generalize h0 : tkey L key (if back then 2 else 0) = k0
 generalize h1 : tkey L key 1 = k1
 generalize h2 : tkey L key (if back then 0 else 2) = k2
 have e0 : tkey L key (if (!back) = true then 0 else 2) = k0 := by rw [← h0]; cases back <;> rfl
 have e2 : tkey L key (if (!back) = true then 2 else 0) = k2 := by rw [← h2]; cases back <;> rfl
 rw [e0, e2, Bool.not_not]
 rw [des_ext (k := k2) (b := des k2 _ back) (fun _ _ => rfl) (fun _ _ => rfl)]
 have s1 : ∀ i, i < 8 → des k2 (des k2 (des k1 (des k0 b back) (!back)) back) (!back) i = des k1 (des k0 b back) (!back) i := des_back k2 _ (des_by _ _ _) back
 rw [des_ext (k := k1) (k' := k1) (fun _ _ => rfl) s1]
 have s2 : ∀ i, i < 8 → des k1 (des k1 (des k0 b back) (!back)) back i = des k0 b back i := by
  have := des_back k1 (des k0 b back) (des_by _ _ _) (!back)
  rwa [Bool.not_not] at this
 rw [des_ext (k := k0) (k' := k0) (fun _ _ => rfl) s2]
 exact des_back k0 b hb back i hi
theorem tdes_one {L : Nat} {key b k : Nat → Nat} (h : ∀ j, j < 3 → ∀ i, i < 8 → tkey L key j i = k i) (hb : By8 b) (back : Bool) : tdes L key b back = des k b back := by
 unfold tdes
 have s : ∀ i, i < 8 → des k (des k b back) (!back) i = b i := des_back k b hb back
 have e1 : des (tkey L key 1) (des (tkey L key (if back then 2 else 0)) b back) (!back) = des k (des k b back) (!back) := by
  refine des_ext (h 1 (by omega)) ?_ _
  intro i _
  rw [des_ext (k := tkey L key (if back then 2 else 0)) (k' := k) (h _ (by split <;> omega)) (fun _ _ => rfl)]
 rw [e1, des_ext (k' := k) (h _ (by split <;> omega)) s]
end Go.Proofs.YtinejbjndpdcmaaDoor.Des
namespace Go.Proofs.YtinejbjndpdcmaaDoor.Des
open Go.ChangeShapes Go.WideShapes Go.ChangeAt Go.RowKit Mem
theorem u8_in (x y : Int) (h : x = y) (h1 : 0 ≤ y) (h2 : y < 256) : IntKind.u8.wrap x = y := by
 subst h; simp only [IntKind.wrap, IntKind.bits, IntKind.signed]; simp; omega
set_option maxRecDepth 100000 in
theorem place_any (s : ByteArray) (n : Nat) (p : Nat → Nat) (hs : TabS s n p) (i : Nat) (hi : i < n) (hn : n ≤ 1000) (w : World) :
  Calls Tryd.prog 53 #[.string s, .int .i64 i] w fun e w' => e = .returned (.int .i64 (p i : Nat)) ∧ ∃ q, w' = w.drewN q := by
 obtain ⟨hp, h0, h1⟩ := hs.2 i hi
 have hw1 := wrap_i64 (2 * (i : Int)) _ rfl (by omega) (by omega)
 have hw2 := wrap_i64 (2 * (i : Int) + 1) _ rfl (by omega) (by omega)
 have hu1 := u8_in (48 + ((p i : Nat) : Int) / 10 - 48) (((p i : Nat) : Int) / 10) (by omega) (by omega) (by omega)
 have hu2 := u8_in (48 + ((p i : Nat) : Int) % 10 - 48) (((p i : Nat) : Int) % 10) (by omega) (by omega) (by omega)
 have hw3 := wrap_i64 (((p i : Nat) : Int) / 10) _ rfl (by omega) (by omega)
 have hw4 := wrap_i64 (((p i : Nat) : Int) % 10) _ rfl (by omega) (by omega)
 have hw5 := wrap_i64 (10 * (((p i : Nat) : Int) / 10)) _ rfl (by omega) (by omega)
 have hw6 := wrap_i64 (10 * (((p i : Nat) : Int) / 10) + ((p i : Nat) : Int) % 10) ((p i : Nat) : Int) (by omega) (by omega) (by omega)
 go_enter Tryd.func53, Tryd.ntmps53
 go_wp2_with fail
 refine wp_region_still_lit (by kernel_rfl) (by kernel_rfl) ?_
 repeat (first
  | (with_reducible refine wps_str rfl 9 _ _ rfl s rfl .i64 _ rfl (2 * i) (by omega) Tryd.underlying9 _ h0 ?_)
  | (with_reducible refine wps_str rfl 9 _ _ rfl s rfl .i64 _ rfl (2 * i + 1) (by omega) Tryd.underlying9 _ h1 ?_)
  | still_step)
 refine wpStill_nil ?_
 go_wp2_with fail
 go_ret
 exact ⟨rfl, 1, rfl⟩
theorem u64_wrap (n : Nat) (h : n < 18446744073709551616) (x : Int) (hx : x = n) : IntKind.u64.wrap x = n := by
 subst hx; exact IntWalk.u64_in _ (by omega)
theorem and_one (x m : Nat) (hx : x < 18446744073709551616) : bits .and .u64 ((x : Int) / 2 ^ m) 1 = ((x / 2 ^ m % 2 : Nat) : Int) := by
 have e : ((x : Int) / 2 ^ m) = ((x / 2 ^ m : Nat) : Int) := by simp
 have := u64_and_nat (x / 2 ^ m) 1 (Nat.lt_of_le_of_lt (Nat.div_le_self _ _) hx) (by omega)
 rw [Nat.and_one_is_mod] at this
 rw [e]; exact this
theorem or_add (n o b : Nat) (hb : b < 2 ^ n) : o * 2 ^ n ||| b = o * 2 ^ n + b := by
 rw [Nat.mul_comm]; exact (Nat.two_pow_add_eq_or_of_lt hb o).symm
theorem or_bit (o x m k : Nat) (ho : o < 2 ^ k) (hk : k < 64) (hx : x < 18446744073709551616) : bits .or .u64 (IntKind.u64.wrap ((o : Int) * 2)) (bits .and .u64 ((x : Int) / 2 ^ m) 1) = ((2 * o + x / 2 ^ m % 2 : Nat) : Int) := by
 have : 2 ^ k ≤ 2 ^ 63 := Nat.pow_le_pow_right (by omega) (by omega)
 rw [u64_wrap (o * 2 ^ 1) (by omega) _ (by omega), and_one x m hx, u64_or_nat _ _ (by omega) (by omega), or_add 1 _ _ (by omega)]
 congr 1
 omega
set_option maxRecDepth 100000 in
theorem pick_any (s : ByteArray) (n : Nat) (p : Nat → Nat) (hs : TabS s n p) (x sz : Nat) (hx : x < 18446744073709551616) (hn : n ≤ 64) (hsz : sz ≤ 64) (hp : ∀ i, i < n → p i ≤ sz) (w : World) :
  Calls Tryd.prog 46 #[.string s, .int .u64 x, .int .i64 sz] w fun e w' => e = .returned (.int .u64 (pk p sz x n : Nat)) ∧ ∃ q, w' = w.drewN q := by
 have Hs := hid hs
 have Hp := hid hp
 have hsize : s.size = 2 * n := hs.1
 clear hs hp
 go_enter Tryd.func46, Tryd.ntmps46
 go_wp2_with fail
 go_loopw [7, 12] (fun o i wr => ∃ k q : Nat, k ≤ n ∧ o = .int .u64 (pk p sz x k : Nat) ∧ i = .int .i64 k ∧ Hid (wr = w.drewN q)) (fun _ i _ => n - (intOf i).toNat)
 case atStart => exact ⟨0, 0, by omega, rfl, rfl, hid rfl⟩
 case round =>
  obtain ⟨k, q, hk, rfl, rfl, HW⟩ := hrel
  by_cases hlt : k < n
  ·have hpk := Hp.out k hlt
   have hb := pk_lt p sz x k
   go_wp2_with (go_at_call 53; refine (place_any s n p Hs.out k hlt (by omega) _).mono ?_; rintro e w' ⟨rfl, q', rfl⟩)
   refine ⟨⟨k + 1, q + q', by omega, val_int (or_bit _ _ _ k hb (by omega) hx), val_int (by omega), hid (by rw [HW.out, World.drewN_drewN])⟩, by simp [intOf]; omega⟩
  go_wp2_with fail
  go_ret
  obtain rfl : k = n := by omega
  exact ⟨rfl, q, HW.out⟩
theorem hex_any (c : Nat) (hc : (48 ≤ c ∧ c ≤ 57) ∨ (97 ≤ c ∧ c ≤ 102)) (w : World) :
  Calls Tryd.prog 57 #[.int .u8 c] w fun e w' => e = .returned (.int .u64 ((if 97 ≤ c then c - 87 else c - 48 : Nat) : Int)) ∧ w = w' := by
 by_cases h : 97 ≤ c
 ·have hd : decide ((97 : Int) ≤ (c : Int)) = true := by simp; omega
  go_enter Tryd.func57, Tryd.ntmps57
  go_wp2
  go_ret
  exact ⟨ret_int (by omega), rfl⟩
 have hd : decide ((97 : Int) ≤ (c : Int)) = false := by simp; omega
 go_enter Tryd.func57, Tryd.ntmps57
 go_wp2
 go_ret
 exact ⟨ret_int (by omega), rfl⟩
theorem turns_any (r : Nat) (hr : r < 16) (w : World) :
  Calls Tryd.prog 51 #[.int .i64 ((r : Int) + 1)] w fun e w' => e = .returned (.int .i64 (tn r : Nat)) ∧ w = w' := by
 have all : ∀ r, r < 16 → r = 0 ∨ r = 1 ∨ r = 2 ∨ r = 3 ∨ r = 4 ∨ r = 5 ∨ r = 6 ∨ r = 7 ∨ r = 8 ∨ r = 9 ∨ r = 10 ∨ r = 11 ∨ r = 12 ∨ r = 13 ∨ r = 14 ∨ r = 15 := by omega
 rcases all r hr with rfl | rfl | rfl | rfl | rfl | rfl | rfl | rfl | rfl | rfl | rfl | rfl | rfl | rfl | rfl | rfl
 all_goals
  go_enter Tryd.func51, Tryd.ntmps51
  go_wp2
  go_ret
  exact ⟨rfl, rfl⟩
theorem or_up (u x m t : Nat) (hu : u < 18446744073709551616) (hx : x < 18446744073709551616) (ht : t < 64) : bits .or .u64 (u : Int) (IntKind.u64.wrap (bits .and .u64 ((x : Int) / 2 ^ m) 1 * 2 ^ t)) = ((u ||| (x / 2 ^ m % 2) * 2 ^ t : Nat) : Int) := by
 have h1 : (x / 2 ^ m % 2) * 2 ^ t < 2 ^ 64 := by
  have : 2 ^ t ≤ 2 ^ 63 := Nat.pow_le_pow_right (by omega) (by omega)
  rcases (show x / 2 ^ m % 2 = 0 ∨ x / 2 ^ m % 2 = 1 by omega) with h | h <;> rw [h] <;> omega
 rw [and_one x m hx, u64_wrap ((x / 2 ^ m % 2) * 2 ^ t) h1 _ (by simp), u64_or_nat _ _ hu h1]
theorem up_ltk (x k : Nat) (hk : k ≤ 64) : up ip 64 x k < 18446744073709551616 := by
 apply Nat.lt_pow_two_of_testBit (n := 64)
 intro j hj
 cases h : (up ip 64 x k).testBit j with
 | false => rfl
 | true =>
  obtain ⟨i, h1, h2, _⟩ := (up_bit ip 64 x k j).1 h
  have := ip_range i (by omega)
  omega
set_option maxRecDepth 100000 in
theorem unpick_any (s : ByteArray) (hs : TabS s 64 ip) (x : Nat) (hx : x < 18446744073709551616) (w : World) :
  Calls Tryd.prog 50 #[.string s, .int .u64 x, .int .i64 64] w fun e w' => e = .returned (.int .u64 (up ip 64 x 64 : Nat)) ∧ ∃ q, w' = w.drewN q := by
 have Hs := hid hs
 clear hs
 go_enter Tryd.func50, Tryd.ntmps50
 go_wp2_with fail
 go_loopw [7, 11] (fun o i wr => ∃ k q : Nat, k ≤ 64 ∧ o = .int .u64 (up ip 64 x k : Nat) ∧ i = .int .i64 k ∧ Hid (wr = w.drewN q)) (fun _ i _ => 64 - (intOf i).toNat)
 case atStart => exact ⟨0, 0, by omega, rfl, rfl, hid rfl⟩
 case round =>
  obtain ⟨k, q, hk, rfl, rfl, HW⟩ := hrel
  by_cases hlt : k < 64
  ·have hpk := ip_range k hlt
   have hb := up_ltk x k (by omega)
   go_wp2_with (go_at_call 53; refine (place_any s 64 ip Hs.out k hlt (by omega) _).mono ?_; rintro e w' ⟨rfl, q', rfl⟩)
   refine ⟨⟨k + 1, q + q', by omega, val_int ?_, val_int (by omega), hid (by rw [HW.out, World.drewN_drewN])⟩, by simp [intOf]; omega⟩
   have := or_up (up ip 64 x k) x (64 - 1 - k) (64 - ip k) hb hx (by omega)
   exact this
  go_wp2_with fail
  go_ret
  obtain rfl : k = 64 := by omega
  exact ⟨rfl, q, HW.out⟩
theorem rt_or (n x k : Nat) (hx : x < 2 ^ n) : x * 2 ^ k % 2 ^ n ||| x / 2 ^ (n - k) = rt n x k := by
 unfold rt
 rw [Nat.or_mod_two_pow]
 congr 1
 exact (Nat.mod_eq_of_lt (Nat.lt_of_le_of_lt (Nat.div_le_self _ _) hx)).symm
theorem and_mask (x m : Nat) (hx : x < 18446744073709551616) (hm : m < 64) : bits .and .u64 (x : Int) ((2 ^ m - 1 : Nat) : Int) = ((x % 2 ^ m : Nat) : Int) := by
 have h64 : 2 ^ m ≤ 2 ^ 63 := Nat.pow_le_pow_right (by omega) (by omega)
 rw [u64_and_nat x (2 ^ m - 1) hx (by omega), Nat.and_two_pow_sub_one_eq_mod]
theorem half_turn (x k : Nat) (hx : x < 268435456) (hk : k ≤ 28) : bits .and .u64 (bits .or .u64 ((x * 2 ^ k : Nat) : Int) ((x / 2 ^ (28 - k) : Nat) : Int)) 268435455 = ((rt 28 x k : Nat) : Int) := by
 have h1 : x * 2 ^ k < 2 ^ 56 := by
  have : 2 ^ k ≤ 2 ^ 28 := Nat.pow_le_pow_right (by omega) (by omega)
  calc x * 2 ^ k ≤ x * 2 ^ 28 := Nat.mul_le_mul_left _ this
   _ < 2 ^ 56 := by omega
 have h2 : x / 2 ^ (28 - k) < 2 ^ 56 := Nat.lt_of_le_of_lt (Nat.div_le_self _ _) (by omega)
 rw [u64_or_nat _ _ (by omega) (by omega)]
 exact and_mask _ 28 (Nat.lt_of_lt_of_le (Nat.or_lt_two_pow h1 h2) (by omega)) (by omega)
theorem turnHalf_any (x k : Nat) (hx : x < 268435456) (hk : k = 1 ∨ k = 2) (w : World) :
  Calls Tryd.prog 52 #[.int .u64 x, .int .i64 k] w fun e w' => e = .returned (.int .u64 (rt 28 x k : Nat)) ∧ ∃ q, w' = w.drewN q := by
 rcases hk with rfl | rfl
 ·go_enter Tryd.func52, Tryd.ntmps52
  go_wp2
  go_quiet (fail)
  go_wp2
  go_ret
  exact ⟨ret_int (half_turn x 1 hx (by omega)), _, rfl⟩
 go_enter Tryd.func52, Tryd.ntmps52
 go_wp2
 go_quiet (fail)
 go_wp2
 go_ret
 exact ⟨ret_int (half_turn x 2 hx (by omega)), _, rfl⟩
theorem rot_k (x : Nat) (hx : x < 4294967296) (k s : Nat) (hk : k < 100) (hs : 1 ≤ s) (hs2 : s ≤ 31) (hm : bits .and .u64 (k : Int) 31 = (s : Int)) (w : World) :
  Calls Tryd.prog 56 #[.int .u32 x, .int .i64 k] w fun e w' => e = .returned (.int .u32 (rt 32 x s : Nat)) ∧ w = w' := by
 go_enter Tryd.func56, Tryd.ntmps56
 go_wp2
 go_ret
 refine ⟨ret_int ?_, rfl⟩
 have e1 : (x : Int) * 2 ^ s % 4294967296 = ((x * 2 ^ s % 2 ^ 32 : Nat) : Int) := by simp
 have e2 : (x : Int) / 2 ^ (32 - s) = ((x / 2 ^ (32 - s) : Nat) : Int) := by simp
 rw [e1, e2, u32_or_nat _ _ (Nat.mod_lt _ (by omega)) (Nat.lt_of_le_of_lt (Nat.div_le_self _ _) hx), rt_or 32 x s hx]
theorem rot_any (x : Nat) (hx : x < 4294967296) (i : Nat) (hi : i < 8) (w : World) :
  Calls Tryd.prog 56 #[.int .u32 x, .int .i64 (4 * (i : Int) + 5)] w fun e w' => e = .returned (.int .u32 (rt 32 x ((4 * i + 5) % 32) : Nat)) ∧ w = w' := by
 have hm : ∀ i, i < 8 → bits .and .u64 ((4 * i + 5 : Nat) : Int) 31 = (((4 * i + 5) % 32 : Nat) : Int) := by decide +kernel
 have hs : ∀ i, i < 8 → 1 ≤ (4 * i + 5) % 32 := by decide
 exact rot_k x hx (4 * i + 5) _ (by omega) (hs i hi) (by omega) (hm i hi) w
theorem and63 (x : Nat) (hx : x < 4294967296) : bits .and .u32 (x : Int) 63 = ((x % 64 : Nat) : Int) := by
 have := u32_and_nat x (2 ^ 6 - 1) hx (by omega)
 rw [Nat.and_two_pow_sub_one_eq_mod] at this
 exact this
theorem six_any (x : Nat) (hx : x < 4294967296) (i : Nat) (hi : i < 8) (w : World) :
  Calls Tryd.prog 54 #[.int .u32 x, .int .i64 (i : Int)] w fun e w' => e = .returned (.int .u32 (e6 x i : Nat)) ∧ w = w' := by
 go_enter Tryd.func54, Tryd.ntmps54
 go_wp2_with (go_at_call 56; refine (rot_any x hx i hi _).mono ?_; rintro e w' ⟨rfl, rfl⟩)
 go_ret
 exact ⟨ret_int (and63 _ (rt_lt 32 _ _)), rfl⟩
def hexc (d : Nat) : Nat := if d < 10 then 48 + d else 87 + d
def BoxS (s : ByteArray) (i : Nat) : Prop := s.size = 64 ∧ ∀ j, j < 64 → byteAt s j = some (hexc ((boxes.getD i []).getD j 0))
instance (s : ByteArray) (i : Nat) : Decidable (BoxS s i) := by unfold BoxS; infer_instance
theorem box_dig : ∀ i, i < 8 → ∀ j, j < 64 → (boxes.getD i []).getD j 0 < 16 := by decide +kernel
theorem hexc_ok : ∀ d, d < 16 → ((48 ≤ hexc d ∧ hexc d ≤ 57) ∨ (97 ≤ hexc d ∧ hexc d ≤ 102)) ∧ (if 97 ≤ hexc d then hexc d - 87 else hexc d - 48) = d := by decide +kernel
theorem hexd_any (d : Nat) (hd : d < 16) (w : World) : Calls Tryd.prog 57 #[.int .u8 ((hexc d : Nat) : Int)] w fun e w' => e = .returned (.int .u64 (d : Nat)) ∧ w = w' := by
 have := hex_any (hexc d) (hexc_ok d hd).1 w
 rwa [(hexc_ok d hd).2] at this
theorem row_bits : ∀ v, v < 64 → bits .or .u32 (bits .and .u32 ((v : Nat) / 16 : Int) 2) (bits .and .u32 ((v : Nat) : Int) 1) = ((2 * (v / 32 % 2) + v % 2 : Nat) : Int) := by decide +kernel
theorem col_bits : ∀ v, v < 64 → bits .and .u32 ((v : Nat) / 2 : Int) 15 = ((v / 2 % 16 : Nat) : Int) := by decide +kernel
set_option maxRecDepth 100000 in
theorem boxed_any (s : ByteArray) (i : Nat) (hi : i < 8) (hs : BoxS s i) (v : Nat) (hv : v < 64) (w : World) :
  Calls Tryd.prog 55 #[.string s, .int .u32 v] w fun e w' => e = .returned (.int .u64 (sb i v : Nat)) ∧ w = w' := by
 have hr := row_bits v hv
 have hc := col_bits v hv
 have hlt : 16 * (2 * (v / 32 % 2) + v % 2) + v / 2 % 16 < 64 := by omega
 have hb := hs.2 _ hlt
 have hd := box_dig i hi _ hlt
 clear hs
 go_enter Tryd.func55, Tryd.ntmps55
 go_wp2_with (first
  | (with_reducible refine wpl_str rfl 9 _ _ rfl s rfl .u32 _ rfl (16 * (2 * (v / 32 % 2) + v % 2) + v / 2 % 16) (by omega) Tryd.underlying9 _ hb ?_)
  | (go_at_call 57; refine (hexd_any _ hd _).mono ?_; rintro e w' ⟨rfl, rfl⟩))
 go_ret
 exact ⟨rfl, rfl⟩
theorem z8 : (Tryd.prog.info? 57).map (·.zero) = some (some (.agg (row 8 (b8 fun _ => 0)))) := by kernel_rfl
theorem i8a : (Tryd.prog.info? 57).map (·.size) = some 8 := by kernel_rfl
theorem i8a' (f : Nat → Value) : (Tryd.prog.info? 57).map (·.size) = some (row 8 f).size := by rw [row_size]; exact i8a
theorem i8 : (Tryd.prog.info? 5).map (·.size) = some 1 := by kernel_rfl
theorem or_byte (o b k : Nat) (ho : o < 2 ^ (8 * k)) (hk : k < 8) (hb : b < 256) : bits .or .u64 (IntKind.u64.wrap ((o : Int) * 256)) (b : Int) = ((256 * o + b : Nat) : Int) := by
 have : 2 ^ (8 * k) ≤ 2 ^ 56 := Nat.pow_le_pow_right (by omega) (by omega)
 rw [u64_wrap (o * 2 ^ 8) (by omega) _ (by omega), u64_or_nat _ _ (by omega) (by omega), or_add 8 _ _ (by omega)]
 congr 1
 omega
set_option maxRecDepth 100000 in
theorem num_any (f : Nat → Nat) (hf : By8 f) (w : World) :
  Calls Tryd.prog 47 #[.agg (row 8 (b8 f))] w fun e w' => e = .returned (.int .u64 (num f 8 : Nat)) ∧ Below w.heap.size w w' := by
 have Hf := hid hf
 clear hf
 go_enter Tryd.func47, Tryd.ntmps47
 go_wp2_with (with_reducible refine wpl_load rfl 57 _ rfl w.heap.size rfl 57 _ (Blk.fresh _ _ _) 8 5 Tryd.underlying57 (i8a' _) ?_)
 go_loop [3, 7] (fun n i => ∃ k : Nat, k ≤ 8 ∧ n = .int .u64 (num f k : Nat) ∧ i = .int .i64 k) (fun _ i => 8 - (intOf i).toNat)
 case atStart => exact ⟨0, by omega, rfl, rfl⟩
 case round =>
  obtain ⟨k, hk, rfl, rfl⟩ := hrel
  by_cases hlt : k < 8
  ·have hb := num_lt Hf.out k hk
   have hfk := Hf.out k hlt
   go_wp2_with (with_reducible refine wpl_index rfl 57 _ _ rfl _ rfl .i64 _ rfl k rfl 8 5 Tryd.underlying57 hlt .u8 Tryd.underlying5 i8 _ (row_val 8 f k hlt) ?_)
   exact ⟨⟨k + 1, by omega, val_int (or_byte _ _ k hb hlt hfk), val_int (by omega)⟩, by simp [intOf]; omega⟩
  go_wp2_with fail
  go_ret
  obtain rfl : k = 8 := by omega
  exact ⟨rfl, (Below.refl _ _).alloc (Nat.le_refl _) _⟩
theorem two_new (w : World) (o : Obj) (c : Array Value) (t : TypeId) : Blk ((w.alloc o).alloc (.cells c t)) (w.heap.size + 1) t c := by simpa using Blk.fresh (w.alloc o) t c
set_option maxRecDepth 100000 in
theorem byt_any (n : Nat) (_hn : n < 18446744073709551616) (w : World) :
  Calls Tryd.prog 49 #[.int .u64 n] w fun e w' => e = .returned (.agg (row 8 (b8 (byt n)))) ∧ Below w.heap.size w w' := by
 go_enter Tryd.func49, Tryd.ntmps49
 go_wp2_with (with_reducible refine wpl_alloc rfl 57 rfl _ z8 ?_)
 go_loopw [5] (fun i wr => ∃ (k : Nat) (m m' : Nat → Nat), k ≤ 8 ∧ i = .int .i64 k ∧ Hid (∀ j, m j = if j < k then byt n j else 0) ∧ Blk wr w.heap.size 57 (row 8 (b8 m')) ∧ Blk wr (w.heap.size + 1) 57 (row 8 (b8 m)) ∧ Below w.heap.size w wr) (fun i _ => 8 - (intOf i).toNat)
 case atStart =>
  exact ⟨0, fun _ => 0, fun _ => 0, by omega, rfl, hid (by simp), (Blk.fresh _ _ _).alloc _, two_new _ _ _ _, ((Below.refl _ _).alloc (Nat.le_refl _) _).alloc (by simp) _⟩
 case round =>
  obtain ⟨k, m, m', hk, rfl, HM, hb1, hb2, hB⟩ := hrel
  by_cases hlt : k < 8
  ·go_wp2_with (first
    | (with_reducible refine wpl_at rfl 57 _ _ rfl _ rfl .i64 _ rfl k rfl 8 5 Tryd.underlying57 hlt i8 ?_)
    | (with_reducible refine wpl_st rfl 5 _ _ rfl _ rfl .u8 _ rfl i8 _ (hb2.val k hlt) (hb2.free k) ?_))
   go_round
   case rel =>
    rw [show (n : Int) / 2 ^ (56 - 8 * k) % 256 = ((byt n k : Nat) : Int) by simp [byt]]
    exact ⟨k + 1, upd m k (byt n k), m', by omega, val_int (by omega), hid (fill_step (F := byt n) HM.out), hb1.other _ _ (by simp), hb2.put k _, hB.setCell (by simp) _⟩
   case measure => simp [intOf]; omega
  go_wp2_with (first
   | (with_reducible refine wpl_load rfl 57 _ rfl _ rfl 57 _ hb2 8 5 Tryd.underlying57 (i8a' _) ?_)
   | (with_reducible refine wpl_store rfl 57 _ _ rfl _ _ rfl rfl 57 _ hb1 (i8a' _) (by simp [row_size]) (one_b8 _ _) ?_))
  exact ret_row Tryd.results49 rfl w.heap.size rfl 57 8 _ (hb1.setRow _) 5 Tryd.underlying57 i8a ⟨ret_agg (fill_end HM.out (by omega)), below_setRow' hB (by omega) _⟩
end Go.Proofs.YtinejbjndpdcmaaDoor.Des
namespace Go.Proofs.YtinejbjndpdcmaaDoor.Des
open Go.ChangeShapes Go.WideShapes Go.ChangeAt Go.RowKit Mem
def boxStr : List ByteArray := [⟨#[101, 52, 100, 49, 50, 102, 98, 56, 51, 97, 54, 99, 53, 57, 48, 55, 48, 102, 55, 52, 101, 50, 100, 49, 97, 54, 99, 98, 57, 53, 51, 56, 52, 49, 101, 56, 100, 54, 50, 98, 102, 99, 57, 55, 51, 97, 53, 48, 102, 99, 56, 50, 52, 57, 49, 55, 53, 98, 51, 101, 97, 48, 54, 100]⟩,
 ⟨#[102, 49, 56, 101, 54, 98, 51, 52, 57, 55, 50, 100, 99, 48, 53, 97, 51, 100, 52, 55, 102, 50, 56, 101, 99, 48, 49, 97, 54, 57, 98, 53, 48, 101, 55, 98, 97, 52, 100, 49, 53, 56, 99, 54, 57, 51, 50, 102, 100, 56, 97, 49, 51, 102, 52, 50, 98, 54, 55, 99, 48, 53, 101, 57]⟩,
 ⟨#[97, 48, 57, 101, 54, 51, 102, 53, 49, 100, 99, 55, 98, 52, 50, 56, 100, 55, 48, 57, 51, 52, 54, 97, 50, 56, 53, 101, 99, 98, 102, 49, 100, 54, 52, 57, 56, 102, 51, 48, 98, 49, 50, 99, 53, 97, 101, 55, 49, 97, 100, 48, 54, 57, 56, 55, 52, 102, 101, 51, 98, 53, 50, 99]⟩,
 ⟨#[55, 100, 101, 51, 48, 54, 57, 97, 49, 50, 56, 53, 98, 99, 52, 102, 100, 56, 98, 53, 54, 102, 48, 51, 52, 55, 50, 99, 49, 97, 101, 57, 97, 54, 57, 48, 99, 98, 55, 100, 102, 49, 51, 101, 53, 50, 56, 52, 51, 102, 48, 54, 97, 49, 100, 56, 57, 52, 53, 98, 99, 55, 50, 101]⟩,
 ⟨#[50, 99, 52, 49, 55, 97, 98, 54, 56, 53, 51, 102, 100, 48, 101, 57, 101, 98, 50, 99, 52, 55, 100, 49, 53, 48, 102, 97, 51, 57, 56, 54, 52, 50, 49, 98, 97, 100, 55, 56, 102, 57, 99, 53, 54, 51, 48, 101, 98, 56, 99, 55, 49, 101, 50, 100, 54, 102, 48, 57, 97, 52, 53, 51]⟩,
 ⟨#[99, 49, 97, 102, 57, 50, 54, 56, 48, 100, 51, 52, 101, 55, 53, 98, 97, 102, 52, 50, 55, 99, 57, 53, 54, 49, 100, 101, 48, 98, 51, 56, 57, 101, 102, 53, 50, 56, 99, 51, 55, 48, 52, 97, 49, 100, 98, 54, 52, 51, 50, 99, 57, 53, 102, 97, 98, 101, 49, 55, 54, 48, 56, 100]⟩,
 ⟨#[52, 98, 50, 101, 102, 48, 56, 100, 51, 99, 57, 55, 53, 97, 54, 49, 100, 48, 98, 55, 52, 57, 49, 97, 101, 51, 53, 99, 50, 102, 56, 54, 49, 52, 98, 100, 99, 51, 55, 101, 97, 102, 54, 56, 48, 53, 57, 50, 54, 98, 100, 56, 49, 52, 97, 55, 57, 53, 48, 102, 101, 50, 51, 99]⟩,
 ⟨#[100, 50, 56, 52, 54, 102, 98, 49, 97, 57, 51, 101, 53, 48, 99, 55, 49, 102, 100, 56, 97, 51, 55, 52, 99, 53, 54, 98, 48, 101, 57, 50, 55, 98, 52, 49, 57, 99, 101, 50, 48, 54, 97, 100, 102, 51, 53, 56, 50, 49, 101, 55, 52, 97, 56, 100, 102, 99, 57, 48, 51, 53, 54, 98]⟩]
def bxs (i : Nat) : ByteArray := boxStr.getD i ⟨#[]⟩
def bxv (i : Nat) : Value := .string (bxs i)
theorem bxs_ok : ∀ i, i < 8 → BoxS (bxs i) i := by decide +kernel
theorem zA8S : (Tryd.prog.info? 111).map (·.zero) = some (some (.agg (row 8 fun _ => .string ⟨#[]⟩))) := by kernel_rfl
theorem iA8S : (Tryd.prog.info? 111).map (·.size) = some 8 := by kernel_rfl
theorem iA8S' (f : Nat → Value) : (Tryd.prog.info? 111).map (·.size) = some (row 8 f).size := by rw [row_size]; exact iA8S
theorem iSTR : (Tryd.prog.info? 9).map (·.size) = some 1 := by kernel_rfl
section
variable {P : Program} {ops : Array Oper} {rest : List Oper} {o : Oper} {a : Act} {w : World} {Q : Exit → Act → World → Prop}
theorem wpl_indexS (hgd : o.guard = none) (ty : TypeId) (x ix : Operand) (ho : o.op = .index ty x ix) (cs : Array Value) (hx : a.eval x = .agg cs) (kd : IntKind) (z : Int) (hix : a.eval ix = .int kd z) (k : Nat) (hz : z = (k : Int))
  (n : Nat) (e : TypeId) (hu : P.underlying ty = some (.array n e)) (hk : k < n) (he : P.underlying e = some .string) (hs : (P.info? e).map (·.size) = some 1) (v : Value) (hv : cs[k]? = some v)
  (h : wpList P ops Q rest (a.put o.dst v) w) : wpList P ops Q (o :: rest) a w := by
 subst hz
 refine wpList_plain hgd fun _ hK => ?_
 have hr : (Instr.index ty (.agg cs) (.int kd (k : Int))).run P w = .ok v w := by
  simp [Instr.index, asIntOf, Sem.run_bind, run_underlying hu, run_size hs, show ¬ n ≤ k by omega, part, isAgg, run_underlying he, hv]
 unfold Oper.wp execOp
 simp only [ho, hx, hix, hr, Sem.run_bind, Sem.run_pure, Result.andThen_ok]
 exact hK _ _ h
theorem wpl_build {Q : Exit → Act → World → Prop} (hgd : o.guard = none) (ty : TypeId) (l : List (Nat × Operand)) (ho : o.op = .build ty l.toArray) (cs : Array Value) (hb : P.built ty (l.map fun p => (p.1, a.eval p.2)) = some cs)
  (h : wpList P ops Q rest (a.put o.dst (.agg cs)) w) : wpList P ops Q (o :: rest) a w := by
 refine wpList_plain hgd fun _ hK => ?_
 have e := run_build (P := P) w ty (l.map fun p => (p.1, a.eval p.2)).toArray cs hb
 unfold Oper.wp execOp
 simp only [ho, List.map_toArray, e, Sem.run_bind, Sem.run_pure, Result.andThen_ok]
 exact hK _ _ h
end
theorem six_still (x : Nat) (hx : x < 4294967296) (i : Nat) (hi : i < 8) (w : World) :
  Calls Tryd.prog 54 #[.int .u32 x, .int .i64 (i : Int)] w fun e w' => e = .returned (.int .u32 (e6 x i : Nat)) ∧ w' = w := (six_any x hx i hi w).mono fun _ _ ⟨h1, h2⟩ => ⟨h1, h2.symm⟩
theorem sb_lt (i v : Nat) (hi : i < 8) : sb i v < 16 := box_dig i hi _ (by omega)
theorem mx_lt (h k i : Nat) (hi : i ≤ 8) : mx h k i < 2 ^ (4 * i) := by
 induction i with
 | zero => simp [mx]
 | succ i ih =>
  have := ih (by omega)
  have := sb_lt i (e6 h i ^^^ k6 k i) (by omega)
  rw [mx, show 4 * (i + 1) = 4 * i + 4 by omega, Nat.pow_add]
  omega
theorem or_four (o b i : Nat) (ho : o < 2 ^ (4 * i)) (hi : i < 8) (hb : b < 16) : bits .or .u64 (IntKind.u64.wrap ((o : Int) * 16)) (b : Int) = ((16 * o + b : Nat) : Int) := by
 have : 2 ^ (4 * i) ≤ 2 ^ 28 := Nat.pow_le_pow_right (by omega) (by omega)
 rw [u64_wrap (o * 2 ^ 4) (by omega) _ (by omega), u64_or_nat _ _ (by omega) (by omega), or_add 4 _ _ (by omega)]
 congr 1
 omega
theorem e6_lt (h i : Nat) : e6 h i < 64 := Nat.mod_lt _ (by omega)
theorem k6_lt (h i : Nat) : k6 h i < 64 := Nat.mod_lt _ (by omega)
theorem six_lt (h k i : Nat) : e6 h i ^^^ k6 k i < 64 := Nat.xor_lt_two_pow (n := 6) (e6_lt _ _) (k6_lt _ _)
theorem key_six (h k n : Nat) (_hk : k < 281474976710656) : bits .xor .u32 ((e6 h n : Nat) : Int) (bits .and .u32 ((k : Int) / 2 ^ (42 - 6 * n) % 4294967296) 63) = ((e6 h n ^^^ k6 k n : Nat) : Int) := by
 have e1 : (k : Int) / 2 ^ (42 - 6 * n) % 4294967296 = ((k / 2 ^ (42 - 6 * n) % 4294967296 : Nat) : Int) := by simp
 have e2 : k / 2 ^ (42 - 6 * n) % 4294967296 % 64 = k6 k n := by unfold k6; omega
 have := e6_lt h n
 have := k6_lt k n
 rw [e1, and63 _ (Nat.mod_lt _ (by omega)), e2, u32_xor_nat _ _ (by omega) (by omega)]
set_option maxRecDepth 100000 in
set_option maxHeartbeats 1000000 in
theorem mixed_any (h k : Nat) (hh : h < 4294967296) (hk : k < 281474976710656) (w : World) :
  Calls Tryd.prog 48 #[.int .u32 h, .int .u64 k] w fun e w' => e = .returned (.int .u32 (ff h k : Nat)) ∧ Below w.heap.size w w' := by
 go_enter Tryd.func48, Tryd.ntmps48
 go_wp2_with (first
  | ((with_reducible refine wpl_build rfl 111 _ rfl (row 8 bxv) ?_ ?_); (kernel_rfl))
  | (with_reducible refine wpl_alloc rfl 111 rfl _ zA8S ?_)
  | (with_reducible refine wpl_store rfl 111 _ _ rfl _ _ rfl rfl 111 _ (Blk.fresh _ _ _) (iA8S' _) (by simp [row_size]) (one_row fun _ => rfl) ?_)
  | (with_reducible refine wpl_load rfl 111 _ rfl w.heap.size rfl 111 _ ((Blk.fresh _ _ _).setRow _) 8 9 Tryd.underlying111 (iA8S' _) ?_))
 have hB1 : Below w.heap.size w ((w.alloc (.cells (row 8 fun _ => .string { data := #[] }) 111)).setRow w.heap.size (row 8 bxv)) := below_setRow' ((Below.refl _ _).alloc (Nat.le_refl _) _) (Nat.le_refl _) _
 have HB1 := hid hB1
 clear hB1
 generalize (w.alloc (.cells (row 8 fun _ => .string { data := #[] }) 111)).setRow w.heap.size (row 8 bxv) = w1 at *
 go_loopw [6, 12] (fun o i wr => ∃ n q : Nat, n ≤ 8 ∧ o = .int .u64 (mx h k n : Nat) ∧ i = .int .i64 n ∧ Hid (wr = w1.drewN q)) (fun _ i _ => 8 - (intOf i).toNat)
 case atStart => exact ⟨0, 0, by omega, rfl, rfl, hid rfl⟩
 case round =>
  obtain ⟨n, q, hn, rfl, rfl, HW⟩ := hrel
  by_cases hlt : n < 8
  ·have hw1 := wrap_i64 (6 * (n : Int)) _ rfl (by omega) (by omega)
   have hw2 := wrap_i64 (42 - 6 * (n : Int)) _ rfl (by omega) (by omega)
   go_wp2_with (with_reducible refine wpl_indexS rfl 111 _ _ rfl _ rfl .i64 _ rfl n rfl 8 9 Tryd.underlying111 hlt Tryd.underlying9 iSTR _ (row_get 8 bxv n hlt) ?_)
   refine wp_region_still_lit (by kernel_rfl) (by kernel_rfl) ?_
   repeat (first
    | still_step
    | still_call (six_still _ hh n hlt _))
   refine wpStill_nil ?_
   go_wp2_with fail
   rw [key_six h k n hk]
   refine (boxed_any (bxs n) n hlt (bxs_ok n hlt) _ (six_lt h k n) _).mono ?_
   rintro e w' ⟨rfl, rfl⟩
   go_wp2_with fail
   refine ⟨⟨n + 1, q + 1, by omega, val_int (or_four _ _ n (mx_lt h k n hn) hlt (sb_lt n _ hlt)), val_int (by omega), hid (by rw [HW.out]; rfl)⟩, by simp [intOf]; omega⟩
  obtain ⟨hm1, hm2⟩ : mx h k n < 18446744073709551616 ∧ pk tp 32 (mx h k n) 32 < 4294967296 := ⟨by
   have := mx_lt h k n hn
   have : 2 ^ (4 * n) ≤ 2 ^ 32 := Nat.pow_le_pow_right (by omega) (by omega)
   omega, pk_lt _ _ _ _⟩
  go_wp2_with fail
  refine (pick_any _ 32 tp (by decide +kernel) _ 32 hm1 (by omega) (by omega) (fun i hi => (tp_range i hi).2) _).mono ?_
  rintro e w' ⟨rfl, q', rfl⟩
  go_wp2_with fail
  go_ret
  obtain rfl : n = 8 := by omega
  refine ⟨rfl, ?_⟩
  rw [HW.out]
  exact below_drewN (below_drewN HB1.out q) q'
end Go.Proofs.YtinejbjndpdcmaaDoor.Des
namespace Go.Proofs.YtinejbjndpdcmaaDoor.Des
open Go.ChangeShapes Go.WideShapes Go.ChangeAt Go.RowKit Mem
theorem zR16 : (Tryd.prog.info? 101).map (·.zero) = some (some (.agg (row 16 (iv .u64 fun _ => 0)))) := by kernel_rfl
theorem iR16 : (Tryd.prog.info? 101).map (·.size) = some 16 := by kernel_rfl
theorem iR16' (f : Nat → Value) : (Tryd.prog.info? 101).map (·.size) = some (row 16 f).size := by rw [row_size]; exact iR16
theorem iU64 : (Tryd.prog.info? 67).map (·.size) = some 1 := by kernel_rfl
theorem num_lt64 {f : Nat → Nat} (hf : By8 f) : num f 8 < 18446744073709551616 := num_lt hf 8 (by omega)
theorem or_half (a b : Nat) (ha : a < 2 ^ 28) (hb : b < 2 ^ 28) : bits .or .u64 ((a : Int) * 268435456) (b : Int) = ((a * 2 ^ 28 + b : Nat) : Int) := by
 rw [show (a : Int) * 268435456 = ((a * 2 ^ 28 : Nat) : Int) by omega, u64_or_nat _ _ (by omega) (by omega), or_add 28 _ _ hb]
set_option maxRecDepth 100000 in
set_option maxHeartbeats 2000000 in
theorem rounds_any (f : Nat → Nat) (hf : By8 f) (w : World) :
  Calls Tryd.prog 44 #[.agg (row 8 (b8 f))] w fun e w' => e = .returned (.agg (row 16 (iv .u64 (rounds (num f 8))))) ∧ Below w.heap.size w w' := by
 have Hf := hid hf
 clear hf
 have hb1 := (Blk.fresh w 57 (row 8 (b8 f))).alloc (.cells (row 16 (iv .u64 fun _ => 0)) 101)
 have hb2 := two_new w (.cells (row 8 (b8 f)) 57) (row 16 (iv .u64 fun _ => 0)) 101
 have hB2 : Below w.heap.size w ((w.alloc (.cells (row 8 (b8 f)) 57)).alloc (.cells (row 16 (iv .u64 fun _ => 0)) 101)) := ((Below.refl _ _).alloc (Nat.le_refl _) _).alloc (by simp) _
 go_enter Tryd.func44, Tryd.ntmps44
 go_wp2_with (first
  | (with_reducible refine wpl_alloc rfl 101 rfl _ zR16 ?_)
  | (with_reducible refine wpl_load rfl 57 _ rfl _ rfl 57 _ hb1 8 5 Tryd.underlying57 (i8a' _) ?_))
 refine (num_any f Hf.out _).mono ?_
 rintro e w1 ⟨rfl, hB3⟩
 have hb3 := hb2.below hB3 hb2.lt
 have hB4 := hB2.trans (hB3.mono hB2.size)
 clear hb1 hb2 hB2 hB3
 go_wp2_with fail
 refine (pick_any _ 56 pc1 (by decide +kernel) _ 64 (num_lt64 Hf.out) (by omega) (by omega) (fun i hi => (pc1_range i hi).2.1) _).mono ?_
 rintro e w2 ⟨rfl, q, rfl⟩
 have hb5 := hb3.drewN q
 have hB5 := below_drewN hB4 q
 clear hb3 hB4
 generalize w1.drewN q = w2 at *
 have hP : pk pc1 64 (num f 8) 56 < 72057594037927936 := pk_lt pc1 64 (num f 8) 56
 have HR : Hid (rounds (num f 8) = rkOf (pk pc1 64 (num f 8) 56)) := hid rfl
 generalize pk pc1 64 (num f 8) 56 = B at *
 have hm : bits .and .u64 (B : Int) 268435455 = ((B % 268435456 : Nat) : Int) := and_mask B 28 (by omega) (by omega)
 go_wp2_with (with_reducible refine wpl_alloc rfl 101 rfl _ zR16 ?_)
 have hb6 := hb5.alloc (.cells (row 16 (iv .u64 fun _ => 0)) 101)
 have hb7 := Blk.fresh w2 101 (row 16 (iv .u64 fun _ => 0))
 have hB7 := hB5.alloc hB5.size (.cells (row 16 (iv .u64 fun _ => 0)) 101)
 have hg : w.heap.size + 1 < w2.heap.size := hb5.lt
 clear hb5 hB5
 generalize w2.alloc (.cells (row 16 (iv .u64 fun _ => 0)) 101) = w3 at *
 generalize w2.heap.size = g at *
 have hL := fun k => hl_lt (c := B / 268435456) (by omega) k
 have hRt := fun k => hl_lt (c := B % 268435456) (by omega) k
 have HL := hid hL
 have HRt := hid hRt
 clear hL hRt
 go_loopw [4, 5, 16] (fun l r i wr => ∃ (k : Nat) (m : Nat → Nat), k ≤ 16 ∧ l = .int .u64 (hl (B / 268435456) k : Nat) ∧ r = .int .u64 (hl (B % 268435456) k : Nat) ∧ i = .int .i64 k ∧ Hid (∀ j, m j = if j < k then rkOf B j else 0) ∧ Blk wr g 101 (row 16 (iv .u64 m)) ∧ Blk wr (w.heap.size + 1) 101 (row 16 (iv .u64 fun _ => 0)) ∧ Below w.heap.size w wr) (fun _ _ i _ => 16 - (intOf i).toNat)
 case atStart => exact ⟨0, fun _ => 0, by omega, val_int (by rw [hl]; omega), val_int (by rw [hl]; omega), rfl, hid (by simp), hb7, hb6, hB7⟩
 case round =>
  clear hb7 hb6 hB7
  obtain ⟨k, m, hk, rfl, rfl, rfl, HM, hb7, hb6, hB7⟩ := hrel
  by_cases hlt : k < 16
  ·have hl1 := HL.out k
   have hr1 := HRt.out k
   have htn : tn k = 1 ∨ tn k = 2 := by have := tn_le k; omega
   go_wp2_with (go_at_call 51; refine (turns_any k hlt _).mono ?_; rintro e w' ⟨rfl, rfl⟩)
   refine (turnHalf_any _ (tn k) hl1 htn _).mono ?_
   rintro e w' ⟨rfl, q1, rfl⟩
   have hb7a := hb7.drewN q1
   have hb6a := hb6.drewN q1
   have hB7a := below_drewN hB7 q1
   clear hb7 hb6 hB7
   generalize wr.drewN q1 = wa at *
   go_wp2_with fail
   refine (turnHalf_any _ (tn k) hr1 htn _).mono ?_
   rintro e w' ⟨rfl, q2, rfl⟩
   have hb7b := hb7a.drewN q2
   have hb6b := hb6a.drewN q2
   have hB7b := below_drewN hB7a q2
   clear hb7a hb6a hB7a
   generalize wa.drewN q2 = wb at *
   have hl2 := HL.out (k + 1)
   have hr2 := HRt.out (k + 1)
   have Hl2 : Hid (rt 28 (hl (B / 268435456) k) (tn k) = hl (B / 268435456) (k + 1)) := hid rfl
   have Hr2 : Hid (rt 28 (hl (B % 268435456) k) (tn k) = hl (B % 268435456) (k + 1)) := hid rfl
   rw [Hl2.out, Hr2.out]
   have hor := or_half _ _ hl2 hr2
   have hor2 : hl (B / 268435456) (k + 1) * 2 ^ 28 + hl (B % 268435456) (k + 1) < 18446744073709551616 := by omega
   have HK : Hid (pk pc2 56 (hl (B / 268435456) (k + 1) * 2 ^ 28 + hl (B % 268435456) (k + 1)) 48 = rkOf B k) := hid rfl
   clear hl1 hr1
   generalize hl (B / 268435456) (k + 1) = l2 at *
   generalize hl (B % 268435456) (k + 1) = r2 at *
   have Hor := hid hor
   clear hor
   go_wp2_with fail
   rw [Hor.out]
   refine (pick_any _ 48 pc2 (by decide +kernel) _ 56 hor2 (by omega) (by omega) (fun i hi => (pc2_range i hi).2) _).mono ?_
   rintro e w' ⟨rfl, q3, rfl⟩
   rw [HK.out]
   have hb7c := hb7b.drewN q3
   have hb6c := hb6b.drewN q3
   have hB7c := below_drewN hB7b q3
   clear hb7b hb6b hB7b HK hor2
   generalize wb.drewN q3 = wc at *
   go_wp2_with (first
    | (with_reducible refine wpl_at rfl 101 _ _ rfl _ rfl .i64 _ rfl k rfl 16 67 Tryd.underlying101 hlt iU64 ?_)
    | (with_reducible refine wpl_st rfl 67 _ _ rfl _ rfl .u64 _ rfl iU64 _ (hb7c.vali k hlt) (hb7c.free k) ?_))
   go_round
   case rel => exact ⟨k + 1, upd m k (rkOf B k), by omega, val_int (by rw [← Hl2.out]; rfl), val_int (by rw [← Hr2.out]; rfl), val_int (by omega), hid (fill_step (F := rkOf B) HM.out), hb7c.puti k _, hb6c.other _ _ (by simp; omega), hB7c.setCell (by simp; omega) _⟩
   case measure => simp [intOf]; omega
  go_wp2_with (first
   | (with_reducible refine wpl_load rfl 101 _ rfl _ rfl 101 _ hb7 16 67 Tryd.underlying101 (iR16' _) ?_)
   | (with_reducible refine wpl_store rfl 101 _ _ rfl _ _ rfl rfl 101 _ hb6 (iR16' _) (by simp [row_size]) (one_iv _ _ _) ?_))
  refine ret_row Tryd.results44 rfl (w.heap.size + 1) rfl 101 16 _ (hb6.setRow _) 67 Tryd.underlying101 iR16 ⟨ret_iv fun i hi => ?_, below_setRow' hB7 (by omega) _⟩
  rw [HM.out i, if_pos (by omega), HR.out]
end Go.Proofs.YtinejbjndpdcmaaDoor.Des
namespace Go.Proofs.YtinejbjndpdcmaaDoor.Des
open Go.ChangeShapes Go.WideShapes Go.ChangeAt Go.RowKit Mem
theorem iU64' : (Tryd.prog.info? 67).map (·.size) = some 1 := by kernel_rfl
def rv (f : Nat → Nat) (k : Nat) : Nat → Nat := fun i => if i < k ∨ 15 - i < k then f (15 - i) else f i
theorem rv_zero (f : Nat → Nat) : rv f 0 = f := by funext i; unfold rv; simp
theorem rv_end (f : Nat → Nat) (i : Nat) (hi : i < 16) : rv f 8 i = f (15 - i) := by unfold rv; rw [if_pos (by omega)]
theorem rv_step (f : Nat → Nat) (k : Nat) (hk : k < 8) (i : Nat) (hi : i < 16) : upd (upd (rv f k) k (rv f k (15 - k))) (15 - k) (rv f k k) i = rv f (k + 1) i := by
 have e1 : rv f k (15 - k) = f (15 - k) := by unfold rv; rw [if_neg (by omega)]
 have e2 : rv f k k = f k := by unfold rv; rw [if_neg (by omega)]
 rw [e1, e2]
 by_cases h1 : i = 15 - k
 ·subst h1; rw [upd_same]; unfold rv; rw [if_pos (by omega), show 15 - (15 - k) = k by omega]
 rw [upd_other _ _ _ _ h1]
 by_cases h2 : i = k
 ·subst h2; rw [upd_same]; unfold rv; rw [if_pos (by omega)]
 rw [upd_other _ _ _ _ h2]
 unfold rv
 by_cases h3 : i < k ∨ 15 - i < k
 ·rw [if_pos h3, if_pos (by omega)]
 rw [if_neg h3, if_neg (by omega)]
set_option maxRecDepth 100000 in
set_option maxHeartbeats 2000000 in
theorem rev_any (g : Nat) (f : Nat → Nat) (w : World) (hb : Blk w g 101 (row 16 (iv .u64 f))) :
  Calls Tryd.prog 45 #[.slice (some ⟨g, 0, none⟩) 16 16] w fun e w' => e = .returned (.tuple #[]) ∧ Blk w' g 101 (row 16 (iv .u64 fun i => f (15 - i))) ∧ Only g w w' := by
 go_enter Tryd.func45, Tryd.ntmps45
 go_wp2_with fail
 go_loopw [2, 3] (fun i j wr => ∃ k : Nat, k ≤ 8 ∧ i = .int .i64 k ∧ j = .int .i64 (15 - (k : Int)) ∧ Blk wr g 101 (row 16 (iv .u64 (rv f k))) ∧ Only g w wr) (fun i _ _ => 8 - (intOf i).toNat)
 case atStart => exact ⟨0, by omega, rfl, rfl, by rw [rv_zero]; exact hb, Only.refl _ _⟩
 case round =>
  obtain ⟨k, hk, rfl, rfl, hb1, hB⟩ := hrel
  by_cases hlt : k < 8
  ·have h0 := hb1.vali k (by omega)
   have h1 := hb1.vali (15 - k) (by omega)
   have f0 := hb1.free k
   have f1 := hb1.free (15 - k)
   have n1 : ¬ k = 15 - k := by omega
   have n2 : ¬ 15 - k = k := by omega
   go_wp2_with fail
   go_region
   have hb2 := (hb1.puti k (rv f k (15 - k))).puti (15 - k) (rv f k k)
   have hB2 := (hB.setCell k (.int .u64 ((rv f k (15 - k) : Nat) : Int))).setCell (15 - k) (.int .u64 ((rv f k k : Nat) : Int))
   rw [iv_ext (fun i hi => rv_step f k hlt i hi)] at hb2
   have hb3 := hb2.drew
   have hB3 := hB2.drew
   clear h0 h1 f0 f1 hb1 hB hb2 hB2
   generalize ((wr.setCell ⟨g, k, none⟩ (.int .u64 ((rv f k (15 - k) : Nat) : Int))).setCell ⟨g, 15 - k, none⟩ (.int .u64 ((rv f k k : Nat) : Int))).drew = w2 at *
   go_wp2_with fail
   exact ⟨⟨k + 1, by omega, val_int (by omega), val_int (by omega), hb3, hB3⟩, by simp [intOf]; omega⟩
  go_wp2_with fail
  obtain rfl : k = 8 := by omega
  go_end0
  refine ⟨rfl, ?_, hB⟩
  rwa [iv_ext (rv_end f)] at hb1
end Go.Proofs.YtinejbjndpdcmaaDoor.Des
