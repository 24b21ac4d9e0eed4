/-
  The document's own bits against the numbers: boxes, halves, bytes; what its Bytes returns.
-/
import Derived.Test.YtomeeebiijmnmaaGreatDoorRef03M
namespace Go.Proofs.YtomeeebiijmnmaaGreatDoor.Des
open Go.ChangeShapes Go.WideShapes Go.ChangeAt Go.RowKit Mem
theorem bitL_lt (n x t : Nat) : bitL n x t < 2 := Nat.mod_lt _ (by omega)
theorem bitL_test (n x t : Nat) : bitL n x t = if x.testBit (n - 1 - t) then 1 else 0 := by
  unfold bitL
  rw [bit_mod]
  by_cases h : x / 2 ^ (n - 1 - t) % 2 = 1
  · simp [h]
  · simp [h]; omega
theorem bitL_xor (n x y t : Nat) : bitL n x t ^^^ bitL n y t = bitL n (x ^^^ y) t := by
  rw [bitL_test, bitL_test, bitL_test, Nat.testBit_xor]
  cases x.testBit (n - 1 - t) <;> cases y.testBit (n - 1 - t) <;> rfl
theorem six_place : ∀ i, i < 8 → ∀ j, j < 6 → (if 6 - 1 - j < (4 * i + 5) % 32 then 32 - (4 * i + 5) % 32 + (6 - 1 - j) else 6 - 1 - j - (4 * i + 5) % 32) = 32 - 1 - (4 * i + j + 31) % 32 := by decide
theorem e6_bitL (R i j : Nat) (hR : R < 2 ^ 32) (hi : i < 8) (hj : j < 6) : bitL 32 R ((4 * i + j + 31) % 32) = bitL 6 (e6 R i) j := by
  apply bitL_eq
  unfold e6
  rw [show (64 : Nat) = 2 ^ 6 from rfl, Nat.testBit_mod_two_pow, decide_eq_true (show 6 - 1 - j < 6 by omega), Bool.true_and, rt_bit _ _ _ _ hR (by omega) (by omega), six_place i hi j hj]
theorem k6_bitL (K i j : Nat) (hi : i < 8) (hj : j < 6) : bitL 48 K (6 * i + j) = bitL 6 (k6 K i) j := by
  apply bitL_eq
  unfold k6
  rw [show (64 : Nat) = 2 ^ 6 from rfl, Nat.testBit_mod_two_pow, decide_eq_true (show 6 - 1 - j < 6 by omega), Bool.true_and, Nat.testBit_div_two_pow, show 6 - 1 - j + (42 - 6 * i) = 48 - 1 - (6 * i + j) by omega]
theorem six_bitL (R K i j : Nat) (hR : R < 2 ^ 32) (hi : i < 8) (hj : j < 6) : sixF (bitL 32 R) (bitL 48 K) i j = bitL 6 (e6 R i ^^^ k6 K i) j := by
  unfold sixF
  rw [e6_bitL R i j hR hi hj, k6_bitL K i j hi hj, bitL_xor]
theorem box_idx : ∀ v, v < 64 → 16 * (2 * bitL 6 v 0 + bitL 6 v 5) + (8 * bitL 6 v 1 + 4 * bitL 6 v 2 + 2 * bitL 6 v 3 + bitL 6 v 4) = 16 * (2 * (v / 32 % 2) + v % 2) + v / 2 % 16 := by decide +kernel
theorem mx_bit (R K n j : Nat) (hn : n ≤ 8) (hj : j < 4 * n) : (mx R K n).testBit j = (sb (n - 1 - j / 4) (e6 R (n - 1 - j / 4) ^^^ k6 K (n - 1 - j / 4))).testBit (j % 4) := by
  induction n generalizing j with
  | zero => omega
  | succ n ih =>
    have hs := sb_lt n (e6 R n ^^^ k6 K n) (by omega)
    have e := join_bit (n := 4) (x := mx R K n) (y := sb n (e6 R n ^^^ k6 K n)) hs j
    rw [Nat.mul_comm] at e
    rw [mx, show (16 : Nat) = 2 ^ 4 from rfl, e]
    by_cases h : j < 4
    · rw [if_pos h, show n + 1 - 1 - j / 4 = n by omega, show j % 4 = j by omega]
    · rw [if_neg h, ih (j - 4) (by omega) (by omega), show n - 1 - (j - 4) / 4 = n + 1 - 1 - j / 4 by omega, show (j - 4) % 4 = j % 4 by omega]
theorem box_bitL (R K s : Nat) (hR : R < 2 ^ 32) (hs : s < 32) : boxF (bitL 32 R) (bitL 48 K) s = bitL 32 (mx R K 8) s := by
  have hi : s / 4 < 8 := by omega
  unfold boxF
  rw [six_bitL R K _ 0 hR hi (by omega), six_bitL R K _ 1 hR hi (by omega), six_bitL R K _ 2 hR hi (by omega), six_bitL R K _ 3 hR hi (by omega), six_bitL R K _ 4 hR hi (by omega), six_bitL R K _ 5 hR hi (by omega), box_idx _ (six_lt R K _)]
  have h := mx_bit R K 8 (32 - 1 - s) (by omega) (by omega)
  rw [show 8 - 1 - (32 - 1 - s) / 4 = s / 4 by omega, show (32 - 1 - s) % 4 = 3 - s % 4 by omega, bit_mod, bit_mod] at h
  have := decide_eq_decide.1 h
  unfold bitL
  show sb (s / 4) _ / 2 ^ (3 - s % 4) % 2 = _
  omega
theorem mix_bitL (R K t : Nat) (hR : R < 2 ^ 32) (ht : t < 32) : boxF (bitL 32 R) (bitL 48 K) (tp t - 1) = bitL 32 (ff R K) t := by
  have hp := tp_range t ht
  rw [box_bitL R K _ hR (by omega)]
  exact bitL_pk tp 32 _ 32 t ht hp
theorem half_left (B t : Nat) (ht : t < 32) : bitL 64 B t = bitL 32 (B / 4294967296) t := by
  apply bitL_eq
  have := Nat.testBit_div_two_pow (n := 32) (i := 32 - 1 - t) B
  rw [show (2 : Nat) ^ 32 = 4294967296 from rfl] at this
  rw [this, show 32 - 1 - t + 32 = 64 - 1 - t by omega]
theorem half_right (B t : Nat) (ht : t < 32) : bitL 64 B (32 + t) = bitL 32 (B % 4294967296) t := by
  apply bitL_eq
  have := Nat.testBit_mod_two_pow B 32 (32 - 1 - t)
  rw [show (2 : Nat) ^ 32 = 4294967296 from rfl] at this
  rw [this, decide_eq_true (show 32 - 1 - t < 32 by omega), Bool.true_and, show 64 - 1 - (32 + t) = 32 - 1 - t by omega]
theorem half_join (l r t : Nat) (hr : r < 2 ^ 32) (ht : t < 64) : cat 32 (bitL 32 l) (bitL 32 r) t = bitL 64 (l * 2 ^ 32 + r) t := by
  unfold cat
  by_cases h : t < 32
  · rw [if_pos h]
    apply bitL_eq
    rw [join_bit hr, if_neg (by omega), show 64 - 1 - t - 32 = 32 - 1 - t by omega]
  · rw [if_neg h]
    apply bitL_eq
    rw [join_bit hr, if_pos (by omega), show 64 - 1 - t = 32 - 1 - (t - 32) by omega]
theorem up_step (y n j : Nat) (hn : n < 64) (hj : j < 64) : upd (bitL 64 (up ip 64 y n)) (ip n - 1) (bitL 64 y n) j = bitL 64 (up ip 64 y (n + 1)) j := by
  have hp := ip_range n hn
  by_cases h : j = ip n - 1
  · rw [h, upd_same]
    apply bitL_eq
    rw [Bool.eq_iff_iff, up_bit]
    constructor
    · intro hy
      exact ⟨n, by omega, by omega, hy⟩
    · rintro ⟨k, h1, h2, h3⟩
      have e1 := ip_inv k (by omega)
      have e2 := ip_inv n hn
      have e3 : 64 - ip k = 64 - ip n := by have := ip_range k (by omega); omega
      rw [e3, e2] at e1
      rw [e1]; exact h3
  · rw [upd_other _ _ _ _ h]
    apply bitL_eq
    rw [Bool.eq_iff_iff, up_bit, up_bit]
    constructor
    · rintro ⟨k, h1, h2, h3⟩
      exact ⟨k, by omega, h2, h3⟩
    · rintro ⟨k, h1, h2, h3⟩
      by_cases hk : k = n
      · subst hk; omega
      · exact ⟨k, by omega, h2, h3⟩
/-- eight bits made a byte, the first k of them -/
def b2 (l : Nat → Nat) (i : Nat) : Nat → Nat
  | 0 => 0
  | k + 1 => 2 * b2 l i k + l (8 * i + k)
theorem b2_lt {l : Nat → Nat} (hl : ∀ t, l t < 2) (i k : Nat) : b2 l i k < 2 ^ k := by
  induction k with
  | zero => simp [b2]
  | succ k ih => have := hl (8 * i + k); rw [b2, Nat.pow_succ]; omega
theorem b2_byt (z i : Nat) (hi : i < 8) (k : Nat) (hk : k ≤ 8) : b2 (bitL 64 z) i k = z / 2 ^ (64 - 8 * i - k) % 2 ^ k := by
  induction k with
  | zero => simp [b2, Nat.mod_one]
  | succ k ih =>
    rw [b2, ih (by omega)]
    unfold bitL
    rw [show 64 - 1 - (8 * i + k) = 64 - 8 * i - (k + 1) by omega]
    have e : 2 ^ (64 - 8 * i - k) = 2 ^ (64 - 8 * i - (k + 1)) * 2 := by rw [← Nat.pow_succ]; congr 1; omega
    rw [e, ← Nat.div_div_eq_div_mul, Nat.pow_succ, Nat.mul_comm (2 ^ k) 2, Nat.mod_mul]
    omega
theorem b2_end (z i : Nat) (hi : i < 8) : b2 (bitL 64 z) i 8 = byt z i := by
  rw [b2_byt z i hi 8 (by omega)]
  unfold byt
  rw [show 64 - 8 * i - 8 = 56 - 8 * i by omega]
theorem infoB : (Tryz.prog.info? 5).map (fun i => (i.zero, i.size, i.bytes)) = some (some (.int .u8 0), 1, 1) := by kernel_rfl
theorem Lst_reads {w : World} {A : Option Addr} {n : Nat} {f : Nat → Nat} (h : Lst w 5 A n (iv .u8 f)) : Reads w w.heap.size A n f := fun _ => by
  obtain ⟨ad, rfl, hb⟩ := h.some
  exact ⟨ad, rfl, hb, fun i hi => h.at i hi⟩
set_option maxRecDepth 100000 in
set_option maxHeartbeats 2000000 in
theorem bytes_any (A : Option Addr) (c : Nat) (l : Nat → Nat) (hl : ∀ t, l t < 2) (w : World) (hL : Lst w 3 A 64 (iv .i64 l)) :
    Calls Tryz.prog 72 #[.slice A 64 c] w fun e w' => ∃ A' c', e = .returned (.slice A' 8 c') ∧ 8 ≤ c' ∧ Lst w' 5 A' 8 (iv .u8 fun i => b2 l i 8) ∧ Below w.heap.size w w' := by
  obtain ⟨ad, rfl, had⟩ := hL.some
  have HL := hid hL
  have Hl := hid hl
  clear hL hl
  go_enter Tryz.func72, Tryz.ntmps72
  go_wp2_with fail
  go_loopw [3, 4] (fun v i wr => ∃ m : Nat, m ≤ 8 ∧ OwnV wr w.heap.size 5 v m (iv .u8 fun i => b2 l i 8) ∧ i = .int .i64 (8 * (m : Int)) ∧ Below w.heap.size w wr) (fun _ i _ => 64 - (intOf i).toNat)
  case atStart => exact ⟨0, by omega, OwnV.nil _ _ _ _, rfl, Below.refl _ _⟩
  case round =>
    obtain ⟨m, hm, ho, rfl, hB⟩ := hrel
    by_cases hlt : m < 8
    · have e1 : decide (8 * (m : Int) + 8 ≤ 64) = true := by simp; omega
      go_wp2_with fail
      go_loop [5, 6] (fun x k => ∃ q : Nat, q ≤ 8 ∧ x = .int .i64 (b2 l m q : Nat) ∧ k = .int .i64 q) (fun _ k => 8 - (intOf k).toNat)
      case atStart => exact ⟨0, by omega, rfl, rfl⟩
      case round =>
        obtain ⟨q, hq, rfl, rfl⟩ := hrel
        have hb := b2_lt Hl.out m q
        have hb8 : 2 ^ q ≤ 2 ^ 8 := Nat.pow_le_pow_right (by omega) hq
        by_cases hlt2 : q < 8
        · have hl2 := Hl.out (8 * m + q)
          have hi : 8 * m + q < 64 := by omega
          have HC : Hid (wr.cell? (ad.add (8 * m + q)) = some (.int .i64 ((l (8 * m + q) : Nat) : Int))) := hid ((hB.cell (by rw [add_block]; exact had)).trans (HL.out.at _ hi))
          have hbq : b2 l m q < 256 := by omega
          go_wp2_with (first
            | (with_reducible refine wpl_sl1 rfl 63 _ _ rfl ad 64 c rfl .i64 _ rfl (8 * m + q) (by omega) 3 Tryz.underlying63 hi iI ?_)
            | (with_reducible refine wpl_ld rfl 3 _ rfl _ rfl .i64 Tryz.underlying3 _ HC.out ?_))
          exact ⟨⟨q + 1, by omega, val_int (by rw [b2]; omega), val_int (by omega)⟩, by simp [intOf]; omega⟩
        · have hq8 : Hid (b2 l m q = b2 l m 8) := hid (by rw [show q = 8 by omega])
          have hbq : b2 l m q < 256 := by omega
          go_wp2_with (at_builtin; refine wpl_appN rfl _ _ 22 rfl w.heap.size 5 (.int .u8 0) 1 Tryz.underlying22 infoB rfl _ m _ rfl ho 1 (fun _ => .int .u8 ((b2 l m q : Nat) : Int)) _ (row1v _ _ (val_int (by omega))) (fun _ => rfl) rfl (by omega) (by omega) hB.size ?_)
          intro v' w1 ho1 hB1 _
          have ho2 : OwnV w1 w.heap.size 5 v' (m + 1) (iv .u8 fun i => b2 l i 8) := ho1.ext (fun i hi => by
            unfold catV
            by_cases h : i < m
            · rw [if_pos h]
            · rw [if_neg h, hq8.out]; obtain rfl : i = m := by omega
              rfl)
          have hB2 := hB.trans hB1
          clear ho1 hB1 hB ho
          go_wp2_with fail
          exact ⟨⟨m + 1, by omega, ho2, val_int (by omega), hB2⟩, by simp [intOf]; omega⟩
    · have e1 : decide (8 * (m : Int) + 8 ≤ 64) = false := by simp; omega
      go_wp2_with fail
      have hlst : OwnV wr w.heap.size 5 u3 8 (iv .u8 fun i => b2 l i 8) := by
        have hm8 : m = 8 := by omega
        rw [hm8] at ho; exact ho
      obtain ⟨A', c', rfl, hc', hL'⟩ := hlst.lst (by omega)
      go_ret
      exact ⟨A', c', rfl, hc', hL', hB⟩
end Go.Proofs.YtomeeebiijmnmaaGreatDoor.Des
