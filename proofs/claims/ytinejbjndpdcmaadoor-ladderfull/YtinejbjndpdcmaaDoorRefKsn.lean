/-
 What the document's own Counter, At and Ones of layer 12 return.
-/
import Derived.Test.YtinejbjndpdcmaaDoorRef03A
import Derived.Test.YtinejbjndpdcmaaDoorDk1
import Derived.Test.YtinejbjndpdcmaaDoorLad1
set_option linter.unusedSimpArgs false
set_option linter.unusedVariables false
namespace Go.Proofs.YtinejbjndpdcmaaDoor.Lad
open Go.ChangeShapes Go.WideShapes Go.ChangeAt Go.RowKit Mem Dk
open Des (bitsF iI infoI own_step bit_i64)
theorem ones_split (j c : Nat) (hj : j ≤ 24) : Pop.ones 24 c = Pop.ones j c + Pop.ones (24 - j) (c / 2 ^ j) := by
 obtain ⟨e, he⟩ : ∃ e, 24 = j + e := ⟨24 - j, by omega⟩
 rw [show 24 - j = e by omega, he]
 exact Pop.ones_add j e c
theorem ones_next (j c : Nat) : Pop.ones (j + 1) c = Pop.ones j c + c / 2 ^ j % 2 := by
 rw [Pop.ones_add j 1 c]
 simp [Pop.ones]
set_option maxRecDepth 100000 in
theorem rones_any (c : Nat) (hc : c < 16777216) (w : World) : Calls Tryd.prog 9 #[.int .i64 c] w fun e w' => e = .returned (.int .i64 (Pop.ones 24 c : Nat)) ∧ w = w' := by
 have Hc := hid hc
 clear hc
 go_enter Tryd.func9, Tryd.ntmps9
 go_wp2
 go_loopw [0, 3] (fun n k wr => ∃ j m o : Nat, Hid (j ≤ 24 ∧ m = c / 2 ^ j ∧ o = Pop.ones j c) ∧ m < 16777216 ∧ o ≤ j ∧ o ≤ 24 ∧ n = .int .i64 m ∧ k = .int .i64 o ∧ wr = w) (fun n _ _ => (intOf n).toNat)
 case atStart => exact ⟨0, c, 0, hid ⟨by omega, by simp, rfl⟩, Hc.out, by omega, by omega, rfl, rfl, rfl⟩
 case round =>
  obtain ⟨j, m, o, H, hm, ho, ho2, rfl, rfl, rfl⟩ := hrel
  by_cases h0 : 0 < m
  ·have hj : Hid (j < 24) := hid (by
    obtain ⟨h1, h2, -⟩ := H.out
    rcases Nat.lt_or_ge j 24 with h | h
    ·exact h
    rw [show j = 24 by omega, Nat.div_eq_of_lt (Nat.lt_of_lt_of_le Hc.out (by decide))] at h2; omega)
   have hrel : Hid (j + 1 ≤ 24 ∧ m / 2 = c / 2 ^ (j + 1) ∧ o + m % 2 = Pop.ones (j + 1) c) := hid (by
    obtain ⟨h1, h2, h3⟩ := H.out
    refine ⟨hj.out, ?_, ?_⟩
    ·rw [h2, Nat.pow_succ, Nat.div_div_eq_div_mul]
    rw [ones_next, h2, h3])
   have ho4 : o + m % 2 ≤ j + 1 := by omega
   have ho5 : o + m % 2 ≤ 24 := by have := hj.out; omega
   go_wp2
   exact ⟨⟨j + 1, m / 2, o + m % 2, hrel, by omega, ho4, ho5, val_int (by omega), val_int (by omega), trivial⟩, by simp [intOf]; omega⟩
  have he : Hid (o = Pop.ones 24 c) := hid (by
   obtain ⟨h1, h2, h3⟩ := H.out
   have h4 : c / 2 ^ j = 0 := by omega
   rw [ones_split j c h1, h4, Pop.ones_zero, h3]; rfl)
  go_wp2
  go_ret
  exact ⟨by rw [he.out]; rfl, rfl⟩
set_option maxRecDepth 100000 in
set_option maxHeartbeats 2000000 in
theorem bits_own (A : Option Addr) (n c : Nat) (f : Nat → Nat) (hn : 0 < n) (hn2 : n ≤ 100) (hf : ∀ i, i < n → f i < 256) (w : World) (hR : Reads w w.heap.size A n f) :
  Calls Tryd.prog 25 #[.slice A n c] w fun e w' => ∃ v, e = .returned v ∧ OwnV w' w.heap.size 3 v (8 * n) (iv .i64 (bitsF f)) ∧ Below w.heap.size w w' := by
 obtain ⟨ad, rfl, had, hcell⟩ := hR hn
 have Hf := hid hf
 have HC := hid hcell
 clear hR hf hcell
 go_enter Tryd.func25, Tryd.ntmps25
 go_wp2_with fail
 go_loopw [3, 4] (fun v i wr => ∃ k : Nat, k ≤ n ∧ OwnV wr w.heap.size 3 v (8 * k) (iv .i64 (bitsF f)) ∧ i = .int .i64 k ∧ Below w.heap.size w wr) (fun _ i _ => n - (intOf i).toNat)
 case atStart => exact ⟨0, by omega, OwnV.nil _ _ _ _, rfl, Below.refl _ _⟩
 case round =>
  obtain ⟨k, hk, ho, rfl, hB⟩ := hrel
  rename World => wo
  by_cases hlt : k < n
  ·have hfk := Hf.out k hlt
   go_wp2_with fail
   go_loopw [3, 5] (fun v j wr => ∃ q : Nat, q ≤ 8 ∧ OwnV wr w.heap.size 3 v (8 * k + q) (iv .i64 (bitsF f)) ∧ j = .int .i64 (7 - (q : Int)) ∧ Below w.heap.size w wr) (fun _ j _ => (intOf j + 1).toNat)
   case atStart => exact ⟨0, by omega, ho, rfl, hB⟩
   case round =>
    clear ho hB
    obtain ⟨q, hq, ho, rfl, hB⟩ := hrel
    by_cases hlt2 : q < 8
    ·have Hc : Hid (wr.cell? (ad.add k) = some (.int .u8 ((f k : Nat) : Int))) := hid ((hB.cell (by rw [add_block]; exact had)).trans (HC.out k hlt))
     go_wp2_with (first
      | (with_reducible refine wpl_sl1 rfl 58 _ _ rfl ad n c rfl .i64 _ rfl k rfl 5 Tryd.underlying58 hlt i1 ?_)
      | (with_reducible refine wpl_ld rfl 5 _ rfl _ rfl .u8 Tryd.underlying5 _ Hc.out ?_)
      | (at_builtin; refine wpl_appN rfl _ _ 59 rfl w.heap.size 3 (.int .i64 0) 8 Tryd.underlying59 infoI rfl _ (8 * k + q) _ rfl ho 1 (fun _ => .int .i64 (bits .and .i64 (((f k : Nat) : Int) / 2 ^ (7 - q)) 1)) _ (row1v _ _ rfl) (fun _ => rfl) rfl (by omega) (by omega) hB.size ?_))
     intro v' w1 ho1 hB1 _
     have hB2 := hB.trans hB1
     have ho2 := own_step ho1 (by
      rw [bit_i64 _ _ hfk]
      unfold bitsF
      rw [show (8 * k + q) / 8 = k by omega, show (8 * k + q) % 8 = q by omega])
     clear ho1 hB1 hB ho
     go_wp2_with fail
     exact ⟨⟨q + 1, by omega, ho2, val_int (by omega), hB2⟩, by simp [intOf]; omega⟩
    obtain rfl : q = 8 := by omega
    go_wp2_with fail
    exact ⟨⟨k + 1, by omega, ho, val_int (by omega), hB⟩, by simp [intOf]; omega⟩
  go_wp2_with fail
  obtain rfl : k = n := by omega
  go_ret
  exact ⟨_, rfl, ho, hB⟩
def kb2 (l : Nat → Nat) (i : Nat) : Nat → Nat
 | 0 => 0
 | k + 1 => 2 * kb2 l i k + l (8 * i + k)
theorem kb2_lt {l : Nat → Nat} (hl : ∀ t, l t < 2) (i k : Nat) : kb2 l i k < 2 ^ k := by
 induction k with
 | zero => simp [kb2]
 | succ k ih => have := hl (8 * i + k); rw [kb2, Nat.pow_succ]; omega
theorem infoB1 : (Tryd.prog.info? 5).map (fun i => (i.zero, i.size, i.bytes)) = some (some (.int .u8 0), 1, 1) := by kernel_rfl
set_option maxRecDepth 100000 in
set_option maxHeartbeats 2000000 in
theorem bytes_own (A : Option Addr) (c : Nat) (l : Nat → Nat) (hl : ∀ t, l t < 2) (w : World) (hL : Lst w 3 A 80 (iv .i64 l)) :
  Calls Tryd.prog 26 #[.slice A 80 c] w fun e w' => ∃ v, e = .returned v ∧ OwnV w' w.heap.size 5 v 10 (iv .u8 fun i => kb2 l i 8) ∧ Below w.heap.size w w' := by
 obtain ⟨ad, rfl, had⟩ := hL.some
 have HL := hid hL
 have Hl := hid hl
 clear hL hl
 go_enter Tryd.func26, Tryd.ntmps26
 go_wp2_with fail
 go_loopw [3, 4] (fun v i wr => ∃ m : Nat, m ≤ 10 ∧ OwnV wr w.heap.size 5 v m (iv .u8 fun i => kb2 l i 8) ∧ i = .int .i64 (8 * (m : Int)) ∧ Below w.heap.size w wr) (fun _ i _ => 80 - (intOf i).toNat)
 case atStart => exact ⟨0, by omega, OwnV.nil _ _ _ _, rfl, Below.refl _ _⟩
 case round =>
  obtain ⟨m, hm, ho, rfl, hB⟩ := hrel
  by_cases hlt : m < 10
  ·have e1 : decide (8 * (m : Int) + 8 ≤ 80) = true := by simp; omega
   go_wp2_with fail
   go_loop [5, 6] (fun x k => ∃ q : Nat, q ≤ 8 ∧ x = .int .i64 (kb2 l m q : Nat) ∧ k = .int .i64 q) (fun _ k => 8 - (intOf k).toNat)
   case atStart => exact ⟨0, by omega, rfl, rfl⟩
   case round =>
    obtain ⟨q, hq, rfl, rfl⟩ := hrel
    have hb := kb2_lt Hl.out m q
    have hb8 : 2 ^ q ≤ 2 ^ 8 := Nat.pow_le_pow_right (by omega) hq
    by_cases hlt2 : q < 8
    ·have hl2 := Hl.out (8 * m + q)
     have hi : 8 * m + q < 80 := by omega
     have HC : Hid (wr.cell? (ad.add (8 * m + q)) = some (.int .i64 ((l (8 * m + q) : Nat) : Int))) := hid ((hB.cell (by rw [add_block]; exact had)).trans (HL.out.at _ hi))
     have hbq : kb2 l m q < 256 := by omega
     go_wp2_with (first
      | (with_reducible refine wpl_sl1 rfl 59 _ _ rfl ad 80 c rfl .i64 _ rfl (8 * m + q) (by omega) 3 Tryd.underlying59 hi iI ?_)
      | (with_reducible refine wpl_ld rfl 3 _ rfl _ rfl .i64 Tryd.underlying3 _ HC.out ?_))
     exact ⟨⟨q + 1, by omega, val_int (by rw [kb2]; omega), val_int (by omega)⟩, by simp [intOf]; omega⟩
    have hq8 : Hid (kb2 l m q = kb2 l m 8) := hid (by rw [show q = 8 by omega])
    have hbq : kb2 l m q < 256 := by omega
    go_wp2_with (at_builtin; refine wpl_appN rfl _ _ 58 rfl w.heap.size 5 (.int .u8 0) 1 Tryd.underlying58 infoB1 rfl _ m _ rfl ho 1 (fun _ => .int .u8 ((kb2 l m q : Nat) : Int)) _ (row1v _ _ (val_int (by omega))) (fun _ => rfl) rfl (by omega) (by omega) hB.size ?_)
    intro v' w1 ho1 hB1 _
    have ho2 : OwnV w1 w.heap.size 5 v' (m + 1) (iv .u8 fun i => kb2 l i 8) := ho1.ext (fun i hi => by
     unfold catV
     by_cases h : i < m
     ·rw [if_pos h]
     rw [if_neg h, hq8.out]; obtain rfl : i = m := by omega
     rfl)
    have hB2 := hB.trans hB1
    clear ho1 hB1 hB ho
    go_wp2_with fail
    exact ⟨⟨m + 1, by omega, ho2, val_int (by omega), hB2⟩, by simp [intOf]; omega⟩
  have e1 : decide (8 * (m : Int) + 8 ≤ 80) = false := by simp; omega
  go_wp2_with fail
  have hm8 : m = 10 := by omega
  rw [hm8] at ho
  go_ret
  exact ⟨_, rfl, ho, hB⟩
theorem cnt_bit (k : Nat → Nat) (hk : By10 k) (i : Nat) (h1 : 59 ≤ i) (h2 : i < 80) : bitsF k i = cnt k / 2 ^ (79 - i) % 2 := by
 have k7 := hk 7 (by omega)
 have k8 := hk 8 (by omega)
 have k9 := hk 9 (by omega)
 unfold bitsF cnt
 obtain h | h | h : i < 64 ∨ (64 ≤ i ∧ i < 72) ∨ 72 ≤ i := by omega
 ·obtain ⟨e, he, rfl⟩ : ∃ e, e < 5 ∧ i = 63 - e := ⟨63 - i, by omega, by omega⟩
  rw [show (63 - e) / 8 = 7 by omega, show 7 - (63 - e) % 8 = e by omega, show 79 - (63 - e) = e + 16 by omega, Nat.pow_add, Nat.mul_comm (2 ^ e), ← Nat.div_div_eq_div_mul,
   show (k 7 % 32 * 65536 + k 8 * 256 + k 9) / 2 ^ 16 = k 7 % 32 by omega]
  obtain rfl | rfl | rfl | rfl | rfl : e = 0 ∨ e = 1 ∨ e = 2 ∨ e = 3 ∨ e = 4 := by omega
  all_goals (simp; try omega)
 ·obtain ⟨e, he, rfl⟩ : ∃ e, e < 8 ∧ i = 71 - e := ⟨71 - i, by omega, by omega⟩
  rw [show (71 - e) / 8 = 8 by omega, show 7 - (71 - e) % 8 = e by omega, show 79 - (71 - e) = e + 8 by omega, Nat.pow_add, Nat.mul_comm (2 ^ e), ← Nat.div_div_eq_div_mul,
   show (k 7 % 32 * 65536 + k 8 * 256 + k 9) / 2 ^ 8 = 256 * (k 7 % 32) + k 8 by omega]
  obtain rfl | rfl | rfl | rfl | rfl | rfl | rfl | rfl : e = 0 ∨ e = 1 ∨ e = 2 ∨ e = 3 ∨ e = 4 ∨ e = 5 ∨ e = 6 ∨ e = 7 := by omega
  all_goals (simp; try omega)
 obtain ⟨e, he, rfl⟩ : ∃ e, e < 8 ∧ i = 79 - e := ⟨79 - i, by omega, by omega⟩
 rw [show (79 - e) / 8 = 9 by omega, show 7 - (79 - e) % 8 = e by omega, show 79 - (79 - e) = e by omega]
 obtain rfl | rfl | rfl | rfl | rfl | rfl | rfl | rfl : e = 0 ∨ e = 1 ∨ e = 2 ∨ e = 3 ∨ e = 4 ∨ e = 5 ∨ e = 6 ∨ e = 7 := by omega
 all_goals (simp; try omega)
theorem bit2 (x e : Nat) : x / 2 ^ e % 2 < 2 := Nat.mod_lt _ (by omega)
theorem cnt_step (k : Nat → Nat) (hk : By10 k) (i : Nat) (h1 : 59 ≤ i) (h2 : i < 80) : 2 * (cnt k / 2 ^ (80 - i)) + bitsF k i = cnt k / 2 ^ (80 - (i + 1)) := by
 rw [cnt_bit k hk i h1 h2, show 80 - i = 79 - i + 1 by omega, show 80 - (i + 1) = 79 - i by omega, Nat.pow_succ, ← Nat.div_div_eq_div_mul]
 omega
theorem row_reads {w : World} {g : Nat} {t : TypeId} {f : Nat → Nat} (h : Blk w g t (row 10 (b8 f))) : Reads w w.heap.size (some ⟨g, 0, none⟩) 10 f := fun _ => ⟨_, rfl, h.lt, fun i hi => by rw [Addr.add_lit, Nat.zero_add]; exact h.val i hi⟩
set_option maxRecDepth 100000 in
set_option maxHeartbeats 2000000 in
theorem rcnt_any (k : Nat → Nat) (hk : By10 k) (w : World) : Calls Tryd.prog 17 #[.agg (row 10 (b8 k))] w fun e w' => e = .returned (.int .i64 (cnt k : Nat)) ∧ Below w.heap.size w w' := by
 have Hk := hid hk
 have hb := Blk.fresh w 28 (row 10 (b8 k))
 have hB : Below w.heap.size w (w.alloc (.cells (row 10 (b8 k)) 28)) := (Below.refl _ _).alloc (Nat.le_refl _) _
 clear hk
 go_enter Tryd.func17, Tryd.ntmps17
 go_wp2_with (go_at_call 25; refine (bits_own _ 10 10 k (by omega) (by omega) Hk.out _ (row_reads hb)).mono ?_; rintro e w2 ⟨v, rfl, hv, hB2⟩; go_simp)
 have hv8 : OwnV w2 _ 3 v 80 (iv .i64 (bitsF k)) := hv
 obtain ⟨A, cap, rfl, hcap, hL⟩ := hv8.lst (by omega)
 obtain ⟨ad, rfl, had⟩ := hL.some
 clear hv8
 have hB3 := hid (hB.trans (hB2.mono hB.size))
 have HL := hid hL
 have hzero : Hid (cnt k / 2 ^ (80 - 59) = 0) := hid (Nat.div_eq_of_lt (by have := cnt_lt Hk.out; omega))
 clear hb hB hB2 hv hL
 go_wp2_with fail
 go_loopw [4, 5] (fun x i wr => ∃ j m : Nat, 59 ≤ j ∧ j ≤ 80 ∧ Hid (m = cnt k / 2 ^ (80 - j)) ∧ m < 2097152 ∧ x = .int .i64 m ∧ i = .int .i64 j ∧ wr = w2) (fun _ i _ => 80 - (intOf i).toNat)
 case atStart => exact ⟨59, 0, by omega, by omega, hid hzero.out.symm, by omega, rfl, rfl, rfl⟩
 case round =>
  obtain ⟨j, m, hj, hj2, Hm, hm, rfl, rfl, rfl⟩ := hrel
  by_cases hlt : j < 80
  ·have hb := bit2 (k (j / 8)) (7 - j % 8)
   have Hst : Hid (2 * m + bitsF k j = cnt k / 2 ^ (80 - (j + 1))) := hid (by rw [Hm.out]; exact cnt_step k Hk.out j hj hlt)
   have hlt3 : 2 * m + bitsF k j < 2097152 := by rw [Hst.out]; exact Nat.lt_of_le_of_lt (Nat.div_le_self _ _) (cnt_lt Hk.out)
   have HC : Hid (wr.cell? (ad.add j) = some (.int .i64 ((bitsF k j : Nat) : Int))) := hid (HL.out.at j (by omega))
   change bitsF k j < 2 at hb
   generalize bitsF k j = y at *
   go_wp2_with (first
    | (with_reducible refine wpl_sl1 rfl 59 _ _ rfl ad 80 cap rfl .i64 _ rfl j rfl 3 Tryd.underlying59 (by omega) iI ?_)
    | (with_reducible refine wpl_ld rfl 3 _ rfl _ rfl .i64 Tryd.underlying3 _ HC.out ?_))
   exact ⟨⟨j + 1, 2 * m + y, by omega, by omega, Hst, hlt3, val_int (by omega), val_int (by omega), trivial⟩, by simp [intOf]; omega⟩
  have he : m = cnt k := by rw [Hm.out, show 80 - j = 0 by omega]; simp
  subst he
  go_wp2_with fail
  go_ret
  exact ⟨rfl, hB3.out⟩
def latF (n : Nat → Nat) (c i : Nat) : Nat → Nat := fun t => if 79 < t + i then c / 2 ^ (79 - t) % 2 else bitsF n t
theorem latF_lt (n : Nat → Nat) (c i : Nat) : ∀ t, latF n c i t < 2 := fun t => by
 unfold latF; split
 ·exact Nat.mod_lt _ (by omega)
 exact Nat.mod_lt _ (by omega)
theorem eight (x : Nat) (hx : x < 256) : 2 * (2 * (2 * (2 * (2 * (2 * (2 * (2 * 0 + x / 128 % 2) + x / 64 % 2) + x / 32 % 2) + x / 16 % 2) + x / 8 % 2) + x / 4 % 2) + x / 2 % 2) + x / 1 % 2 = x := by
 have h : ∀ x : Fin 256, 2 * (2 * (2 * (2 * (2 * (2 * (2 * (2 * 0 + x.val / 128 % 2) + x.val / 64 % 2) + x.val / 32 % 2) + x.val / 16 % 2) + x.val / 8 % 2) + x.val / 4 % 2) + x.val / 2 % 2) + x.val / 1 % 2 = x.val := by decide +kernel
 exact h ⟨x, hx⟩
theorem byte_bit (d e : Nat) (he : e < 8) : d / 2 ^ e % 2 = d % 256 / 2 ^ e % 2 := by
 obtain rfl | rfl | rfl | rfl | rfl | rfl | rfl | rfl : e = 0 ∨ e = 1 ∨ e = 2 ∨ e = 3 ∨ e = 4 ∨ e = 5 ∨ e = 6 ∨ e = 7 := by omega
 all_goals (simp; try omega)
set_option maxHeartbeats 4000000 in
theorem lat_bytes (n : Nat → Nat) (hn : By10 n) (c i : Nat) (hi : i < 10) : kb2 (latF n c 21) i 8 = atF n c i := by
 have hni := hn i hi
 by_cases h6 : i < 7
 ·have e : ∀ q, q < 8 → latF n c 21 (8 * i + q) = n i / 2 ^ (7 - q) % 2 := fun q hq => by
   unfold latF bitsF
   rw [if_neg (by omega), show (8 * i + q) / 8 = i by omega, show (8 * i + q) % 8 = q by omega]
  simp only [kb2]
  rw [e 0 (by omega), e 1 (by omega), e 2 (by omega), e 3 (by omega), e 4 (by omega), e 5 (by omega), e 6 (by omega), e 7 (by omega)]
  unfold atF
  rw [if_neg (by omega), if_neg (by omega), if_neg (by omega)]
  exact eight (n i) hni
 obtain rfl | rfl | rfl : i = 7 ∨ i = 8 ∨ i = 9 := by omega
 ·have e : ∀ q, q < 3 → latF n c 21 (8 * 7 + q) = n 7 / 2 ^ (7 - q) % 2 := fun q hq => by
   unfold latF bitsF
   rw [if_neg (by omega), show (8 * 7 + q) / 8 = 7 by omega, show (8 * 7 + q) % 8 = q by omega]
  have e' : ∀ q, 3 ≤ q → q < 8 → latF n c 21 (8 * 7 + q) = c / 65536 / 2 ^ (7 - q) % 2 := fun q h1 h2 => by
   unfold latF
   rw [if_pos (by omega), show 79 - (8 * 7 + q) = 16 + (7 - q) by omega, Nat.pow_add, ← Nat.div_div_eq_div_mul]
  simp only [kb2]
  rw [e 0 (by omega), e 1 (by omega), e 2 (by omega), e' 3 (by omega) (by omega), e' 4 (by omega) (by omega), e' 5 (by omega) (by omega), e' 6 (by omega) (by omega), e' 7 (by omega) (by omega)]
  show _ = n 7 / 32 * 32 + c / 65536 % 32
  generalize c / 65536 = d
  have h := eight (n 7 / 32 * 32 + d % 32) (by omega)
  have a1 : (n 7 / 32 * 32 + d % 32) / 128 % 2 = n 7 / 128 % 2 := by omega
  have a2 : (n 7 / 32 * 32 + d % 32) / 64 % 2 = n 7 / 64 % 2 := by omega
  have a3 : (n 7 / 32 * 32 + d % 32) / 32 % 2 = n 7 / 32 % 2 := by omega
  have a4 : (n 7 / 32 * 32 + d % 32) / 16 % 2 = d / 16 % 2 := by omega
  have a5 : (n 7 / 32 * 32 + d % 32) / 8 % 2 = d / 8 % 2 := by omega
  have a6 : (n 7 / 32 * 32 + d % 32) / 4 % 2 = d / 4 % 2 := by omega
  have a7 : (n 7 / 32 * 32 + d % 32) / 2 % 2 = d / 2 % 2 := by omega
  have a8 : (n 7 / 32 * 32 + d % 32) / 1 % 2 = d / 1 % 2 := by omega
  rw [a1, a2, a3, a4, a5, a6, a7, a8] at h
  exact h
 ·have e' : ∀ q, q < 8 → latF n c 21 (8 * 8 + q) = c / 256 % 256 / 2 ^ (7 - q) % 2 := fun q h2 => by
   unfold latF
   rw [if_pos (by omega), show 79 - (8 * 8 + q) = 8 + (7 - q) by omega, Nat.pow_add, ← Nat.div_div_eq_div_mul, show c / 2 ^ 8 = c / 256 from rfl]
   exact byte_bit _ _ (by omega)
  simp only [kb2]
  rw [e' 0 (by omega), e' 1 (by omega), e' 2 (by omega), e' 3 (by omega), e' 4 (by omega), e' 5 (by omega), e' 6 (by omega), e' 7 (by omega)]
  exact eight (c / 256 % 256) (by omega)
 have e' : ∀ q, q < 8 → latF n c 21 (8 * 9 + q) = c % 256 / 2 ^ (7 - q) % 2 := fun q h2 => by
  unfold latF
  rw [if_pos (by omega), show 79 - (8 * 9 + q) = 7 - q by omega]
  exact byte_bit _ _ (by omega)
 simp only [kb2]
 rw [e' 0 (by omega), e' 1 (by omega), e' 2 (by omega), e' 3 (by omega), e' 4 (by omega), e' 5 (by omega), e' 6 (by omega), e' 7 (by omega)]
 exact eight (c % 256) (by omega)
theorem and_one_int (z : Int) : bits .and .i64 z 1 = z % 2 := by
 show IntKind.i64.wrap ((BitVec.ofInt 64 z &&& BitVec.ofInt 64 1).toNat : Int) = _
 rw [BitVec.toNat_and, BitVec.toNat_ofInt, show (BitVec.ofInt 64 1).toNat = 2 ^ 1 - 1 from rfl, Nat.and_two_pow_sub_one_eq_mod, wrap_i64_nat _ (by omega)]
 omega
theorem shr_bit (z : Int) (j : Nat) (hj : j < 21) : bits .and .i64 (z / 2 ^ j) 1 = (((z % 2097152).toNat / 2 ^ j % 2 : Nat) : Int) := by
 rw [and_one_int]
 have hr : 0 ≤ z % 2097152 := Int.emod_nonneg _ (by omega)
 obtain ⟨r, hr'⟩ := Int.eq_ofNat_of_zero_le hr
 have hz : z = (r : Int) + 2 ^ j * (2 * 2 ^ (20 - j) * (z / 2097152)) := by
  have h := Int.emod_add_mul_ediv z 2097152
  rw [hr'] at h
  have e : (2097152 : Int) = 2 ^ j * (2 * 2 ^ (20 - j)) := by
   rw [← Int.pow_succ', ← Int.pow_add, show j + (20 - j + 1) = 21 by omega]; rfl
  rw [← Int.mul_assoc, ← e]; exact h.symm
 rw [hr', Int.toNat_natCast]
 have h0 : (2 : Int) ^ j ≠ 0 := Int.ne_of_gt (Int.pow_pos (by omega))
 rw [hz, Int.add_mul_ediv_left _ _ h0, Int.mul_assoc, Int.add_mul_emod_self_left]
 simp
theorem lat_step (n : Nat → Nat) (c j t : Nat) (hj : j < 21) : upd (latF n c j) (79 - j) (c / 2 ^ j % 2) t = latF n c (j + 1) t := by
 unfold upd latF
 by_cases h : t = 79 - j
 ·rw [if_pos h, if_pos (by omega), show 79 - t = j by omega]
 rw [if_neg h]
 by_cases h1 : 79 < t + j
 ·rw [if_pos h1, if_pos (by omega)]
 rw [if_neg h1, if_neg (by omega)]
end Go.Proofs.YtinejbjndpdcmaaDoor.Lad
