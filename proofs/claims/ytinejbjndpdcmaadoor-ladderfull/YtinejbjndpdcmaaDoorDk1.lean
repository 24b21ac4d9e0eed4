/-
 dukpt: the library's counting of bits, and what Counter and At return.
-/
import Derived.Test.YtinejbjndpdcmaaDoorDesX
import Derived.Test.YtinejbjndpdcmaaDoorBits
import Derived.Test.YtinejbjndpdcmaaDoorDkMath
import Derived.Test.YtinejbjndpdcmaaDoorPopMath
namespace Go.Proofs.YtinejbjndpdcmaaDoor.Dk
open Go.ChangeShapes Go.WideShapes Go.ChangeAt Go.RowKit Mem
theorem ones_i (x : Nat) (hx : x < 16777216) (W : Int → Int) (hW : ∀ n : Nat, n < 18446744073709551616 → W (n : Int) = n) (B : Int → Int → Int) (hB : ∀ a b : Nat, a < 18446744073709551616 → b < 18446744073709551616 → B (a : Int) (b : Int) = ((a &&& b : Nat) : Int)) :
  ∃ A, A < 67108864 ∧ W (B ((x : Int) / 2) 6148914691236517205 + B (x : Int) 6148914691236517205) = (A : Nat) ∧ ∃ C, C < 67108864 ∧ W (B ((A : Int) / 4) 3689348814741910323 + B (A : Int) 3689348814741910323) = (C : Nat) ∧
   ∃ D, D < 16777216 ∧ B (W ((C : Int) / 16 + (C : Int))) 1085102592571150095 = (D : Nat) ∧ (D + D / 256 + (D + D / 256) / 65536 + (D + D / 256 + (D + D / 256) / 65536) / 4294967296) % 128 = Pop.ones 24 x := by
 have hs := Pop.sum24 x hx
 have a1 : x / 2 &&& 0x5555555555555555 ≤ x / 2 := Nat.and_le_left
 have a2 : x &&& 0x5555555555555555 ≤ x := Nat.and_le_left
 have hA : Pop.pa 0x5555555555555555 x < 67108864 := by unfold Pop.pa; omega
 generalize hAe : Pop.pa 0x5555555555555555 x = A at *
 have b1 : A / 4 &&& 0x3333333333333333 ≤ A / 4 := Nat.and_le_left
 have b2 : A &&& 0x3333333333333333 ≤ A := Nat.and_le_left
 have hA2 : A ≤ 25165824 := by rw [← hAe]; unfold Pop.pa; omega
 have hC : Pop.pb 0x3333333333333333 A < 67108864 := by unfold Pop.pb; omega
 generalize hCe : Pop.pb 0x3333333333333333 A = C at *
 generalize hDe : Pop.pc 0x0f0f0f0f0f0f0f0f C = D at *
 refine ⟨A, hA, ?_, C, hC, ?_, D, hs.2, ?_, hs.1⟩
 ·have e := hB (x / 2) 6148914691236517205 (by omega) (by omega)
  have f := hB x 6148914691236517205 (by omega) (by omega)
  rw [show (x : Int) / 2 = ((x / 2 : Nat) : Int) by omega]
  erw [e, f]
  rw [← Int.natCast_add, hW _ (by omega), ← hAe]
  rfl
 ·have e := hB (A / 4) 3689348814741910323 (by omega) (by omega)
  have f := hB A 3689348814741910323 (by omega) (by omega)
  rw [show (A : Int) / 4 = ((A / 4 : Nat) : Int) by omega]
  erw [e, f]
  rw [← Int.natCast_add, hW _ (by omega), ← hCe]
  rfl
 rw [show (C : Int) / 16 + (C : Int) = ((C / 16 + C : Nat) : Int) by omega, hW _ (by omega)]
 have e := hB (C / 16 + C) 1085102592571150095 (by omega) (by omega)
 erw [e]
 rw [← hDe]
 rfl
set_option maxRecDepth 100000 in
theorem ones64 (x : Nat) (hx : x < 16777216) (w : World) : Calls Tryd.prog 29 #[.int .u64 x] w fun e w' => e = .returned (.int .i64 (Pop.ones 24 x : Nat)) ∧ w = w' := by
 go_enter Tryd.func29, Tryd.ntmps29
 go_wp2
 go_ret
 refine ⟨ret_int ?_, rfl⟩
 obtain ⟨A, hA, eA, C, hC, eC, D, hD, eD, hs⟩ := ones_i x hx IntKind.u64.wrap (fun n hn => Des.u64_wrap n hn _ rfl) (bits .and .u64) (fun a b ha hb => u64_and_nat a b ha hb)
 simp only [eA, eC, eD]
 have d1 : IntKind.u64.wrap ((D : Int) + (D : Int) / 256) = ((D + D / 256 : Nat) : Int) := Des.u64_wrap _ (by omega) _ (by omega)
 simp only [d1]
 have hE : D + D / 256 < 33554432 := by omega
 generalize D + D / 256 = E at *
 have d2 : IntKind.u64.wrap ((E : Int) + (E : Int) / 65536) = ((E + E / 65536 : Nat) : Int) := Des.u64_wrap _ (by omega) _ (by omega)
 simp only [d2]
 have hG : E + E / 65536 < 67108864 := by omega
 generalize E + E / 65536 = G at *
 have d3 : IntKind.u64.wrap ((G : Int) + (G : Int) / 4294967296) = ((G + G / 4294967296 : Nat) : Int) := Des.u64_wrap _ (by omega) _ (by omega)
 rw [d3, wrap64_nat _ (by omega)]
 have d4 := i64_and_nat (G + G / 4294967296) 127 (by omega) (by omega)
 rw [show (127 : Nat) = 2 ^ 7 - 1 from rfl, Nat.and_two_pow_sub_one_eq_mod] at d4
 rw [← hs]
 exact d4
set_option maxRecDepth 100000 in
theorem ones_any (x : Nat) (hx : x < 16777216) (w : World) : Calls Tryd.prog 19 #[.int .u64 x] w fun e w' => e = .returned (.int .i64 (Pop.ones 24 x : Nat)) ∧ w = w' := by
 go_enter Tryd.func19, Tryd.ntmps19
 go_wp2_with (go_at_call 29; refine (ones64 x hx _).mono ?_; rintro e w' ⟨rfl, rfl⟩)
 go_ret
 exact ⟨rfl, rfl⟩
theorem z10 : (Tryd.prog.info? 28).map (·.zero) = some (some (.agg (row 10 (b8 fun _ => 0)))) := by kernel_rfl
theorem z8 : (Tryd.prog.info? 57).map (·.zero) = some (some (.agg (row 8 (b8 fun _ => 0)))) := by kernel_rfl
theorem z16 : (Tryd.prog.info? 27).map (·.zero) = some (some (.agg (row 16 (b8 fun _ => 0)))) := by kernel_rfl
theorem i10 : (Tryd.prog.info? 28).map (·.size) = some 10 := by kernel_rfl
theorem i8a : (Tryd.prog.info? 57).map (·.size) = some 8 := by kernel_rfl
theorem i16 : (Tryd.prog.info? 27).map (·.size) = some 16 := by kernel_rfl
theorem i1 : (Tryd.prog.info? 5).map (·.size) = some 1 := by kernel_rfl
theorem i10' (f : Nat → Value) : (Tryd.prog.info? 28).map (·.size) = some (row 10 f).size := by rw [row_size]; exact i10
theorem i8' (f : Nat → Value) : (Tryd.prog.info? 57).map (·.size) = some (row 8 f).size := by rw [row_size]; exact i8a
theorem i16' (f : Nat → Value) : (Tryd.prog.info? 27).map (·.size) = some (row 16 f).size := by rw [row_size]; exact i16
def cnt (k : Nat → Nat) : Nat := k 7 % 32 * 65536 + k 8 * 256 + k 9
def atF (k : Nat → Nat) (c : Nat) : Nat → Nat := fun i => if i = 7 then k 7 / 32 * 32 + c / 65536 % 32 else if i = 8 then c / 256 % 256 else if i = 9 then c % 256 else k i
def By10 (k : Nat → Nat) : Prop := ∀ i, i < 10 → k i < 256
theorem cnt_lt {k : Nat → Nat} (hk : By10 k) : cnt k < 2097152 := by
 have := hk 8 (by omega); have := hk 9 (by omega); unfold cnt; omega
theorem cnt_at {k : Nat → Nat} {c : Nat} (hc : c < 2097152) : cnt (atF k c) = c := by
 unfold cnt atF
 simp
 omega
theorem atF_lt {k : Nat → Nat} (hk : By10 k) (c : Nat) : By10 (atF k c) := fun i hi => by
 have := hk i hi; have := hk 7 (by omega); unfold atF; split
 ·omega
 split
 ·omega
 split <;> omega
theorem cnt_bits (a b c : Nat) (ha : a < 256) (hb : b < 256) (hc : c < 256) :
  bits .or .i64 (bits .or .i64 (wrap64 (bits .and .i64 (a : Int) 31 * 65536)) ((b : Int) * 256)) (c : Int) = ((a % 32 * 65536 + b * 256 + c : Nat) : Int) := by
 have h1 := i64_and_nat a 31 (by omega) (by omega)
 rw [show (31 : Nat) = 2 ^ 5 - 1 from rfl, Nat.and_two_pow_sub_one_eq_mod] at h1
 have h1' : bits .and .i64 (a : Int) 31 = ((a % 32 : Nat) : Int) := h1
 have h2 : wrap64 (((a % 32 : Nat) : Int) * 65536) = ((a % 32 * 65536 : Nat) : Int) := by rw [← wrap64_nat (a % 32 * 65536) (by omega)]; rfl
 have h3 : ((b : Int) * 256) = ((b * 256 : Nat) : Int) := by omega
 rw [h1', h2, h3, i64_or_nat _ _ (by omega) (by omega), show a % 32 * 65536 = a % 32 * 2 ^ 16 from rfl, Des.or_add 16 _ _ (by omega), i64_or_nat _ _ (by omega) (by omega),
  show a % 32 * 2 ^ 16 + b * 256 = (a % 32 * 256 + b) * 2 ^ 8 by omega, Des.or_add 8 _ _ (by omega)]
set_option maxHeartbeats 1000000 in
theorem counter_any (k : Nat → Nat) (hk : By10 k) (w : World) : Calls Tryd.prog 23 #[.agg (row 10 (b8 k))] w fun e w' => e = .returned (.int .i64 (cnt k : Nat)) ∧ Below w.heap.size w w' := by
 have k7 := hk 7 (by omega)
 have k8 := hk 8 (by omega)
 have k9 := hk 9 (by omega)
 have hb := Blk.fresh w 28 (row 10 (b8 k))
 have v7 := hb.val 7 (by omega)
 have v8 := hb.val 8 (by omega)
 have v9 := hb.val 9 (by omega)
 have hc := cnt_bits (k 7) (k 8) (k 9) k7 k8 k9
 have hB : Below w.heap.size w (w.alloc (.cells (row 10 (b8 k)) 28)) := (Below.refl _ _).alloc (Nat.le_refl _) _
 go_enter Tryd.func23, Tryd.ntmps23
 go_wp2_with (first
  | (with_reducible refine wpl_at rfl 28 _ _ rfl _ rfl .i64 _ rfl 7 rfl 10 5 Tryd.underlying28 (by omega) i1 ?_)
  | (with_reducible refine wpl_at rfl 28 _ _ rfl _ rfl .i64 _ rfl 8 rfl 10 5 Tryd.underlying28 (by omega) i1 ?_)
  | (with_reducible refine wpl_at rfl 28 _ _ rfl _ rfl .i64 _ rfl 9 rfl 10 5 Tryd.underlying28 (by omega) i1 ?_)
  | (with_reducible refine wpl_ld rfl 5 _ rfl _ rfl .u8 Tryd.underlying5 _ v7 ?_)
  | (with_reducible refine wpl_ld rfl 5 _ rfl _ rfl .u8 Tryd.underlying5 _ v8 ?_)
  | (with_reducible refine wpl_ld rfl 5 _ rfl _ rfl .u8 Tryd.underlying5 _ v9 ?_))
 go_ret
 exact ⟨ret_int (by unfold cnt; omega), hB⟩
theorem at_row (k : Nat → Nat) (hk : By10 k) (c : Nat) :
  (((row 10 (b8 k)).setIfInBounds 7 (.int .u8 (bits .or .u8 ((k 7 : Nat) / 32 * 32) ((c : Int) / 65536 % 32)))).setIfInBounds 8 (.int .u8 ((c : Int) / 256 % 256))).setIfInBounds 9 (.int .u8 ((c : Int) % 256)) = row 10 (b8 (atF k c)) := by
 have k7 := hk 7 (by omega)
 have e7 : bits .or .u8 ((k 7 : Nat) / 32 * 32) ((c : Int) / 65536 % 32) = ((k 7 / 32 * 32 + c / 65536 % 32 : Nat) : Int) := by
  have h := u8_or_nat (k 7 / 32 * 32) (c / 65536 % 32) (by omega) (by omega)
  rw [show (k 7 / 32 * 32) = (k 7 / 32 * 2 ^ 5) from rfl, Des.or_add 5 _ _ (by omega)] at h
  rw [← h]
  congr 1
 rw [e7, show (c : Int) / 256 % 256 = ((c / 256 % 256 : Nat) : Int) by omega, show (c : Int) % 256 = ((c % 256 : Nat) : Int) by omega]
 rw [row_set, upd_b8, row_set, upd_b8, row_set, upd_b8]
 refine row_b8_ext fun i hi => ?_
 unfold atF upd
 by_cases h9 : i = 9
 ·subst h9; rfl
 by_cases h8 : i = 8
 ·subst h8; rfl
 by_cases h7 : i = 7
 ·subst h7; rfl
 simp [h9, h8, h7]
set_option maxRecDepth 100000 in
set_option maxHeartbeats 2000000 in
theorem at_any (k : Nat → Nat) (hk : By10 k) (c : Nat) (hc : c < 2097152) (w : World) : Calls Tryd.prog 14 #[.agg (row 10 (b8 k)), .int .i64 c] w fun e w' => e = .returned (.agg (row 10 (b8 (atF k c)))) ∧ Below w.heap.size w w' := by
 have k7 := hk 7 (by omega)
 have hrow := at_row k hk c
 have hb1 : Blk ((w.alloc (.cells (row 10 (b8 k)) 28)).alloc (.cells (row 10 (b8 fun _ => 0)) 28)) w.heap.size 28 (row 10 (b8 k)) := (Blk.fresh _ _ _).alloc _
 have hb2 : Blk ((w.alloc (.cells (row 10 (b8 (atF k c))) 28)).alloc (.cells (row 10 (b8 fun _ => 0)) 28)) (w.heap.size + 1) 28 (row 10 (b8 fun _ => 0)) := by simpa using Blk.fresh (w.alloc (.cells (row 10 (b8 (atF k c))) 28)) 28 (row 10 (b8 fun _ => 0))
 have hb3 : Blk ((w.alloc (.cells (row 10 (b8 (atF k c))) 28)).alloc (.cells (row 10 (b8 fun _ => 0)) 28)) w.heap.size 28 (row 10 (b8 (atF k c))) := (Blk.fresh _ _ _).alloc _
 have hB : Below w.heap.size w ((w.alloc (.cells (row 10 (b8 (atF k c))) 28)).alloc (.cells (row 10 (b8 fun _ => 0)) 28)) := ((Below.refl _ _).alloc (Nat.le_refl _) _).alloc (by simp) _
 have d7 := hb1.val 7 (by omega)
 have f7 := hb1.free 7
 go_enter Tryd.func14, Tryd.ntmps14
 go_wp2_with (first
  | (with_reducible refine wpl_alloc rfl 28 rfl _ z10 ?_)
  | (with_reducible refine wpl_at rfl 28 _ _ rfl _ rfl .i64 _ rfl 7 rfl 10 5 Tryd.underlying28 (by omega) i1 ?_)
  | (with_reducible refine wpl_ld rfl 5 _ rfl _ rfl .u8 Tryd.underlying5 _ d7 ?_)
  | (with_reducible refine wpl_st rfl 5 _ _ rfl _ rfl .u8 _ rfl i1 _ d7 f7 ?_)
  | (with_reducible refine wpl_load rfl 28 _ rfl _ rfl 28 _ hb3 10 5 Tryd.underlying28 (i10' _) ?_)
  | (with_reducible refine wpl_store rfl 28 _ _ rfl _ _ rfl rfl 28 _ hb2 (i10' _) (by simp [row_size]) (one_b8 _ _) ?_))
 exact ret_row Tryd.results14 rfl (w.heap.size + 1) rfl 28 10 _ (hb2.setRow _) 5 Tryd.underlying28 i10 ⟨rfl, below_setRow' hB (by omega) _⟩
end Go.Proofs.YtinejbjndpdcmaaDoor.Dk
