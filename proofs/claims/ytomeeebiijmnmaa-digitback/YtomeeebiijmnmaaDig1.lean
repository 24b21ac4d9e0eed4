/-
  What the small functions over digits return: worth, refuse, doubled of package digit; Value, Digit, First of the document's own.
-/
import Derived.Test.YtomeeebiijmnmaaDigMath
import Derived.Laws.Externs
namespace Go.Proofs.Ytomeeebiijmnmaa.Dg
open Mem Go.ChangeShapes Go.WideShapes Go.ChangeAt Go.RowKit
/-- the digits themselves -/
def digs : ByteArray := ⟨#[48, 49, 50, 51, 52, 53, 54, 55, 56, 57, 65, 66, 67, 68, 69, 70]⟩
theorem digs_at (n : Nat) (h : n < 16) : byteAt digs n = some (dg n) := by
  have : ∀ m : Fin 16, byteAt digs m.1 = some (dg m.1) := by decide +kernel
  exact this ⟨n, h⟩
theorem idx_all : ∀ c : Fin 256, firstIdx digs c.1.toUInt8 = wv c.1 := by decide +kernel
theorem idx_of (c : Nat) (h : c < 256) : firstIdx digs ((c : Int).toNat.toUInt8) = wv c := by
  rw [Int.toNat_natCast]
  exact idx_all ⟨c, h⟩
set_option maxRecDepth 100000 in
theorem worth_any (c : Nat) (h : c < 256) (w : World) : Calls Try.prog 16 #[.int .u8 (c : Int)] w fun e w' => e = .returned (.int .i64 (wv c)) ∧ w = w' := by
  have hx := @run_callFunc_extern Try.prog 21 _ Extern.BytealgIndexByte.indexByte Try.func21 (by kernel_rfl) (by kernel_rfl) (by kernel_rfl) (by kernel_rfl)
  have hr : (Extern.BytealgIndexByte.indexByte #[.string digs, .int .u8 (c : Int)]).run Try.prog w = .ok (.int .i64 (wv c)) w := by
    rw [run_indexByte_string, idx_of c h]
  unfold digs at hr
  go_enter Try.func16, Try.ntmps16
  go_wp2
  go_ret
  exact ⟨rfl, rfl⟩
theorem worth_still (c : Nat) (h : c < 256) (w : World) : Calls Try.prog 16 #[.int .u8 (c : Int)] w fun e w' => e = .returned (.int .i64 (wv c)) ∧ w' = w := (worth_any c h w).mono fun _ _ ⟨h1, h2⟩ => ⟨h1, h2.symm⟩
/-- of a digit -/
theorem worth_dig (c : Nat) (hc : dv c < 16) (h : c < 256) (w : World) : Calls Try.prog 16 #[.int .u8 (c : Int)] w fun e w' => e = .returned (.int .i64 (dv c : Int)) ∧ w' = w := by
  rw [← wv_lt hc]
  exact worth_still c h w
set_option maxRecDepth 100000 in
theorem value_any (c : Nat) (h : c < 256) (w : World) : Calls Try.prog 18 #[.int .u8 (c : Int)] w fun e w' => e = .returned (.int .i64 (dv c : Int)) ∧ w' = w := by
  by_cases h1 : 48 ≤ c
  · by_cases h2 : c ≤ 57
    · have h1I : (48 : Int) ≤ (c : Int) := by omega
      have h2I : (c : Int) ≤ 57 := by omega
      go_enter Try.func18, Try.ntmps18
      go_wp2
      go_ret
      refine ⟨ret_int ?_, rfl⟩
      unfold dv
      rw [if_pos ⟨h1, h2⟩]
      omega
    · have h1I : (48 : Int) ≤ (c : Int) := by omega
      have h2I : ¬ (c : Int) ≤ 57 := by omega
      by_cases h3 : 65 ≤ c ∧ c ≤ 70
      · have h3I : (65 : Int) ≤ (c : Int) := by omega
        have h4I : (c : Int) ≤ 70 := by omega
        go_enter Try.func18, Try.ntmps18
        go_wp2
        go_ret
        refine ⟨ret_int ?_, rfl⟩
        unfold dv
        rw [if_neg (by omega), if_pos h3]
        omega
      · have e : dv c = 99 := by unfold dv; rw [if_neg (by omega), if_neg h3]
        by_cases h4 : 65 ≤ c
        · have h3I : (65 : Int) ≤ (c : Int) := by omega
          have h4I : ¬ (c : Int) ≤ 70 := by omega
          go_enter Try.func18, Try.ntmps18
          go_wp2
          go_ret
          exact ⟨ret_int (by omega), rfl⟩
        · have h3I : ¬ (65 : Int) ≤ (c : Int) := by omega
          go_enter Try.func18, Try.ntmps18
          go_wp2
          go_ret
          exact ⟨ret_int (by omega), rfl⟩
  · have h1I : ¬ (48 : Int) ≤ (c : Int) := by omega
    have h3I : ¬ (65 : Int) ≤ (c : Int) := by omega
    have e : dv c = 99 := by unfold dv; rw [if_neg (by omega), if_neg (by omega)]
    go_enter Try.func18, Try.ntmps18
    go_wp2
    go_ret
    exact ⟨ret_int (by omega), rfl⟩
theorem one_str (w : World) (y : Int) (x : Nat) (h : y = (x : Int)) : (convert 22 9 (.slice (some ⟨w.heap.size, 0, none⟩) 1 1)).run Try.prog (w.alloc (.cells #[.int .u8 y] 5)) = .ok (.string (strF 1 fun _ => x)) (w.alloc (.cells #[.int .u8 y] 5)) := by
  subst h
  refine conv_own (base := 0) (n := 1) (f := fun _ => x) ?_
  exact ⟨rfl, .inr ⟨_, _, _, rfl, Nat.zero_le _, Blk.fresh _ _ _, Nat.le_refl _, by unfold maxLen; omega, rfl, rfl⟩⟩
set_option maxRecDepth 100000 in
theorem digit_any (n : Nat) (h : n < 16) (w : World) : Calls Try.prog 9 #[.int .i64 (n : Int)] w fun e w' => e = .returned (.string (strF 1 fun _ => dg n)) ∧ Below w.heap.size w w' := by
  by_cases h1 : n < 10
  · have h1I : (n : Int) < 10 := by omega
    have e : dg n = 48 + n := by unfold dg; rw [if_pos h1]
    have hcv := one_str w (48 + (n : Int)) (dg n) (by omega)
    clear e
    go_enter Try.func9, Try.ntmps9
    go_wp2
    go_ret
    exact ⟨rfl, (Below.refl _ _).alloc (Nat.le_refl _) _⟩
  · have h1I : ¬ (n : Int) < 10 := by omega
    have e : dg n = 55 + n := by unfold dg; rw [if_neg h1]
    have hcv := one_str w (55 + (n : Int)) (dg n) (by omega)
    clear e
    go_enter Try.func9, Try.ntmps9
    go_wp2
    go_ret
    exact ⟨rfl, (Below.refl _ _).alloc (Nat.le_refl _) _⟩
theorem doub_any (n : Nat) (h : n < 10) (w : World) : Calls Try.prog 17 #[.int .i64 (n : Int)] w fun e w' => e = .returned (.int .i64 ((if 4 < n then 2 * n - 9 else 2 * n : Nat) : Int)) ∧ w' = w := by
  by_cases h1 : 4 < n
  · have h1I : (4 : Int) < (n : Int) := by omega
    go_enter Try.func17, Try.ntmps17
    go_wp2
    go_ret
    exact ⟨ret_int (by omega), rfl⟩
  · have h1I : ¬ (4 : Int) < (n : Int) := by omega
    go_enter Try.func17, Try.ntmps17
    go_wp2
    go_ret
    exact ⟨ret_int (by omega), rfl⟩
set_option maxRecDepth 100000 in
theorem rej_ok (n : Nat) (f : Nat → Nat) (base : Nat) (z : Int) (w : World) (hb : base = 10 ∨ base = 16) (hf : ∀ i, f i < 256) (hn : n ≤ 1000000) (h : AllD base n f) :
    Calls Try.prog 15 #[.string (strF n f), .int .i64 (base : Int), .int .i64 z] w fun e w' => e = .returned .nilIface ∧ w' = w := by
  have hsz := strF_size n f
  go_enter Try.func15, Try.ntmps15
  go_wp2
  go_loopw [7, 8, 11] (fun _ _ i wr => ∃ k : Nat, k ≤ n ∧ i = .int .i64 (k : Int) ∧ wr = w) (fun _ _ i _ => n - (intOf i).toNat)
  case atStart => exact ⟨0, by omega, rfl, rfl⟩
  case round =>
    obtain ⟨k, hk, rfl, rfl⟩ := hrel
    by_cases hlt : k < n
    · have hd := h k hlt
      have hw := wv_lt (c := f k) (by omega)
      have HW := hid (worth_dig (f k) (by omega) (hf k) wr)
      have h1I : ¬ (dv (f k) : Int) < 0 := by omega
      have h2I : ¬ (dv (f k) : Int) ≥ (base : Int) := by omega
      go_wp2_with (first
        | (with_reducible refine wpl_str rfl 9 _ _ rfl (strF n f) rfl .i64 _ rfl k rfl Try.underlying9 (f k) (byteAt_strF hlt (hf k)) ?_)
        | (go_at_call 16; refine HW.out.mono ?_; rintro e w1 ⟨rfl, rfl⟩))
      go_round
      case rel => exact ⟨k + 1, by omega, val_int (by omega), by first | rfl | trivial⟩
      case measure => simp [intOf]; omega
    · go_wp2
      go_ret
      exact ⟨rfl, rfl⟩
/-- the first byte that is none -/
theorem rej_bad (n : Nat) (f : Nat → Nat) (base : Nat) (z i : Nat) (w : World) (hb : base = 10 ∨ base = 16) (hf : ∀ i, f i < 256) (hn : n ≤ 1000000) (hz : z ≤ 16) (h : BadD base n f i) :
    Calls Try.prog 15 #[.string (strF n f), .int .i64 (base : Int), .int .i64 (z : Int)] w fun e w' => e = .returned (.iface 45 (.pointer (some ⟨w.heap.size, 0, none⟩))) ∧ Blk w' w.heap.size 47 #[.int .i64 ((z + i : Nat) : Int), .iface 41 (.int .i64 16)] ∧ Below w.heap.size w w' := by
  have hsz := strF_size n f
  obtain ⟨hi, hbe, hd⟩ := h
  go_enter Try.func15, Try.ntmps15
  go_wp2
  go_loopw [7, 8, 11] (fun _ _ y wr => ∃ k : Nat, k ≤ i ∧ y = .int .i64 (k : Int) ∧ wr = w) (fun _ _ y _ => n - (intOf y).toNat)
  case atStart => exact ⟨0, by omega, rfl, rfl⟩
  case round =>
    obtain ⟨k, hk, rfl, rfl⟩ := hrel
    have hlt : k < n := by omega
    by_cases hki : k < i
    · have hd := hbe k hki
      have HW := hid (worth_dig (f k) (by omega) (hf k) wr)
      have h1I : ¬ (dv (f k) : Int) < 0 := by omega
      have h2I : ¬ (dv (f k) : Int) ≥ (base : Int) := by omega
      go_wp2_with (first
        | (with_reducible refine wpl_str rfl 9 _ _ rfl (strF n f) rfl .i64 _ rfl k rfl Try.underlying9 (f k) (byteAt_strF hlt (hf k)) ?_)
        | (go_at_call 16; refine HW.out.mono ?_; rintro e w1 ⟨rfl, rfl⟩))
      go_round
      case rel => exact ⟨k + 1, by omega, val_int (by omega), by first | rfl | trivial⟩
      case measure => simp [intOf]; omega
    · obtain rfl : k = i := by omega
      have HW := hid (worth_still (f k) (hf k) wr)
      have hge : (wv (f k)) < 0 ∨ (0 ≤ wv (f k) ∧ (base : Int) ≤ wv (f k)) := by
        rcases dv_cases (f k) with h | h
        · rw [wv_lt h]; right; omega
        · rw [wv_no (by omega)]; left; decide
      rcases hge with h1I | ⟨h1I, h2I⟩
      · go_wp2_with (first
          | (with_reducible refine wpl_str rfl 9 _ _ rfl (strF n f) rfl .i64 _ rfl k rfl Try.underlying9 (f k) (byteAt_strF hlt (hf k)) ?_)
          | (go_at_call 16; refine HW.out.mono ?_; rintro e w1 ⟨rfl, rfl⟩))
        go_ret
        exact ⟨rfl, Blk.fresh _ _ _, (Below.refl _ _).alloc (Nat.le_refl _) _⟩
      · have h3I : ¬ (wv (f k)) < 0 := by omega
        go_wp2_with (first
          | (with_reducible refine wpl_str rfl 9 _ _ rfl (strF n f) rfl .i64 _ rfl k rfl Try.underlying9 (f k) (byteAt_strF hlt (hf k)) ?_)
          | (go_at_call 16; refine HW.out.mono ?_; rintro e w1 ⟨rfl, rfl⟩))
        go_ret
        exact ⟨rfl, Blk.fresh _ _ _, (Below.refl _ _).alloc (Nat.le_refl _) _⟩
end Go.Proofs.Ytomeeebiijmnmaa.Dg
