/-
 What Right of package head returns; lockboxref10's in, pair and Wrong.
-/
import Derived.Test.YtklgngdcihkfjaaDoorHd1
namespace Go.Proofs.YtklgngdcihkfjaaDoor.Hd
open Mem Go.ChangeShapes Go.WideShapes Go.ChangeAt Go.RowKit
def hdC (h : Hd) : Array Value := #[.int .u8 (h.v : Int), .string (strF h.n h.f), .int .u8 (h.a : Int), .int .u8 (h.k : Int), .string (strF h.m h.g), .int .u8 (h.x : Int)]
def ErrOut (z : Int) (w : World) (v : Value) (w' : World) : Prop :=
 (z = -1 ∧ v = .nilIface) ∨ (0 ≤ z ∧ ∃ g, w.heap.size ≤ g ∧ v = .iface 53 (.pointer (some ⟨g, 0, none⟩)) ∧ Blk w' g 56 #[.int .i64 z, .iface 44 (.int .i64 6)])
def RightOut (z : Int) (w : World) (e : Ending) (w' : World) : Prop := Below w.heap.size w w' ∧ ∃ v, e = .returned v ∧ ErrOut z w v w'
theorem right_bad {z : Int} {w w1 w' : World} {g : Nat} (hz : 0 ≤ z) (hB : Below w.heap.size w w1) (hg : w1.heap.size = g) (hb : Blk w' w1.heap.size 56 #[.int .i64 z, .iface 44 (.int .i64 6)]) (hB1 : Below w1.heap.size w1 w') : RightOut z w (.returned (.iface 53 (.pointer (some ⟨g, 0, none⟩)))) w' := by
 subst hg
 exact ⟨hB.trans (hB1.mono hB.size), _, rfl, .inr ⟨hz, _, hB.size, rfl, hb⟩⟩
set_option maxRecDepth 100000 in
theorem right_any (h : Hd) (ok : h.Ok) (w : World) : Calls Tryd.prog 10 #[.agg (hdC h)] w (RightOut (wrong h) w) := by
 obtain ⟨v, n, f, a, k, m, g, x⟩ := h
 obtain ⟨hv, hf, ha, hk, hg, hx⟩ := ok
 simp only at hv hf ha hk hg hx
 have hB0 : Below w.heap.size w (w.alloc (.cells (hdC ⟨v, n, f, a, k, m, g, x⟩) 23)) := (Below.refl _ _).alloc (Nat.le_refl _) _
 unfold hdC at hB0 ⊢
 simp only at hB0 ⊢
 have HB := hid hB0
 obtain ⟨z, hz⟩ : ∃ z, z = wrong ⟨v, n, f, a, k, m, g, x⟩ := ⟨_, rfl⟩
 rw [← hz]
 have Hz := hid hz
 clear hB0 hz
 go_enter Tryd.func10, Tryd.ntmps10
 go_wp2_with fail
 refine (may0 v hv _).mono ?_
 rintro e w0 ⟨rfl, rfl⟩
 cases hb0 : verB v
 ·go_wp2_with fail
  refine (unf_any 0 _).mono ?_
  rintro e w9 ⟨rfl, hb, hB⟩
  have hz : z = 0 := by rw [Hz.out]; simp [wrong, *]
  have hO := right_bad (g := w.heap.size + 1) (by omega) HB.out (by simp) hb hB
  rw [← hz] at hO
  go_wp2_with fail
  go_ret
  exact hO
 go_wp2_with fail
 refine (pair_any 5 (.inl rfl) n f hf _).mono ?_
 rintro e w1 ⟨rfl, rfl⟩
 cases hb1 : prB n f
 ·go_wp2_with fail
  refine (unf_any 5 _).mono ?_
  rintro e w9 ⟨rfl, hb, hB⟩
  have hz : z = 5 := by rw [Hz.out]; simp [wrong, *]
  have hO := right_bad (g := w.heap.size + 1) (by omega) HB.out (by simp) hb hB
  rw [← hz] at hO
  go_wp2_with fail
  go_ret
  exact hO
 go_wp2_with fail
 refine (may7 a ha _).mono ?_
 rintro e w2 ⟨rfl, rfl⟩
 cases hb2 : algB a
 ·go_wp2_with fail
  refine (unf_any 7 _).mono ?_
  rintro e w9 ⟨rfl, hb, hB⟩
  have hz : z = 7 := by rw [Hz.out]; simp [wrong, *]
  have hO := right_bad (g := w.heap.size + 1) (by omega) HB.out (by simp) hb hB
  rw [← hz] at hO
  go_wp2_with fail
  go_ret
  exact hO
 go_wp2_with fail
 refine (may8 k hk _).mono ?_
 rintro e w3 ⟨rfl, rfl⟩
 cases hb3 : modB k
 ·go_wp2_with fail
  refine (unf_any 8 _).mono ?_
  rintro e w9 ⟨rfl, hb, hB⟩
  have hz : z = 8 := by rw [Hz.out]; simp [wrong, *]
  have hO := right_bad (g := w.heap.size + 1) (by omega) HB.out (by simp) hb hB
  rw [← hz] at hO
  go_wp2_with fail
  go_ret
  exact hO
 go_wp2_with fail
 refine (pair_any 9 (.inr rfl) m g hg _).mono ?_
 rintro e w4 ⟨rfl, rfl⟩
 cases hb4 : prB m g
 ·go_wp2_with fail
  refine (unf_any 9 _).mono ?_
  rintro e w9 ⟨rfl, hb, hB⟩
  have hz : z = 9 := by rw [Hz.out]; simp [wrong, *]
  have hO := right_bad (g := w.heap.size + 1) (by omega) HB.out (by simp) hb hB
  rw [← hz] at hO
  go_wp2_with fail
  go_ret
  exact hO
 go_wp2_with fail
 refine (may11 x hx _).mono ?_
 rintro e w5 ⟨rfl, rfl⟩
 cases hb5 : expB x
 ·go_wp2_with fail
  refine (unf_any 11 _).mono ?_
  rintro e w9 ⟨rfl, hb, hB⟩
  have hz : z = 11 := by rw [Hz.out]; simp [wrong, *]
  have hO := right_bad (g := w.heap.size + 1) (by omega) HB.out (by simp) hb hB
  rw [← hz] at hO
  go_wp2_with fail
  go_ret
  exact hO
 go_wp2_with fail
 have hz : z = -1 := by rw [Hz.out]; simp [wrong, *]
 go_ret
 exact ⟨HB.out, _, rfl, .inl ⟨hz, rfl⟩⟩
theorem memK_zero (s : ByteArray) (c : Nat) : memK s c 0 = false := rfl
theorem memK_next {s : ByteArray} {c k b : Nat} (h : byteAt s k = some b) : memK s c (k + 1) = (memK s c k || b == c) := by
 unfold byteAt at h
 unfold memK
 have hk : k < s.data.size := by
  rcases Nat.lt_or_ge k s.data.size with h' | h'
  ·exact h'
  rw [Array.getElem?_eq_none h'] at h; cases h
 rw [Array.getElem?_eq_getElem hk] at h
 have hb : s.data[k].toNat = b := by simpa using h
 have hl : k < s.data.toList.length := by simpa using hk
 rw [List.take_add_one, List.any_append, List.getElem?_eq_getElem hl]
 simp [hb]
theorem memK_all (s : ByteArray) (c : Nat) : memK s c s.size = memB s c := by
 unfold memK memB
 rw [List.take_of_length_le (by rw [Array.length_toList]; exact Nat.le_refl _)]
theorem byteAt_some {s : ByteArray} {k : Nat} (h : k < s.size) : ∃ b, byteAt s k = some b ∧ b < 256 := by
 unfold byteAt
 have hk : k < s.data.size := h
 rw [Array.getElem?_eq_getElem hk]
 exact ⟨_, rfl, UInt8.toNat_lt _⟩
theorem memB_hit {s : ByteArray} {c k b : Nat} (h : byteAt s k = some b) (hb : b = c) : memB s c = true := by
 unfold byteAt at h
 unfold memB
 have hk : k < s.data.size := by
  rcases Nat.lt_or_ge k s.data.size with h' | h'
  ·exact h'
  rw [Array.getElem?_eq_none h'] at h; cases h
 rw [Array.getElem?_eq_getElem hk] at h
 have hb2 : s.data[k].toNat = b := by simpa using h
 rw [List.any_eq_true]
 exact ⟨s.data[k], by simp, by simp [hb2, hb]⟩
set_option maxRecDepth 100000 in
theorem rin_any (s : ByteArray) (c : Nat) (w : World) (hs : s.size ≤ 1000) : Calls Tryd.prog 22 #[.int .u8 (c : Int), .string s] w fun e w' => e = .returned (.bool (memB s c)) ∧ w' = w := by
 go_enter Tryd.func22, Tryd.ntmps22
 go_wp2_with fail
 go_loopw [5] (fun y wr => ∃ k : Nat, k ≤ s.size ∧ y = .int .i64 (k : Int) ∧ Hid (memK s c k = false) ∧ wr = w) (fun y _ => s.size - (intOf y).toNat)
 case atStart => exact ⟨0, by omega, rfl, hid (memK_zero s c), rfl⟩
 case round =>
  obtain ⟨k, hk, rfl, HM, rfl⟩ := hrel
  by_cases hlt : k < s.size
  ·obtain ⟨b, hb, hb6⟩ := byteAt_some hlt
   by_cases hbc : b = c
   ·have hbI : (b : Int) = (c : Int) := by omega
    have Hb := hid hb
    clear hb
    go_wp2_with (first
     | (with_reducible refine wpl_str rfl 9 _ _ rfl s rfl .i64 _ rfl k rfl Tryd.underlying9 b Hb.out ?_))
    go_ret
    exact ⟨rbool (memB_hit Hb.out hbc).symm, rfl⟩
   have hbI : ¬ (b : Int) = (c : Int) := by omega
   have Hb := hid hb
   clear hb
   go_wp2_with (first
    | (with_reducible refine wpl_str rfl 9 _ _ rfl s rfl .i64 _ rfl k rfl Tryd.underlying9 b Hb.out ?_))
   go_round
   case rel => exact ⟨k + 1, by omega, val_int (by omega), hid (by rw [memK_next Hb.out, HM.out]; simpa using hbc), by first | rfl | trivial⟩
   case measure => simp [intOf]; omega
  obtain rfl : k = s.size := by omega
  go_wp2_with fail
  go_ret
  exact ⟨rbool (by rw [← memK_all, HM.out]), rfl⟩
set_option maxRecDepth 100000 in
theorem rpair_any (n : Nat) (f : Nat → Nat) (hf : ∀ i, f i < 256) (w : World) : Calls Tryd.prog 23 #[.string (strF n f)] w fun e w' => e = .returned (.bool (prB n f)) ∧ w' = w := by
 have hsz := strF_size n f
 by_cases hn : n = 2
 ·subst hn
  have h0 := byteAt_strF (n := 2) (k := 0) (by omega) (hf 0)
  have h1 := byteAt_strF (n := 2) (k := 1) (by omega) (hf 1)
  have HM : ∀ c : Nat, c < 256 → ∀ W, Calls Tryd.prog 22 #[.int .u8 (c : Int), .string allS] W fun e w' => e = .returned (.bool (pcB c)) ∧ w' = W := fun c hc W => by
   have h := rin_any allS c W (by decide)
   rw [mem_all c hc] at h
   exact h
  have HM := hid HM
  have hf0 := hf 0
  have hf1 := hf 1
  go_enter Tryd.func23, Tryd.ntmps23
  go_wp2_with (first
   | ((with_reducible refine wpg_val ?_ _ (exec_str 9 _ _ rfl (strF 2 f) rfl .i64 _ rfl 0 rfl Tryd.underlying9 (f 0) h0) ?_); exact rfl))
  refine (HM.out (f 0) hf0 _).mono ?_
  rintro e w0 ⟨rfl, rfl⟩
  cases hp0 : pcB (f 0)
  ·go_wp2_with fail
   go_ret
   exact ⟨rbool (by unfold prB; rw [hp0]; rfl), rfl⟩
  go_wp2_with (first
   | ((with_reducible refine wpg_val ?_ _ (exec_str 9 _ _ rfl (strF 2 f) rfl .i64 _ rfl 1 rfl Tryd.underlying9 (f 1) h1) ?_); exact rfl))
  refine (HM.out (f 1) hf1 _).mono ?_
  rintro e w1 ⟨rfl, rfl⟩
  go_wp2_with fail
  go_ret
  exact ⟨rbool (by unfold prB; rw [hp0]; rfl), rfl⟩
 have hnI : ¬ (n : Int) = 2 := by omega
 go_enter Tryd.func23, Tryd.ntmps23
 go_wp2_with fail
 go_ret
 refine ⟨rbool ?_, rfl⟩
 unfold prB
 simp [hn]
theorem rin_ver (c : Nat) (hc : c < 256) (w : World) : Calls Tryd.prog 22 #[.int .u8 (c : Int), .string ⟨#[66, 68]⟩] w fun e w' => e = .returned (.bool (verB c)) ∧ w' = w := mem_ver c hc ▸ rin_any _ c w (by decide)
theorem rin_alg (c : Nat) (hc : c < 256) (w : World) : Calls Tryd.prog 22 #[.int .u8 (c : Int), .string ⟨#[84, 65]⟩] w fun e w' => e = .returned (.bool (algB c)) ∧ w' = w := mem_alg c hc ▸ rin_any _ c w (by decide)
theorem rin_mod (c : Nat) (hc : c < 256) (w : World) : Calls Tryd.prog 22 #[.int .u8 (c : Int), .string ⟨#[66, 67, 68, 69, 71, 78, 83, 84, 86, 88, 89]⟩] w fun e w' => e = .returned (.bool (modB c)) ∧ w' = w := mem_mod c hc ▸ rin_any modS c w (by decide)
theorem rin_exp (c : Nat) (hc : c < 256) (w : World) : Calls Tryd.prog 22 #[.int .u8 (c : Int), .string ⟨#[69, 78, 83]⟩] w fun e w' => e = .returned (.bool (expB c)) ∧ w' = w := mem_exp c hc ▸ rin_any _ c w (by decide)
set_option maxRecDepth 100000 in
theorem rwrong_any (h : Hd) (ok : h.Ok) (w : World) : Calls Tryd.prog 11 #[.agg (hdC h)] w fun e w' => e = .returned (.int .i64 (wrong h)) ∧ Below w.heap.size w w' := by
 obtain ⟨v, n, f, a, k, m, g, x⟩ := h
 obtain ⟨hv, hf, ha, hk, hg, hx⟩ := ok
 simp only at hv hf ha hk hg hx
 have hB0 : Below w.heap.size w (w.alloc (.cells (hdC ⟨v, n, f, a, k, m, g, x⟩) 23)) := (Below.refl _ _).alloc (Nat.le_refl _) _
 unfold hdC at hB0 ⊢
 simp only at hB0 ⊢
 have HB := hid hB0
 obtain ⟨z, hz⟩ : ∃ z, z = wrong ⟨v, n, f, a, k, m, g, x⟩ := ⟨_, rfl⟩
 rw [← hz]
 have Hz := hid hz
 clear hB0 hz
 go_enter Tryd.func11, Tryd.ntmps11
 go_wp2_with fail
 refine (rin_ver v hv _).mono ?_
 rintro e w0 ⟨rfl, rfl⟩
 cases hb0 : verB v
 ·go_wp2_with fail
  have hz : z = 0 := by rw [Hz.out]; simp [wrong, *]
  go_ret
  exact ⟨by rw [hz]; rfl, HB.out⟩
 go_wp2_with fail
 refine (rpair_any n f hf _).mono ?_
 rintro e w1 ⟨rfl, rfl⟩
 cases hb1 : prB n f
 ·go_wp2_with fail
  have hz : z = 5 := by rw [Hz.out]; simp [wrong, *]
  go_ret
  exact ⟨by rw [hz]; rfl, HB.out⟩
 go_wp2_with fail
 refine (rin_alg a ha _).mono ?_
 rintro e w2 ⟨rfl, rfl⟩
 cases hb2 : algB a
 ·go_wp2_with fail
  have hz : z = 7 := by rw [Hz.out]; simp [wrong, *]
  go_ret
  exact ⟨by rw [hz]; rfl, HB.out⟩
 go_wp2_with fail
 refine (rin_mod k hk _).mono ?_
 rintro e w3 ⟨rfl, rfl⟩
 cases hb3 : modB k
 ·go_wp2_with fail
  have hz : z = 8 := by rw [Hz.out]; simp [wrong, *]
  go_ret
  exact ⟨by rw [hz]; rfl, HB.out⟩
 go_wp2_with fail
 refine (rpair_any m g hg _).mono ?_
 rintro e w4 ⟨rfl, rfl⟩
 cases hb4 : prB m g
 ·go_wp2_with fail
  have hz : z = 9 := by rw [Hz.out]; simp [wrong, *]
  go_ret
  exact ⟨by rw [hz]; rfl, HB.out⟩
 go_wp2_with fail
 refine (rin_exp x hx _).mono ?_
 rintro e w5 ⟨rfl, rfl⟩
 cases hb5 : expB x
 ·go_wp2_with fail
  have hz : z = 11 := by rw [Hz.out]; simp [wrong, *]
  go_ret
  exact ⟨by rw [hz]; rfl, HB.out⟩
 go_wp2_with fail
 have hz : z = -1 := by rw [Hz.out]; simp [wrong, *]
 go_ret
 exact ⟨by rw [hz]; rfl, HB.out⟩
end Go.Proofs.YtklgngdcihkfjaaDoor.Hd
