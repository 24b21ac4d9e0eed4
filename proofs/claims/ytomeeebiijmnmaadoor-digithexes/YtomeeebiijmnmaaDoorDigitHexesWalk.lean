/-
  DigitHexes returns true: its walk.
-/
import Derived.Test.YtomeeebiijmnmaaDoorLaw08
import Derived.Test.YtomeeebiijmnmaaDoorAsX
namespace Go.Proofs.YtomeeebiijmnmaaDoor.Dg.Hexes
open Mem As Dg Go.ChangeShapes Go.WideShapes Go.ChangeAt Go.RowKit
theorem dec_pair (n : Nat) (f : Nat → Nat) (hf : ∀ i, f i < 256) (hn : n ≤ 1000) : ∃ z : Int, (∀ w, Calls Tryd.prog 12 #[.string (strF n f)] w fun e w' => e = .returned (.bool (decide (z < 0))) ∧ Below w.heap.size w w') ∧ (∀ w, Calls Tryd.prog 9 #[.string (strF n f), .int .i64 10] w fun e w' => e = .returned (.int .i64 z) ∧ w' = w) := by
  rcases allD_or 10 f n with h | ⟨i, h⟩
  · refine ⟨-1, fun w => (decimal_ok n f w hf (by omega) h).mono ?_, fun w => first_ok n f 10 w hf (by omega) h⟩
    rintro e w' ⟨rfl, rfl⟩
    exact ⟨rfl, Below.refl _ _⟩
  · refine ⟨(i : Int), fun w => (decimal_bad n f i w hf (by omega) h).mono ?_, fun w => first_bad n f 10 i w hf (by omega) h⟩
    rintro e w' ⟨rfl, hB⟩
    have e : decide ((i : Int) < 0) = false := decide_eq_false (by omega)
    rw [e]
    exact ⟨rfl, hB⟩
set_option maxRecDepth 100000 in
set_option maxHeartbeats 1000000 in
theorem hexes_true (A : Option Addr) (L c : Nat) (g : Nat → Nat) (s : ByteArray) (w : World) (hg : Laid w) (hR : Reads w w.heap.size A L g) (hb : ∀ i, i < L → g i < 256) :
    Calls Tryd.prog 3 #[.slice A L c, .string s] w fun e w' => e = .returned (.bool true) ∧ Below w.heap.size w w' := by
  obtain ⟨n, f, hf, rfl⟩ : ∃ n f, (∀ i, f i < 256) ∧ s = strF n f := by
    obtain ⟨f, h1, h2⟩ := strF_of s
    exact ⟨_, f, h1, h2⟩
  have Hg := hid hg
  have HR := hid hR
  have Hb := hid hb
  have hsz := strF_size n f
  clear hg hR hb
  by_cases hLn : L ≤ 200 ∧ n ≤ 200
  · obtain ⟨hL, hn⟩ := hLn
    have hLI : ¬ 200 < (L : Int) := by omega
    have hnI : ¬ 200 < (n : Int) := by omega
    obtain ⟨z, hz1, hz2⟩ := dec_pair n f hf (by omega)
    have Hz1 := hid hz1
    have Hz2 := hid hz2
    clear hz1 hz2
    rcases allD_or 16 f n with hA | ⟨i, hbad⟩
    · by_cases hodd : n % 2 = 1
      · have hoI : (n : Int) % 2 = 1 := by omega
        go_enter Tryd.func3, Tryd.ntmps3
        go_wp2_with fail
        refine (awake8_any _).mono ?_
        rintro e w1 ⟨rfl, hB1⟩
        have HB1 := hid hB1
        clear hB1
        go_wp2_with fail
        refine (unhex_odd n f _ hf (by omega) hA hodd).mono ?_
        rintro e wx1 ⟨rfl, rfl⟩
        go_wp2_with fail
        refine (first_ok n f 16 _ hf (by omega) hA).mono ?_
        rintro e wx2 ⟨rfl, rfl⟩
        go_wp2_with fail
        refine (hex_any A L c g _ (by omega) Hb.out ((HR.out.below HB1.out).more HB1.out.size)).mono ?_
        rintro e w4 ⟨rfl, hB4⟩
        have HB4 := hid (HB1.out.trans (hB4.mono HB1.out.size))
        clear hB4
        go_wp2_with fail
        refine (rhex_any A L c g _ (by omega) Hb.out ((HR.out.below HB4.out).more HB4.out.size)).mono ?_
        rintro e w5 ⟨rfl, hB5⟩
        have HB5 := hid (HB4.out.trans (hB5.mono HB4.out.size))
        clear hB5
        go_wp2_with fail
        refine (Hz1.out _).mono ?_
        rintro e w6 ⟨rfl, hB6⟩
        have HB6 := hid (HB5.out.trans (hB6.mono HB5.out.size))
        clear hB6
        go_wp2_with fail
        refine (Hz2.out _).mono ?_
        rintro e wx6 ⟨rfl, rfl⟩
        go_wp2_with fail
        refine (code_hit 2 _ (Hg.out.below HB6.out)).mono ?_
        rintro e w8 ⟨rfl, hB8⟩
        have HB8 := hid (HB6.out.trans (hB8.mono HB6.out.size))
        clear hB8
        go_wp2_with fail
        go_ret
        exact ⟨rfl, HB8.out⟩
      · obtain ⟨m, hm⟩ : ∃ m, n = 2 * m := ⟨n / 2, by omega⟩
        have hoI : ¬ (n : Int) % 2 = 1 := by omega
        have hm200 : m ≤ 200 := by omega
        have Hm := hid hm
        clear hm
        go_enter Tryd.func3, Tryd.ntmps3
        go_wp2_with fail
        refine (awake8_any _).mono ?_
        rintro e w1 ⟨rfl, hB1⟩
        have HB1 := hid hB1
        clear hB1
        go_wp2_with fail
        refine (unhex_ok n m f _ hf (by omega) hA Hm.out).mono ?_
        rintro e w2 ⟨rfl, hb2, hB2⟩
        have HB2 := hid (HB1.out.trans (hB2.mono HB1.out.size))
        clear hB2
        have HX := hid hb2
        clear hb2
        go_wp2_with fail
        refine (first_ok n f 16 _ hf (by omega) hA).mono ?_
        rintro e wx2 ⟨rfl, rfl⟩
        go_wp2_with fail
        refine (hex_any A L c g _ (by omega) Hb.out ((HR.out.below HB2.out).more HB2.out.size)).mono ?_
        rintro e w4 ⟨rfl, hB4⟩
        have HB4 := hid (HB2.out.trans (hB4.mono HB2.out.size))
        have HX := hid (HX.out.below hB4 HX.out.lt)
        clear hB4
        go_wp2_with fail
        refine (rhex_any A L c g _ (by omega) Hb.out ((HR.out.below HB4.out).more HB4.out.size)).mono ?_
        rintro e w5 ⟨rfl, hB5⟩
        have HB5 := hid (HB4.out.trans (hB5.mono HB4.out.size))
        have HX := hid (HX.out.below hB5 HX.out.lt)
        clear hB5
        go_wp2_with fail
        refine (Hz1.out _).mono ?_
        rintro e w6 ⟨rfl, hB6⟩
        have HB6 := hid (HB5.out.trans (hB6.mono HB5.out.size))
        have HX := hid (HX.out.below hB6 HX.out.lt)
        clear hB6
        go_wp2_with fail
        refine (Hz2.out _).mono ?_
        rintro e wx6 ⟨rfl, rfl⟩
        go_wp2_with fail
        refine (runhex_any n m f _ hf (by omega) Hm.out hA).mono ?_
        rintro e w8 ⟨v, rfl, ho, hB8⟩
        obtain ⟨Av, cv, rfl, hcv, -⟩ := ho.slice'
        have HB8 := hid (HB6.out.trans (hB8.mono HB6.out.size))
        have HX := hid (HX.out.below hB8 HX.out.lt)
        clear hB8
        go_wp2_with fail
        refine (same_yes _ _ m m cv (unhF f) _ (by omega) (Blk.reads HX.out) ho.reads).mono ?_
        rintro e w9 ⟨rfl, hB9⟩
        have HB9 := hid (HB8.out.trans (hB9.mono HB8.out.size))
        have HX := hid (HX.out.below hB9 HX.out.lt)
        clear hB9
        go_wp2_with fail
        go_ret
        exact ⟨rfl, HB9.out⟩
    · go_enter Tryd.func3, Tryd.ntmps3
      go_wp2_with fail
      refine (awake8_any _).mono ?_
      rintro e w1 ⟨rfl, hB1⟩
      have HB1 := hid hB1
      clear hB1
      go_wp2_with fail
      refine (unhex_bad n f i _ hf (by omega) hbad).mono ?_
      rintro e w2 ⟨rfl, hb2, hB2⟩
      have HB2 := hid (HB1.out.trans (hB2.mono HB1.out.size))
      clear hB2
      have HX := hid hb2
      clear hb2
      go_wp2_with fail
      refine (first_bad n f 16 i _ hf (by omega) hbad).mono ?_
      rintro e wx2 ⟨rfl, rfl⟩
      go_wp2_with fail
      refine (hex_any A L c g _ (by omega) Hb.out ((HR.out.below HB2.out).more HB2.out.size)).mono ?_
      rintro e w4 ⟨rfl, hB4⟩
      have HB4 := hid (HB2.out.trans (hB4.mono HB2.out.size))
      have HX := hid (HX.out.below hB4 HX.out.lt)
      clear hB4
      go_wp2_with fail
      refine (rhex_any A L c g _ (by omega) Hb.out ((HR.out.below HB4.out).more HB4.out.size)).mono ?_
      rintro e w5 ⟨rfl, hB5⟩
      have HB5 := hid (HB4.out.trans (hB5.mono HB4.out.size))
      have HX := hid (HX.out.below hB5 HX.out.lt)
      clear hB5
      go_wp2_with fail
      refine (Hz1.out _).mono ?_
      rintro e w6 ⟨rfl, hB6⟩
      have HB6 := hid (HB5.out.trans (hB6.mono HB5.out.size))
      have HX := hid (HX.out.below hB6 HX.out.lt)
      clear hB6
      go_wp2_with fail
      refine (Hz2.out _).mono ?_
      rintro e wx6 ⟨rfl, rfl⟩
      go_wp2_with fail
      refine (code_fault 16 _ _ (Hg.out.below HB6.out) (HX.out.cell 1)).mono ?_
      rintro e w8 ⟨rfl, hB8⟩
      have HB8 := hid (HB6.out.trans (hB8.mono HB6.out.size))
      have HX := hid (HX.out.below hB8 HX.out.lt)
      clear hB8
      go_wp2_with fail
      refine (at_fault _ _ _ _ (Hg.out.below HB8.out) HX.out).mono ?_
      rintro e w9 ⟨rfl, hB9⟩
      have HB9 := hid (HB8.out.trans (hB9.mono HB8.out.size))
      have HX := hid (HX.out.below hB9 HX.out.lt)
      clear hB9
      go_wp2_with fail
      go_ret
      exact ⟨rfl, HB9.out⟩
  · by_cases hL : L ≤ 200
    · have hLI : ¬ 200 < (L : Int) := by omega
      have hnI : 200 < (n : Int) := by omega
      go_enter Tryd.func3, Tryd.ntmps3
      go_wp2_with fail
      refine (awake8_any _).mono ?_
      rintro e w1 ⟨rfl, hB1⟩
      have HB1 := hid hB1
      clear hB1
      go_wp2_with fail
      refine (awake8_any _).mono ?_
      rintro e w2 ⟨rfl, hB2⟩
      have HB2 := hid (HB1.out.trans (hB2.mono HB1.out.size))
      clear hB2
      go_wp2_with fail
      go_ret
      exact ⟨rfl, HB2.out⟩
    · have hLI : 200 < (L : Int) := by omega
      go_enter Tryd.func3, Tryd.ntmps3
      go_wp2_with fail
      refine (awake8_any _).mono ?_
      rintro e w1 ⟨rfl, hB1⟩
      have HB1 := hid hB1
      clear hB1
      go_wp2_with fail
      refine (awake8_any _).mono ?_
      rintro e w2 ⟨rfl, hB2⟩
      have HB2 := hid (HB1.out.trans (hB2.mono HB1.out.size))
      clear hB2
      go_wp2_with fail
      go_ret
      exact ⟨rfl, HB2.out⟩
end Go.Proofs.YtomeeebiijmnmaaDoor.Dg.Hexes
