/-
  DigitChecks returns true: its walk.
-/
import Derived.Test.YtomeeebiijmnmaaDoorLaw08
import Derived.Test.YtomeeebiijmnmaaDoorAsX
namespace Go.Proofs.YtomeeebiijmnmaaDoor.Dg.Checks
open Mem As Dg Go.ChangeShapes Go.WideShapes Go.ChangeAt Go.RowKit
set_option maxRecDepth 100000 in
set_option maxHeartbeats 1000000 in
theorem checks_true (s : ByteArray) (w : World) (hg : Laid w) : Calls Tryd.prog 4 #[.string s] w fun e w' => e = .returned (.bool true) ∧ Below w.heap.size w w' := by
  obtain ⟨n, f, hf, rfl⟩ : ∃ n f, (∀ i, f i < 256) ∧ s = strF n f := by
    obtain ⟨f, h1, h2⟩ := strF_of s
    exact ⟨_, f, h1, h2⟩
  have Hg := hid hg
  have hsz := strF_size n f
  clear hg
  by_cases hn : n ≤ 200
  · have hnI : ¬ 200 < (n : Int) := by omega
    rcases allD_or 10 f n with hA | ⟨i, hbad⟩
    · go_enter Tryd.func4, Tryd.ntmps4
      go_wp2_with fail
      refine (awake8_any _).mono ?_
      rintro e w1 ⟨rfl, hB1⟩
      go_wp2_with fail
      refine (check_ok n f _ hf (by omega) hA).mono ?_
      rintro e w2 ⟨rfl, rfl⟩
      go_wp2_with fail
      refine (first_ok n f 10 _ hf (by omega) hA).mono ?_
      rintro e w3 ⟨rfl, rfl⟩
      go_wp2_with fail
      refine (rcheck_any n f _ hf (by omega) hA).mono ?_
      rintro e w4 ⟨rfl, rfl⟩
      go_wp2_with fail
      go_ret
      exact ⟨rfl, hB1⟩
    · go_enter Tryd.func4, Tryd.ntmps4
      go_wp2_with fail
      refine (awake8_any _).mono ?_
      rintro e w1 ⟨rfl, hB1⟩
      go_wp2_with fail
      refine (check_bad n f i _ hf (by omega) hbad).mono ?_
      rintro e w2 ⟨rfl, hb2, hB2⟩
      have hB02 := hB1.trans (hB2.mono hB1.size)
      have Hb2 := hid hb2
      clear hb2
      go_wp2_with fail
      refine (first_bad n f 10 i _ hf (by omega) hbad).mono ?_
      rintro e w3 ⟨rfl, rfl⟩
      go_wp2_with fail
      refine (code_fault 16 _ _ (Hg.out.below hB02) (Hb2.out.cell 1)).mono ?_
      rintro e w4 ⟨rfl, hB4⟩
      have hB04 := hB02.trans (hB4.mono hB02.size)
      go_wp2_with fail
      refine (at_fault _ _ _ _ (Hg.out.below hB04) (Hb2.out.below hB4 Hb2.out.lt)).mono ?_
      rintro e w5 ⟨rfl, hB5⟩
      have hB05 := hB04.trans (hB5.mono hB04.size)
      go_wp2_with fail
      go_ret
      exact ⟨rfl, hB05⟩
  · have hnI : 200 < (n : Int) := by omega
    go_enter Tryd.func4, Tryd.ntmps4
    go_wp2_with fail
    refine (awake8_any _).mono ?_
    rintro e w1 ⟨rfl, hB1⟩
    go_wp2_with fail
    refine (awake8_any _).mono ?_
    rintro e w2 ⟨rfl, hB2⟩
    go_wp2_with fail
    go_ret
    exact ⟨rfl, hB1.trans (hB2.mono hB1.size)⟩
end Go.Proofs.YtomeeebiijmnmaaDoor.Dg.Checks
