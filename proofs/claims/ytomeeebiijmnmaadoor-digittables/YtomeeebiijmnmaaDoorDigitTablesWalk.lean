/-
  DigitTables returns true: its walk.
-/
import Derived.Test.YtomeeebiijmnmaaDoorLaw08
import Derived.Test.YtomeeebiijmnmaaDoorAsX
namespace Go.Proofs.YtomeeebiijmnmaaDoor.Dg.Tables
open Mem As Dg Go.ChangeShapes Go.WideShapes Go.ChangeAt Go.RowKit
theorem exec_slc {P : Program} {o : Oper} {a : Act} {w : World} (ty : TypeId) (x p q : Operand) (ho : o.op = .slice ty x (some p) (some q) none) (n : Nat) (f : Nat → Nat) (d : Nat) (hx : a.eval x = .string (strF n f)) (hp : a.eval p = .int .i64 (d : Int)) (hq : a.eval q = .int .i64 ((d : Int) + 1)) (hd : d < n) (hu : P.underlying ty = some .string) :
    (execOp a.eval o).run P w = .ok (.value (.string (strF 1 fun _ => f d))) w := by
  have h := run_slice_string (P := P) w ty (strF n f) .i64 .i64 (d : Int) ((d : Int) + 1) hu (by omega) (by omega) (by rw [strF_size]; omega)
  have e : (strF n f).extract (d : Int).toNat ((d : Int) + 1).toNat = strF 1 fun _ => f d := by
    rw [show (d : Int).toNat = d by omega, show ((d : Int) + 1).toNat = d + 1 by omega, strF_cut (by omega) (by omega), show d + 1 - d = 1 by omega]
    exact strF_ext fun i hi => by
      obtain rfl : i = 0 := by omega
      rfl
  rw [e] at h
  have h' : (Instr.sliceAt ty (.string (strF n f)) (some (.int .i64 (d : Int))) (some (.int .i64 ((d : Int) + 1))) none).run P w = .ok (.string (strF 1 fun _ => f d)) w := by
    simp only [Instr.sliceAt, Sem.run_bind, run_underlying hu, Result.andThen_ok]
    exact h
  unfold execOp
  simp only [ho, hx, hp, hq, Option.map_some, Option.map_none, h', Sem.run_bind, Sem.run_pure, Result.andThen_ok]
set_option maxRecDepth 100000 in
set_option maxHeartbeats 1000000 in
theorem tables_true (s tb : ByteArray) (w : World) (hg : Laid w) :
    Calls Tryd.prog 5 #[.string s, .string tb] w fun e w' => e = .returned (.bool true) ∧ Below w.heap.size w w' := by
  obtain ⟨n, f, hf, rfl⟩ : ∃ n f, (∀ i, f i < 256) ∧ s = strF n f := by
    obtain ⟨f, h1, h2⟩ := strF_of s
    exact ⟨_, f, h1, h2⟩
  obtain ⟨m, t, ht, rfl⟩ : ∃ n f, (∀ i, f i < 256) ∧ tb = strF n f := by
    obtain ⟨f, h1, h2⟩ := strF_of tb
    exact ⟨_, f, h1, h2⟩
  have Hg := hid hg
  have hsz := strF_size n f
  have hsm := strF_size m t
  clear hg
  by_cases hLn : n ≤ 200 ∧ m ≤ 100
  · obtain ⟨hn, hm⟩ := hLn
    have hnI : ¬ 200 < (n : Int) := by omega
    have hmI : ¬ 100 < (m : Int) := by omega
    by_cases h16 : m = 16
    · subst h16
      rcases allD_or 10 t 16 with hT | ⟨j, hTb⟩
      · rcases allD_or 16 f n with hA | ⟨i, hbad⟩
        · go_enter Tryd.func5, Tryd.ntmps5
          go_wp2_with fail
          refine (awake8_any _).mono ?_
          rintro e w1 ⟨rfl, hB1⟩
          have HB1 := hid hB1
          clear hB1
          go_wp2_with fail
          refine (through_ok n f t _ hf ht (by omega) hT hA).mono ?_
          rintro e w2 ⟨rfl, hB2⟩
          have HB2 := hid (HB1.out.trans (hB2.mono HB1.out.size))
          clear hB2
          go_wp2_with fail
          refine (first_ok 16 t 10 _ ht (by omega) hT).mono ?_
          rintro e wx2 ⟨rfl, rfl⟩
          go_wp2_with fail
          refine (first_ok n f 16 _ hf (by omega) hA).mono ?_
          rintro e wx3 ⟨rfl, rfl⟩
          go_wp2_with fail
          go_loopw [7, 8, 9] (fun s y _ wr => ∃ k : Nat, k ≤ n ∧ s = .string (strF k fun i => t (dv (f i))) ∧ y = .int .i64 (k : Int) ∧ wr = wx3) (fun _ y _ _ => n - (intOf y).toNat)
          case atStart => exact ⟨0, by omega, rfl, rfl, rfl⟩
          case round =>
            obtain ⟨k, hk, rfl, rfl, rfl⟩ := hrel
            by_cases hlt : k < n
            · have hd := hA k hlt
              have HW := hid (value_any (f k) (hf k) wr)
              have HE : Hid (strF (k + 1) (cat k (fun i => t (dv (f i))) fun _ => t (dv (f k))) = strF (k + 1) fun i => t (dv (f i))) := hid (strF_ext fun i hi => by
                unfold cat
                by_cases h : i < k
                · rw [if_pos h]
                · rw [if_neg h]
                  obtain rfl : i = k := by omega
                  rfl)
              go_wp2_with (first
                | (with_reducible refine wpl_str rfl 9 _ _ rfl (strF n f) rfl .i64 _ rfl k rfl Tryd.underlying9 (f k) (byteAt_strF hlt (hf k)) ?_)
                | (go_at_call 20; refine HW.out.mono ?_; rintro e w3 ⟨rfl, rfl⟩)
                | (with_reducible refine wpl_val rfl _ (exec_slc 9 _ _ _ rfl 16 t (dv (f k)) rfl rfl rfl hd Tryd.underlying9) ?_)
                | (with_reducible refine wpl_val rfl _ (exec_cat _ _ _ _ rfl k 1 _ _ rfl rfl (by omega)) ?_; rw [HE.out]))
              go_round
              case rel => exact ⟨k + 1, by omega, rfl, val_int (by omega), by first | rfl | trivial⟩
              case measure => simp [intOf]; omega
            · obtain rfl : k = n := by omega
              go_wp2
              go_ret
              exact ⟨rfl, HB2.out⟩
        · go_enter Tryd.func5, Tryd.ntmps5
          go_wp2_with fail
          refine (awake8_any _).mono ?_
          rintro e w1 ⟨rfl, hB1⟩
          have HB1 := hid hB1
          clear hB1
          go_wp2_with fail
          refine (through_bad n f t i _ hf ht (by omega) hT hbad).mono ?_
          rintro e w2 ⟨rfl, hb2, hB2⟩
          have HB2 := hid (HB1.out.trans (hB2.mono HB1.out.size))
          clear hB2
          have HX := hid hb2
          clear hb2
          go_wp2_with fail
          refine (first_ok 16 t 10 _ ht (by omega) hT).mono ?_
          rintro e wx2 ⟨rfl, rfl⟩
          go_wp2_with fail
          refine (first_bad n f 16 i _ hf (by omega) hbad).mono ?_
          rintro e wx3 ⟨rfl, rfl⟩
          go_wp2_with fail
          refine (code_fault 16 _ _ (Hg.out.below HB2.out) (HX.out.cell 1)).mono ?_
          rintro e w5 ⟨rfl, hB5⟩
          have HB5 := hid (HB2.out.trans (hB5.mono HB2.out.size))
          have HX := hid (HX.out.below hB5 HX.out.lt)
          clear hB5
          go_wp2_with fail
          refine (at_fault _ _ _ _ (Hg.out.below HB5.out) HX.out).mono ?_
          rintro e w6 ⟨rfl, hB6⟩
          have HB6 := hid (HB5.out.trans (hB6.mono HB5.out.size))
          have HX := hid (HX.out.below hB6 HX.out.lt)
          clear hB6
          go_wp2_with fail
          refine (first_bad n f 16 i _ hf (by omega) hbad).mono ?_
          rintro e wx6 ⟨rfl, rfl⟩
          go_wp2_with fail
          go_ret
          exact ⟨rfl, HB6.out⟩
      · have hj16 : j < 16 := hTb.1
        go_enter Tryd.func5, Tryd.ntmps5
        go_wp2_with fail
        refine (awake8_any _).mono ?_
        rintro e w1 ⟨rfl, hB1⟩
        have HB1 := hid hB1
        clear hB1
        go_wp2_with fail
        refine (through_table n f t j _ ht hTb).mono ?_
        rintro e w2 ⟨rfl, hb2, hB2⟩
        have HB2 := hid (HB1.out.trans (hB2.mono HB1.out.size))
        clear hB2
        have HX := hid hb2
        clear hb2
        go_wp2_with fail
        refine (first_bad 16 t 10 j _ ht (by omega) hTb).mono ?_
        rintro e wx2 ⟨rfl, rfl⟩
        go_wp2_with fail
        refine (code_fault 16 _ _ (Hg.out.below HB2.out) (HX.out.cell 1)).mono ?_
        rintro e w4 ⟨rfl, hB4⟩
        have HB4 := hid (HB2.out.trans (hB4.mono HB2.out.size))
        have HX := hid (HX.out.below hB4 HX.out.lt)
        clear hB4
        go_wp2_with fail
        refine (at_fault _ _ _ _ (Hg.out.below HB4.out) HX.out).mono ?_
        rintro e w5 ⟨rfl, hB5⟩
        have HB5 := hid (HB4.out.trans (hB5.mono HB4.out.size))
        have HX := hid (HX.out.below hB5 HX.out.lt)
        clear hB5
        go_wp2_with fail
        refine (first_bad 16 t 10 j _ ht (by omega) hTb).mono ?_
        rintro e wx5 ⟨rfl, rfl⟩
        go_wp2_with fail
        go_ret
        exact ⟨rfl, HB5.out⟩
    · have h16I : (m : Int) ≠ 16 := by omega
      go_enter Tryd.func5, Tryd.ntmps5
      go_wp2_with fail
      refine (awake8_any _).mono ?_
      rintro e w1 ⟨rfl, hB1⟩
      have HB1 := hid hB1
      clear hB1
      go_wp2_with fail
      refine (through_size n m f t _ h16).mono ?_
      rintro e wx1 ⟨rfl, rfl⟩
      go_wp2_with fail
      refine (code_hit 2 _ (Hg.out.below HB1.out)).mono ?_
      rintro e w3 ⟨rfl, hB3⟩
      have HB3 := hid (HB1.out.trans (hB3.mono HB1.out.size))
      clear hB3
      go_wp2_with fail
      go_ret
      exact ⟨rfl, HB3.out⟩
  · by_cases hL : n ≤ 200
    · have hnI : ¬ 200 < (n : Int) := by omega
      have hmI : 100 < (m : Int) := by omega
      go_enter Tryd.func5, Tryd.ntmps5
      go_wp2_with fail
      refine (awake8_any _).mono ?_
      rintro e w1 ⟨rfl, hB1⟩
      have HB1 := hid hB1
      clear hB1
      go_wp2_with fail
      refine (awake8_any _).mono ?_
      rintro e w2 ⟨rfl, hB2⟩
      have HB2 := hid (HB1.out.trans (hB2.mono HB1.out.size))
      clear hB2
      go_wp2_with fail
      go_ret
      exact ⟨rfl, HB2.out⟩
    · have hnI : 200 < (n : Int) := by omega
      go_enter Tryd.func5, Tryd.ntmps5
      go_wp2_with fail
      refine (awake8_any _).mono ?_
      rintro e w1 ⟨rfl, hB1⟩
      have HB1 := hid hB1
      clear hB1
      go_wp2_with fail
      refine (awake8_any _).mono ?_
      rintro e w2 ⟨rfl, hB2⟩
      have HB2 := hid (HB1.out.trans (hB2.mono HB1.out.size))
      clear hB2
      go_wp2_with fail
      go_ret
      exact ⟨rfl, HB2.out⟩
end Go.Proofs.YtomeeebiijmnmaaDoor.Dg.Tables
