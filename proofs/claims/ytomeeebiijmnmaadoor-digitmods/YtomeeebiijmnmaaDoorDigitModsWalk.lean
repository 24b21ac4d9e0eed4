/-
  DigitMods returns true: its walk.
-/
import Derived.Test.YtomeeebiijmnmaaDoorLaw08
import Derived.Test.YtomeeebiijmnmaaDoorAsX
namespace Go.Proofs.YtomeeebiijmnmaaDoor.Dg.Mods
open Mem As Dg Go.ChangeShapes Go.WideShapes Go.ChangeAt Go.RowKit
theorem wpl_sb {P : Program} {ops : Array Oper} {rest : List Oper} {o : Oper} {a : Act} {w : World} {Q : Exit → Act → World → Prop} (hgd : o.guard = none) (src dst e : TypeId) (x : Operand) (ho : o.op = .convert src dst x) (n : Nat) (f : Nat → Nat) (hx : a.eval x = .string (strF n f)) (hf : ∀ i, f i < 256)
    (hs : P.underlying src = some .string) (hd : P.underlying dst = some (.slice e)) (he : P.underlying e = some (.int .u8))
    (h : ∀ c w', Reads w' w'.heap.size (some ⟨w.heap.size, 0, none⟩) n f → Below w.heap.size w w' → wpList P ops Q rest (a.put o.dst (.slice (some ⟨w.heap.size, 0, none⟩) n c)) w') : wpList P ops Q (o :: rest) a w := by
  have hr := run_bytes_of_string (P := P) w src dst e (strF n f) hs hd he
  rw [strF_size] at hr
  refine wpList_plain hgd fun _ hK => ?_
  unfold Oper.wp execOp
  simp only [ho, hx, hr, Sem.run_bind, Sem.run_pure, Result.andThen_ok]
  refine hK _ _ (h _ _ (fun _ => ⟨_, rfl, by simp, fun i hi => ?_⟩) ((Below.refl _ _).drew.alloc (Nat.le_refl _) _))
  have hsz : i < (strF n f).data.size := by
    have := strF_size n f
    show i < (strF n f).size
    omega
  rw [add_zero_off]
  have hb := bytesRow_at (strF n f) (grownCap w n 0 e) i hsz
  have hv := byteAt_strF hi (hf i)
  unfold byteAt at hv
  rw [Array.getElem?_eq_getElem hsz] at hv
  simp only [Option.map_some, Option.some.injEq] at hv
  rw [hv] at hb
  exact (World.cell?_alloc_mark w.drew _ e _ i).trans hb
set_option maxRecDepth 100000 in
set_option maxHeartbeats 1000000 in
theorem mods_true (s1 s2 : ByteArray) (b : Bool) (w : World) (hg : Laid w) :
    Calls Tryd.prog 6 #[.string s1, .string s2, .bool b] w fun e w' => e = .returned (.bool true) ∧ Below w.heap.size w w' := by
  obtain ⟨n, f, hf, rfl⟩ : ∃ n f, (∀ i, f i < 256) ∧ s1 = strF n f := by
    obtain ⟨f, h1, h2⟩ := strF_of s1
    exact ⟨_, f, h1, h2⟩
  obtain ⟨m, t, ht, rfl⟩ : ∃ n f, (∀ i, f i < 256) ∧ s2 = strF n f := by
    obtain ⟨f, h1, h2⟩ := strF_of s2
    exact ⟨_, f, h1, h2⟩
  have Hg := hid hg
  have hsz := strF_size n f
  have hsm := strF_size m t
  clear hg
  by_cases hLn : n ≤ 200 ∧ m ≤ 200
  · obtain ⟨hn, hm⟩ := hLn
    have hnI : ¬ 200 < (n : Int) := by omega
    have hmI : ¬ 200 < (m : Int) := by omega
    by_cases h16 : n = m
    · subst h16
      rcases allD_or 10 f n with hA | ⟨i, hbad⟩
      · rcases allD_or 10 t n with hT | ⟨j, hTb⟩
        · go_enter Tryd.func6, Tryd.ntmps6
          go_wp2_with fail
          refine (awake8_any _).mono ?_
          rintro e w1 ⟨rfl, hB1⟩
          have HB1 := hid hB1
          clear hB1
          go_wp2_with fail
          refine (mod_ok n f t b _ hf ht (by omega) hA hT).mono ?_
          rintro e w2 ⟨rfl, hB2⟩
          have HB2 := hid (HB1.out.trans (hB2.mono HB1.out.size))
          clear hB2
          go_wp2_with (with_reducible refine wpl_sb rfl 9 22 5 _ rfl n f rfl hf Tryd.underlying9 Tryd.underlying22 Tryd.underlying5 ?_)
          intro ca wa hRa hBa
          have HBa := hid (HB2.out.trans (hBa.mono HB2.out.size))
          go_wp2_with (with_reducible refine wpl_sb rfl 9 22 5 _ rfl n t rfl ht Tryd.underlying9 Tryd.underlying22 Tryd.underlying5 ?_)
          intro cb wb hRb hBb
          have HBb := hid (HBa.out.trans (hBb.mono HBa.out.size))
          have HRa := hid ((hRa.below hBb).more hBb.size)
          have HRb := hid hRb
          clear hBa hBb hRa hRb HBa
          go_wp2_with fail
          refine (equal_any _ _ n ca cb f t _ (by omega) (fun i _ => hf i) (fun i _ => ht i) HRa.out HRb.out).mono ?_
          rintro e w3 ⟨rfl, hB3⟩
          have HB3 := hid (HBb.out.trans (hB3.mono HBb.out.size))
          clear hB3
          have hq : ((strF n f).toList == (strF n t).toList) = eqB n f t := by rw [strF_eq (fun i _ => hf i) (fun i _ => ht i)]; simp
          generalize eqB n f t = bq at *
          go_wp2_with fail
          refine (first_ok n f 10 _ hf (by omega) hA).mono ?_
          rintro e wx3 ⟨rfl, rfl⟩
          go_wp2_with fail
          refine (first_ok n t 10 _ ht (by omega) hT).mono ?_
          rintro e wx4 ⟨rfl, rfl⟩
          go_wp2_with fail
          refine (rmod_any n f t b _ hf ht (by omega) hA hT).mono ?_
          rintro e w6 ⟨rfl, hB6⟩
          have HB6 := hid (HB3.out.trans (hB6.mono HB3.out.size))
          clear hB6
          go_wp2_with fail
          go_ret
          exact ⟨rfl, HB6.out⟩
        · go_enter Tryd.func6, Tryd.ntmps6
          go_wp2_with fail
          refine (awake8_any _).mono ?_
          rintro e w1 ⟨rfl, hB1⟩
          have HB1 := hid hB1
          clear hB1
          go_wp2_with fail
          refine (mod_bad2 n f t b j _ hf ht (by omega) hA hTb).mono ?_
          rintro e w2 ⟨rfl, hb2, hB2⟩
          have HB2 := hid (HB1.out.trans (hB2.mono HB1.out.size))
          clear hB2
          have HX := hid hb2
          clear hb2
          go_wp2_with (with_reducible refine wpl_sb rfl 9 22 5 _ rfl n f rfl hf Tryd.underlying9 Tryd.underlying22 Tryd.underlying5 ?_)
          intro ca wa hRa hBa
          have HBa := hid (HB2.out.trans (hBa.mono HB2.out.size))
          have HX := hid (HX.out.below hBa HX.out.lt)
          go_wp2_with (with_reducible refine wpl_sb rfl 9 22 5 _ rfl n t rfl ht Tryd.underlying9 Tryd.underlying22 Tryd.underlying5 ?_)
          intro cb wb hRb hBb
          have HBb := hid (HBa.out.trans (hBb.mono HBa.out.size))
          have HX := hid (HX.out.below hBb HX.out.lt)
          have HRa := hid ((hRa.below hBb).more hBb.size)
          have HRb := hid hRb
          clear hBa hBb hRa hRb HBa
          go_wp2_with fail
          refine (equal_any _ _ n ca cb f t _ (by omega) (fun i _ => hf i) (fun i _ => ht i) HRa.out HRb.out).mono ?_
          rintro e w3 ⟨rfl, hB3⟩
          have HB3 := hid (HBb.out.trans (hB3.mono HBb.out.size))
          have HX := hid (HX.out.below hB3 HX.out.lt)
          clear hB3
          have hq : ((strF n f).toList == (strF n t).toList) = eqB n f t := by rw [strF_eq (fun i _ => hf i) (fun i _ => ht i)]; simp
          generalize eqB n f t = bq at *
          go_wp2_with fail
          refine (first_ok n f 10 _ hf (by omega) hA).mono ?_
          rintro e wx3 ⟨rfl, rfl⟩
          go_wp2_with fail
          refine (first_bad n t 10 j _ ht (by omega) hTb).mono ?_
          rintro e wx4 ⟨rfl, rfl⟩
          go_wp2_with fail
          refine (code_fault 16 _ _ (Hg.out.below HB3.out) (HX.out.cell 1)).mono ?_
          rintro e w6 ⟨rfl, hB6⟩
          have HB6 := hid (HB3.out.trans (hB6.mono HB3.out.size))
          have HX := hid (HX.out.below hB6 HX.out.lt)
          clear hB6
          go_wp2_with fail
          refine (at_fault _ _ _ _ (Hg.out.below HB6.out) HX.out).mono ?_
          rintro e w7 ⟨rfl, hB7⟩
          have HB7 := hid (HB6.out.trans (hB7.mono HB6.out.size))
          have HX := hid (HX.out.below hB7 HX.out.lt)
          clear hB7
          go_wp2_with fail
          refine (first_bad n t 10 j _ ht (by omega) hTb).mono ?_
          rintro e wx7 ⟨rfl, rfl⟩
          go_wp2_with fail
          go_ret
          exact ⟨rfl, HB7.out⟩
      · go_enter Tryd.func6, Tryd.ntmps6
        go_wp2_with fail
        refine (awake8_any _).mono ?_
        rintro e w1 ⟨rfl, hB1⟩
        have HB1 := hid hB1
        clear hB1
        go_wp2_with fail
        refine (mod_bad1 n f t b i _ hf (by omega) hbad).mono ?_
        rintro e w2 ⟨rfl, hb2, hB2⟩
        have HB2 := hid (HB1.out.trans (hB2.mono HB1.out.size))
        clear hB2
        have HX := hid hb2
        clear hb2
        go_wp2_with (with_reducible refine wpl_sb rfl 9 22 5 _ rfl n f rfl hf Tryd.underlying9 Tryd.underlying22 Tryd.underlying5 ?_)
        intro ca wa hRa hBa
        have HBa := hid (HB2.out.trans (hBa.mono HB2.out.size))
        have HX := hid (HX.out.below hBa HX.out.lt)
        go_wp2_with (with_reducible refine wpl_sb rfl 9 22 5 _ rfl n t rfl ht Tryd.underlying9 Tryd.underlying22 Tryd.underlying5 ?_)
        intro cb wb hRb hBb
        have HBb := hid (HBa.out.trans (hBb.mono HBa.out.size))
        have HX := hid (HX.out.below hBb HX.out.lt)
        have HRa := hid ((hRa.below hBb).more hBb.size)
        have HRb := hid hRb
        clear hBa hBb hRa hRb HBa
        go_wp2_with fail
        refine (equal_any _ _ n ca cb f t _ (by omega) (fun i _ => hf i) (fun i _ => ht i) HRa.out HRb.out).mono ?_
        rintro e w3 ⟨rfl, hB3⟩
        have HB3 := hid (HBb.out.trans (hB3.mono HBb.out.size))
        have HX := hid (HX.out.below hB3 HX.out.lt)
        clear hB3
        have hq : ((strF n f).toList == (strF n t).toList) = eqB n f t := by rw [strF_eq (fun i _ => hf i) (fun i _ => ht i)]; simp
        generalize eqB n f t = bq at *
        go_wp2_with fail
        refine (first_bad n f 10 i _ hf (by omega) hbad).mono ?_
        rintro e wx3 ⟨rfl, rfl⟩
        go_wp2_with fail
        refine (code_fault 16 _ _ (Hg.out.below HB3.out) (HX.out.cell 1)).mono ?_
        rintro e w5 ⟨rfl, hB5⟩
        have HB5 := hid (HB3.out.trans (hB5.mono HB3.out.size))
        have HX := hid (HX.out.below hB5 HX.out.lt)
        clear hB5
        go_wp2_with fail
        refine (at_fault _ _ _ _ (Hg.out.below HB5.out) HX.out).mono ?_
        rintro e w6 ⟨rfl, hB6⟩
        have HB6 := hid (HB5.out.trans (hB6.mono HB5.out.size))
        have HX := hid (HX.out.below hB6 HX.out.lt)
        clear hB6
        go_wp2_with fail
        refine (first_bad n f 10 i _ hf (by omega) hbad).mono ?_
        rintro e wx6 ⟨rfl, rfl⟩
        go_wp2_with fail
        go_ret
        exact ⟨rfl, HB6.out⟩
    · have h16I : (n : Int) ≠ (m : Int) := by omega
      go_enter Tryd.func6, Tryd.ntmps6
      go_wp2_with fail
      refine (awake8_any _).mono ?_
      rintro e w1 ⟨rfl, hB1⟩
      have HB1 := hid hB1
      clear hB1
      go_wp2_with fail
      refine (mod_size n m f t b _ h16).mono ?_
      rintro e wx1 ⟨rfl, rfl⟩
      go_wp2_with (with_reducible refine wpl_sb rfl 9 22 5 _ rfl n f rfl hf Tryd.underlying9 Tryd.underlying22 Tryd.underlying5 ?_)
      intro ca wa hRa hBa
      have HBa := hid (HB1.out.trans (hBa.mono HB1.out.size))
      go_wp2_with (with_reducible refine wpl_sb rfl 9 22 5 _ rfl m t rfl ht Tryd.underlying9 Tryd.underlying22 Tryd.underlying5 ?_)
      intro cb wb hRb hBb
      have HBb := hid (HBa.out.trans (hBb.mono HBa.out.size))
      have HRa := hid ((hRa.below hBb).more hBb.size)
      have HRb := hid hRb
      clear hBa hBb hRa hRb HBa
      go_wp2_with fail
      refine (equal_size _ _ n m ca cb _ h16).mono ?_
      rintro e wx2 ⟨rfl, rfl⟩
      have hq : ((strF n f).toList == (strF m t).toList) = false := by rw [strF_eq (fun i _ => hf i) (fun i _ => ht i), decide_eq_false h16]; rfl
      go_wp2_with fail
      refine (code_hit 2 _ (Hg.out.below HBb.out)).mono ?_
      rintro e w4 ⟨rfl, hB4⟩
      have HB4 := hid (HBb.out.trans (hB4.mono HBb.out.size))
      clear hB4
      go_wp2_with fail
      go_ret
      exact ⟨rfl, HB4.out⟩
  · by_cases hL : n ≤ 200
    · have hnI : ¬ 200 < (n : Int) := by omega
      have hmI : 200 < (m : Int) := by omega
      go_enter Tryd.func6, Tryd.ntmps6
      go_wp2_with fail
      refine (awake8_any _).mono ?_
      rintro e w1 ⟨rfl, hB1⟩
      have HB1 := hid hB1
      clear hB1
      go_wp2_with fail
      refine (awake8_any _).mono ?_
      rintro e w2 ⟨rfl, hB2⟩
      have HB2 := hid (HB1.out.trans (hB2.mono HB1.out.size))
      clear hB2
      go_wp2_with fail
      go_ret
      exact ⟨rfl, HB2.out⟩
    · have hnI : 200 < (n : Int) := by omega
      go_enter Tryd.func6, Tryd.ntmps6
      go_wp2_with fail
      refine (awake8_any _).mono ?_
      rintro e w1 ⟨rfl, hB1⟩
      have HB1 := hid hB1
      clear hB1
      go_wp2_with fail
      refine (awake8_any _).mono ?_
      rintro e w2 ⟨rfl, hB2⟩
      have HB2 := hid (HB1.out.trans (hB2.mono HB1.out.size))
      clear hB2
      go_wp2_with fail
      go_ret
      exact ⟨rfl, HB2.out⟩
end Go.Proofs.YtomeeebiijmnmaaDoor.Dg.Mods
