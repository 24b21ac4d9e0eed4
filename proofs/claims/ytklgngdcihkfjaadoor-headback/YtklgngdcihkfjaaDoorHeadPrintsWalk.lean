/-
 HeadPrints returns true: its walk.
-/
import Derived.Test.YtklgngdcihkfjaaDoorLaw10
namespace Go.Proofs.YtklgngdcihkfjaaDoor.Hd
open Mem As Go.ChangeShapes Go.WideShapes Go.ChangeAt Go.RowKit
theorem sameS_refl (n : Nat) (f : Nat → Nat) : sameS n f n f = true := by
 unfold sameS
 simp [eqB_true (fun i _ => rfl)]
theorem prF_lt {h : Hd} (ok : h.Ok) (n : Nat) : ∀ i, prF h n i < 256 := fun i => by
 have h1 := ok.v
 have h2 := ok.f (i - 5)
 have h3 := ok.a
 have h4 := ok.k
 have h5 := ok.g (i - 9)
 have h6 := ok.x
 have h7 := dgF_lt n (i - 1)
 unfold prF
 repeat' split
 all_goals omega
set_option maxRecDepth 100000 in
set_option maxHeartbeats 1000000 in
theorem prints_true (h : Hd) (z : Int) (w : World) (hg : Laid w ∧ Tab w) (ok : h.Ok) (_ : (Lit.int .i64 z).wf = true) : Calls Tryd.prog 3 #[.agg (hdC h), .int .i64 z] w fun e w' => e = .returned (.bool true) ∧ Below w.heap.size w w' := by
 have hs1 := strF_size h.n h.f
 have hs2 := strF_size h.m h.g
 have hB0 : Below w.heap.size w (w.alloc (.cells (hdC h) 23)) := (Below.refl _ _).alloc (Nat.le_refl _) _
 have hb0 := Blk.fresh w 23 (hdC h)
 have HB0 := hid hB0
 have Hb0 := hid hb0
 have Hg0 := hid (hg.1.below hB0)
 have HT0 := hid (hg.2.below hB0)
 clear hB0 hb0 hg
 by_cases h1 : 20 < h.n
 ·have hI : (20 : Int) < (h.n : Int) := by omega
  go_enter Tryd.func3, Tryd.ntmps3
  go_wp2_with fail
  refine (awake10_any _ Hg0.out HT0.out).mono ?_
  rintro e w1 ⟨rfl, hB1⟩
  have Hb1 := hid (Hb0.out.below hB1 Hb0.out.lt)
  have Hg1 := hid (Hg0.out.below hB1)
  have HT1 := hid (HT0.out.below hB1)
  have HB1 := hid (HB0.out.trans (hB1.mono HB0.out.size))
  clear hB1 Hb0 Hg0 HT0 HB0
  have hc1 : w1.cell? ⟨w.heap.size, 1, none⟩ = some (.string (strF h.n h.f)) := Hb1.out.cell 1
  have hc4 : w1.cell? ⟨w.heap.size, 4, none⟩ = some (.string (strF h.m h.g)) := Hb1.out.cell 4
  go_wp2_with (first
   | ((with_reducible refine wpg_val ?_ _ (exec_ldc 9 _ rfl ⟨w.heap.size, 1, none⟩ rfl _ hc1 (.inr Tryd.underlying9)) ?_); exact rfl)
   | ((with_reducible refine wpg_val ?_ _ (exec_ldc 9 _ rfl ⟨w.heap.size, 4, none⟩ rfl _ hc4 (.inr Tryd.underlying9)) ?_); exact rfl))
  refine (awake10_any _ Hg1.out HT1.out).mono ?_
  rintro e w2 ⟨rfl, hB2⟩
  have Hg2 := hid (Hg1.out.below hB2)
  have HT2 := hid (HT1.out.below hB2)
  have HB2 := hid (HB1.out.trans (hB2.mono HB1.out.size))
  clear hB2 Hg1 HT1 HB1
  go_wp2_with fail
  go_ret
  exact ⟨rfl, HB2.out⟩
 have h1I : ¬ (20 : Int) < (h.n : Int) := by omega
 by_cases h2 : 20 < h.m
 ·have hI : (20 : Int) < (h.m : Int) := by omega
  go_enter Tryd.func3, Tryd.ntmps3
  go_wp2_with fail
  refine (awake10_any _ Hg0.out HT0.out).mono ?_
  rintro e w1 ⟨rfl, hB1⟩
  have Hb1 := hid (Hb0.out.below hB1 Hb0.out.lt)
  have Hg1 := hid (Hg0.out.below hB1)
  have HT1 := hid (HT0.out.below hB1)
  have HB1 := hid (HB0.out.trans (hB1.mono HB0.out.size))
  clear hB1 Hb0 Hg0 HT0 HB0
  have hc1 : w1.cell? ⟨w.heap.size, 1, none⟩ = some (.string (strF h.n h.f)) := Hb1.out.cell 1
  have hc4 : w1.cell? ⟨w.heap.size, 4, none⟩ = some (.string (strF h.m h.g)) := Hb1.out.cell 4
  go_wp2_with (first
   | ((with_reducible refine wpg_val ?_ _ (exec_ldc 9 _ rfl ⟨w.heap.size, 1, none⟩ rfl _ hc1 (.inr Tryd.underlying9)) ?_); exact rfl)
   | ((with_reducible refine wpg_val ?_ _ (exec_ldc 9 _ rfl ⟨w.heap.size, 4, none⟩ rfl _ hc4 (.inr Tryd.underlying9)) ?_); exact rfl))
  refine (awake10_any _ Hg1.out HT1.out).mono ?_
  rintro e w2 ⟨rfl, hB2⟩
  have Hg2 := hid (Hg1.out.below hB2)
  have HT2 := hid (HT1.out.below hB2)
  have HB2 := hid (HB1.out.trans (hB2.mono HB1.out.size))
  clear hB2 Hg1 HT1 HB1
  go_wp2_with fail
  go_ret
  exact ⟨rfl, HB2.out⟩
 have h2I : ¬ (20 : Int) < (h.m : Int) := by omega
 go_enter Tryd.func3, Tryd.ntmps3
 go_wp2_with fail
 refine (awake10_any _ Hg0.out HT0.out).mono ?_
 rintro e w1 ⟨rfl, hB1⟩
 have Hb1 := hid (Hb0.out.below hB1 Hb0.out.lt)
 have Hg1 := hid (Hg0.out.below hB1)
 have HT1 := hid (HT0.out.below hB1)
 have HB1 := hid (HB0.out.trans (hB1.mono HB0.out.size))
 clear hB1 Hb0 Hg0 HT0 HB0
 have hc1 : w1.cell? ⟨w.heap.size, 1, none⟩ = some (.string (strF h.n h.f)) := Hb1.out.cell 1
 have hc4 : w1.cell? ⟨w.heap.size, 4, none⟩ = some (.string (strF h.m h.g)) := Hb1.out.cell 4
 rcases wrong_lo h with hw | hw
 rotate_left
 ·go_wp2_with (first
   | ((with_reducible refine wpg_val ?_ _ (exec_ldc 9 _ rfl ⟨w.heap.size, 1, none⟩ rfl _ hc1 (.inr Tryd.underlying9)) ?_); exact rfl)
   | ((with_reducible refine wpg_val ?_ _ (exec_ldc 9 _ rfl ⟨w.heap.size, 4, none⟩ rfl _ hc4 (.inr Tryd.underlying9)) ?_); exact rfl)
   | (with_reducible refine wpl_valw rfl _ (exec_ldcs 23 _ rfl w.heap.size rfl 23 _ Hb1.out _ Tryd.underlying23 (sizeC _)) ?_))
  refine (print_bad h ok hw z _).mono ?_
  rintro e w2 ⟨hB2, g, hg2, rfl, hbF⟩
  have HF2 := hid hbF
  clear hbF hc1 hc4
  have Hb2 := hid (Hb1.out.below hB2 Hb1.out.lt)
  have Hg2 := hid (Hg1.out.below hB2)
  have HB2 := hid (HB1.out.trans (hB2.mono HB1.out.size))
  clear hB2 Hb1 Hg1 HB1
  go_wp2_with (first
   | (with_reducible refine wpl_valw rfl _ (exec_ldcs 23 _ rfl w.heap.size rfl 23 _ Hb2.out _ Tryd.underlying23 (sizeC _)) ?_))
  refine (right_any h ok _).mono ?_
  rintro e w3 ⟨hB3, v3, rfl, ho⟩
  rcases ho with ⟨ho, -⟩ | ⟨-, g3, hg3, rfl, hbF⟩
  ·omega
  have HX3 := hid hbF
  clear hbF
  have Hb3 := hid (Hb2.out.below hB3 Hb2.out.lt)
  have Hg3 := hid (Hg2.out.below hB3)
  have HF3 := hid (HF2.out.below hB3 HF2.out.lt)
  have HB3 := hid (HB2.out.trans (hB3.mono HB2.out.size))
  clear hB3 Hb2 Hg2 HF2 HB2
  go_wp2_with (first
   | (with_reducible refine wpl_valw rfl _ (exec_ldcs 23 _ rfl w.heap.size rfl 23 _ Hb3.out _ Tryd.underlying23 (sizeC _)) ?_))
  refine (rwrong_any h ok _).mono ?_
  rintro e w4 ⟨rfl, hB4⟩
  have Hg4 := hid (Hg3.out.below hB4)
  have HF4 := hid (HF3.out.below hB4 HF3.out.lt)
  have HX4 := hid (HX3.out.below hB4 HX3.out.lt)
  have HB4 := hid (HB3.out.trans (hB4.mono HB3.out.size))
  clear hB4 Hg3 HF3 HX3 HB3
  go_wp2_with fail
  refine (code_fault 6 _ _ Hg4.out (HF4.out.cell 1)).mono ?_
  rintro e w5 ⟨rfl, hB5⟩
  have Hg5 := hid (Hg4.out.below hB5)
  have HF5 := hid (HF4.out.below hB5 HF4.out.lt)
  have HX5 := hid (HX4.out.below hB5 HX4.out.lt)
  have HB5 := hid (HB4.out.trans (hB5.mono HB4.out.size))
  clear hB5 Hg4 HF4 HX4 HB4
  go_wp2_with fail
  refine (at_fault _ _ _ _ Hg5.out HF5.out).mono ?_
  rintro e w6 ⟨rfl, hB6⟩
  have Hg6 := hid (Hg5.out.below hB6)
  have HF6 := hid (HF5.out.below hB6 HF5.out.lt)
  have HX6 := hid (HX5.out.below hB6 HX5.out.lt)
  have HB6 := hid (HB5.out.trans (hB6.mono HB5.out.size))
  clear hB6 Hg5 HF5 HX5 HB5
  go_wp2_with fail
  refine (code_fault 6 _ _ Hg6.out (HX6.out.cell 1)).mono ?_
  rintro e w7 ⟨rfl, hB7⟩
  have Hg7 := hid (Hg6.out.below hB7)
  have HF7 := hid (HF6.out.below hB7 HF6.out.lt)
  have HX7 := hid (HX6.out.below hB7 HX6.out.lt)
  have HB7 := hid (HB6.out.trans (hB7.mono HB6.out.size))
  clear hB7 Hg6 HF6 HX6 HB6
  go_wp2_with fail
  refine (at_fault _ _ _ _ Hg7.out HX7.out).mono ?_
  rintro e w8 ⟨rfl, hB8⟩
  have Hg8 := hid (Hg7.out.below hB8)
  have HF8 := hid (HF7.out.below hB8 HF7.out.lt)
  have HX8 := hid (HX7.out.below hB8 HX7.out.lt)
  have HB8 := hid (HB7.out.trans (hB8.mono HB7.out.size))
  clear hB8 Hg7 HF7 HX7 HB7
  go_wp2_with fail
  go_ret
  exact ⟨rfl, HB8.out⟩
 have hwI : ¬ 0 ≤ wrong h := by omega
 by_cases hz : z < 16 ∨ 9999 < z
 ·go_wp2_with (first
   | ((with_reducible refine wpg_val ?_ _ (exec_ldc 9 _ rfl ⟨w.heap.size, 1, none⟩ rfl _ hc1 (.inr Tryd.underlying9)) ?_); exact rfl)
   | ((with_reducible refine wpg_val ?_ _ (exec_ldc 9 _ rfl ⟨w.heap.size, 4, none⟩ rfl _ hc4 (.inr Tryd.underlying9)) ?_); exact rfl)
   | (with_reducible refine wpl_valw rfl _ (exec_ldcs 23 _ rfl w.heap.size rfl 23 _ Hb1.out _ Tryd.underlying23 (sizeC _)) ?_))
  refine (print_arg h ok hw z hz _).mono ?_
  rintro e w2 ⟨rfl, hB2⟩
  clear hc1 hc4
  have Hb2 := hid (Hb1.out.below hB2 Hb1.out.lt)
  have Hg2 := hid (Hg1.out.below hB2)
  have HB2 := hid (HB1.out.trans (hB2.mono HB1.out.size))
  clear hB2 Hb1 Hg1 HB1
  go_wp2_with (first
   | (with_reducible refine wpl_valw rfl _ (exec_ldcs 23 _ rfl w.heap.size rfl 23 _ Hb2.out _ Tryd.underlying23 (sizeC _)) ?_))
  refine (right_any h ok _).mono ?_
  rintro e w3 ⟨hB3, v3, rfl, ho⟩
  rcases ho with ⟨-, rfl⟩ | ⟨ho, -⟩
  rotate_left
  ·omega
  have Hb3 := hid (Hb2.out.below hB3 Hb2.out.lt)
  have Hg3 := hid (Hg2.out.below hB3)
  have HB3 := hid (HB2.out.trans (hB3.mono HB2.out.size))
  clear hB3 Hb2 Hg2 HB2
  go_wp2_with (first
   | (with_reducible refine wpl_valw rfl _ (exec_ldcs 23 _ rfl w.heap.size rfl 23 _ Hb3.out _ Tryd.underlying23 (sizeC _)) ?_))
  refine (rwrong_any h ok _).mono ?_
  rintro e w4 ⟨rfl, hB4⟩
  have Hb4 := hid (Hb3.out.below hB4 Hb3.out.lt)
  have Hg4 := hid (Hg3.out.below hB4)
  have HB4 := hid (HB3.out.trans (hB4.mono HB3.out.size))
  clear hB4 Hb3 Hg3 HB3
  have hor : z < 16 ∨ (¬ z < 16 ∧ 9999 < z) := by omega
  rcases hor with hz1 | ⟨hz1, hz2⟩
  ·go_wp2_with fail
   refine (code_hit 1 _ Hg4.out).mono ?_
   rintro e w5 ⟨rfl, hB5⟩
   have Hg5 := hid (Hg4.out.below hB5)
   have HB5 := hid (HB4.out.trans (hB5.mono HB4.out.size))
   clear hB5 Hg4 HB4
   go_wp2_with fail
   go_ret
   exact ⟨rfl, HB5.out⟩
  go_wp2_with fail
  refine (code_hit 1 _ Hg4.out).mono ?_
  rintro e w5 ⟨rfl, hB5⟩
  have Hg5 := hid (Hg4.out.below hB5)
  have HB5 := hid (HB4.out.trans (hB5.mono HB4.out.size))
  clear hB5 Hg4 HB4
  go_wp2_with fail
  go_ret
  exact ⟨rfl, HB5.out⟩
 obtain ⟨n, rfl⟩ : ∃ n : Nat, z = (n : Int) := ⟨z.toNat, by omega⟩
 have hn1 : 16 ≤ n := by omega
 have hn2 : n ≤ 9999 := by omega
 have i1 : ¬ (n : Int) < 16 := by omega
 have i2 : ¬ (9999 : Int) < (n : Int) := by omega
 go_wp2_with (first
  | ((with_reducible refine wpg_val ?_ _ (exec_ldc 9 _ rfl ⟨w.heap.size, 1, none⟩ rfl _ hc1 (.inr Tryd.underlying9)) ?_); exact rfl)
  | ((with_reducible refine wpg_val ?_ _ (exec_ldc 9 _ rfl ⟨w.heap.size, 4, none⟩ rfl _ hc4 (.inr Tryd.underlying9)) ?_); exact rfl)
  | (with_reducible refine wpl_valw rfl _ (exec_ldcs 23 _ rfl w.heap.size rfl 23 _ Hb1.out _ Tryd.underlying23 (sizeC _)) ?_))
 refine (print_ok h ok hw n hn1 hn2 _ HT1.out).mono ?_
 rintro e w2 ⟨rfl, hB2⟩
 clear hc1 hc4
 have Hb2 := hid (Hb1.out.below hB2 Hb1.out.lt)
 have Hg2 := hid (Hg1.out.below hB2)
 have HB2 := hid (HB1.out.trans (hB2.mono HB1.out.size))
 clear hB2 Hb1 Hg1 HB1
 go_wp2_with (first
  | (with_reducible refine wpl_valw rfl _ (exec_ldcs 23 _ rfl w.heap.size rfl 23 _ Hb2.out _ Tryd.underlying23 (sizeC _)) ?_))
 refine (right_any h ok _).mono ?_
 rintro e w3 ⟨hB3, v3, rfl, ho⟩
 rcases ho with ⟨-, rfl⟩ | ⟨ho, -⟩
 rotate_left
 ·omega
 have Hb3 := hid (Hb2.out.below hB3 Hb2.out.lt)
 have Hg3 := hid (Hg2.out.below hB3)
 have HB3 := hid (HB2.out.trans (hB3.mono HB2.out.size))
 clear hB3 Hb2 Hg2 HB2
 go_wp2_with (first
  | (with_reducible refine wpl_valw rfl _ (exec_ldcs 23 _ rfl w.heap.size rfl 23 _ Hb3.out _ Tryd.underlying23 (sizeC _)) ?_))
 refine (rwrong_any h ok _).mono ?_
 rintro e w4 ⟨rfl, hB4⟩
 have Hb4 := hid (Hb3.out.below hB4 Hb3.out.lt)
 have Hg4 := hid (Hg3.out.below hB4)
 have HB4 := hid (HB3.out.trans (hB4.mono HB3.out.size))
 clear hB4 Hb3 Hg3 HB3
 go_wp2_with (first
  | ((with_reducible refine wpg_val ?_ _ (exec_ldcs 23 _ rfl w.heap.size rfl 23 _ Hb4.out _ Tryd.underlying23 (sizeC _)) ?_); exact rfl))
 refine (rprint_ok h ok hw n hn1 hn2 _).mono ?_
 rintro e w5 ⟨rfl, hB5⟩
 have Hg5 := hid (Hg4.out.below hB5)
 have HB5 := hid (HB4.out.trans (hB5.mono HB4.out.size))
 clear hB5 Hg4 HB4
 go_wp2_with (first
  | ((with_reducible refine wpg_val ?_ _ (exec_eqsB 9 _ _ _ rfl 16 16 (prF h n) (prF h n) rfl rfl (fun i _ => prF_lt ok n i) (fun i _ => prF_lt ok n i) _ (sameS_refl _ _)) ?_); exact rfl))
 go_ret
 exact ⟨rfl, HB5.out⟩
end Go.Proofs.YtklgngdcihkfjaaDoor.Hd
