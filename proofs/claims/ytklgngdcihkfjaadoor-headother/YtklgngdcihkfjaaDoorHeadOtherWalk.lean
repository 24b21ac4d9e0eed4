/-
 HeadOther returns true: its walk.
-/
import Derived.Test.YtklgngdcihkfjaaDoorHdBackMath
namespace Go.Proofs.YtklgngdcihkfjaaDoor.Hd
open Mem As Go.ChangeShapes Go.WideShapes Go.ChangeAt Go.RowKit
set_option maxRecDepth 100000 in
set_option maxHeartbeats 1000000 in
theorem other_true (a b : Hd) (n m : Nat) (w : World) (hg : Laid w ∧ Tab w) (oka : a.Ok) (okb : b.Ok) (hn : n < 65536) (hm : m < 65536) : Calls Tryd.prog 7 #[.agg (hdC a), .agg (hdC b), .int .u16 (n : Int), .int .u16 (m : Int)] w fun e w' => e = .returned (.bool true) ∧ Below w.heap.size w w' := by
 have hB0 : Below w.heap.size w ((w.alloc (.cells (hdC a) 23)).alloc (.cells (hdC b) 23)) := ((Below.refl _ _).alloc (Nat.le_refl _) _).alloc (by simp) _
 have ha0 := (Blk.fresh w 23 (hdC a)).alloc (.cells (hdC b) 23)
 have hb0 : Blk ((w.alloc (.cells (hdC a) 23)).alloc (.cells (hdC b) 23)) (w.heap.size + 1) 23 (hdC b) := by
  have := Blk.fresh (w.alloc (.cells (hdC a) 23)) 23 (hdC b)
  simpa using this
 have HB0 := hid hB0
 have Ha0 := hid ha0
 have Hb0 := hid hb0
 have Hg0 := hid (hg.1.below hB0)
 have HT0 := hid (hg.2.below hB0)
 clear hB0 ha0 hb0 hg
 go_enter Tryd.func7, Tryd.ntmps7
 go_wp2_with fail
 refine (awake10_any _ Hg0.out HT0.out).mono ?_
 rintro e w1 ⟨rfl, hB1⟩
 have Ha1 := hid (Ha0.out.below hB1 Ha0.out.lt)
 have Hb1 := hid (Hb0.out.below hB1 Hb0.out.lt)
 have Hg1 := hid (Hg0.out.below hB1)
 have HT1 := hid (HT0.out.below hB1)
 have HB1 := hid (HB0.out.trans (hB1.mono HB0.out.size))
 clear hB1 Ha0 Hb0 Hg0 HT0 HB0
 go_wp2_with (first
  | ((with_reducible refine wpg_val ?_ _ (exec_ldcs 23 _ rfl w.heap.size rfl 23 _ Ha1.out _ Tryd.underlying23 (sizeC _)) ?_); exact rfl))
 refine (rwrong_any a oka _).mono ?_
 rintro e w2 ⟨rfl, hB2⟩
 have Ha2 := hid (Ha1.out.below hB2 Ha1.out.lt)
 have Hb2 := hid (Hb1.out.below hB2 Hb1.out.lt)
 have Hg2 := hid (Hg1.out.below hB2)
 have HT2 := hid (HT1.out.below hB2)
 have HB2 := hid (HB1.out.trans (hB2.mono HB1.out.size))
 clear hB2 Ha1 Hb1 Hg1 HT1 HB1
 rcases wrong_lo a with hwa | hwa
 rotate_left
 ·go_wp2_with fail
  refine (awake10_any _ Hg2.out HT2.out).mono ?_
  rintro e w3 ⟨rfl, hB3⟩
  have Hg3 := hid (Hg2.out.below hB3)
  have HT3 := hid (HT2.out.below hB3)
  have HB3 := hid (HB2.out.trans (hB3.mono HB2.out.size))
  clear hB3 Hg2 HT2 HB2
  go_wp2_with fail
  go_ret
  exact ⟨rfl, HB3.out⟩
 have hwaI : ¬ 0 ≤ wrong a := by omega
 go_wp2_with (first
  | ((with_reducible refine wpg_val ?_ _ (exec_ldcs 23 _ rfl (w.heap.size + 1) rfl 23 _ Hb2.out _ Tryd.underlying23 (sizeC _)) ?_); exact rfl))
 refine (rwrong_any b okb _).mono ?_
 rintro e w3 ⟨rfl, hB3⟩
 have Ha3 := hid (Ha2.out.below hB3 Ha2.out.lt)
 have Hb3 := hid (Hb2.out.below hB3 Hb2.out.lt)
 have Hg3 := hid (Hg2.out.below hB3)
 have HT3 := hid (HT2.out.below hB3)
 have HB3 := hid (HB2.out.trans (hB3.mono HB2.out.size))
 clear hB3 Ha2 Hb2 Hg2 HT2 HB2
 rcases wrong_lo b with hwb | hwb
 rotate_left
 ·go_wp2_with fail
  refine (awake10_any _ Hg3.out HT3.out).mono ?_
  rintro e w4 ⟨rfl, hB4⟩
  have Hg4 := hid (Hg3.out.below hB4)
  have HT4 := hid (HT3.out.below hB4)
  have HB4 := hid (HB3.out.trans (hB4.mono HB3.out.size))
  clear hB4 Hg3 HT3 HB3
  go_wp2_with fail
  go_ret
  exact ⟨rfl, HB4.out⟩
 have hwbI : ¬ 0 ≤ wrong b := by omega
 obtain ⟨x, hx⟩ : ∃ x, x = 16 + n % 9984 := ⟨_, rfl⟩
 obtain ⟨y, hy⟩ : ∃ y, y = 16 + m % 9984 := ⟨_, rfl⟩
 have hxI : (x : Int) = 16 + (n : Int) % 9984 := by omega
 have hyI : (y : Int) = 16 + (m : Int) % 9984 := by omega
 have hx1 : 16 ≤ x := by omega
 have hx2 : x ≤ 9999 := by omega
 have hy1 : 16 ≤ y := by omega
 have hy2 : y ≤ 9999 := by omega
 have hal := pr_alike hwa hwb hx2 hy2
 have hP := print_ok a oka hwa x hx1 hx2
 have hQ := print_ok b okb hwb y hy1 hy2
 rw [hxI] at hP
 rw [hyI] at hQ
 have HP := hid hP
 have HQ := hid hQ
 have HX := hid hxI
 have HY := hid hyI
 clear hP hQ hxI hyI hx hy hx1 hx2 hy1 hy2
 go_wp2_with (first
  | (with_reducible refine wpl_valw rfl _ (exec_ldcs 23 _ rfl w.heap.size rfl 23 _ Ha3.out _ Tryd.underlying23 (sizeC _)) ?_))
 refine (HP.out _ HT3.out).mono ?_
 rintro e w4 ⟨rfl, hB4⟩
 have Ha4 := hid (Ha3.out.below hB4 Ha3.out.lt)
 have Hb4 := hid (Hb3.out.below hB4 Hb3.out.lt)
 have HT4 := hid (HT3.out.below hB4)
 have HB4 := hid (HB3.out.trans (hB4.mono HB3.out.size))
 clear hB4 Ha3 Hb3 HT3 HB3
 go_wp2_with (first
  | (with_reducible refine wpl_valw rfl _ (exec_ldcs 23 _ rfl (w.heap.size + 1) rfl 23 _ Hb4.out _ Tryd.underlying23 (sizeC _)) ?_))
 refine (HQ.out _ HT4.out).mono ?_
 rintro e w5 ⟨rfl, hB5⟩
 have Ha5 := hid (Ha4.out.below hB5 Ha4.out.lt)
 have Hb5 := hid (Hb4.out.below hB5 Hb4.out.lt)
 have HB5 := hid (HB4.out.trans (hB5.mono HB4.out.size))
 clear hB5 Ha4 Hb4 HB4
 cases he : hdEq a b
 ·rw [he, Bool.false_and] at hal
  go_wp2_with (first
   | ((with_reducible refine wpg_val ?_ _ (exec_eqsB 9 _ _ _ rfl 16 16 (prF a x) (prF b y) rfl rfl (fun i _ => prF_lt oka x i) (fun i _ => prF_lt okb y i) _ hal) ?_); exact rfl)
   | ((with_reducible refine wpg_val ?_ _ (exec_ldcs 23 _ rfl w.heap.size rfl 23 _ Ha5.out _ Tryd.underlying23 (sizeC _)) ?_); exact rfl)
   | ((with_reducible refine wpg_val ?_ _ (exec_ldcs 23 _ rfl (w.heap.size + 1) rfl 23 _ Hb5.out _ Tryd.underlying23 (sizeC _)) ?_); exact rfl)
   | ((with_reducible refine wpg_val ?_ _ (exec_eqC _ _ _ rfl a b rfl rfl oka okb _ he) ?_); exact rfl))
  go_ret
  exact ⟨rfl, HB5.out⟩
 rw [he, Bool.true_and] at hal
 by_cases hxy : x = y
 ·have hI : (n : Int) % 9984 = (m : Int) % 9984 := by have h1 := HX.out; have h2 := HY.out; omega
  rw [decide_eq_true hxy] at hal
  clear hxy
  go_wp2_with (first
   | ((with_reducible refine wpg_val ?_ _ (exec_eqsB 9 _ _ _ rfl 16 16 (prF a x) (prF b y) rfl rfl (fun i _ => prF_lt oka x i) (fun i _ => prF_lt okb y i) _ hal) ?_); exact rfl)
   | ((with_reducible refine wpg_val ?_ _ (exec_ldcs 23 _ rfl w.heap.size rfl 23 _ Ha5.out _ Tryd.underlying23 (sizeC _)) ?_); exact rfl)
   | ((with_reducible refine wpg_val ?_ _ (exec_ldcs 23 _ rfl (w.heap.size + 1) rfl 23 _ Hb5.out _ Tryd.underlying23 (sizeC _)) ?_); exact rfl)
   | ((with_reducible refine wpg_val ?_ _ (exec_eqC _ _ _ rfl a b rfl rfl oka okb _ he) ?_); exact rfl))
  go_ret
  exact ⟨rfl, HB5.out⟩
 have hI : ¬ (n : Int) % 9984 = (m : Int) % 9984 := by have h1 := HX.out; have h2 := HY.out; omega
 rw [decide_eq_false hxy] at hal
 clear hxy
 go_wp2_with (first
  | ((with_reducible refine wpg_val ?_ _ (exec_eqsB 9 _ _ _ rfl 16 16 (prF a x) (prF b y) rfl rfl (fun i _ => prF_lt oka x i) (fun i _ => prF_lt okb y i) _ hal) ?_); exact rfl)
  | ((with_reducible refine wpg_val ?_ _ (exec_ldcs 23 _ rfl w.heap.size rfl 23 _ Ha5.out _ Tryd.underlying23 (sizeC _)) ?_); exact rfl)
  | ((with_reducible refine wpg_val ?_ _ (exec_ldcs 23 _ rfl (w.heap.size + 1) rfl 23 _ Hb5.out _ Tryd.underlying23 (sizeC _)) ?_); exact rfl)
  | ((with_reducible refine wpg_val ?_ _ (exec_eqC _ _ _ rfl a b rfl rfl oka okb _ he) ?_); exact rfl))
 go_ret
 refine ⟨rbool ?_, HB5.out⟩
 simp
 omega
end Go.Proofs.YtklgngdcihkfjaaDoor.Hd
