/-
 WrapBack returns true: its walk.
-/
import Derived.Test.YteapfdnjbgonmaaGreatDoorWrY
namespace Go.Proofs.YteapfdnjbgonmaaGreatDoor.Wr.Back
open Mem Bk Md Mc Hd Dg As Wr Go.ChangeShapes Go.WideShapes Go.ChangeAt Go.RowKit
theorem bs3I (x y z : Int) (w : World) : (Instr.buildSlice 50 3 #[(0, .int .i64 x), (1, .int .i64 y), (2, .int .i64 z)]).run Tryz.prog w = .ok (.slice (some ⟨w.heap.size, 0, none⟩) 3 3) (w.alloc (.cells #[.int .i64 x, .int .i64 y, .int .i64 z] 3)) := by kernel_rfl
theorem iINT : (Tryz.prog.info? 3).map (·.size) = some 1 := by kernel_rfl
def lnA (q : Nat) : Nat := if q = 1 then 24 else 16
def lnB (q : Nat) : Nat := if q = 0 then 16 else 24
theorem lnA_or (q : Nat) : lnA q = 16 ∨ lnA q = 24 := by unfold lnA; split <;> simp
theorem lnB_or (q : Nat) : lnB q = 16 ∨ lnB q = 24 := by unfold lnB; split <;> simp
theorem cellA (w : World) (q : Nat) (hq : q < 3) : (w.alloc (.cells #[.int .i64 16, .int .i64 24, .int .i64 16] 3)).cell? ⟨w.heap.size, q, none⟩ = some (.int .i64 ((lnA q : Nat) : Int)) := by
 rw [(Blk.fresh w 3 _).cell]
 rcases (show q = 0 ∨ q = 1 ∨ q = 2 by omega) with rfl | rfl | rfl <;> rfl
theorem cellB (w : World) (q : Nat) (hq : q < 3) : (w.alloc (.cells #[.int .i64 16, .int .i64 24, .int .i64 24] 3)).cell? ⟨w.heap.size, q, none⟩ = some (.int .i64 ((lnB q : Nat) : Int)) := by
 rw [(Blk.fresh w 3 _).cell]
 rcases (show q = 0 ∨ q = 1 ∨ q = 2 by omega) with rfl | rfl | rfl <;> rfl
set_option maxRecDepth 100000 in
set_option maxHeartbeats 2000000 in
set_option linter.unusedSimpArgs false in
theorem back_true (A : Option Addr) (L c : Nat) (g : Nat → Nat) (q : Nat) (h : Hd) (A2 : Option Addr) (L2 c2 : Nat) (g2 : Nat → Nat) (A3 : Option Addr) (L3 c3 : Nat) (g3 : Nat → Nat) (w : World) (hL : Laid w ∧ Tab w) (hR : Reads w w.heap.size A L g) (hg : ∀ i, i < L → g i < 256) (hq : q < 256) (ok : h.Ok) (hR2 : Reads w w.heap.size A2 L2 g2) (hg2 : ∀ i, i < L2 → g2 i < 256) (hR3 : Reads w w.heap.size A3 L3 g3) (hg3 : ∀ i, i < L3 → g3 i < 256) :
  Calls Tryz.prog 6 #[.slice A L c, .int .u8 (q : Int), .agg (hdC h), .slice A2 L2 c2, .slice A3 L3 c3] w fun e w' => e = .returned (.bool true) ∧ Below w.heap.size w w' := by
 have hB0 := (Below.refl w.heap.size w).alloc (Nat.le_refl _) (.cells (hdC h) 32)
 have Hh := hid (Blk.fresh w 32 (hdC h))
 have HB := hid hB0
 have HG := hid (hL.1.below hB0)
 have HT := hid (hL.2.below hB0)
 have HR := hid ((hR.below hB0).more hB0.size)
 have HR2 := hid ((hR2.below hB0).more hB0.size)
 have HR3 := hid ((hR3.below hB0).more hB0.size)
 have Hg := hid hg
 have Hg2 := hid hg2
 have Hg3 := hid hg3
 have Hok := hid ok
 clear hB0 hL hR hg ok hR2 hg2 hR3 hg3
 go_enter Tryz.func6, Tryz.ntmps6
 go_wp2_with fail
 refine (awake11_any _ HG.out HT.out).mono ?_
 rintro e w1 ⟨rfl, hB1⟩
 have Hh1 := hid (Hh.out.below hB1 Hh.out.lt)
 have HG1 := hid (HG.out.below hB1)
 have HT1 := hid (HT.out.below hB1)
 have HR1 := hid ((HR.out.below hB1).more hB1.size)
 have HR21 := hid ((HR2.out.below hB1).more hB1.size)
 have HR31 := hid ((HR3.out.below hB1).more hB1.size)
 have HB1 := hid (HB.out.trans (hB1.mono HB.out.size))
 clear hB1 Hh HG HT HR HR2 HR3 HB
 by_cases h1 : L ≤ 100
 rotate_left
 ·have i1 : decide (100 < (L : Int)) = true := by simp; omega
  go_wp2_with fail
  refine (awake11_any _ HG1.out HT1.out).mono ?_
  rintro e w2 ⟨rfl, hB2⟩
  have HB2 := hid (HB1.out.trans (hB2.mono HB1.out.size))
  clear hB2
  go_wp2_with fail
  go_ret
  exact ⟨rfl, HB2.out⟩
 have i1 : decide (100 < (L : Int)) = false := by simp; omega
 by_cases h2 : L2 ≤ 100
 rotate_left
 ·have i2 : decide (100 < (L2 : Int)) = true := by simp; omega
  go_wp2_with fail
  refine (awake11_any _ HG1.out HT1.out).mono ?_
  rintro e w2 ⟨rfl, hB2⟩
  have HB2 := hid (HB1.out.trans (hB2.mono HB1.out.size))
  clear hB2
  go_wp2_with fail
  go_ret
  exact ⟨rfl, HB2.out⟩
 have i2 : decide (100 < (L2 : Int)) = false := by simp; omega
 by_cases h3 : L3 ≤ 100
 rotate_left
 ·have i3 : decide (100 < (L3 : Int)) = true := by simp; omega
  go_wp2_with fail
  refine (awake11_any _ HG1.out HT1.out).mono ?_
  rintro e w2 ⟨rfl, hB2⟩
  have HB2 := hid (HB1.out.trans (hB2.mono HB1.out.size))
  clear hB2
  go_wp2_with fail
  go_ret
  exact ⟨rfl, HB2.out⟩
 have i3 : decide (100 < (L3 : Int)) = false := by simp; omega
 have HW := hid (rwrong_any h Hok.out)
 by_cases hw : 0 ≤ wrong h
 ·have Hw := hid hw
  clear hw
  go_wp2_with (first
   | ((with_reducible refine wpg_val ?_ _ (exec_ldcs 32 _ rfl w.heap.size rfl 32 _ Hh1.out _ Tryz.underlying32 (sizeC _)) ?_); exact rfl)
   | (go_at_call 19; refine (HW.out _).mono ?_; rintro x2 w2 ⟨rfl, hB2⟩; have hw2 := Hw.out; have HG2 := hid (HG1.out.below hB2); have HT2 := hid (HT1.out.below hB2); have HB2 := hid (HB1.out.trans (hB2.mono HB1.out.size)); clear hB2))
  refine (awake11_any _ HG2.out HT2.out).mono ?_
  rintro e w3 ⟨rfl, hB3⟩
  have HB3 := hid (HB2.out.trans (hB3.mono HB2.out.size))
  clear hB3
  go_wp2_with fail
  go_ret
  exact ⟨rfl, HB3.out⟩
 have hwr : wrong h = -1 := (wrong_lo h).resolve_right hw
 rw [hwr] at HW
 have Hwr := hid hwr
 clear hw hwr
 obtain ⟨qa, hqa⟩ : ∃ a : Nat, a = q % 3 := ⟨_, rfl⟩
 obtain ⟨qb, hqb⟩ : ∃ b : Nat, b = q / 3 % 3 := ⟨_, rfl⟩
 have ha3 : qa < 3 := by omega
 have hb3 : qb < 3 := by omega
 have ea : (q : Int) % 3 = (qa : Int) := by omega
 have eb : (q : Int) / 3 % 3 = (qb : Int) := by omega
 have h3i := bs3I
 clear hqa hqb
 go_wp2_with (first
  | ((with_reducible refine wpg_val ?_ _ (exec_ldcs 32 _ rfl w.heap.size rfl 32 _ Hh1.out _ Tryz.underlying32 (sizeC _)) ?_); exact rfl)
  | (go_at_call 19; refine (HW.out _).mono ?_; rintro x2 w2 ⟨rfl, hB2⟩; have Hh2 := hid (Hh1.out.below hB2 Hh1.out.lt); have HG2 := hid (HG1.out.below hB2); have HT2 := hid (HT1.out.below hB2); have HR2 := hid ((HR1.out.below hB2).more hB2.size); have HR22 := hid ((HR21.out.below hB2).more hB2.size); have HR32 := hid ((HR31.out.below hB2).more hB2.size); have HB2 := hid (HB1.out.trans (hB2.mono HB1.out.size)); clear hB2 Hh1 HG1 HT1 HR1 HR21 HR31 HB1)
  | (with_reducible refine wpl_slb rfl 50 _ _ rfl w2.heap.size 3 3 rfl .u8 _ rfl qa rfl 3 Tryz.underlying50 ha3 iINT ?_)
  | (with_reducible refine wpl_ld rfl 3 _ rfl ⟨w2.heap.size, qa, none⟩ rfl .i64 Tryz.underlying3 _ (cellA w2 qa ha3) ?_))
 have hB3 := (Below.refl w2.heap.size w2).alloc (Nat.le_refl _) (.cells #[.int .i64 16, .int .i64 24, .int .i64 16] 3)
 have Hh3 := hid (Hh2.out.below hB3 Hh2.out.lt)
 have HG3 := hid (HG2.out.below hB3)
 have HT3 := hid (HT2.out.below hB3)
 have HR3 := hid ((HR2.out.below hB3).more hB3.size)
 have HR23 := hid ((HR22.out.below hB3).more hB3.size)
 have HR33 := hid ((HR32.out.below hB3).more hB3.size)
 have HB3 := hid (HB2.out.trans (hB3.mono HB2.out.size))
 clear Hh2 HG2 HT2 HR2 HR22 HR32 HB2 hB3
 generalize w2.alloc (.cells #[.int .i64 16, .int .i64 24, .int .i64 16] 3) = w3 at *
 have hl1 := lnA_or qa
 have hl2 := lnB_or qb
 generalize lnA qa = l1 at *
 refine (some_any A L c l1 g _ (by omega) (by omega) HR3.out).mono ?_
 rintro e w4 ⟨v4, rfl, ho4, hB4⟩
 obtain ⟨ga, ca, rfl, -⟩ := own_at ho4 (by omega)
 have HW4 := hid ho4.reads
 have Hh4 := hid (Hh3.out.below hB4 Hh3.out.lt)
 have HG4 := hid (HG3.out.below hB4)
 have HT4 := hid (HT3.out.below hB4)
 have HR4 := hid ((HR3.out.below hB4).more hB4.size)
 have HR24 := hid ((HR23.out.below hB4).more hB4.size)
 have HR34 := hid ((HR33.out.below hB4).more hB4.size)
 have HB4 := hid (HB3.out.trans (hB4.mono HB3.out.size))
 clear Hh3 HG3 HT3 HR3 HR23 HR33 HB3 hB4
 clear ho4
 go_wp2_with (first
  | (with_reducible refine wpl_slb rfl 50 _ _ rfl w4.heap.size 3 3 rfl .u8 _ rfl qb rfl 3 Tryz.underlying50 hb3 iINT ?_)
  | (with_reducible refine wpl_ld rfl 3 _ rfl ⟨w4.heap.size, qb, none⟩ rfl .i64 Tryz.underlying3 _ (cellB w4 qb hb3) ?_))
 have hB5 := (Below.refl w4.heap.size w4).alloc (Nat.le_refl _) (.cells #[.int .i64 16, .int .i64 24, .int .i64 24] 3)
 have Hh5 := hid (Hh4.out.below hB5 Hh4.out.lt)
 have HG5 := hid (HG4.out.below hB5)
 have HT5 := hid (HT4.out.below hB5)
 have HR5 := hid ((HR4.out.below hB5).more hB5.size)
 have HR25 := hid ((HR24.out.below hB5).more hB5.size)
 have HR35 := hid ((HR34.out.below hB5).more hB5.size)
 have HW5 := hid ((HW4.out.below hB5).more hB5.size)
 have HB5 := hid (HB4.out.trans (hB5.mono HB4.out.size))
 clear Hh4 HG4 HT4 HR4 HR24 HR34 HW4 HB4 hB5
 generalize w4.alloc (.cells #[.int .i64 16, .int .i64 24, .int .i64 24] 3) = w5 at *
 generalize lnB qb = l2 at *
 refine (some_any A2 L2 c2 l2 g2 _ (by omega) (by omega) HR25.out).mono ?_
 rintro e w6 ⟨v6, rfl, ho6, hB6⟩
 obtain ⟨gb, cb, rfl, -⟩ := own_at ho6 (by omega)
 have HK6 := hid ho6.reads
 have Hh6 := hid (Hh5.out.below hB6 Hh5.out.lt)
 have HG6 := hid (HG5.out.below hB6)
 have HT6 := hid (HT5.out.below hB6)
 have HR6 := hid ((HR5.out.below hB6).more hB6.size)
 have HR36 := hid ((HR35.out.below hB6).more hB6.size)
 have HW6 := hid ((HW5.out.below hB6).more hB6.size)
 have HB6 := hid (HB5.out.trans (hB6.mono HB5.out.size))
 clear Hh5 HG5 HT5 HR5 HR35 HW5 HB5 hB6
 clear ho6 HR25
 obtain ⟨k, hk⟩ : ∃ k, kd h.v = k := ⟨_, rfl⟩
 have hkk := wrong_kd Hwr.out
 rw [hk] at hkk
 have hso := sz_or k
 have hfl := fill_lt (n := l2) hso
 have HF := hid (fillZ_of (n := l2) hk hkk)
 obtain ⟨M, N, T, tx, cd, hd, d⟩ := wd_of (L := l1) (W := smF L g) (L2 := l2) (key := smF L2 g2) (fl := smF L3 g3) Hwr.out Hok.out hk (by unfold kfit; omega) (fun i _ => smF_lt Hg.out i) (by unfold kfit; omega) rfl (fun i _ => smF_lt Hg2.out i) (fun i _ => smF_lt Hg3.out i)
 have HD := hid d
 have hEq := hid (d.prt.eq d.two.1 d.two.2)
 have hsz := d.sizes
 have hT2 : T ≤ 200 := by omega
 have Hc : Hid (cutH (bkF M T h hd cd)).Ok := hid (cutH_ok bkF_lt)
 clear d hsz hkk hk ea eb h3i
 generalize fill (sz k) l2 = lf at *
 go_wp2_with (first
  | (with_reducible refine wpl_valw rfl _ (exec_ldcs 32 _ rfl w.heap.size rfl 32 _ Hh6.out _ Tryz.underlying32 (sizeC _)) ?_)
  | (go_at_call 13; refine (fill_any h (l2 : Int) _).mono ?_; rintro x7 w7 ⟨rfl, hB7⟩; rw [HF.out]))
 have Hh7 := hid (Hh6.out.below hB7 Hh6.out.lt)
 have HG7 := hid (HG6.out.below hB7)
 have HT7 := hid (HT6.out.below hB7)
 have HR7 := hid ((HR6.out.below hB7).more hB7.size)
 have HR37 := hid ((HR36.out.below hB7).more hB7.size)
 have HW7 := hid ((HW6.out.below hB7).more hB7.size)
 have HK7 := hid ((HK6.out.below hB7).more hB7.size)
 have HB7 := hid (HB6.out.trans (hB7.mono HB6.out.size))
 clear Hh6 HG6 HT6 HR6 HR36 HW6 HK6 HB6 hB7
 refine (some_any A3 L3 c3 lf g3 _ (by omega) (by omega) HR37.out).mono ?_
 rintro e w8 ⟨v8, rfl, ho8, hB8⟩
 obtain ⟨A8, c8, rfl, -⟩ := ho8.slice'
 have HF8 := hid ho8.reads
 have Hh8 := hid (Hh7.out.below hB8 Hh7.out.lt)
 have HG8 := hid (HG7.out.below hB8)
 have HT8 := hid (HT7.out.below hB8)
 have HR8 := hid ((HR7.out.below hB8).more hB8.size)
 have HW8 := hid ((HW7.out.below hB8).more hB8.size)
 have HK8 := hid ((HK7.out.below hB8).more hB8.size)
 have HB8 := hid (HB7.out.trans (hB8.mono HB7.out.size))
 clear Hh7 HG7 HT7 HR7 HW7 HK7 HB7 hB8
 clear ho8 HR37 HF
 go_wp2_with (with_reducible refine wpl_valw rfl _ (exec_ldcs 32 _ rfl w.heap.size rfl 32 _ Hh8.out _ Tryz.underlying32 (sizeC _)) ?_)
 refine (HD.out.wrap (some ⟨ga, 0, none⟩) (some ⟨gb, 0, none⟩) A8 ca cb c8 (fun h => by cases h) _ HW8.out HK8.out HF8.out HT8.out).mono ?_
 rintro e w9 ⟨hB9, rfl⟩
 have Hh9 := hid (Hh8.out.below hB9 Hh8.out.lt)
 have HG9 := hid (HG8.out.below hB9)
 have HR9 := hid ((HR8.out.below hB9).more hB9.size)
 have HW9 := hid ((HW8.out.below hB9).more hB9.size)
 have HK9 := hid ((HK8.out.below hB9).more hB9.size)
 have HB9 := hid (HB8.out.trans (hB9.mono HB8.out.size))
 clear Hh8 HG8 HR8 HW8 HK8 HB8 hB9
 clear HF8 HT8
 go_wp2_with fail
 refine (HD.out.unwrap (some ⟨ga, 0, none⟩) ca (fun h => by cases h) _ HG9.out HW9.out).mono ?_
 rintro e w10 ⟨A10, c10, rfl, ho10, hB10⟩
 have HY10 := hid ho10.reads
 have Hh10 := hid (Hh9.out.below hB10 Hh9.out.lt)
 have HR10 := hid ((HR9.out.below hB10).more hB10.size)
 have HW10 := hid ((HW9.out.below hB10).more hB10.size)
 have HK10 := hid ((HK9.out.below hB10).more hB10.size)
 have HB10 := hid (HB9.out.trans (hB10.mono HB9.out.size))
 clear Hh9 HR9 HW9 HK9 HB9 hB10
 have Hn10 := hid (Blk.fresh w10 32 noHd)
 have hB11 : Below w10.heap.size w10 ((w10.alloc (.cells noHd 32)).setRow w10.heap.size (hdC (cutH (bkF M T h hd cd)))) := below_setRow' ((Below.refl _ _).alloc (Nat.le_refl _) _) (Nat.le_refl _) _
 have Hx11 := hid (Hn10.out.setRow (hdC (cutH (bkF M T h hd cd))))
 have Hh11 := hid (Hh10.out.below hB11 Hh10.out.lt)
 have HR11 := hid ((HR10.out.below hB11).more hB11.size)
 have HW11 := hid ((HW10.out.below hB11).more hB11.size)
 have HK11 := hid ((HK10.out.below hB11).more hB11.size)
 have HY11 := hid ((HY10.out.below hB11).more hB11.size)
 have HB11 := hid (HB10.out.trans (hB11.mono HB10.out.size))
 clear Hh10 HR10 HW10 HK10 HY10 HB10 hB11
 clear ho10 HG9
 go_wp2_with (first
  | (with_reducible refine wpl_alloc rfl 32 rfl _ zHead ?_)
  | (with_reducible refine wpl_storeH rfl 32 _ _ rfl w10.heap.size (hdC (cutH (bkF M T h hd cd))) rfl rfl 32 _ Hn10.out (sizeC _) rfl (oneC _) ?_)
  | ((with_reducible refine wpg_val ?_ _ (exec_ldcs 32 _ rfl w.heap.size rfl 32 _ Hh11.out _ Tryz.underlying32 (sizeC _)) ?_); exact rfl)
  | ((with_reducible refine wpg_val ?_ _ (exec_ldcs 32 _ rfl w10.heap.size rfl 32 _ Hx11.out _ Tryz.underlying32 (sizeC _)) ?_); exact rfl)
  | ((with_reducible refine wpg_val ?_ _ (exec_eqH _ _ _ rfl _ _ rfl rfl Hc.out Hok.out _ hEq.out) ?_); exact rfl))
 refine (same_yes A10 (some ⟨gb, 0, none⟩) l2 c10 cb _ _ (by omega) HY11.out HK11.out).mono ?_
 rintro e w12 ⟨rfl, hB12⟩
 have HR12 := hid ((HR11.out.below hB12).more hB12.size)
 have HW12 := hid ((HW11.out.below hB12).more hB12.size)
 have HB12 := hid (HB11.out.trans (hB12.mono HB11.out.size))
 clear HR11 HW11 HB11 hB12
 clear HY11 HK11 Hh11 Hx11 Hn10
 go_wp2_with fail
 refine (some_any A L c l1 g _ (by omega) (by omega) HR12.out).mono ?_
 rintro e w13 ⟨v13, rfl, ho13, hB13⟩
 obtain ⟨A13, c13, rfl, -⟩ := ho13.slice'
 have HV13 := hid ho13.reads
 have HW13 := hid ((HW12.out.below hB13).more hB13.size)
 have HB13 := hid (HB12.out.trans (hB13.mono HB12.out.size))
 clear HW12 HB12 hB13
 clear ho13 HR12
 go_wp2_with fail
 refine (same_yes (some ⟨ga, 0, none⟩) A13 l1 ca c13 _ _ (by omega) HW13.out HV13.out).mono ?_
 rintro e w14 ⟨rfl, hB14⟩
 have HB14 := hid (HB13.out.trans (hB14.mono HB13.out.size))
 clear hB14
 go_wp2_with fail
 go_ret
 exact ⟨rfl, HB14.out⟩
end Go.Proofs.YteapfdnjbgonmaaGreatDoor.Wr.Back
