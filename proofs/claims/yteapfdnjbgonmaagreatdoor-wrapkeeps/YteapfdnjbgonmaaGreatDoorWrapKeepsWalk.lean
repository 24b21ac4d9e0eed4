/-
 WrapKeeps returns true: its walk.
-/
import Derived.Test.YteapfdnjbgonmaaGreatDoorWrY
namespace Go.Proofs.YteapfdnjbgonmaaGreatDoor.Wr.Keeps
open Mem Bk Md Mc Hd Dg As Wr Go.ChangeShapes Go.WideShapes Go.ChangeAt Go.RowKit
theorem wd1 {W key fl : Nat → Nat} (hW : ∀ i, W i < 256) (hk : ∀ i, key i < 256) (hf : ∀ i, fl i < 256) : Wd 2 16 W (smp 66) 16 6 key fl 24 3 80 (txF 16 key fl) (cdF 2 16 W 24 (prF (smp 66) 80) (txF 16 key fl)) (hdF 2 16 W 24 (cdF 2 16 W 24 (prF (smp 66) 80) (txF 16 key fl)) (txF 16 key fl)) :=
 ⟨.inr rfl, .inl rfl, fun i _ => hW i, smp_ok (by decide), smp_wrong, rfl, .inl rfl, rfl, fun i _ => hk i, fun i _ => hf i, rfl, rfl, rfl, rfl, rfl, rfl⟩
theorem x255 {x : Nat} (h : x < 256) : x ^^^ 255 < 256 := Nat.xor_lt_two_pow (n := 8) h (by decide)
theorem exec_x8 {P : Program} {o : Oper} {a : Act} {w : World} (t : TypeId) (x y : Operand) (rt : TypeId) (ho : o.op = .binOp .xor t x y rt) (n : Nat) (hn : n < 256) (hx : a.eval x = .int .u8 (n : Int)) (hy : a.eval y = .int .u8 255) : (execOp a.eval o).run P w = .ok (.value (.int .u8 ((n ^^^ 255 : Nat) : Int))) w := Dg.exec_xor8 t x y rt ho n 255 hn (by decide) hx hy
set_option maxRecDepth 100000 in
set_option maxHeartbeats 2000000 in
set_option linter.unusedSimpArgs false in
theorem keeps_true (A : Option Addr) (L c : Nat) (g : Nat → Nat) (A2 : Option Addr) (L2 c2 : Nat) (g2 : Nat → Nat) (w : World) (hL : Laid w ∧ Tab w) (hR : Reads w w.heap.size A L g) (hg : ∀ i, i < L → g i < 256) (hR2 : Reads w w.heap.size A2 L2 g2) (hg2 : ∀ i, i < L2 → g2 i < 256) :
  Calls Tryz.prog 8 #[.slice A L c, .slice A2 L2 c2] w fun e w' => e = .returned (.bool true) ∧ Below w.heap.size w w' := by
 have HG := hid hL.1
 have HT := hid hL.2
 have HR := hid hR
 have HR2 := hid hR2
 have Hg := hid hg
 have Hg2 := hid hg2
 clear hL hR hg hR2 hg2
 go_enter Tryz.func8, Tryz.ntmps8
 go_wp2_with fail
 refine (awake11_any _ HG.out HT.out).mono ?_
 rintro e w1 ⟨rfl, hB1⟩
 have HG1 := hid (HG.out.below hB1)
 have HT1 := hid (HT.out.below hB1)
 have HR1 := hid ((HR.out.below hB1).more hB1.size)
 have HR21 := hid ((HR2.out.below hB1).more hB1.size)
 have HB1 := hid hB1
 clear hB1 HG HT HR HR2
 by_cases h1 : L ≤ 100
 rotate_left
 ·have i1 : decide (100 < (L : Int)) = true := by simp; omega
  go_wp2_with fail
  refine (awake11_any _ HG1.out HT1.out).mono ?_
  rintro e w2 ⟨rfl, hB2⟩
  have HB2 := hid (HB1.out.trans (hB2.mono HB1.out.size))
  clear hB2
  go_wp2_with fail
  go_ret
  exact ⟨rfl, HB2.out⟩
 have i1 : decide (100 < (L : Int)) = false := by simp; omega
 by_cases h2 : L2 ≤ 100
 rotate_left
 ·have i2 : decide (100 < (L2 : Int)) = true := by simp; omega
  go_wp2_with fail
  refine (awake11_any _ HG1.out HT1.out).mono ?_
  rintro e w2 ⟨rfl, hB2⟩
  have HB2 := hid (HB1.out.trans (hB2.mono HB1.out.size))
  clear hB2
  go_wp2_with fail
  go_ret
  exact ⟨rfl, HB2.out⟩
 have i2 : decide (100 < (L2 : Int)) = false := by simp; omega
 go_wp2_with fail
 refine (some_any A L c 16 g _ (by omega) (by omega) HR1.out).mono ?_
 rintro e w2 ⟨v2, rfl, ho2, hB2⟩
 obtain ⟨g102, c102, rfl, -⟩ := own_at ho2 (by omega)
 have HW2 := hid ho2.reads
 have HG2 := hid (HG1.out.below hB2)
 have HT2 := hid (HT1.out.below hB2)
 have HR2 := hid ((HR1.out.below hB2).more hB2.size)
 have HR22 := hid ((HR21.out.below hB2).more hB2.size)
 have HB2 := hid (HB1.out.trans (hB2.mono HB1.out.size))
 clear HG1 HT1 HR1 HR21 HB1 hB2
 clear ho2
 go_wp2_with fail
 refine (some_any A2 L2 c2 16 g2 _ (by omega) (by omega) HR22.out).mono ?_
 rintro e w3 ⟨v3, rfl, ho3, hB3⟩
 obtain ⟨g103, c103, rfl, -⟩ := own_at ho3 (by omega)
 have HK3 := hid ho3.reads
 have HG3 := hid (HG2.out.below hB3)
 have HT3 := hid (HT2.out.below hB3)
 have HR3 := hid ((HR2.out.below hB3).more hB3.size)
 have HR23 := hid ((HR22.out.below hB3).more hB3.size)
 have HW3 := hid ((HW2.out.below hB3).more hB3.size)
 have HB3 := hid (HB2.out.trans (hB3.mono HB2.out.size))
 clear HG2 HT2 HR2 HR22 HW2 HB2 hB3
 clear ho3
 go_wp2_with fail
 refine (some_any A2 L2 c2 6 g2 _ (by omega) (by omega) HR23.out).mono ?_
 rintro e w4 ⟨v4, rfl, ho4, hB4⟩
 obtain ⟨g104, c104, rfl, -⟩ := own_at ho4 (by omega)
 have HF4 := hid ho4.reads
 have HG4 := hid (HG3.out.below hB4)
 have HT4 := hid (HT3.out.below hB4)
 have HR4 := hid ((HR3.out.below hB4).more hB4.size)
 have HR24 := hid ((HR23.out.below hB4).more hB4.size)
 have HW4 := hid ((HW3.out.below hB4).more hB4.size)
 have HK4 := hid ((HK3.out.below hB4).more hB4.size)
 have HB4 := hid (HB3.out.trans (hB4.mono HB3.out.size))
 clear HG3 HT3 HR3 HR23 HW3 HK3 HB3 hB4
 clear ho4
 obtain ⟨tx, cd, hd, d⟩ : ∃ tx cd hd, Wd 2 16 (smF L g) (smp 66) 16 6 (smF L2 g2) (smF L2 g2) 24 3 80 tx cd hd := ⟨_, _, _, wd1 (smF_lt Hg.out) (smF_lt Hg2.out) (smF_lt Hg2.out)⟩
 have HD := hid d
 clear d
 go_wp2_with fail
 refine (sample_any 66 _).mono ?_
 rintro e w5 ⟨rfl, hB5⟩
 have HG5 := hid (HG4.out.below hB5)
 have HT5 := hid (HT4.out.below hB5)
 have HR5 := hid ((HR4.out.below hB5).more hB5.size)
 have HR25 := hid ((HR24.out.below hB5).more hB5.size)
 have HW5 := hid ((HW4.out.below hB5).more hB5.size)
 have HK5 := hid ((HK4.out.below hB5).more hB5.size)
 have HF5 := hid ((HF4.out.below hB5).more hB5.size)
 have HB5 := hid (HB4.out.trans (hB5.mono HB4.out.size))
 clear HG4 HT4 HR4 HR24 HW4 HK4 HF4 HB4 hB5
 go_wp2_with fail
 refine (HD.out.wrap (some ⟨g102, 0, none⟩) (some ⟨g103, 0, none⟩) (some ⟨g104, 0, none⟩) c102 c103 c104 (fun h => by cases h) _ HW5.out HK5.out HF5.out HT5.out).mono ?_
 rintro e w6 ⟨hB6, rfl⟩
 have HG6 := hid (HG5.out.below hB6)
 have HR6 := hid ((HR5.out.below hB6).more hB6.size)
 have HR26 := hid ((HR25.out.below hB6).more hB6.size)
 have HW6 := hid ((HW5.out.below hB6).more hB6.size)
 have HK6 := hid ((HK5.out.below hB6).more hB6.size)
 have HF6 := hid ((HF5.out.below hB6).more hB6.size)
 have HB6 := hid (HB5.out.trans (hB6.mono HB5.out.size))
 clear HG5 HR5 HR25 HW5 HK5 HF5 HB5 hB6
 clear HT5
 go_wp2_with fail
 refine (HD.out.unwrap (some ⟨g102, 0, none⟩) c102 (fun h => by cases h) _ HG6.out HW6.out).mono ?_
 rintro e w7 ⟨A7, c7, rfl, ho7, hB7⟩
 have Hn7 := hid (Blk.fresh w7 32 noHd)
 have hB8 : Below w7.heap.size w7 ((w7.alloc (.cells noHd 32)).setRow w7.heap.size (hdC (cutH (bkF 24 80 (smp 66) hd cd)))) := below_setRow' ((Below.refl _ _).alloc (Nat.le_refl _) _) (Nat.le_refl _) _
 have HO8 := hid (ho7.below hB8 (Nat.le_refl _))
 have HB8 := hid (hB7.trans (hB8.mono hB7.size))
 have hkb : Hid (∀ i, i < 16 → smF L2 g2 i < 256) := hid (fun i _ => smF_lt Hg2.out i)
 clear ho7 hB7 hB8
 go_wp2_with (first
  | (with_reducible refine wpl_alloc rfl 32 rfl _ zHead ?_)
  | (with_reducible refine wpl_storeH rfl 32 _ _ rfl w7.heap.size (hdC (cutH (bkF 24 80 (smp 66) hd cd))) rfl rfl 32 _ Hn7.out (sizeC _) rfl (oneC _) ?_))
 generalize hw8 : (w7.alloc (.cells noHd 32)).setRow w7.heap.size (hdC (cutH (bkF 24 80 (smp 66) hd cd))) = w8 at *
 clear hw8 Hn7
 go_wp2_with fail
 go_loopw [13] (fun y wr => ∃ (k : Nat) (m : Nat → Nat), k ≤ 16 ∧ y = .int .i64 (k : Int) ∧ Hid (∀ i, i < 16 → m i < 256) ∧ Hid (Mem.Own wr w6.heap.size 5 1 (.slice A7 16 c7) 16 m) ∧ Hid (Below w6.heap.size w6 wr)) (fun y _ => 16 - (intOf y).toNat)
 case atStart => exact ⟨0, _, by omega, rfl, hkb, HO8, HB8⟩
 case round =>
  clear HO8 HB8
  obtain ⟨k, m, hk, rfl, Hm, HO, HB⟩ := hrel
  by_cases hlt : k < 16
  ·have hltI : (k : Int) < 16 := by omega
   have hmk := Hm.out k hlt
   obtain ⟨gq, hgq, hg1, hg2, hc0, hf0, hop⟩ := Bk.Own.put HO.out (i := k) hlt (m k ^^^ 255)
   subst hgq
   have HO2 := hid hop
   have Hm2 : Hid (∀ i, i < 16 → upd m k (m k ^^^ 255) i < 256) := hid fun i hi => by
    unfold upd
    split
    ·exact x255 hmk
    exact Hm.out i hi
   have HB3 := hid (HB.out.setCell (p := ⟨gq, k, none⟩) hg1 (.int .u8 ((m k ^^^ 255 : Nat) : Int)))
   clear hop HO HB Hm hg2
   go_wp2_with (first
    | (with_reducible refine wpl_slb rfl 22 _ _ rfl gq 16 c7 rfl .i64 _ rfl k rfl 5 Tryz.underlying22 hlt Dg.i8q ?_)
    | (with_reducible refine wpl_ld rfl 5 _ rfl _ rfl .u8 Tryz.underlying5 _ hc0 ?_)
    | (with_reducible refine wpl_val rfl _ (exec_x8 _ _ _ _ rfl _ hmk rfl rfl) ?_)
    | (with_reducible refine wpl_st rfl 5 _ _ rfl _ rfl .u8 _ rfl Dg.i8q _ hc0 hf0 ?_))
   go_round
   case rel => exact ⟨k + 1, _, by omega, val_int (by omega), Hm2, HO2, HB3⟩
   case measure => simp [intOf]; omega
  have hltI : ¬ (k : Int) < 16 := by omega
  obtain ⟨w9, hw9⟩ : ∃ w9, w9 = wr := ⟨_, rfl⟩
  rw [← hw9] at HB ⊢
  have HG9 := hid (HG6.out.below HB.out)
  have HR9 := hid ((HR6.out.below HB.out).more HB.out.size)
  have HR29 := hid ((HR26.out.below HB.out).more HB.out.size)
  have HW9 := hid ((HW6.out.below HB.out).more HB.out.size)
  have HK9 := hid ((HK6.out.below HB.out).more HB.out.size)
  have HF9 := hid ((HF6.out.below HB.out).more HB.out.size)
  have HB9 := hid (HB6.out.trans (HB.out.mono HB6.out.size))
  clear HG6 HR6 HR26 HW6 HK6 HF6 HB6 HO Hm HB hw9
  go_wp2_with fail
  refine (keys_ok 66 2 rfl (.inr rfl) (some ⟨g102, 0, none⟩) 16 c102 (smF L g) _ (.inl rfl) (fun h => by cases h) (fun i _ => smF_lt Hg.out i) HW9.out).mono ?_
  rintro e w10 ⟨v10, u10, rfl, ho10, ho11, hB10⟩
  obtain ⟨A10, c10, rfl, -⟩ := ho10.slice'
  obtain ⟨A11, c11, rfl, -⟩ := ho11.slice'
  have HO10 := hid ho10
  have HB10 := hid hB10
  have hyb : Hid (∀ i, i < 16 → kyF 2 16 (smF L g) 0 i < 256) := hid (kyF_lt (.inl rfl) (.inr rfl) (fun i _ => smF_lt Hg.out i) (by decide))
  clear ho10 ho11 hB10
  go_wp2_with fail
  go_loopw [17] (fun y wr => ∃ (k : Nat) (m : Nat → Nat), k ≤ 16 ∧ y = .int .i64 (k : Int) ∧ Hid (∀ i, i < 16 → m i < 256) ∧ Hid (Mem.Own wr w9.heap.size 5 1 (.slice A10 16 c10) 16 m) ∧ Hid (Below w9.heap.size w9 wr)) (fun y _ => 16 - (intOf y).toNat)
  case atStart => exact ⟨0, _, by omega, rfl, hyb, HO10, HB10⟩
  case round =>
   clear HO10 HB10
   obtain ⟨k, m, hk, rfl, Hm, HO, HB⟩ := hrel
   by_cases hlt : k < 16
   ·have hltI : (k : Int) < 16 := by omega
    have hmk := Hm.out k hlt
    obtain ⟨gq, hgq, hg1, hg2, hc0, hf0, hop⟩ := Bk.Own.put HO.out (i := k) hlt (m k ^^^ 255)
    subst hgq
    have HO2 := hid hop
    have Hm2 : Hid (∀ i, i < 16 → upd m k (m k ^^^ 255) i < 256) := hid fun i hi => by
     unfold upd
     split
     ·exact x255 hmk
     exact Hm.out i hi
    have HB3 := hid (HB.out.setCell (p := ⟨gq, k, none⟩) hg1 (.int .u8 ((m k ^^^ 255 : Nat) : Int)))
    clear hop HO HB Hm hg2
    go_wp2_with (first
     | (with_reducible refine wpl_slb rfl 22 _ _ rfl gq 16 c10 rfl .i64 _ rfl k rfl 5 Tryz.underlying22 hlt Dg.i8q ?_)
     | (with_reducible refine wpl_ld rfl 5 _ rfl _ rfl .u8 Tryz.underlying5 _ hc0 ?_)
     | (with_reducible refine wpl_val rfl _ (exec_x8 _ _ _ _ rfl _ hmk rfl rfl) ?_)
     | (with_reducible refine wpl_st rfl 5 _ _ rfl _ rfl .u8 _ rfl Dg.i8q _ hc0 hf0 ?_))
    go_round
    case rel => exact ⟨k + 1, _, by omega, val_int (by omega), Hm2, HO2, HB3⟩
    case measure => simp [intOf]; omega
   have hltI : ¬ (k : Int) < 16 := by omega
   obtain ⟨w12, hw12⟩ : ∃ w12, w12 = wr := ⟨_, rfl⟩
   rw [← hw12] at HB ⊢
   have HG12 := hid (HG9.out.below HB.out)
   have HR12 := hid ((HR9.out.below HB.out).more HB.out.size)
   have HR212 := hid ((HR29.out.below HB.out).more HB.out.size)
   have HW12 := hid ((HW9.out.below HB.out).more HB.out.size)
   have HK12 := hid ((HK9.out.below HB.out).more HB.out.size)
   have HF12 := hid ((HF9.out.below HB.out).more HB.out.size)
   have HB12 := hid (HB9.out.trans (HB.out.mono HB9.out.size))
   clear HG9 HR9 HR29 HW9 HK9 HF9 HB9 HO Hm HB hw12
   go_wp2_with fail
   refine (HD.out.unwrap (some ⟨g102, 0, none⟩) c102 (fun h => by cases h) _ HG12.out HW12.out).mono ?_
   rintro e w13 ⟨A13, c13, rfl, ho13, hB13⟩
   have HY13 := hid ho13.reads
   have HR13 := hid ((HR12.out.below hB13).more hB13.size)
   have HR213 := hid ((HR212.out.below hB13).more hB13.size)
   have HW13 := hid ((HW12.out.below hB13).more hB13.size)
   have HK13 := hid ((HK12.out.below hB13).more hB13.size)
   have HF13 := hid ((HF12.out.below hB13).more hB13.size)
   have HB13 := hid (HB12.out.trans (hB13.mono HB12.out.size))
   clear HR12 HR212 HW12 HK12 HF12 HB12 hB13
   have Hn13 := hid (Blk.fresh w13 32 noHd)
   have hB14 : Below w13.heap.size w13 ((w13.alloc (.cells noHd 32)).setRow w13.heap.size (hdC (cutH (bkF 24 80 (smp 66) hd cd)))) := below_setRow' ((Below.refl _ _).alloc (Nat.le_refl _) _) (Nat.le_refl _) _
   have HR14 := hid ((HR13.out.below hB14).more hB14.size)
   have HR214 := hid ((HR213.out.below hB14).more hB14.size)
   have HW14 := hid ((HW13.out.below hB14).more hB14.size)
   have HK14 := hid ((HK13.out.below hB14).more hB14.size)
   have HF14 := hid ((HF13.out.below hB14).more hB14.size)
   have HY14 := hid ((HY13.out.below hB14).more hB14.size)
   have HB14 := hid (HB13.out.trans (hB14.mono HB13.out.size))
   clear HR13 HR213 HW13 HK13 HF13 HY13 HB13 hB14
   clear ho13
   go_wp2_with (first
    | (with_reducible refine wpl_alloc rfl 32 rfl _ zHead ?_)
    | (with_reducible refine wpl_storeH rfl 32 _ _ rfl w13.heap.size (hdC (cutH (bkF 24 80 (smp 66) hd cd))) rfl rfl 32 _ Hn13.out (sizeC _) rfl (oneC _) ?_))
   refine (same_yes A13 (some ⟨g103, 0, none⟩) 16 c13 c103 _ _ (by omega) HY14.out HK14.out).mono ?_
   rintro e w15 ⟨rfl, hB15⟩
   have HR15 := hid ((HR14.out.below hB15).more hB15.size)
   have HR215 := hid ((HR214.out.below hB15).more hB15.size)
   have HW15 := hid ((HW14.out.below hB15).more hB15.size)
   have HK15 := hid ((HK14.out.below hB15).more hB15.size)
   have HF15 := hid ((HF14.out.below hB15).more hB15.size)
   have HB15 := hid (HB14.out.trans (hB15.mono HB14.out.size))
   clear HR14 HR214 HW14 HK14 HF14 HB14 hB15
   clear HY14 Hn13
   go_wp2_with fail
   refine (some_any A2 L2 c2 16 g2 _ (by omega) (by omega) HR215.out).mono ?_
   rintro e w16 ⟨v16, rfl, ho16, hB16⟩
   obtain ⟨g116, c116, rfl, -⟩ := own_at ho16 (by omega)
   have HV16 := hid ho16.reads
   have HR16 := hid ((HR15.out.below hB16).more hB16.size)
   have HR216 := hid ((HR215.out.below hB16).more hB16.size)
   have HW16 := hid ((HW15.out.below hB16).more hB16.size)
   have HK16 := hid ((HK15.out.below hB16).more hB16.size)
   have HF16 := hid ((HF15.out.below hB16).more hB16.size)
   have HB16 := hid (HB15.out.trans (hB16.mono HB15.out.size))
   clear HR15 HR215 HW15 HK15 HF15 HB15 hB16
   clear ho16
   go_wp2_with fail
   refine (same_yes (some ⟨g103, 0, none⟩) (some ⟨g116, 0, none⟩) 16 c103 c116 _ _ (by omega) HK16.out HV16.out).mono ?_
   rintro e w17 ⟨rfl, hB17⟩
   have HR17 := hid ((HR16.out.below hB17).more hB17.size)
   have HR217 := hid ((HR216.out.below hB17).more hB17.size)
   have HW17 := hid ((HW16.out.below hB17).more hB17.size)
   have HK17 := hid ((HK16.out.below hB17).more hB17.size)
   have HF17 := hid ((HF16.out.below hB17).more hB17.size)
   have HB17 := hid (HB16.out.trans (hB17.mono HB16.out.size))
   clear HR16 HR216 HW16 HK16 HF16 HB16 hB17
   clear HV16
   go_wp2_with fail
   refine (some_any A L c 16 g _ (by omega) (by omega) HR17.out).mono ?_
   rintro e w18 ⟨v18, rfl, ho18, hB18⟩
   obtain ⟨g118, c118, rfl, -⟩ := own_at ho18 (by omega)
   have HV18 := hid ho18.reads
   have HR18 := hid ((HR17.out.below hB18).more hB18.size)
   have HR218 := hid ((HR217.out.below hB18).more hB18.size)
   have HW18 := hid ((HW17.out.below hB18).more hB18.size)
   have HF18 := hid ((HF17.out.below hB18).more hB18.size)
   have HB18 := hid (HB17.out.trans (hB18.mono HB17.out.size))
   clear HR17 HR217 HW17 HF17 HB17 hB18
   clear ho18
   go_wp2_with fail
   refine (same_yes (some ⟨g102, 0, none⟩) (some ⟨g118, 0, none⟩) 16 c102 c118 _ _ (by omega) HW18.out HV18.out).mono ?_
   rintro e w19 ⟨rfl, hB19⟩
   have HR19 := hid ((HR18.out.below hB19).more hB19.size)
   have HR219 := hid ((HR218.out.below hB19).more hB19.size)
   have HW19 := hid ((HW18.out.below hB19).more hB19.size)
   have HF19 := hid ((HF18.out.below hB19).more hB19.size)
   have HB19 := hid (HB18.out.trans (hB19.mono HB18.out.size))
   clear HR18 HR218 HW18 HF18 HB18 hB19
   clear HV18
   go_wp2_with fail
   refine (some_any A2 L2 c2 6 g2 _ (by omega) (by omega) HR219.out).mono ?_
   rintro e w20 ⟨v20, rfl, ho20, hB20⟩
   obtain ⟨g120, c120, rfl, -⟩ := own_at ho20 (by omega)
   have HV20 := hid ho20.reads
   have HR220 := hid ((HR219.out.below hB20).more hB20.size)
   have HF20 := hid ((HF19.out.below hB20).more hB20.size)
   have HB20 := hid (HB19.out.trans (hB20.mono HB19.out.size))
   clear HR219 HF19 HB19 hB20
   clear ho20
   go_wp2_with fail
   refine (same_yes (some ⟨g104, 0, none⟩) (some ⟨g120, 0, none⟩) 6 c104 c120 _ _ (by omega) HF20.out HV20.out).mono ?_
   rintro e w21 ⟨rfl, hB21⟩
   have HR221 := hid ((HR220.out.below hB21).more hB21.size)
   have HF21 := hid ((HF20.out.below hB21).more hB21.size)
   have HB21 := hid (HB20.out.trans (hB21.mono HB20.out.size))
   clear HR220 HF20 HB20 hB21
   clear HV20
   go_wp2_with fail
   go_ret
   exact ⟨rfl, HB21.out⟩
end Go.Proofs.YteapfdnjbgonmaaGreatDoor.Wr.Keeps
