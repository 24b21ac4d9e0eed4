/-
 WrapWraps returns true: its walk.
-/
import Derived.Test.YtlmacfmfmjhidaaGreatDoorWr12
namespace Go.Proofs.YtlmacfmfmjhidaaGreatDoor.Wr.Wraps
open Mem Bk Md Mc Hd Dg As Wr Go.ChangeShapes Go.WideShapes Go.ChangeAt Go.RowKit
set_option maxRecDepth 100000 in
set_option maxHeartbeats 4000000 in
set_option linter.unusedSimpArgs false in
theorem wraps_true (A:Option Addr) (L c:Nat) (g:Nat→Nat) (h:Hd) (A2:Option Addr) (L2 c2:Nat) (g2:Nat→Nat) (A3:Option Addr) (L3 c3:Nat) (g3:Nat→Nat) (w:World) (hL:Laid w∧Tab w) (hR:Reads w w.heap.size A L g) (hg: ∀i,i<L→g i<256) (hN:A=none→L=0∧c=0) (hC:L≤c) (ok:h.Ok) (hR2:Reads w w.heap.size A2 L2 g2) (hg2: ∀i,i<L2→g2 i<256) (hR3:Reads w w.heap.size A3 L3 g3) (hg3: ∀i,i<L3→g3 i<256):
  Calls Tryz.prog 3 #[.slice A L c, .agg (hdC h), .slice A2 L2 c2, .slice A3 L3 c3] w fun e w'=>e= .returned (.bool true)∧Below w.heap.size w w':=by
 have hB0:=(Below.refl w.heap.size w).alloc (Nat.le_refl _) (.cells (hdC h) 24)
 have Hh:=hid (Blk.fresh w 24 (hdC h))
 have HB:=hid hB0
 have HG:=hid (hL.1.below hB0)
 have HT:=hid (hL.2.below hB0)
 have HX:=hid ((hR.below hB0).more hB0.size)
 have HK:=hid ((hR2.below hB0).more hB0.size)
 have HF:=hid ((hR3.below hB0).more hB0.size)
 have Hg:=hid hg
 have Hg2:=hid hg2
 have Hg3:=hid hg3
 have Hok:=hid ok
 have HN:=hid hN
 have HC:=hid hC
 clear hB0 hL hR hg ok hR2 hg2 hR3 hg3 hN hC
 go_enter Tryz.func3,Tryz.ntmps3
 go_wp2_with fail
 refine(awake11_any _ HG.out HT.out).mono ?_
 rintro e w1 ⟨rfl,hB1⟩
 have Hh1:=hid (Hh.out.below hB1 Hh.out.lt)
 have HG1:=hid (HG.out.below hB1)
 have HT1:=hid (HT.out.below hB1)
 have HX1:=hid ((HX.out.below hB1).more hB1.size)
 have HK1:=hid ((HK.out.below hB1).more hB1.size)
 have HF1:=hid ((HF.out.below hB1).more hB1.size)
 have HB1:=hid (HB.out.trans (hB1.mono HB.out.size))
 clear Hh HG HT HX HK HF HB hB1
 have hcn:w1.cell? ⟨w.heap.size,1,none⟩=some (.string (strF h.n h.f)):=(Hh1.out.cell 1).trans rfl
 have hcm:w1.cell? ⟨w.heap.size,4,none⟩=some (.string (strF h.m h.g)):=(Hh1.out.cell 4).trans rfl
 have hsn:(strF h.n h.f).size=h.n:=strF_size _ _
 have hsm:(strF h.m h.g).size=h.m:=strF_size _ _
 by_cases h1:L≤100
 rotate_left
 ·have i1:decide (100< (L:Int))=true:=by simp;omega
  go_wp2_with fail
  refine(awake11_any _ HG1.out HT1.out).mono ?_
  rintro e w2 ⟨rfl,hB2⟩
  have HB2:=hid (HB1.out.trans (hB2.mono HB1.out.size))
  clear hB2
  go_wp2_with fail
  go_ret
  exact⟨rfl,HB2.out⟩
 have i1:decide (100< (L:Int))=false:=by simp;omega
 by_cases h2:L2≤100
 rotate_left
 ·have i2:decide (100< (L2:Int))=true:=by simp;omega
  go_wp2_with fail
  refine(awake11_any _ HG1.out HT1.out).mono ?_
  rintro e w2 ⟨rfl,hB2⟩
  have HB2:=hid (HB1.out.trans (hB2.mono HB1.out.size))
  clear hB2
  go_wp2_with fail
  go_ret
  exact⟨rfl,HB2.out⟩
 have i2:decide (100< (L2:Int))=false:=by simp;omega
 by_cases h3:L3≤100
 rotate_left
 ·have i3:decide (100< (L3:Int))=true:=by simp;omega
  go_wp2_with fail
  refine(awake11_any _ HG1.out HT1.out).mono ?_
  rintro e w2 ⟨rfl,hB2⟩
  have HB2:=hid (HB1.out.trans (hB2.mono HB1.out.size))
  clear hB2
  go_wp2_with fail
  go_ret
  exact⟨rfl,HB2.out⟩
 have i3:decide (100< (L3:Int))=false:=by simp;omega
 by_cases h4:h.n≤20
 rotate_left
 ·have i4:decide (20< (h.n:Int))=true:=by simp;omega
  go_wp2_with (first
   | ((with_reducible refine wpg_val ?_ _ (exec_ldc 9 _ rfl ⟨w.heap.size,1,none⟩ rfl _ hcn (.inr Tryz.underlying9)) ?_);exact rfl)
   | ((with_reducible refine wpg_val ?_ _ (exec_ldc 9 _ rfl ⟨w.heap.size,4,none⟩ rfl _ hcm (.inr Tryz.underlying9)) ?_);exact rfl))
  refine(awake11_any _ HG1.out HT1.out).mono ?_
  rintro e w2 ⟨rfl,hB2⟩
  have HB2:=hid (HB1.out.trans (hB2.mono HB1.out.size))
  clear hB2
  go_wp2_with fail
  go_ret
  exact⟨rfl,HB2.out⟩
 have i4:decide (20< (h.n:Int))=false:=by simp;omega
 by_cases h5:h.m≤20
 rotate_left
 ·have i5:decide (20< (h.m:Int))=true:=by simp;omega
  go_wp2_with (first
   | ((with_reducible refine wpg_val ?_ _ (exec_ldc 9 _ rfl ⟨w.heap.size,1,none⟩ rfl _ hcn (.inr Tryz.underlying9)) ?_);exact rfl)
   | ((with_reducible refine wpg_val ?_ _ (exec_ldc 9 _ rfl ⟨w.heap.size,4,none⟩ rfl _ hcm (.inr Tryz.underlying9)) ?_);exact rfl))
  refine(awake11_any _ HG1.out HT1.out).mono ?_
  rintro e w2 ⟨rfl,hB2⟩
  have HB2:=hid (HB1.out.trans (hB2.mono HB1.out.size))
  clear hB2
  go_wp2_with fail
  go_ret
  exact⟨rfl,HB2.out⟩
 have i5:decide (20< (h.m:Int))=false:=by simp;omega
 have HW:=hid (rwrong_any h Hok.out)
 by_cases hw:0≤wrong h
 ·have i6:decide (0≤wrong h)=true:=by simp;exact hw
  have Hw:=hid hw
  clear hw
  go_wp2_with (first
   | ((with_reducible refine wpg_val ?_ _ (exec_ldc 9 _ rfl ⟨w.heap.size,1,none⟩ rfl _ hcn (.inr Tryz.underlying9)) ?_);exact rfl)
   | ((with_reducible refine wpg_val ?_ _ (exec_ldc 9 _ rfl ⟨w.heap.size,4,none⟩ rfl _ hcm (.inr Tryz.underlying9)) ?_);exact rfl)
   | (with_reducible refine wpl_valw rfl _ (exec_ldcs 24 _ rfl w.heap.size rfl 24 _ Hh1.out _ Tryz.underlying24 (sizeC _)) ?_))
  refine(wrap_head A A2 A3 L c L2 c2 L3 c3 h Hok.out Hw.out _ HG1.out).mono ?_
  rintro e w2 ⟨hB2,v,rfl,hE⟩
  have HE2:=hid hE
  have Hh2:=hid (Hh1.out.below hB2 Hh1.out.lt)
  have HG2:=hid (HG1.out.below hB2)
  have HX2:=hid ((HX1.out.below hB2).more hB2.size)
  have HK2:=hid ((HK1.out.below hB2).more hB2.size)
  have HF2:=hid ((HF1.out.below hB2).more hB2.size)
  have HB2:=hid (HB1.out.trans (hB2.mono HB1.out.size))
  clear Hh1 HG1 HX1 HK1 HF1 HB1 hB2
  clear hE HT1 hcn hcm
  go_wp2_with (first
   | (with_reducible refine wpl_valw rfl _ (exec_ldcs 24 _ rfl w.heap.size rfl 24 _ Hh2.out _ Tryz.underlying24 (sizeC _)) ?_)
   | (go_at_call 8;refine(HW.out _).mono ?_;rintro x3 w3 ⟨rfl,hB3⟩;have Hh3:=hid (Hh2.out.below hB3 Hh2.out.lt);have HG3:=hid (HG2.out.below hB3);have HE3:=hid (HE2.out.below hB3);have HX3:=hid ((HX2.out.below hB3).more hB3.size);have HK3:=hid ((HK2.out.below hB3).more hB3.size);have HF3:=hid ((HF2.out.below hB3).more hB3.size);have HB3:=hid (HB2.out.trans (hB3.mono HB2.out.size));clear Hh2 HG2 HE2 HX2 HK2 HF2 HB2 hB3)
   | (go_at_call 9;refine(HE3.out.code HG3.out).mono ?_;rintro x4 w4 ⟨rfl,hB4⟩;have HG4:=hid (HG3.out.below hB4);have HE4:=hid (HE3.out.below hB4);have HB4:=hid (HB3.out.trans (hB4.mono HB3.out.size));clear HG3 HE3 HB3 hB4)
   | (go_at_call 10;refine(HE4.out.at HG4.out).mono ?_;rintro x5 w5 ⟨rfl,hB5⟩;have HB5:=hid (HB4.out.trans (hB5.mono HB4.out.size));clear HB4 hB5))
  go_ret
  exact⟨rfl,HB5.out⟩
 have hwr:wrong h= -1:=(wrong_lo h).resolve_right hw
 rw[hwr] at HW
 have Hwr:=hid hwr
 clear hw hwr
 obtain⟨k,hk⟩: ∃k,kd h.v=k:=⟨_,rfl⟩
 have hkk:=wrong_kd Hwr.out
 rw[hk] at hkk
 have Hkk:=hid hkk
 have Hv:=hid hk
 have Hka:=hid (wrong_ka Hwr.out)
 clear hkk hk
 by_cases hfk:kfit k L
 rotate_left
 ·have Hfk:=hid hfk
  clear hfk
  go_wp2_with (first
   | ((with_reducible refine wpg_val ?_ _ (exec_ldc 9 _ rfl ⟨w.heap.size,1,none⟩ rfl _ hcn (.inr Tryz.underlying9)) ?_);exact rfl)
   | ((with_reducible refine wpg_val ?_ _ (exec_ldc 9 _ rfl ⟨w.heap.size,4,none⟩ rfl _ hcm (.inr Tryz.underlying9)) ?_);exact rfl)
   | (with_reducible refine wpl_valw rfl _ (exec_ldcs 24 _ rfl w.heap.size rfl 24 _ Hh1.out _ Tryz.underlying24 (sizeC _)) ?_))
  refine(wrap_keys A A2 A3 L c L2 c2 L3 c3 k h Hok.out Hwr.out Hv.out Hfk.out _).mono ?_
  rintro e w2 ⟨hB2,rfl⟩
  have HE2:=hid (ea_no 2 w2)
  have Hh2:=hid (Hh1.out.below hB2 Hh1.out.lt)
  have HG2:=hid (HG1.out.below hB2)
  have HX2:=hid ((HX1.out.below hB2).more hB2.size)
  have HK2:=hid ((HK1.out.below hB2).more hB2.size)
  have HF2:=hid ((HF1.out.below hB2).more hB2.size)
  have HB2:=hid (HB1.out.trans (hB2.mono HB1.out.size))
  clear Hh1 HG1 HX1 HK1 HF1 HB1 hB2
  clear HT1 hcn hcm
  go_wp2_with (first
   | (with_reducible refine wpl_valw rfl _ (exec_ldcs 24 _ rfl w.heap.size rfl 24 _ Hh2.out _ Tryz.underlying24 (sizeC _)) ?_)
   | (go_at_call 8;refine(HW.out _).mono ?_;rintro x3 w3 ⟨rfl,hB3⟩;have Hh3:=hid (Hh2.out.below hB3 Hh2.out.lt);have HG3:=hid (HG2.out.below hB3);have HE3:=hid (HE2.out.below hB3);have HX3:=hid ((HX2.out.below hB3).more hB3.size);have HK3:=hid ((HK2.out.below hB3).more hB3.size);have HF3:=hid ((HF2.out.below hB3).more hB3.size);have HB3:=hid (HB2.out.trans (hB3.mono HB2.out.size));clear Hh2 HG2 HE2 HX2 HK2 HF2 HB2 hB3;have hcv:w3.cell? ⟨w.heap.size,0,none⟩=some (.int .u8 (h.v:Int)):=(Hh3.out.cell 0).trans rfl)
   | (with_reducible refine wpl_valw rfl _ (exec_ldc 5 _ rfl ⟨w.heap.size,0,none⟩ rfl _ hcv (.inl ⟨_,Tryz.underlying5⟩)) ?_))
  refine(rkeys_size h.v k Hv.out Hkk.out A L c Hfk.out _).mono ?_
  rintro e w4 ⟨rfl,hw4⟩
  subst hw4
  go_wp2_with (first
   | (go_at_call 9;refine(HE3.out.code HG3.out).mono ?_;rintro x5 w5 ⟨rfl,hB5⟩;have HG5:=hid (HG3.out.below hB5);have HE5:=hid (HE3.out.below hB5);have HB5:=hid (HB3.out.trans (hB5.mono HB3.out.size));clear HG3 HE3 HB3 hB5))
  go_ret
  exact⟨rfl,HB5.out⟩
 have Hfk:=hid hfk
 clear hfk
 by_cases hf2:kfit (ka h.a) L2
 rotate_left
 ·have Hf2:=hid hf2
  have hd2:decide (kfit (ka h.a) L2)=false:=decide_eq_false hf2
  clear hf2
  go_wp2_with (first
   | ((with_reducible refine wpg_val ?_ _ (exec_ldc 9 _ rfl ⟨w.heap.size,1,none⟩ rfl _ hcn (.inr Tryz.underlying9)) ?_);exact rfl)
   | ((with_reducible refine wpg_val ?_ _ (exec_ldc 9 _ rfl ⟨w.heap.size,4,none⟩ rfl _ hcm (.inr Tryz.underlying9)) ?_);exact rfl)
   | (with_reducible refine wpl_valw rfl _ (exec_ldcs 24 _ rfl w.heap.size rfl 24 _ Hh1.out _ Tryz.underlying24 (sizeC _)) ?_))
  refine(wrap_size1 A A2 A3 L c L2 c2 L3 c3 k g h Hok.out Hwr.out Hv.out Hfk.out HN.out Hg.out _ HX1.out Hf2.out).mono ?_
  rintro e w2 ⟨hB2,rfl⟩
  have HE2:=hid (ea_no 2 w2)
  have Hh2:=hid (Hh1.out.below hB2 Hh1.out.lt)
  have HG2:=hid (HG1.out.below hB2)
  have HX2:=hid ((HX1.out.below hB2).more hB2.size)
  have HK2:=hid ((HK1.out.below hB2).more hB2.size)
  have HF2:=hid ((HF1.out.below hB2).more hB2.size)
  have HB2:=hid (HB1.out.trans (hB2.mono HB1.out.size))
  clear Hh1 HG1 HX1 HK1 HF1 HB1 hB2
  clear HT1 hcn hcm
  go_wp2_with (first
   | (with_reducible refine wpl_valw rfl _ (exec_ldcs 24 _ rfl w.heap.size rfl 24 _ Hh2.out _ Tryz.underlying24 (sizeC _)) ?_)
   | (go_at_call 8;refine(HW.out _).mono ?_;rintro x3 w3 ⟨rfl,hB3⟩;have Hh3:=hid (Hh2.out.below hB3 Hh2.out.lt);have HG3:=hid (HG2.out.below hB3);have HE3:=hid (HE2.out.below hB3);have HX3:=hid ((HX2.out.below hB3).more hB3.size);have HK3:=hid ((HK2.out.below hB3).more hB3.size);have HF3:=hid ((HF2.out.below hB3).more hB3.size);have HB3:=hid (HB2.out.trans (hB3.mono HB2.out.size));clear Hh2 HG2 HE2 HX2 HK2 HF2 HB2 hB3;have hcv:w3.cell? ⟨w.heap.size,0,none⟩=some (.int .u8 (h.v:Int)):=(Hh3.out.cell 0).trans rfl)
   | (with_reducible refine wpl_valw rfl _ (exec_ldc 5 _ rfl ⟨w.heap.size,0,none⟩ rfl _ hcv (.inl ⟨_,Tryz.underlying5⟩)) ?_))
  refine(rkeys_ok h.v k Hv.out Hkk.out A L c g _ Hfk.out HC.out Hg.out HX3.out).mono ?_
  rintro e w4 ⟨A5,c5,A6,c6,rfl,-,-,-,-,hB4⟩
  have Hh4:=hid (Hh3.out.below hB4 Hh3.out.lt)
  have HG4:=hid (HG3.out.below hB4)
  have HE4:=hid (HE3.out.below hB4)
  have HX4:=hid ((HX3.out.below hB4).more hB4.size)
  have HK4:=hid ((HK3.out.below hB4).more hB4.size)
  have HF4:=hid ((HF3.out.below hB4).more hB4.size)
  have HB4:=hid (HB3.out.trans (hB4.mono HB3.out.size))
  clear Hh3 HG3 HE3 HX3 HK3 HF3 HB3 hB4
  clear hcv
  have hcv:w4.cell? ⟨w.heap.size,0,none⟩=some (.int .u8 (h.v:Int)):=(Hh4.out.cell 0).trans rfl
  have hca:w4.cell? ⟨w.heap.size,2,none⟩=some (.int .u8 (h.a:Int)):=(Hh4.out.cell 2).trans rfl
  go_wp2_with (first
   | (with_reducible refine wpl_valw rfl _ (exec_ldc 5 _ rfl ⟨w.heap.size,2,none⟩ rfl _ hca (.inl ⟨_,Tryz.underlying5⟩)) ?_)
   | ((with_reducible refine wpg_val ?_ _ (exec_ldc 5 _ rfl ⟨w.heap.size,0,none⟩ rfl _ hcv (.inl ⟨_,Tryz.underlying5⟩)) ?_);exact rfl)
   | (go_at_call 12;refine(rfits_any h.a L2 Hka.out _).mono ?_;rintro x5 w5 ⟨rfl,hw5⟩;rw[hw5,hd2];clear hw5)
   | (go_at_call 9;refine(HE4.out.code HG4.out).mono ?_;rintro x6 w6 ⟨rfl,hB6⟩;have HG6:=hid (HG4.out.below hB6);have HE6:=hid (HE4.out.below hB6);have HB6:=hid (HB4.out.trans (hB6.mono HB4.out.size));clear HG4 HE4 HB4 hB6))
  go_ret
  exact⟨rfl,HB6.out⟩
 have Hf2:=hid hf2
 have hd2:decide (kfit (ka h.a) L2)=true:=decide_eq_true hf2
 have HFZ:=hid (fillZ_of (n:=L2) Hv.out Hkk.out)
 clear hf2
 by_cases hf3:L3=fill (sz k) L2
 rotate_left
 ·have Hf3:=hid hf3
  have hd3:((L3:Int) != (fill (sz k) L2:Int))=true:=by simp;omega
  clear hf3
  go_wp2_with (first
   | ((with_reducible refine wpg_val ?_ _ (exec_ldc 9 _ rfl ⟨w.heap.size,1,none⟩ rfl _ hcn (.inr Tryz.underlying9)) ?_);exact rfl)
   | ((with_reducible refine wpg_val ?_ _ (exec_ldc 9 _ rfl ⟨w.heap.size,4,none⟩ rfl _ hcm (.inr Tryz.underlying9)) ?_);exact rfl)
   | (with_reducible refine wpl_valw rfl _ (exec_ldcs 24 _ rfl w.heap.size rfl 24 _ Hh1.out _ Tryz.underlying24 (sizeC _)) ?_))
  refine(wrap_size2 A A2 A3 L c L2 c2 L3 c3 k g h Hok.out Hwr.out Hv.out Hfk.out HN.out Hg.out _ HX1.out Hf2.out Hf3.out).mono ?_
  rintro e w2 ⟨hB2,rfl⟩
  have HE2:=hid (ea_no 2 w2)
  have Hh2:=hid (Hh1.out.below hB2 Hh1.out.lt)
  have HG2:=hid (HG1.out.below hB2)
  have HX2:=hid ((HX1.out.below hB2).more hB2.size)
  have HK2:=hid ((HK1.out.below hB2).more hB2.size)
  have HF2:=hid ((HF1.out.below hB2).more hB2.size)
  have HB2:=hid (HB1.out.trans (hB2.mono HB1.out.size))
  clear Hh1 HG1 HX1 HK1 HF1 HB1 hB2
  clear HT1 hcn hcm
  go_wp2_with (first
   | (with_reducible refine wpl_valw rfl _ (exec_ldcs 24 _ rfl w.heap.size rfl 24 _ Hh2.out _ Tryz.underlying24 (sizeC _)) ?_)
   | (go_at_call 8;refine(HW.out _).mono ?_;rintro x3 w3 ⟨rfl,hB3⟩;have Hh3:=hid (Hh2.out.below hB3 Hh2.out.lt);have HG3:=hid (HG2.out.below hB3);have HE3:=hid (HE2.out.below hB3);have HX3:=hid ((HX2.out.below hB3).more hB3.size);have HK3:=hid ((HK2.out.below hB3).more hB3.size);have HF3:=hid ((HF2.out.below hB3).more hB3.size);have HB3:=hid (HB2.out.trans (hB3.mono HB2.out.size));clear Hh2 HG2 HE2 HX2 HK2 HF2 HB2 hB3;have hcv:w3.cell? ⟨w.heap.size,0,none⟩=some (.int .u8 (h.v:Int)):=(Hh3.out.cell 0).trans rfl)
   | (with_reducible refine wpl_valw rfl _ (exec_ldc 5 _ rfl ⟨w.heap.size,0,none⟩ rfl _ hcv (.inl ⟨_,Tryz.underlying5⟩)) ?_))
  refine(rkeys_ok h.v k Hv.out Hkk.out A L c g _ Hfk.out HC.out Hg.out HX3.out).mono ?_
  rintro e w4 ⟨A5,c5,A6,c6,rfl,-,-,-,-,hB4⟩
  have Hh4:=hid (Hh3.out.below hB4 Hh3.out.lt)
  have HG4:=hid (HG3.out.below hB4)
  have HE4:=hid (HE3.out.below hB4)
  have HX4:=hid ((HX3.out.below hB4).more hB4.size)
  have HK4:=hid ((HK3.out.below hB4).more hB4.size)
  have HF4:=hid ((HF3.out.below hB4).more hB4.size)
  have HB4:=hid (HB3.out.trans (hB4.mono HB3.out.size))
  clear Hh3 HG3 HE3 HX3 HK3 HF3 HB3 hB4
  clear hcv
  have hcv:w4.cell? ⟨w.heap.size,0,none⟩=some (.int .u8 (h.v:Int)):=(Hh4.out.cell 0).trans rfl
  have hca:w4.cell? ⟨w.heap.size,2,none⟩=some (.int .u8 (h.a:Int)):=(Hh4.out.cell 2).trans rfl
  go_wp2_with (first
   | (with_reducible refine wpl_valw rfl _ (exec_ldc 5 _ rfl ⟨w.heap.size,2,none⟩ rfl _ hca (.inl ⟨_,Tryz.underlying5⟩)) ?_)
   | ((with_reducible refine wpg_val ?_ _ (exec_ldc 5 _ rfl ⟨w.heap.size,0,none⟩ rfl _ hcv (.inl ⟨_,Tryz.underlying5⟩)) ?_);exact rfl)
   | (go_at_call 12;refine(rfits_any h.a L2 Hka.out _).mono ?_;rintro x5 w5 ⟨rfl,hw5⟩;rw[hw5,hd2];clear hw5)
   | (go_at_call 13;refine(rfill_any h.v (L2:Int) _).mono ?_;rintro x7 w7 ⟨rfl,hw7⟩;rw[hw7,HFZ.out];clear hw7)
   | (go_at_call 9;refine(HE4.out.code HG4.out).mono ?_;rintro x6 w6 ⟨rfl,hB6⟩;have HG6:=hid (HG4.out.below hB6);have HE6:=hid (HE4.out.below hB6);have HB6:=hid (HB4.out.trans (hB6.mono HB4.out.size));clear HG4 HE4 HB4 hB6))
  go_ret
  exact⟨rfl,HB6.out⟩
 obtain⟨M,N,T,tx,cd,hd,d⟩:=wd_of (L:=L) (W:=g) (L2:=L2) (L3:=L3) (key:=g2) (fl:=g3) Hwr.out Hok.out Hv.out Hfk.out Hg.out Hf2.out hf3 Hg2.out Hg3.out
 have HD:=hid d
 have hd3:((L3:Int) != (fill (sz k) L2:Int))=false:=by simp;omega
 clear d hf3
 go_wp2_with (first
  | ((with_reducible refine wpg_val ?_ _ (exec_ldc 9 _ rfl ⟨w.heap.size,1,none⟩ rfl _ hcn (.inr Tryz.underlying9)) ?_);exact rfl)
  | ((with_reducible refine wpg_val ?_ _ (exec_ldc 9 _ rfl ⟨w.heap.size,4,none⟩ rfl _ hcm (.inr Tryz.underlying9)) ?_);exact rfl)
  | (with_reducible refine wpl_valw rfl _ (exec_ldcs 24 _ rfl w.heap.size rfl 24 _ Hh1.out _ Tryz.underlying24 (sizeC _)) ?_))
 refine(HD.out.wrap A A2 A3 c c2 c3 HN.out _ HX1.out HK1.out HF1.out HT1.out).mono ?_
 rintro e w2 ⟨hB2,rfl⟩
 have Hh2:=hid (Hh1.out.below hB2 Hh1.out.lt)
 have HX2:=hid ((HX1.out.below hB2).more hB2.size)
 have HK2:=hid ((HK1.out.below hB2).more hB2.size)
 have HF2:=hid ((HF1.out.below hB2).more hB2.size)
 have HB2:=hid (HB1.out.trans (hB2.mono HB1.out.size))
 clear Hh1 HX1 HK1 HF1 HB1 hB2
 clear HG1 HT1 hcn hcm
 go_wp2_with (first
  | (with_reducible refine wpl_valw rfl _ (exec_ldcs 24 _ rfl w.heap.size rfl 24 _ Hh2.out _ Tryz.underlying24 (sizeC _)) ?_)
  | (go_at_call 8;refine(HW.out _).mono ?_;rintro x3 w3 ⟨rfl,hB3⟩;have Hh3:=hid (Hh2.out.below hB3 Hh2.out.lt);have HX3:=hid ((HX2.out.below hB3).more hB3.size);have HK3:=hid ((HK2.out.below hB3).more hB3.size);have HF3:=hid ((HF2.out.below hB3).more hB3.size);have HB3:=hid (HB2.out.trans (hB3.mono HB2.out.size));clear Hh2 HX2 HK2 HF2 HB2 hB3;have hcv:w3.cell? ⟨w.heap.size,0,none⟩=some (.int .u8 (h.v:Int)):=(Hh3.out.cell 0).trans rfl)
  | (with_reducible refine wpl_valw rfl _ (exec_ldc 5 _ rfl ⟨w.heap.size,0,none⟩ rfl _ hcv (.inl ⟨_,Tryz.underlying5⟩)) ?_))
 refine(rkeys_ok h.v k Hv.out Hkk.out A L c g _ Hfk.out HC.out Hg.out HX3.out).mono ?_
 rintro e w4 ⟨A5,c5,A6,c6,rfl,-,-,-,-,hB4⟩
 have Hh4:=hid (Hh3.out.below hB4 Hh3.out.lt)
 have HX4:=hid ((HX3.out.below hB4).more hB4.size)
 have HK4:=hid ((HK3.out.below hB4).more hB4.size)
 have HF4:=hid ((HF3.out.below hB4).more hB4.size)
 have HB4:=hid (HB3.out.trans (hB4.mono HB3.out.size))
 clear Hh3 HX3 HK3 HF3 HB3 hB4
 clear hcv
 have hcv:w4.cell? ⟨w.heap.size,0,none⟩=some (.int .u8 (h.v:Int)):=(Hh4.out.cell 0).trans rfl
 have hca:w4.cell? ⟨w.heap.size,2,none⟩=some (.int .u8 (h.a:Int)):=(Hh4.out.cell 2).trans rfl
 go_wp2_with (first
  | ((with_reducible refine wpg_val ?_ _ (exec_ldcs 24 _ rfl w.heap.size rfl 24 _ Hh4.out _ Tryz.underlying24 (sizeC _)) ?_);exact rfl)
  | (with_reducible refine wpl_valw rfl _ (exec_ldc 5 _ rfl ⟨w.heap.size,2,none⟩ rfl _ hca (.inl ⟨_,Tryz.underlying5⟩)) ?_)
  | ((with_reducible refine wpg_val ?_ _ (exec_ldc 5 _ rfl ⟨w.heap.size,0,none⟩ rfl _ hcv (.inl ⟨_,Tryz.underlying5⟩)) ?_);exact rfl)
  | (go_at_call 12;refine(rfits_any h.a L2 Hka.out _).mono ?_;rintro x5 w5 ⟨rfl,hw5⟩;rw[hw5,hd2];clear hw5)
  | (go_at_call 13;refine(rfill_any h.v (L2:Int) _).mono ?_;rintro x7 w7 ⟨rfl,hw7⟩;rw[hw7,HFZ.out];clear hw7))
 refine(rwrap_any HD.out A A2 A3 c c2 c3 HC.out _ HX4.out HK4.out HF4.out).mono ?_
 rintro e w6 ⟨hB6,rfl⟩
 have HB6:=hid (HB4.out.trans (hB6.mono HB4.out.size))
 clear hB6
 go_wp2_with fail
 go_ret
 exact⟨rfl,HB6.out⟩
end Go.Proofs.YtlmacfmfmjhidaaGreatDoor.Wr.Wraps
