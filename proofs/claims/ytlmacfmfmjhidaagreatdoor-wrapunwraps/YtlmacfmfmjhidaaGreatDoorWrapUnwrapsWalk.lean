/-
 WrapUnwraps returns true: its walk.
-/
import Derived.Test.YtlmacfmfmjhidaaGreatDoorWr13
namespace Go.Proofs.YtlmacfmfmjhidaaGreatDoor.Wr
open Mem Bk Md Mc Hd Dg As Go.ChangeShapes Go.WideShapes Go.ChangeAt Go.RowKit
set_option maxRecDepth 100000 in
set_option maxHeartbeats 2000000 in
set_option linter.unusedSimpArgs false in
theorem unwraps_true (A:Option Addr) (L c:Nat) (g:Nat→Nat) (s:ByteArray) (w:World) (hL:Laid w∧Tab w) (hR:Reads w w.heap.size A L g) (hg: ∀i,i<L→g i<256) (hN:A=none→L=0∧c=0) (hC:L≤c):
  Calls Tryz.prog 4 #[.slice A L c, .string s] w fun e w'=>e= .returned (.bool true)∧Below w.heap.size w w':=by
 obtain⟨n,f,hf,rfl⟩: ∃n f,(∀i,f i<256)∧s=strF n f:=by
  obtain⟨f,h1,h2⟩:=strF_of s
  exact⟨_,f,h1,h2⟩
 have hsz:=strF_size n f
 obtain⟨o,hU⟩:=ur_total L g n f
 have HU:=hid hU
 have Hok:=hid (ur_ok hf hU)
 have hon:=ur_n hU
 have HG:=hid hL.1
 have HT:=hid hL.2
 have HX:=hid hR
 have Hf:=hid hf
 have Hg:=hid hg
 have HN:=hid hN
 have HC:=hid hC
 have Heq:=hid (hdEq_refl o.H)
 clear hL hR hg hf hN hC hU
 go_enter Tryz.func4,Tryz.ntmps4
 go_wp2_with fail
 refine(awake11_any _ HG.out HT.out).mono ?_
 rintro e w1 ⟨rfl,hB1⟩
 have HB1:=hid hB1
 have HG1:=hid (HG.out.below hB1)
 have HT1:=hid (HT.out.below hB1)
 have HX1:=hid ((HX.out.below hB1).more hB1.size)
 clear HG HT HX hB1
 by_cases h1:L≤100
 rotate_left
 ·have i1:decide (100< (L:Int))=true:=by simp;omega
  go_wp2_with fail
  refine(awake11_any _ HG1.out HT1.out).mono ?_
  rintro e w2 ⟨rfl,hB2⟩
  have HB2:=hid (HB1.out.trans (hB2.mono HB1.out.size))
  clear hB2
  go_wp2_with fail
  go_ret
  exact⟨rfl,HB2.out⟩
 have i1:decide (100< (L:Int))=false:=by simp;omega
 by_cases h2:n≤400
 rotate_left
 ·have i2:decide (400< (n:Int))=true:=by simp;omega
  go_wp2_with fail
  refine(awake11_any _ HG1.out HT1.out).mono ?_
  rintro e w2 ⟨rfl,hB2⟩
  have HB2:=hid (HB1.out.trans (hB2.mono HB1.out.size))
  clear hB2
  go_wp2_with fail
  go_ret
  exact⟨rfl,HB2.out⟩
 have i2:decide (400< (n:Int))=false:=by simp;omega
 go_wp2_with fail
 refine(unwrap_any A L c n f Hf.out (by omega) g HN.out Hg.out _ HG1.out HX1.out o HU.out).mono ?_
 rintro e w2 ⟨hB2,A2,c2,v,rfl,hE,hR2,-⟩
 have HE2:=hid hE
 have HY2:=hid hR2
 have HG2:=hid (HG1.out.below hB2)
 have HX2:=hid ((HX1.out.below hB2).more hB2.size)
 have HB2:=hid (HB1.out.trans (hB2.mono HB1.out.size))
 clear HG1 HX1 HB1 hB2
 have Hn2:=hid (Blk.fresh w2 24 noHd)
 have hB3:Below w2.heap.size w2 ((w2.alloc (.cells noHd 24)).setRow w2.heap.size (hdC o.H)):=below_setRow' ((Below.refl _ _).alloc (Nat.le_refl _) _) (Nat.le_refl _) _
 have Hx3:=hid (Hn2.out.setRow (hdC o.H))
 have HG3:=hid (HG2.out.below hB3)
 have HE3:=hid (HE2.out.below hB3)
 have HY3:=hid ((HY2.out.below hB3).more hB3.size)
 have HX3:=hid ((HX2.out.below hB3).more hB3.size)
 have HB3:=hid (HB2.out.trans (hB3.mono HB2.out.size))
 clear HG2 HE2 HY2 HX2 HB2 hB3
 clear hE hR2 HT1
 go_wp2_with (first
  | (with_reducible refine wpl_alloc rfl 24 rfl _ zHead ?_)
  | (with_reducible refine wpl_storeH rfl 24 _ _ rfl w2.heap.size (hdC o.H) rfl rfl 24 _ Hn2.out (sizeC _) rfl (oneC _) ?_))
 refine(runwrap_any A L c n f Hf.out (by omega) g HC.out Hg.out _ HX3.out o HU.out).mono ?_
 rintro e w4 ⟨hB4,A4,c4,rfl,hR4⟩
 have HZ4:=hid hR4
 have Hx4:=hid (Hx3.out.below hB4 Hx3.out.lt)
 have HG4:=hid (HG3.out.below hB4)
 have HE4:=hid (HE3.out.below hB4)
 have HY4:=hid ((HY3.out.below hB4).more hB4.size)
 have HB4:=hid (HB3.out.trans (hB4.mono HB3.out.size))
 clear Hx3 HG3 HE3 HY3 HB3 hB4
 have Hn4:=hid (Blk.fresh w4 24 noHd)
 have hB5:Below w4.heap.size w4 ((w4.alloc (.cells noHd 24)).setRow w4.heap.size (hdC o.H)):=below_setRow' ((Below.refl _ _).alloc (Nat.le_refl _) _) (Nat.le_refl _) _
 have Hy5:=hid (Hn4.out.setRow (hdC o.H))
 have Hx5:=hid (Hx4.out.below hB5 Hx4.out.lt)
 have HG5:=hid (HG4.out.below hB5)
 have HE5:=hid (HE4.out.below hB5)
 have HY5:=hid ((HY4.out.below hB5).more hB5.size)
 have HZ5:=hid ((HZ4.out.below hB5).more hB5.size)
 have HB5:=hid (HB4.out.trans (hB5.mono HB4.out.size))
 clear Hx4 HG4 HE4 HY4 HZ4 HB4 hB5
 clear hR4 HX3 HU
 go_wp2_with (first
  | (with_reducible refine wpl_alloc rfl 24 rfl _ zHead ?_)
  | (with_reducible refine wpl_storeH rfl 24 _ _ rfl w4.heap.size (hdC o.H) rfl rfl 24 _ Hn4.out (sizeC _) rfl (oneC _) ?_)
  | (with_reducible refine wpl_valw rfl _ (exec_ldcs 24 _ rfl w2.heap.size rfl 24 _ Hx5.out _ Tryz.underlying24 (sizeC _)) ?_)
  | (with_reducible refine wpl_valw rfl _ (exec_ldcs 24 _ rfl w4.heap.size rfl 24 _ Hy5.out _ Tryz.underlying24 (sizeC _)) ?_)
  | (with_reducible refine wpl_val rfl _ (exec_eqH _ _ _ rfl _ _ rfl rfl Hok.out Hok.out _ Heq.out) ?_))
 refine(same_yes A2 A4 o.n c2 c4 o.f _ (by omega) HY5.out HZ5.out).mono ?_
 rintro e w6 ⟨rfl,hB6⟩
 have HG6:=hid (HG5.out.below hB6)
 have HE6:=hid (HE5.out.below hB6)
 have HB6:=hid (HB5.out.trans (hB6.mono HB5.out.size))
 clear HG5 HE5 HB5 hB6
 clear HY5 HZ5 Hx5 Hy5
 go_wp2_with (first
  | (go_at_call 9;refine(HE6.out.code HG6.out).mono ?_;rintro x7 w7 ⟨rfl,hB7⟩;have HG7:=hid (HG6.out.below hB7);have HE7:=hid (HE6.out.below hB7);have HB7:=hid (HB6.out.trans (hB7.mono HB6.out.size));clear HG6 HE6 HB6 hB7)
  | (go_at_call 10;refine(HE7.out.at HG7.out).mono ?_;rintro x8 w8 ⟨rfl,hB8⟩;have HB8:=hid (HB7.out.trans (hB8.mono HB7.out.size));clear HB7 hB8))
 go_ret
 exact⟨rfl,HB8.out⟩
end Go.Proofs.YtlmacfmfmjhidaaGreatDoor.Wr
