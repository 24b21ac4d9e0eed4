/-
 What Unwrap of lockboxref11 returns.
-/
import Derived.Test.YtlmacfmfmjhidaaGreatDoorWr12
namespace Go.Proofs.YtlmacfmfmjhidaaGreatDoor.Wr
open Mem Bk Md Mc R6 Rc Dg Hd Go.ChangeShapes Go.WideShapes Go.ChangeAt Go.RowKit
section
variable {P:Program}{fn:Func}{R:Ending→World→Prop}{a:Act}{w:World}
theorem ret_cs4 {p q q2 q3:Tmp}{ty:TypeId} (h:fn.results=#[.cell p ty, .tmp q, .tmp q2, .tmp q3]) (hd:a.defers=[]) (g:Nat) (hp:a.tmps.getD p undef= .pointer (some ⟨g,0,none⟩)) (v:Value) (hq:a.tmps.getD q undef=v) (v2:Value) (hq2:a.tmps.getD q2 undef=v2) (v3:Value) (hq3:a.tmps.getD q3 undef=v3)
  (t:TypeId) (cs:Array Value) (hg:Blk w g t cs) (fs:Array Field) (hu:P.underlying ty=some (.struct fs)) (hi:(P.info? ty).map (·.size)=some cs.size) (hR:R (.returned (.tuple #[.agg cs,v,v2,v3])) w):bodyPost P fn R .ret a w:=by
 refine bodyPost_ret ?_ hd hR
 have hl:=run_loadVar_row (P:=P) w g t ty cs (0,0) _ hg hu rfl hi
 have hp':a.tmps[p]?.getD undef= .pointer (some ⟨g,0,none⟩):=by simpa using hp
 have hq':a.tmps[q]?.getD undef=v:=by simpa using hq
 have hq2':a.tmps[q2]?.getD undef=v2:=by simpa using hq2
 have hq3':a.tmps[q3]?.getD undef=v3:=by simpa using hq3
 simp[results,h,hp',hq',hq2',hq3',asAddr,hl]
end
def ROut (o:UO) (w:World) (e:Ending) (w':World):Prop:=
 Below w.heap.size w w'∧∃A c,e= .returned (.tuple #[.agg (hdC o.H), .slice A o.n c, .int .i64 o.c, .int .i64 o.a])∧Reads w' w'.heap.size A o.n o.f
theorem rout_bad {c a:Int}{w w':World} (hB:Below w.heap.size w w'):ROut (UO.bad c a) w (.returned (.tuple #[.agg noHd, .slice none 0 0, .int .i64 c, .int .i64 a])) w':=
 ⟨hB,none,0,rfl,(show Reads w' w'.heap.size none 0 (fun _=>0) from fun h=>absurd h (by omega))⟩
set_option maxRecDepth 100000 in
set_option maxHeartbeats 2000000 in
set_option linter.unusedSimpArgs false in
theorem ru_short (A:Option Addr) (L c n:Nat) (f:Nat→Nat) (hn:n<16) (w:World):
  Calls Tryz.prog 16 #[.slice A L c, .string (strF n f)] w (ROut (UO.bad 2 (-1)) w):=by
 have hB0:=(Below.refl w.heap.size w).alloc (Nat.le_refl _) (.cells noHd 24)
 have Hr:=hid (Blk.fresh w 24 noHd)
 have HB:=hid hB0
 have hsz:=strF_size n f
 have hn16:decide ((n:Int)<16)=true:=by simp;omega
 clear hB0 hn
 go_enter Tryz.func16,Tryz.ntmps16
 go_wp2_with (first
  | (with_reducible refine wpl_alloc rfl 24 rfl _ zHead ?_)
  | (with_reducible refine wpl_build0 rfl 24 rfl _ built0 ?_)
  | (with_reducible refine wpl_storeH rfl 24 _ _ rfl w.heap.size noHd rfl rfl 24 _ Hr.out sizeN rfl oneNo ?_))
 exact ret_cs4 Tryz.results16 rfl w.heap.size rfl _ rfl _ rfl _ rfl 24 _ (Hr.out.setRow _) _ Tryz.underlying24 sizeN (rout_bad (below_setRow' HB.out (Nat.le_refl _) _))
set_option maxRecDepth 100000 in
set_option maxHeartbeats 2000000 in
set_option linter.unusedSimpArgs false in
theorem ru_head (A:Option Addr) (L c n:Nat) (f:Nat→Nat) (hf: ∀i,f i<256) (hn:16≤n) (hn2:n≤500) (hp:0≤parZ f) (w:World):
  Calls Tryz.prog 16 #[.slice A L c, .string (strF n f)] w (ROut (UO.bad 6 (parZ f)) w):=by
 have hB0:=(Below.refl w.heap.size w).alloc (Nat.le_refl _) (.cells noHd 24)
 have Hr:=hid (Blk.fresh w 24 noHd)
 have HB:=hid hB0
 have hsz:=strF_size n f
 have hn16:decide ((n:Int)<16)=false:=by simp;omega
 have Hf:=hid hf
 have Hp:=hid hp
 have dp:decide (0≤parZ f)=true:=by simp;exact hp
 clear hB0 hf hp
 go_enter Tryz.func16,Tryz.ntmps16
 go_wp2_with (first
  | (with_reducible refine wpl_alloc rfl 24 rfl _ zHead ?_))
 refine(rparse_any n f Hf.out hn (by omega) _).mono ?_
 rintro e w1 ⟨hB1,⟨hz,-⟩ | ⟨-,rfl⟩⟩
 ·have:=Hp.out
  omega
 have Hr1:=hid (Hr.out.below hB1 Hr.out.lt)
 have HB1:=hid (HB.out.trans (hB1.mono HB.out.size))
 have Hn1:=hid (Blk.fresh w1 24 noHd)
 have hB2:Below w1.heap.size w1 ((w1.alloc (.cells noHd 24)).setRow w1.heap.size noHd):=below_setRow' ((Below.refl _ _).alloc (Nat.le_refl _) _) (Nat.le_refl _) _
 have Hr2:=hid (Hr1.out.below hB2 Hr1.out.lt)
 have HB2:=hid (HB1.out.trans (hB2.mono HB1.out.size))
 generalize parZ f=zp at*
 clear hB1 hB2 Hr HB Hr1 HB1
 go_wp2_with (first
  | (with_reducible refine wpl_alloc rfl 24 rfl _ zHead ?_)
  | (with_reducible refine wpl_storeH rfl 24 _ _ rfl w1.heap.size noHd rfl rfl 24 _ Hn1.out sizeN rfl oneNo ?_)
  | (with_reducible refine wpl_build0 rfl 24 rfl _ built0 ?_)
  | (with_reducible refine wpl_storeH rfl 24 _ _ rfl w.heap.size noHd rfl rfl 24 _ Hr2.out sizeN rfl oneNo ?_))
 exact ret_cs4 Tryz.results16 rfl w.heap.size rfl _ rfl _ rfl _ rfl 24 _ (Hr2.out.setRow _) _ Tryz.underlying24 sizeN (rout_bad (below_setRow' HB2.out (Nat.le_refl _) _))
set_option maxRecDepth 100000 in
set_option maxHeartbeats 2000000 in
set_option linter.unusedSimpArgs false in
theorem ru_keys (A:Option Addr) (L c n k:Nat) (f:Nat→Nat) (hf: ∀i,f i<256) (hn:16≤n) (hn2:n≤500) (hp:parZ f= -1) (hv:kd (f 0)=k) (hfk: ¬kfit k L) (w:World):
  Calls Tryz.prog 16 #[.slice A L c, .string (strF n f)] w (ROut (UO.bad 2 (-1)) w):=by
 have hB0:=(Below.refl w.heap.size w).alloc (Nat.le_refl _) (.cells noHd 24)
 have Hr:=hid (Blk.fresh w 24 noHd)
 have HB:=hid hB0
 have hsz:=strF_size n f
 have hn16:decide ((n:Int)<16)=false:=by simp;omega
 have Hf:=hid hf
 have Hp:=hid hp
 have Hw:=hid (par_inv hp).1
 have Hv:=hid hv
 have Hk:Hid (k=1∨k=2):=hid (hv▸wrong_kd (h:=cutH f) Hw.out)
 have Hk3:Hid (k=1∨k=2∨k=3):=hid (by have:=Hk.out;omega)
 have Hfk:=hid hfk
 obtain⟨z,hz⟩: ∃z,z=lnZ f:=⟨_,rfl⟩
 have Hz:=hid hz
 clear hB0 hf hp hv hz hfk
 go_enter Tryz.func16,Tryz.ntmps16
 go_wp2_with (first
  | (with_reducible refine wpl_alloc rfl 24 rfl _ zHead ?_))
 refine(rparse_any n f Hf.out hn (by omega) _).mono ?_
 rintro e w1 ⟨hB1,⟨-,rfl⟩ | ⟨hz,-⟩⟩
 rotate_left
 ·have:=Hp.out
  omega
 rw[show(lenZ fun i=>f (1+i))=z from Hz.out.symm]
 have Hr1:=hid (Hr.out.below hB1 Hr.out.lt)
 have HB1:=hid (HB.out.trans (hB1.mono HB.out.size))
 have Hn1:=hid (Blk.fresh w1 24 noHd)
 have hB2:Below w1.heap.size w1 ((w1.alloc (.cells noHd 24)).setRow w1.heap.size (hdC (cutH f))):=below_setRow' ((Below.refl _ _).alloc (Nat.le_refl _) _) (Nat.le_refl _) _
 have Hr2:=hid (Hr1.out.below hB2 Hr1.out.lt)
 have HB2:=hid (HB1.out.trans (hB2.mono HB1.out.size))
 have Hh2:=hid (Hn1.out.setRow (hdC (cutH f)))
 have hcv:((w1.alloc (.cells noHd 24)).setRow w1.heap.size (hdC (cutH f))).cell? ⟨w1.heap.size,0,none⟩=some (.int .u8 (f 0:Int)):=(Hh2.out.cell 0).trans rfl
 have hne:Hid (w1.heap.size≠w.heap.size):=hid (by have:=Hr1.out.lt;omega)
 clear hB1 hB2 Hr HB Hr1 HB1 Hp
 go_wp2_with (first
  | (with_reducible refine wpl_alloc rfl 24 rfl _ zHead ?_)
  | (with_reducible refine wpl_storeH rfl 24 _ _ rfl w1.heap.size (hdC (cutH f)) rfl rfl 24 _ Hn1.out (sizeC _) rfl (oneC _) ?_)
  | (with_reducible refine wpl_valw rfl _ (exec_ldc 5 _ rfl ⟨w1.heap.size,0,none⟩ rfl _ hcv (.inl ⟨_,Tryz.underlying5⟩)) ?_))
 refine(rkeys_size (f 0) k Hv.out Hk.out A L c Hfk.out _).mono ?_
 rintro e w3 ⟨rfl,hw3⟩
 subst hw3
 go_wp2_with (first
  | (with_reducible refine wpl_build0 rfl 24 rfl _ built0 ?_)
  | (with_reducible refine wpl_storeH rfl 24 _ _ rfl w.heap.size noHd rfl rfl 24 _ Hr2.out sizeN rfl oneNo ?_))
 exact ret_cs4 Tryz.results16 rfl w.heap.size rfl _ rfl _ rfl _ rfl 24 _ (Hr2.out.setRow _) _ Tryz.underlying24 sizeN (rout_bad (below_setRow' HB2.out (Nat.le_refl _) _))
set_option maxRecDepth 100000 in
set_option maxHeartbeats 2000000 in
set_option linter.unusedSimpArgs false in
theorem ru_size (A:Option Addr) (L c n k:Nat) (f:Nat→Nat) (hf: ∀i,f i<256) (hn:16≤n) (hn2:n≤500) (hp:parZ f= -1) (hv:kd (f 0)=k) (hfk:kfit k L) (hc:L≤c) (W:Nat→Nat) (hb: ∀i,i<L→W i<256) (w:World) (hX:Reads w w.heap.size A L W) (hs: ¬(lnZ f=(n:Int)∧whB (n-16) (sz k)=true)):
  Calls Tryz.prog 16 #[.slice A L c, .string (strF n f)] w (ROut (UO.bad 2 (-1)) w):=by
 have hB0:=(Below.refl w.heap.size w).alloc (Nat.le_refl _) (.cells noHd 24)
 have Hr:=hid (Blk.fresh w 24 noHd)
 have HB:=hid hB0
 have hsz:=strF_size n f
 have hn16:decide ((n:Int)<16)=false:=by simp;omega
 have Hf:=hid hf
 have Hp:=hid hp
 have Hw:=hid (par_inv hp).1
 have Hv:=hid hv
 have Hk:Hid (k=1∨k=2):=hid (hv▸wrong_kd (h:=cutH f) Hw.out)
 have Hk3:Hid (k=1∨k=2∨k=3):=hid (by have:=Hk.out;omega)
 have Hfk:=hid hfk
 have Hfit:=hid (kfit_fits hfk Hk.out)
 have Hb:=hid hb
 have HX:=hid ((hX.below hB0).more hB0.size)
 have hsp:=Md.sz_pos k
 have hso:=sz_or k
 have hs16:sz k≤16:=by omega
 have Hs:=hid hs
 obtain⟨z,hz⟩: ∃z,z=lnZ f:=⟨_,rfl⟩
 have Hz:=hid hz
 clear hB0 hf hp hv hz hfk hb hX hs
 go_enter Tryz.func16,Tryz.ntmps16
 go_wp2_with (first
  | (with_reducible refine wpl_alloc rfl 24 rfl _ zHead ?_))
 refine(rparse_any n f Hf.out hn (by omega) _).mono ?_
 rintro e w1 ⟨hB1,⟨-,rfl⟩ | ⟨hz,-⟩⟩
 rotate_left
 ·have:=Hp.out
  omega
 rw[show(lenZ fun i=>f (1+i))=z from Hz.out.symm]
 have Hr1:=hid (Hr.out.below hB1 Hr.out.lt)
 have HB1:=hid (HB.out.trans (hB1.mono HB.out.size))
 have HX1:=hid ((HX.out.below hB1).more hB1.size)
 have Hn1:=hid (Blk.fresh w1 24 noHd)
 have hB2:Below w1.heap.size w1 ((w1.alloc (.cells noHd 24)).setRow w1.heap.size (hdC (cutH f))):=below_setRow' ((Below.refl _ _).alloc (Nat.le_refl _) _) (Nat.le_refl _) _
 have Hr2:=hid (Hr1.out.below hB2 Hr1.out.lt)
 have HB2:=hid (HB1.out.trans (hB2.mono HB1.out.size))
 have Hh2:=hid (Hn1.out.setRow (hdC (cutH f)))
 have HX2:=hid ((HX1.out.below hB2).more hB2.size)
 have hcv:((w1.alloc (.cells noHd 24)).setRow w1.heap.size (hdC (cutH f))).cell? ⟨w1.heap.size,0,none⟩=some (.int .u8 (f 0:Int)):=(Hh2.out.cell 0).trans rfl
 have hne:Hid (w1.heap.size≠w.heap.size):=hid (by have:=Hr1.out.lt;omega)
 clear hB1 hB2 Hr HB Hr1 HB1 Hp
 go_wp2_with (first
  | (with_reducible refine wpl_alloc rfl 24 rfl _ zHead ?_)
  | (with_reducible refine wpl_storeH rfl 24 _ _ rfl w1.heap.size (hdC (cutH f)) rfl rfl 24 _ Hn1.out (sizeC _) rfl (oneC _) ?_)
  | (with_reducible refine wpl_valw rfl _ (exec_ldc 5 _ rfl ⟨w1.heap.size,0,none⟩ rfl _ hcv (.inl ⟨_,Tryz.underlying5⟩)) ?_))
 refine(rkeys_ok (f 0) k Hv.out Hk.out A L c W _ Hfk.out hc Hb.out HX2.out).mono ?_
 rintro e w3 ⟨A1,c1,A4,c4,rfl,hc1,hc4,hR1,hR4,hB3⟩
 have HO3:=hid hR1
 have HU3:=hid hR4
 have hh2:=Hh2
 have Hr3:=hid (Hr2.out.below hB3 Hr2.out.lt)
 have Hh3:=hid (Hh2.out.below hB3 Hh2.out.lt)
 have HB3:=hid (HB2.out.trans (hB3.mono HB2.out.size))
 clear Hr2 Hh2 HB2 hB3
 have hcv3:w3.cell? ⟨w1.heap.size,0,none⟩=some (.int .u8 (f 0:Int)):=(Hh3.out.cell 0).trans rfl
 clear hR1 hR4 HX HX1 HX2 hcv hh2 Hn1
 have hsr:(strF (n-16) fun i=>f (16+i)).size=n-16:=strF_size _ _
 have e16:((n-16:Nat):Int)=(n:Int)-16:=by omega
 obtain⟨r,hr⟩: ∃r,r=(n-16)%(2*sz k):=⟨_,rfl⟩
 have E1:Hid ((0:Int)≤((n-16:Nat):Int)∧(0:Int)< ((2*sz k:Nat):Int)∧((n-16:Nat):Int)%((2*sz k:Nat):Int)=(r:Int)):=hid ⟨by omega,by omega,by rw[hr];rfl⟩
 have E2:Hid ((2:Int)*(sz k:Int)=((2*sz k:Nat):Int)∧(0:Int)≤((2*sz k:Nat):Int)∧((2*sz k:Nat):Int)≤100000):=hid ⟨by omega,by omega,by omega⟩
 have E3:Hid ((4:Int)*(sz k:Int)=((4*sz k:Nat):Int)∧(0:Int)≤((4*sz k:Nat):Int)∧((4*sz k:Nat):Int)≤100000):=hid ⟨by omega,by omega,by omega⟩
 have hor:(z != (n:Int))=true∨((z != (n:Int))=false∧((r:Int) != 0)=true)∨((z != (n:Int))=false∧((r:Int) != 0)=false∧decide (((n-16:Nat):Int)<4*(sz k:Int))=true):=by
  have h:=Hs.out
  rw[← Hz.out] at h
  by_cases h1:z=(n:Int)
  ·by_cases h2:r=0
   ·refine .inr (.inr ⟨by simp[h1],by simp[h2],?_⟩)
    have h3: ¬(4*sz k≤n-16):=fun h3=>h ⟨h1,decide_eq_true ⟨hr▸h2,h3⟩⟩
    simp only[decide_eq_true_eq]
    omega
   exact .inr (.inl ⟨by simp[h1],by simp;omega⟩)
  exact .inl (by simpa using h1)
 clear hr e16 hso hs16 Hs
 rcases hor with d1 | ⟨d1,d2⟩ | ⟨d1,d2,d3⟩
 all_goals
  go_wp2_with (first
   | (with_reducible refine wpl_valw rfl _ (exec_ldc 5 _ rfl ⟨w1.heap.size,0,none⟩ rfl _ hcv3 (.inl ⟨_,Tryz.underlying5⟩)) ?_)
   | (go_at_call 32;refine(rkind_any (f 0) _).mono ?_;rintro x4 w4 ⟨rfl,hw4⟩;rw[hw4,Hv.out];clear hw4)
   | (go_at_call 34;refine(rsize_any k Hk3.out _).mono ?_;rintro x4 w4 ⟨rfl,hw4⟩;rw[hw4];clear hw4)
   | (with_reducible refine wpl_valw rfl _ (exec_cutSl 9 _ _ rfl n f 16 rfl rfl 16 rfl hn Tryz.underlying9) ?_)
   | ((with_reducible refine wpg_val ?_ _ (exec_mulN _ _ _ _ rfl _ _ _ rfl rfl E2.out) ?_);exact rfl)
   | ((with_reducible refine wpg_val ?_ _ (exec_mulN _ _ _ _ rfl _ _ _ rfl rfl E3.out) ?_);exact rfl)
   | ((with_reducible refine wpg_val ?_ _ (exec_remN _ _ _ _ rfl _ _ _ rfl rfl E1.out) ?_);exact rfl)
   | (with_reducible refine wpl_build0 rfl 24 rfl _ built0 ?_)
   | (with_reducible refine wpl_storeH rfl 24 _ _ rfl w.heap.size noHd rfl rfl 24 _ Hr3.out sizeN rfl oneNo ?_))
  exact ret_cs4 Tryz.results16 rfl w.heap.size rfl _ rfl _ rfl _ rfl 24 _ (Hr3.out.setRow _) _ Tryz.underlying24 sizeN (rout_bad (below_setRow' HB3.out (Nat.le_refl _) _))
set_option maxRecDepth 100000 in
set_option maxHeartbeats 2000000 in
set_option linter.unusedSimpArgs false in
theorem ru_digit (A:Option Addr) (L c n k:Nat) (f:Nat→Nat) (hf: ∀i,f i<256) (hn:16≤n) (hn2:n≤500) (hp:parZ f= -1) (hv:kd (f 0)=k) (hfk:kfit k L) (hc:L≤c) (W:Nat→Nat) (hb: ∀i,i<L→W i<256) (w:World) (hX:Reads w w.heap.size A L W) (M N:Nat) (hS:Sz k n M N f) (i:Nat) (hd:BadD 16 (n-16) (fun j=>f (16+j)) i):
  Calls Tryz.prog 16 #[.slice A L c, .string (strF n f)] w (ROut (UO.bad 16 ((16+i:Nat):Int)) w):=by
 have hB0:=(Below.refl w.heap.size w).alloc (Nat.le_refl _) (.cells noHd 24)
 have Hr:=hid (Blk.fresh w 24 noHd)
 have HB:=hid hB0
 have hsz:=strF_size n f
 have hn16:decide ((n:Int)<16)=false:=by simp;omega
 have Hf:=hid hf
 have Hp:=hid hp
 have Hw:=hid (par_inv hp).1
 have Hv:=hid hv
 have Hk:Hid (k=1∨k=2):=hid (hv▸wrong_kd (h:=cutH f) Hw.out)
 have Hk3:Hid (k=1∨k=2∨k=3):=hid (by have:=Hk.out;omega)
 have Hfk:=hid hfk
 have Hfit:=hid (kfit_fits hfk Hk.out)
 have Hb:=hid hb
 have HX:=hid ((hX.below hB0).more hB0.size)
 have hsp:=Md.sz_pos k
 have hso:=sz_or k
 have hs16:sz k≤16:=by omega
 have HLn:=hid hS.len
 have HWh:=hid hS.whole
 have Hn16:=hid hS.n16
 have HMN:=hid hS.mn
 have hM0:=hS.m0
 have hM4:M≤400:=by have:=hS.n16;omega
 have Hd:=hid hd
 obtain⟨z,hz⟩: ∃z,z=lnZ f:=⟨_,rfl⟩
 have Hz:=hid hz
 clear hB0 hf hp hv hz hfk hb hX hS hd
 go_enter Tryz.func16,Tryz.ntmps16
 go_wp2_with (first
  | (with_reducible refine wpl_alloc rfl 24 rfl _ zHead ?_))
 refine(rparse_any n f Hf.out hn (by omega) _).mono ?_
 rintro e w1 ⟨hB1,⟨-,rfl⟩ | ⟨hz,-⟩⟩
 rotate_left
 ·have:=Hp.out
  omega
 rw[show(lenZ fun i=>f (1+i))=z from Hz.out.symm]
 have Hr1:=hid (Hr.out.below hB1 Hr.out.lt)
 have HB1:=hid (HB.out.trans (hB1.mono HB.out.size))
 have HX1:=hid ((HX.out.below hB1).more hB1.size)
 have Hn1:=hid (Blk.fresh w1 24 noHd)
 have hB2:Below w1.heap.size w1 ((w1.alloc (.cells noHd 24)).setRow w1.heap.size (hdC (cutH f))):=below_setRow' ((Below.refl _ _).alloc (Nat.le_refl _) _) (Nat.le_refl _) _
 have Hr2:=hid (Hr1.out.below hB2 Hr1.out.lt)
 have HB2:=hid (HB1.out.trans (hB2.mono HB1.out.size))
 have Hh2:=hid (Hn1.out.setRow (hdC (cutH f)))
 have HX2:=hid ((HX1.out.below hB2).more hB2.size)
 have hcv:((w1.alloc (.cells noHd 24)).setRow w1.heap.size (hdC (cutH f))).cell? ⟨w1.heap.size,0,none⟩=some (.int .u8 (f 0:Int)):=(Hh2.out.cell 0).trans rfl
 have hne:Hid (w1.heap.size≠w.heap.size):=hid (by have:=Hr1.out.lt;omega)
 clear hB1 hB2 Hr HB Hr1 HB1 Hp
 go_wp2_with (first
  | (with_reducible refine wpl_alloc rfl 24 rfl _ zHead ?_)
  | (with_reducible refine wpl_storeH rfl 24 _ _ rfl w1.heap.size (hdC (cutH f)) rfl rfl 24 _ Hn1.out (sizeC _) rfl (oneC _) ?_)
  | (with_reducible refine wpl_valw rfl _ (exec_ldc 5 _ rfl ⟨w1.heap.size,0,none⟩ rfl _ hcv (.inl ⟨_,Tryz.underlying5⟩)) ?_))
 refine(rkeys_ok (f 0) k Hv.out Hk.out A L c W _ Hfk.out hc Hb.out HX2.out).mono ?_
 rintro e w3 ⟨A1,c1,A4,c4,rfl,hc1,hc4,hR1,hR4,hB3⟩
 have HO3:=hid hR1
 have HU3:=hid hR4
 have hh2:=Hh2
 have Hr3:=hid (Hr2.out.below hB3 Hr2.out.lt)
 have Hh3:=hid (Hh2.out.below hB3 Hh2.out.lt)
 have HB3:=hid (HB2.out.trans (hB3.mono HB2.out.size))
 clear Hr2 Hh2 HB2 hB3
 have hcv3:w3.cell? ⟨w1.heap.size,0,none⟩=some (.int .u8 (f 0:Int)):=(Hh3.out.cell 0).trans rfl
 clear hR1 hR4 HX HX1 HX2 hcv hh2 Hn1
 have hsr:(strF (n-16) fun i=>f (16+i)).size=n-16:=strF_size _ _
 have dz:(z != (n:Int))=false:=by rw[Hz.out,HLn.out];simp
 obtain⟨r0,hr0⟩: ∃r,r=(n-16)%(2*sz k):=⟨_,rfl⟩
 obtain⟨hw1,hw2⟩:=of_decide_eq_true HWh.out
 have E1:Hid ((0:Int)≤((n-16:Nat):Int)∧(0:Int)< ((2*sz k:Nat):Int)∧((n-16:Nat):Int)%((2*sz k:Nat):Int)=(r0:Int)):=hid ⟨by omega,by omega,by rw[hr0];rfl⟩
 have E2:Hid ((2:Int)*(sz k:Int)=((2*sz k:Nat):Int)∧(0:Int)≤((2*sz k:Nat):Int)∧((2*sz k:Nat):Int)≤100000):=hid ⟨by omega,by omega,by omega⟩
 have E3:Hid ((4:Int)*(sz k:Int)=((4*sz k:Nat):Int)∧(0:Int)≤((4*sz k:Nat):Int)∧((4*sz k:Nat):Int)≤100000):=hid ⟨by omega,by omega,by omega⟩
 have dr:((r0:Int) != 0)=false:=by simp;omega
 have d4:decide (((n-16:Nat):Int)<4*(sz k:Int))=false:=by simp;omega
 clear hr0 hw1 hw2
 go_wp2_with (first
  | (with_reducible refine wpl_valw rfl _ (exec_ldc 5 _ rfl ⟨w1.heap.size,0,none⟩ rfl _ hcv3 (.inl ⟨_,Tryz.underlying5⟩)) ?_)
  | (go_at_call 32;refine(rkind_any (f 0) _).mono ?_;rintro x4 w4 ⟨rfl,hw4⟩;rw[hw4,Hv.out];clear hw4)
  | (go_at_call 34;refine(rsize_any k Hk3.out _).mono ?_;rintro x4 w4 ⟨rfl,hw4⟩;rw[hw4];clear hw4)
  | (with_reducible refine wpl_valw rfl _ (exec_cutSl 9 _ _ rfl n f 16 rfl rfl 16 rfl hn Tryz.underlying9) ?_)
  | ((with_reducible refine wpg_val ?_ _ (exec_mulN _ _ _ _ rfl _ _ _ rfl rfl E2.out) ?_);exact rfl)
  | ((with_reducible refine wpg_val ?_ _ (exec_mulN _ _ _ _ rfl _ _ _ rfl rfl E3.out) ?_);exact rfl)
  | ((with_reducible refine wpg_val ?_ _ (exec_remN _ _ _ _ rfl _ _ _ rfl rfl E1.out) ?_);exact rfl))
 refine(first_bad (n-16) (fun j=>f (16+j)) 16 i _ (fun _=>Hf.out _) (by omega) Hd.out).mono ?_
 rintro e w5 ⟨rfl,hw5⟩
 rw[hw5]
 clear hw5
 have hi5:i≤500:=by have:=Hd.out.1;omega
 have E5:Hid ((16:Int)+(i:Int)=((16+i:Nat):Int)∧(0:Int)≤((16+i:Nat):Int)∧((16+i:Nat):Int)≤100000):=hid ⟨by omega,by omega,by omega⟩
 go_wp2_with (first
  | (with_reducible refine wpl_build0 rfl 24 rfl _ built0 ?_)
  | (with_reducible refine wpl_val rfl _ (exec_addN _ _ _ _ rfl _ _ _ rfl rfl E5.out) ?_)
  | (with_reducible refine wpl_storeH rfl 24 _ _ rfl w.heap.size noHd rfl rfl 24 _ Hr3.out sizeN rfl oneNo ?_))
 exact ret_cs4 Tryz.results16 rfl w.heap.size rfl _ rfl _ rfl _ rfl 24 _ (Hr3.out.setRow _) _ Tryz.underlying24 sizeN (rout_bad (below_setRow' HB3.out (Nat.le_refl _) _))
set_option maxRecDepth 100000 in
set_option maxHeartbeats 4000000 in
set_option linter.unusedSimpArgs false in
theorem ru_rest (A:Option Addr) (L c n k:Nat) (f:Nat→Nat) (hf: ∀i,f i<256) (hn:16≤n) (hn2:n≤500) (hp:parZ f= -1) (hv:kd (f 0)=k) (hfk:kfit k L) (hc:L≤c) (W:Nat→Nat) (hb: ∀i,i<L→W i<256) (w:World) (hX:Reads w w.heap.size A L W) (M N:Nat) (hS:Sz k n M N f) (hd cd tx:Nat→Nat) (hall:AllD 16 (n-16) (fun j=>f (16+j))) (hdec:Dec k L W M N f hd cd tx) (r:Bool) (heq:eqB (sz k) (cmF k L W M f tx) cd=r) (b q:Nat) (hbb:b=256*tx 0+tx 1) (hq:q=b/8) (o:UO) (ho:(r=false∧o=UO.bad 4 (-1))∨(r=true∧¬formP k (f 7) M b∧o=UO.bad 6 (-1))∨(r=true∧formP k (f 7) M b∧o=⟨cutH f,q,fun i=>tx (2+i),0,-1⟩)):
  Calls Tryz.prog 16 #[.slice A L c, .string (strF n f)] w (ROut (o) w):=by
 have hB0:=(Below.refl w.heap.size w).alloc (Nat.le_refl _) (.cells noHd 24)
 have Hr:=hid (Blk.fresh w 24 noHd)
 have HB:=hid hB0
 have hsz:=strF_size n f
 have hn16:decide ((n:Int)<16)=false:=by simp;omega
 have Hf:=hid hf
 have Hp:=hid hp
 have Hw:=hid (par_inv hp).1
 have Hv:=hid hv
 have Hk:Hid (k=1∨k=2):=hid (hv▸wrong_kd (h:=cutH f) Hw.out)
 have Hk3:Hid (k=1∨k=2∨k=3):=hid (by have:=Hk.out;omega)
 have Hfk:=hid hfk
 have Hfit:=hid (kfit_fits hfk Hk.out)
 have Hb:=hid hb
 have HX:=hid ((hX.below hB0).more hB0.size)
 have hsp:=Md.sz_pos k
 have hso:=sz_or k
 have hs16:sz k≤16:=by omega
 have HLn:=hid hS.len
 have HWh:=hid hS.whole
 have Hn16:=hid hS.n16
 have HMN:=hid hS.mn
 have hM0:=hS.m0
 have hM4:M≤400:=by have:=hS.n16;omega
 have Hall:=hid hall
 have Hdec:=hid hdec
 have Heq:Hid (eqB (sz k) cd (cmF k L W M f tx)=r):=hid ((eqB_bool ⟨fun h=>eqB_symm h,fun h=>eqB_symm h⟩).trans heq)
 have Ho:=hid ho
 have Hbb:=hid hbb
 have Hq:=hid hq
 have HnB:Hid (n-16=2*(M+sz k)):=hid (by have:=hS.n16;omega)
 obtain⟨z,hz⟩: ∃z,z=lnZ f:=⟨_,rfl⟩
 have Hz:=hid hz
 clear hB0 hf hp hv hz hfk hb hX hS hall hdec heq ho hbb hq
 go_enter Tryz.func16,Tryz.ntmps16
 go_wp2_with (first
  | (with_reducible refine wpl_alloc rfl 24 rfl _ zHead ?_))
 refine(rparse_any n f Hf.out hn (by omega) _).mono ?_
 rintro e w1 ⟨hB1,⟨-,rfl⟩ | ⟨hz,-⟩⟩
 rotate_left
 ·have:=Hp.out
  omega
 rw[show(lenZ fun i=>f (1+i))=z from Hz.out.symm]
 have Hr1:=hid (Hr.out.below hB1 Hr.out.lt)
 have HB1:=hid (HB.out.trans (hB1.mono HB.out.size))
 have HX1:=hid ((HX.out.below hB1).more hB1.size)
 have Hn1:=hid (Blk.fresh w1 24 noHd)
 have hB2:Below w1.heap.size w1 ((w1.alloc (.cells noHd 24)).setRow w1.heap.size (hdC (cutH f))):=below_setRow' ((Below.refl _ _).alloc (Nat.le_refl _) _) (Nat.le_refl _) _
 have Hr2:=hid (Hr1.out.below hB2 Hr1.out.lt)
 have HB2:=hid (HB1.out.trans (hB2.mono HB1.out.size))
 have Hh2:=hid (Hn1.out.setRow (hdC (cutH f)))
 have HX2:=hid ((HX1.out.below hB2).more hB2.size)
 have hcv:((w1.alloc (.cells noHd 24)).setRow w1.heap.size (hdC (cutH f))).cell? ⟨w1.heap.size,0,none⟩=some (.int .u8 (f 0:Int)):=(Hh2.out.cell 0).trans rfl
 have hne:Hid (w1.heap.size≠w.heap.size):=hid (by have:=Hr1.out.lt;omega)
 clear hB1 hB2 Hr HB Hr1 HB1 Hp
 go_wp2_with (first
  | (with_reducible refine wpl_alloc rfl 24 rfl _ zHead ?_)
  | (with_reducible refine wpl_storeH rfl 24 _ _ rfl w1.heap.size (hdC (cutH f)) rfl rfl 24 _ Hn1.out (sizeC _) rfl (oneC _) ?_)
  | (with_reducible refine wpl_valw rfl _ (exec_ldc 5 _ rfl ⟨w1.heap.size,0,none⟩ rfl _ hcv (.inl ⟨_,Tryz.underlying5⟩)) ?_))
 refine(rkeys_ok (f 0) k Hv.out Hk.out A L c W _ Hfk.out hc Hb.out HX2.out).mono ?_
 rintro e w3 ⟨A1,c1,A4,c4,rfl,hc1,hc4,hR1,hR4,hB3⟩
 have HO3:=hid hR1
 have HU3:=hid hR4
 have hh2:=Hh2
 have Hr3:=hid (Hr2.out.below hB3 Hr2.out.lt)
 have Hh3:=hid (Hh2.out.below hB3 Hh2.out.lt)
 have HB3:=hid (HB2.out.trans (hB3.mono HB2.out.size))
 clear Hr2 Hh2 HB2 hB3
 have hcv3:w3.cell? ⟨w1.heap.size,0,none⟩=some (.int .u8 (f 0:Int)):=(Hh3.out.cell 0).trans rfl
 clear hR1 hR4 HX HX1 HX2 hcv hh2 Hn1
 have hsr:(strF (n-16) fun i=>f (16+i)).size=n-16:=strF_size _ _
 have dz:(z != (n:Int))=false:=by rw[Hz.out,HLn.out];simp
 obtain⟨r0,hr0⟩: ∃r,r=(n-16)%(2*sz k):=⟨_,rfl⟩
 obtain⟨hw1,hw2⟩:=of_decide_eq_true HWh.out
 have E1:Hid ((0:Int)≤((n-16:Nat):Int)∧(0:Int)< ((2*sz k:Nat):Int)∧((n-16:Nat):Int)%((2*sz k:Nat):Int)=(r0:Int)):=hid ⟨by omega,by omega,by rw[hr0];rfl⟩
 have E2:Hid ((2:Int)*(sz k:Int)=((2*sz k:Nat):Int)∧(0:Int)≤((2*sz k:Nat):Int)∧((2*sz k:Nat):Int)≤100000):=hid ⟨by omega,by omega,by omega⟩
 have E3:Hid ((4:Int)*(sz k:Int)=((4*sz k:Nat):Int)∧(0:Int)≤((4*sz k:Nat):Int)∧((4*sz k:Nat):Int)≤100000):=hid ⟨by omega,by omega,by omega⟩
 have dr:((r0:Int) != 0)=false:=by simp;omega
 have d4:decide (((n-16:Nat):Int)<4*(sz k:Int))=false:=by simp;omega
 clear hr0 hw1 hw2
 go_wp2_with (first
  | (with_reducible refine wpl_valw rfl _ (exec_ldc 5 _ rfl ⟨w1.heap.size,0,none⟩ rfl _ hcv3 (.inl ⟨_,Tryz.underlying5⟩)) ?_)
  | (go_at_call 32;refine(rkind_any (f 0) _).mono ?_;rintro x4 w4 ⟨rfl,hw4⟩;rw[hw4,Hv.out];clear hw4)
  | (go_at_call 34;refine(rsize_any k Hk3.out _).mono ?_;rintro x4 w4 ⟨rfl,hw4⟩;rw[hw4];clear hw4)
  | (with_reducible refine wpl_valw rfl _ (exec_cutSl 9 _ _ rfl n f 16 rfl rfl 16 rfl hn Tryz.underlying9) ?_)
  | ((with_reducible refine wpg_val ?_ _ (exec_mulN _ _ _ _ rfl _ _ _ rfl rfl E2.out) ?_);exact rfl)
  | ((with_reducible refine wpg_val ?_ _ (exec_mulN _ _ _ _ rfl _ _ _ rfl rfl E3.out) ?_);exact rfl)
  | ((with_reducible refine wpg_val ?_ _ (exec_remN _ _ _ _ rfl _ _ _ rfl rfl E1.out) ?_);exact rfl))
 refine(first_ok (n-16) (fun j=>f (16+j)) 16 _ (fun _=>Hf.out _) (by omega) Hall.out).mono ?_
 rintro e w5 ⟨rfl,hw5⟩
 rw[hw5]
 clear hw5
 have hBL: ∀i,i<M+sz k→unhF (fun j=>f (16+j)) i<256:=fun i hi=>unhF_lt Hall.out (by have:=HnB.out;omega)
 have Hhb:Hid (∀i,i<M→hd i<256):=hid fun i hi=>by rw[← Hdec.out.eh i hi];exact hBL _ (by omega)
 have Hcb:Hid (∀i,i<sz k→cd i<256):=hid fun i hi=>by rw[← Hdec.out.ec i hi];exact hBL _ (by omega)
 have Htb:Hid (∀i,i<M→tx i<256):=hid fun i hi=>by
  rw[← Hdec.out.et i hi]
  have h1:M=N*sz k:=HMN.out
  have hi:i<N*sz k:=h1▸hi
  exact chain_lt Hfit.out (by have:=Hk.out;omega) (kyF_lt (e:=0) Hfk.out Hk.out Hb.out (by decide)) Hcb.out (fun i hi=>Hhb.out i (h1.symm▸hi)) i hi
 have Hct:Hid (∀i,i<16+M→cat 16 f tx i<256):=hid fun i hi=>by
  unfold cat
  split
  ·exact Hf.out _
  exact Htb.out _ (by omega)
 have E6:Hid (((M+sz k:Nat):Int)-(sz k:Int)=(M:Int)∧(0:Int)≤(M:Int)∧(M:Int)≤100000):=hid ⟨by omega,by omega,by omega⟩
 have hM2:2≤M:=by
  have h1:=HMN.out
  have h2:=sz_or k
  rcases N with _ | N
  ·omega
  rw[Nat.succ_mul] at h1
  omega
 have hBl:M+sz k≤1000:=by omega
 have HB0':Hid (0<M+sz k∧M≤M+sz k):=hid ⟨by omega,by omega⟩
 clear hBL
 generalize hBB:M+sz k=B' at*
 go_wp2_with fail
 refine(runhex_any (n-16) B' (fun j=>f (16+j)) _ (fun _=>Hf.out _) hBl HnB.out Hall.out).mono ?_
 rintro e w6 ⟨v6,rfl,ho6,hB6⟩
 obtain⟨g6,c6,rfl,hc6⟩:=own_at ho6 HB0'.out.1
 have HRh6:=hid ((ho6.reads.less (m:=M) HB0'.out.2).ext fun i hi=>Hdec.out.eh i hi)
 have HRc6:=hid ((reads_tail (q:=M) (n:=sz k) ho6.reads (by omega)).ext fun i hi=>Hdec.out.ec i hi)
 have Hr6:=hid (Hr3.out.below hB6 Hr3.out.lt)
 have Hh6:=hid (Hh3.out.below hB6 Hh3.out.lt)
 have HO6:=hid ((HO3.out.below hB6).more hB6.size)
 have HU6:=hid ((HU3.out.below hB6).more hB6.size)
 have HB6:=hid (HB3.out.trans (hB6.mono HB3.out.size))
 clear Hr3 Hh3 HO3 HU3 HB3 hB6
 have hMc:M≤c6:=Nat.le_trans HB0'.out.2 hc6
 obtain⟨ads,hads⟩: ∃a:Addr,a=(⟨g6,0,none⟩:Addr).add M:=⟨_,rfl⟩
 have hcutL:Hid (∀(x:Act) (o:Oper) (w0:World) (p lo:Operand),o.op= .slice 22 p (some lo) none none→x.eval p= .slice (some ⟨g6,0,none⟩) B' c6→x.eval lo= .int .i64 (M:Int)→(execOp x.eval o).run Tryz.prog w0= .ok (.value (.slice (some ads) (sz k) (c6-M))) w0):=hid fun x o w0 p lo h1 h2 h3=>hads▸wcutL p lo h1 ⟨g6,0,none⟩ B' c6 M (sz k) _ h2 h3 rfl hBB.symm hsp hc6
 rw[← hads] at HRc6
 clear hads ho6
 go_wp2_with (first
  | (with_reducible refine wpl_val rfl _ (exec_subN _ _ _ _ rfl _ _ _ rfl rfl E6.out) ?_)
  | (with_reducible refine wpl_val rfl _ (hcutL.out _ _ _ _ _ rfl rfl rfl) ?_)
  | (with_reducible refine wpl_build0 rfl 72 rfl _ builtB0 ?_)
  | (with_reducible refine wpl_val rfl _ (wcutH _ _ rfl ⟨g6,0,none⟩ B' c6 M _ rfl rfl rfl hMc) ?_))
 refine(rmode12 k L Hk.out Hfit.out A1 c1 (kyF k L W 0) hc1 (kyF_lt Hfk.out Hk.out Hb.out (by decide)) true (some ads) (c6-M) cd (some ⟨g6,0,none⟩) M c6 N hd _ HO6.out HMN.out (by omega) hMc Hhb.out HRh6.out Hcb.out HRc6.out).mono ?_
 rintro e w8 ⟨dA,dn,dc,uA,un,uc,v8,rfl,ho8,hB8⟩
 have ho8:=ho8.ext fun i hi=>Hdec.out.et i (by omega)
 obtain⟨gt,ct,rfl,hct⟩:=own_at ho8 hM0
 obtain⟨adt,hadt⟩: ∃a:Addr,a=⟨gt,0,none⟩:=⟨_,rfl⟩
 rw[← hadt] at ho8 ⊢
 have hB9:=(Below.refl w8.heap.size w8).alloc (Nat.le_refl _) (.cells (row 2 (bookC (.slice dA dn dc) (.slice uA un uc))) 72)
 obtain⟨w9,hw9⟩: ∃x,x=(w8.alloc (.cells (row 2 (bookC (.slice dA dn dc) (.slice uA un uc))) 72)):=⟨_,rfl⟩
 rw[← hw9] at hB9
 have Hw9:=hid hw9
 clear hw9
 have hBd:=hB8.trans (hB9.mono hB8.size)
 have HT9:=hid (ho8.below hB9 (Nat.le_refl _))
 have Hx9:=hid HT9.out.reads
 have Hr9:=hid (Hr6.out.below hBd Hr6.out.lt)
 have Hh9:=hid (Hh6.out.below hBd Hh6.out.lt)
 have HU9:=hid ((HU6.out.below hBd).more hBd.size)
 have HRc9:=hid ((HRc6.out.below hBd).more hBd.size)
 have HB9:=hid (HB6.out.trans (hBd.mono HB6.out.size))
 clear Hr6 Hh6 HU6 HRc6 HB6 hBd
 clear hB8 hB9 ho8 hadt HO6 HRh6
 go_wp2_with (first
  | (with_reducible refine wpl_alloc rfl 72 rfl _ zRB2 ?_)
  | ((with_reducible refine wpl_store_newS rfl 72 _ _ rfl w8 _ 2 _ (one2 _ _ _ _ _ _) rfl rfl 72 iRB (row_size _ _) ?_);rw[← Hw9.out])
  | (with_reducible refine wpl_build0 rfl 72 rfl _ builtB0 ?_)
  | (with_reducible refine wpl_valw rfl _ (exec_cutSh 9 _ _ rfl n f 16 rfl rfl 16 rfl hn Tryz.underlying9) ?_)
  | (with_reducible refine wpl_valw rfl _ (exec_bytes _ rfl 16 f rfl) ?_)
  | (at_builtin;have hcv:=cv_new w9 16 f (by omega) (fun i _=>Hf.out i);have hbb:=below_bytes w9 5 (strF 16 f);refine wpl_app_cv rfl _ _ rfl w9.heap.size 16 _ f rfl hcv adt M ct tx _ ((Hx9.out.below hbb).more hbb.size) rfl hM0 (by omega) ?_))
 intro g10 c10 w10 hc10 hR10 hB10
 have hBc:Below w9.heap.size w9 w10:=(below_bytes w9 5 (strF 16 f)).trans hB10
 have Hr10:=hid (Hr9.out.below hBc Hr9.out.lt)
 have Hh10:=hid (Hh9.out.below hBc Hh9.out.lt)
 have HU10:=hid ((HU9.out.below hBc).more hBc.size)
 have HRc10:=hid ((HRc9.out.below hBc).more hBc.size)
 have HT10:=hid (HT9.out.below hBc (Nat.le_refl _))
 have HB10:=hid (HB9.out.trans (hBc.mono HB9.out.size))
 clear Hr9 Hh9 HU9 HRc9 HT9 HB9 hBc
 clear hB10
 clear Hw9
 go_wp2_with fail
 refine(rcmac12 k L Hk.out Hfit.out A4 c4 (kyF k L W 1) hc4 (kyF_lt Hfk.out Hk.out Hb.out (by decide)) (some ⟨g10,0,none⟩) (16+M) c10 (cat 16 f tx) _ HU10.out (by omega) (fun h=>by cases h) Hct.out hR10).mono ?_
 rintro e w11 ⟨bA,bn,bc,tA,tn,tc,A11,c11,rfl,hc11,hR11,hB11⟩
 have hR11:Reads w11 w11.heap.size A11 (sz k) (cmF k L W M f tx):=hR11
 have hB12:=(Below.refl w11.heap.size w11).alloc (Nat.le_refl _) (.cells (row 2 (bookC (.slice bA bn bc) (.slice tA tn tc))) 72)
 have hBf:=hB11.trans (hB12.mono hB11.size)
 have HM12:=hid ((hR11.below hB12).more hB12.size)
 have Hr12:=hid (Hr10.out.below hBf Hr10.out.lt)
 have Hh12:=hid (Hh10.out.below hBf Hh10.out.lt)
 have HRc12:=hid ((HRc10.out.below hBf).more hBf.size)
 have HT12:=hid (HT10.out.below hBf (Nat.le_refl _))
 have HB12:=hid (HB10.out.trans (hBf.mono HB10.out.size))
 clear Hr10 Hh10 HRc10 HT10 HB10 hBf
 clear hB11 hB12 hR11 hR10 HU10
 go_wp2_with (first
  | (with_reducible refine wpl_alloc rfl 72 rfl _ zRB2 ?_)
  | (with_reducible refine wpl_store_newS rfl 72 _ _ rfl w11 _ 2 _ (one2 _ _ _ _ _ _) rfl rfl 72 iRB (row_size _ _) ?_))
 refine(same_any (some ads) A11 (sz k) (c6-M) c11 cd (cmF k L W M f tx) _ (by omega) HRc12.out HM12.out).mono ?_
 rintro e w13 ⟨rfl,hB13⟩
 rw[Heq.out]
 have Hr13:=hid (Hr12.out.below hB13 Hr12.out.lt)
 have Hh13:=hid (Hh12.out.below hB13 Hh12.out.lt)
 have HT13:=hid (HT12.out.below hB13 (Nat.le_refl _))
 have HB13:=hid (HB12.out.trans (hB13.mono HB12.out.size))
 clear Hr12 Hh12 HT12 HB12 hB13
 have ho:=Ho.out
 clear HRc12 HM12 Ho Heq hcutL E1 E2 E3 E6 hcv3 Hcb Hhb Hct Hdec Hall HnB HWh
 rcases ho with⟨rfl,rfl⟩ | ⟨rfl,hform,rfl⟩ | ⟨rfl,hform,rfl⟩
 ·go_wp2_with (first
    | (with_reducible refine wpl_build0 rfl 24 rfl _ built0 ?_)
    | (with_reducible refine wpl_storeH rfl 24 _ _ rfl w.heap.size noHd rfl rfl 24 _ Hr13.out sizeN rfl oneNo ?_))
  exact ret_cs4 Tryz.results16 rfl w.heap.size rfl _ rfl _ rfl _ rfl 24 _ (Hr13.out.setRow _) _ Tryz.underlying24 sizeN (rout_bad (below_setRow' HB13.out (Nat.le_refl _) _))
 ·have hx0:=Htb.out 0 (by omega)
  have hx1:=Htb.out 1 (by omega)
  have hal:=(cells_reads HT13.out.reads (by omega)).1
  have hcs:=(cells_reads HT13.out.reads (by omega)).2
  have hs0:w13.cell? (adt.add 0)=some (.int .u8 ((tx 0:Nat):Int)):=hcs 0 (by omega)
  have hs1:w13.cell? (adt.add 1)=some (.int .u8 ((tx 1:Nat):Int)):=hcs 1 (by omega)
  have ha0:(adt.add 0).block<w13.heap.size:=by rw[add_block];exact hal
  have ha1:(adt.add 1).block<w13.heap.size:=by rw[add_block];exact hal
  have EM:Hid ((256:Int)*((tx 0:Nat):Int)=((256*tx 0:Nat):Int)∧(0:Int)≤((256*tx 0:Nat):Int)∧((256*tx 0:Nat):Int)≤100000):=hid ⟨by omega,by omega,by omega⟩
  have EP:Hid (((256*tx 0:Nat):Int)+((tx 1:Nat):Int)=((256*tx 0+tx 1:Nat):Int)∧(0:Int)≤((256*tx 0+tx 1:Nat):Int)∧((256*tx 0+tx 1:Nat):Int)≤100000):=hid ⟨by omega,by omega,by omega⟩
  have hb7:b≤65535:=by have:=Hbb.out;omega
  clear hcs
  go_wp2_with fail
  refine wp_region_held_drew (S:=fun W=>Below w13.heap.size w13 W) (by kernel_rfl) (Below.refl _ _).drew (fun hS0=>?_)
  refine ztk (i:=0) (v:= .slice (some adt) M ct) rfl (fun _ _=>exec_move _ rfl _ rfl) hS0 ?_
  (try simp only[Act.put,zza,zzb,zzc,zzd,zze,zzf])
  refine ztk (i:=1) (v:= .pointer (some (adt.add 0))) rfl (fun _ _=>exec_slW 22 _ _ rfl adt M ct rfl .i64 _ rfl 0 rfl 5 Tryz.underlying22 (by omega) Dg.i8q) hS0 ?_
  (try simp only[Act.put,zza,zzb,zzc,zzd,zze,zzf])
  refine ztk (i:=2) (v:= .int .u8 ((tx 0:Nat):Int)) rfl (fun W hW=>exec_ld 5 _ rfl _ rfl .u8 Tryz.underlying5 _ ((hW.cell (p:=adt.add 0) ha0).trans hs0)) hS0 ?_
  (try simp only[Act.put,zza,zzb,zzc,zzd,zze,zzf])
  refine ztk (i:=3) (v:= .int .i64 ((tx 0:Nat):Int)) rfl (fun _ _=>exec_cW _ _ _ rfl _ hx0 rfl Tryz.underlying5 Tryz.underlying3) hS0 ?_
  (try simp only[Act.put,zza,zzb,zzc,zzd,zze,zzf])
  refine ztk (i:=4) (v:= .int .i64 ((256*tx 0:Nat):Int)) rfl (fun _ _=>exec_mulN _ _ _ _ rfl _ _ _ rfl rfl EM.out) hS0 ?_
  (try simp only[Act.put,zza,zzb,zzc,zzd,zze,zzf])
  refine ztk (i:=5) (v:= .slice (some adt) M ct) rfl (fun _ _=>exec_move _ rfl _ rfl) hS0 ?_
  (try simp only[Act.put,zza,zzb,zzc,zzd,zze,zzf])
  refine ztk (i:=6) (v:= .pointer (some (adt.add 1))) rfl (fun _ _=>exec_slW 22 _ _ rfl adt M ct rfl .i64 _ rfl 1 rfl 5 Tryz.underlying22 (by omega) Dg.i8q) hS0 ?_
  (try simp only[Act.put,zza,zzb,zzc,zzd,zze,zzf])
  refine ztk (i:=7) (v:= .int .u8 ((tx 1:Nat):Int)) rfl (fun W hW=>exec_ld 5 _ rfl _ rfl .u8 Tryz.underlying5 _ ((hW.cell (p:=adt.add 1) ha1).trans hs1)) hS0 ?_
  (try simp only[Act.put,zza,zzb,zzc,zzd,zze,zzf])
  refine ztk (i:=8) (v:= .int .i64 ((tx 1:Nat):Int)) rfl (fun _ _=>exec_cW _ _ _ rfl _ hx1 rfl Tryz.underlying5 Tryz.underlying3) hS0 ?_
  (try simp only[Act.put,zza,zzb,zzc,zzd,zze,zzf])
  refine ztk (i:=9) (v:= .int .i64 ((256*tx 0+tx 1:Nat):Int)) rfl (fun _ _=>exec_addN _ _ _ _ rfl _ _ _ rfl rfl EP.out) hS0 ?_
  (try simp only[Act.put,zza,zzb,zzc,zzd,zze,zzf])
  refine ztk (i:=10) (v:= .int .i64 ((256*tx 0+tx 1:Nat):Int)) rfl (fun _ _=>exec_assign _ rfl _ rfl) hS0 ?_
  (try simp only[Act.put,zza,zzb,zzc,zzd,zze,zzf])
  refine wpAnyH_done (by kernel_rfl) ?_ _
  obtain⟨w14,hw14⟩: ∃x,x=w13.drew:=⟨_,rfl⟩
  rw[← hw14] at hS0 ⊢
  rw[← Hbb.out]
  have Hr14:=hid (Hr13.out.below hS0 Hr13.out.lt)
  have Hh14:=hid (Hh13.out.below hS0 Hh13.out.lt)
  have HT14:=hid (HT13.out.below hS0 (Nat.le_refl _))
  have HB14:=hid (HB13.out.trans (hS0.mono HB13.out.size))
  clear Hr13 Hh13 HT13 HB13 hS0
  have hcv4:w14.cell? ⟨w1.heap.size,0,none⟩=some (.int .u8 (f 0:Int)):=(Hh14.out.cell 0).trans rfl
  have hca4:w14.cell? ⟨w1.heap.size,2,none⟩=some (.int .u8 (f 7:Int)):=(Hh14.out.cell 2).trans rfl
  have Hka:Hid (ka (f 7)=1∨ka (f 7)=2):=hid (wrong_ka Hw.out)
  clear hw14 hs0 hs1 ha0 ha1 hal EM EP hx0 hx1
  have Q1:Hid ((0:Int)≤(b:Int)∧(0:Int)<8∧(b:Int)/8=(q:Int)∧(0:Int)≤(q:Int)∧(q:Int)≤100000):=hid ⟨by omega,by omega,by have:=Hq.out;omega,by omega,by have:=Hq.out;omega⟩
  have Q2:Hid ((0:Int)≤(b:Int)∧(0:Int)<8∧(b:Int)%8=((b%8:Nat):Int)):=hid ⟨by omega,by omega,by omega⟩
  by_cases h1:b%8=0
  rotate_left
  ·have e0:(((b%8:Nat):Int) != 0)=true:=by simp;omega
   generalize hrr:b%8=r8 at*
   clear h1 hrr
   go_wp2_with (first
     | (with_reducible refine wpl_val rfl _ (exec_remN _ _ _ _ rfl _ _ _ rfl rfl Q2.out) ?_)
     | (with_reducible refine wpl_build0 rfl 24 rfl _ built0 ?_)
     | (with_reducible refine wpl_storeH rfl 24 _ _ rfl w.heap.size noHd rfl rfl 24 _ Hr14.out sizeN rfl oneNo ?_))
   exact ret_cs4 Tryz.results16 rfl w.heap.size rfl _ rfl _ rfl _ rfl 24 _ (Hr14.out.setRow _) _ Tryz.underlying24 sizeN (rout_bad (below_setRow' HB14.out (Nat.le_refl _) _))
  have e0:(((b%8:Nat):Int) != 0)=false:=by simp;omega
  by_cases h2:kfit (ka (f 7)) q
  rotate_left
  ·have hdk:decide (kfit (ka (f 7)) q)=false:=decide_eq_false h2
   generalize hrr:b%8=r8 at*
   clear h1 h2 hrr
   go_wp2_with (first
     | (with_reducible refine wpl_val rfl _ (exec_remN _ _ _ _ rfl _ _ _ rfl rfl Q2.out) ?_)
     | ((with_reducible refine wpg_val ?_ _ (exec_quoN _ _ _ _ rfl _ _ _ rfl rfl Q1.out) ?_);exact rfl)
     | ((with_reducible refine wpg_val ?_ _ (exec_ldc 5 _ rfl ⟨w1.heap.size,2,none⟩ rfl _ hca4 (.inl ⟨_,Tryz.underlying5⟩)) ?_);exact rfl)
     | (go_at_call 12;refine(rfits_any (f 7) q Hka.out _).mono ?_;rintro x5 w5 ⟨rfl,hw5⟩;rw[hw5,hdk];clear hw5)
     | (with_reducible refine wpl_build0 rfl 24 rfl _ built0 ?_)
     | (with_reducible refine wpl_storeH rfl 24 _ _ rfl w.heap.size noHd rfl rfl 24 _ Hr14.out sizeN rfl oneNo ?_))
   exact ret_cs4 Tryz.results16 rfl w.heap.size rfl _ rfl _ rfl _ rfl 24 _ (Hr14.out.setRow _) _ Tryz.underlying24 sizeN (rout_bad (below_setRow' HB14.out (Nat.le_refl _) _))
  have h3:M≠2+q+fill (sz k) q:=fun h3=>hform ⟨h1,by rw[← Hq.out];exact h2,by rw[← Hq.out];exact h3⟩
  have hdk:decide (kfit (ka (f 7)) q)=true:=decide_eq_true h2
  have HF:=hid (fillZ_of (n:=q) Hv.out Hk.out)
  have hfl:fill (sz k) q<sz k:=fill_lt (sz_or k)
  have hqq:=kfit_le h2
  have Q3:Hid (((2:Int)+(q:Int))=((2+q:Nat):Int)∧(0:Int)≤((2+q:Nat):Int)∧((2+q:Nat):Int)≤100000):=hid ⟨by omega,by omega,by omega⟩
  have Q4:Hid ((((2+q:Nat):Int)+(fill (sz k) q:Int))=((2+q+fill (sz k) q:Nat):Int)∧(0:Int)≤((2+q+fill (sz k) q:Nat):Int)∧((2+q+fill (sz k) q:Nat):Int)≤100000):=hid ⟨by omega,by omega,by omega⟩
  generalize hrr:b%8=r8 at*
  generalize hss:2+q+fill (sz k) q=s8 at*
  have e1:((M:Int) != (s8:Int))=true:=by simp;omega
  clear h1 h2 h3 hrr hss hfl hform
  go_wp2_with (first
    | (with_reducible refine wpl_val rfl _ (exec_remN _ _ _ _ rfl _ _ _ rfl rfl Q2.out) ?_)
    | ((with_reducible refine wpg_val ?_ _ (exec_quoN _ _ _ _ rfl _ _ _ rfl rfl Q1.out) ?_);exact rfl)
    | ((with_reducible refine wpg_val ?_ _ (exec_ldc 5 _ rfl ⟨w1.heap.size,2,none⟩ rfl _ hca4 (.inl ⟨_,Tryz.underlying5⟩)) ?_);exact rfl)
    | ((with_reducible refine wpg_val ?_ _ (exec_ldc 5 _ rfl ⟨w1.heap.size,0,none⟩ rfl _ hcv4 (.inl ⟨_,Tryz.underlying5⟩)) ?_);exact rfl)
    | (go_at_call 12;refine(rfits_any (f 7) q Hka.out _).mono ?_;rintro x5 w5 ⟨rfl,hw5⟩;rw[hw5,hdk];clear hw5)
    | (go_at_call 13;refine(rfill_any (f 0) (q:Int) _).mono ?_;rintro x7 w7 ⟨rfl,hw7⟩;rw[hw7,HF.out];clear hw7)
    | ((with_reducible refine wpg_val ?_ _ (exec_addN _ _ _ _ rfl _ _ _ rfl rfl Q3.out) ?_);exact rfl)
    | ((with_reducible refine wpg_val ?_ _ (exec_addN _ _ _ _ rfl _ _ _ rfl rfl Q4.out) ?_);exact rfl)
    | (with_reducible refine wpl_build0 rfl 24 rfl _ built0 ?_)
    | (with_reducible refine wpl_storeH rfl 24 _ _ rfl w.heap.size noHd rfl rfl 24 _ Hr14.out sizeN rfl oneNo ?_))
  exact ret_cs4 Tryz.results16 rfl w.heap.size rfl _ rfl _ rfl _ rfl 24 _ (Hr14.out.setRow _) _ Tryz.underlying24 sizeN (rout_bad (below_setRow' HB14.out (Nat.le_refl _) _))
 have hx0:=Htb.out 0 (by omega)
 have hx1:=Htb.out 1 (by omega)
 have hal:=(cells_reads HT13.out.reads (by omega)).1
 have hcs:=(cells_reads HT13.out.reads (by omega)).2
 have hs0:w13.cell? (adt.add 0)=some (.int .u8 ((tx 0:Nat):Int)):=hcs 0 (by omega)
 have hs1:w13.cell? (adt.add 1)=some (.int .u8 ((tx 1:Nat):Int)):=hcs 1 (by omega)
 have ha0:(adt.add 0).block<w13.heap.size:=by rw[add_block];exact hal
 have ha1:(adt.add 1).block<w13.heap.size:=by rw[add_block];exact hal
 have EM:Hid ((256:Int)*((tx 0:Nat):Int)=((256*tx 0:Nat):Int)∧(0:Int)≤((256*tx 0:Nat):Int)∧((256*tx 0:Nat):Int)≤100000):=hid ⟨by omega,by omega,by omega⟩
 have EP:Hid (((256*tx 0:Nat):Int)+((tx 1:Nat):Int)=((256*tx 0+tx 1:Nat):Int)∧(0:Int)≤((256*tx 0+tx 1:Nat):Int)∧((256*tx 0+tx 1:Nat):Int)≤100000):=hid ⟨by omega,by omega,by omega⟩
 have hb7:b≤65535:=by have:=Hbb.out;omega
 clear hcs
 go_wp2_with fail
 refine wp_region_held_drew (S:=fun W=>Below w13.heap.size w13 W) (by kernel_rfl) (Below.refl _ _).drew (fun hS0=>?_)
 refine ztk (i:=0) (v:= .slice (some adt) M ct) rfl (fun _ _=>exec_move _ rfl _ rfl) hS0 ?_
 (try simp only[Act.put,zza,zzb,zzc,zzd,zze,zzf])
 refine ztk (i:=1) (v:= .pointer (some (adt.add 0))) rfl (fun _ _=>exec_slW 22 _ _ rfl adt M ct rfl .i64 _ rfl 0 rfl 5 Tryz.underlying22 (by omega) Dg.i8q) hS0 ?_
 (try simp only[Act.put,zza,zzb,zzc,zzd,zze,zzf])
 refine ztk (i:=2) (v:= .int .u8 ((tx 0:Nat):Int)) rfl (fun W hW=>exec_ld 5 _ rfl _ rfl .u8 Tryz.underlying5 _ ((hW.cell (p:=adt.add 0) ha0).trans hs0)) hS0 ?_
 (try simp only[Act.put,zza,zzb,zzc,zzd,zze,zzf])
 refine ztk (i:=3) (v:= .int .i64 ((tx 0:Nat):Int)) rfl (fun _ _=>exec_cW _ _ _ rfl _ hx0 rfl Tryz.underlying5 Tryz.underlying3) hS0 ?_
 (try simp only[Act.put,zza,zzb,zzc,zzd,zze,zzf])
 refine ztk (i:=4) (v:= .int .i64 ((256*tx 0:Nat):Int)) rfl (fun _ _=>exec_mulN _ _ _ _ rfl _ _ _ rfl rfl EM.out) hS0 ?_
 (try simp only[Act.put,zza,zzb,zzc,zzd,zze,zzf])
 refine ztk (i:=5) (v:= .slice (some adt) M ct) rfl (fun _ _=>exec_move _ rfl _ rfl) hS0 ?_
 (try simp only[Act.put,zza,zzb,zzc,zzd,zze,zzf])
 refine ztk (i:=6) (v:= .pointer (some (adt.add 1))) rfl (fun _ _=>exec_slW 22 _ _ rfl adt M ct rfl .i64 _ rfl 1 rfl 5 Tryz.underlying22 (by omega) Dg.i8q) hS0 ?_
 (try simp only[Act.put,zza,zzb,zzc,zzd,zze,zzf])
 refine ztk (i:=7) (v:= .int .u8 ((tx 1:Nat):Int)) rfl (fun W hW=>exec_ld 5 _ rfl _ rfl .u8 Tryz.underlying5 _ ((hW.cell (p:=adt.add 1) ha1).trans hs1)) hS0 ?_
 (try simp only[Act.put,zza,zzb,zzc,zzd,zze,zzf])
 refine ztk (i:=8) (v:= .int .i64 ((tx 1:Nat):Int)) rfl (fun _ _=>exec_cW _ _ _ rfl _ hx1 rfl Tryz.underlying5 Tryz.underlying3) hS0 ?_
 (try simp only[Act.put,zza,zzb,zzc,zzd,zze,zzf])
 refine ztk (i:=9) (v:= .int .i64 ((256*tx 0+tx 1:Nat):Int)) rfl (fun _ _=>exec_addN _ _ _ _ rfl _ _ _ rfl rfl EP.out) hS0 ?_
 (try simp only[Act.put,zza,zzb,zzc,zzd,zze,zzf])
 refine ztk (i:=10) (v:= .int .i64 ((256*tx 0+tx 1:Nat):Int)) rfl (fun _ _=>exec_assign _ rfl _ rfl) hS0 ?_
 (try simp only[Act.put,zza,zzb,zzc,zzd,zze,zzf])
 refine wpAnyH_done (by kernel_rfl) ?_ _
 obtain⟨w14,hw14⟩: ∃x,x=w13.drew:=⟨_,rfl⟩
 rw[← hw14] at hS0 ⊢
 rw[← Hbb.out]
 have Hr14:=hid (Hr13.out.below hS0 Hr13.out.lt)
 have Hh14:=hid (Hh13.out.below hS0 Hh13.out.lt)
 have HT14:=hid (HT13.out.below hS0 (Nat.le_refl _))
 have HB14:=hid (HB13.out.trans (hS0.mono HB13.out.size))
 clear Hr13 Hh13 HT13 HB13 hS0
 have hcv4:w14.cell? ⟨w1.heap.size,0,none⟩=some (.int .u8 (f 0:Int)):=(Hh14.out.cell 0).trans rfl
 have hca4:w14.cell? ⟨w1.heap.size,2,none⟩=some (.int .u8 (f 7:Int)):=(Hh14.out.cell 2).trans rfl
 have Hka:Hid (ka (f 7)=1∨ka (f 7)=2):=hid (wrong_ka Hw.out)
 clear hw14 hs0 hs1 ha0 ha1 hal EM EP hx0 hx1
 have Q1:Hid ((0:Int)≤(b:Int)∧(0:Int)<8∧(b:Int)/8=(q:Int)∧(0:Int)≤(q:Int)∧(q:Int)≤100000):=hid ⟨by omega,by omega,by have:=Hq.out;omega,by omega,by have:=Hq.out;omega⟩
 have Q2:Hid ((0:Int)≤(b:Int)∧(0:Int)<8∧(b:Int)%8=((b%8:Nat):Int)):=hid ⟨by omega,by omega,by omega⟩
 have h1:b%8=0:=hform.1
 have h2:kfit (ka (f 7)) q:=by rw[Hq.out];exact hform.2.1
 have h3:M=2+q+fill (sz k) q:=by rw[Hq.out];exact hform.2.2
 have e0:(((b%8:Nat):Int) != 0)=false:=by simp;omega
 have hdk:decide (kfit (ka (f 7)) q)=true:=decide_eq_true h2
 have HF:=hid (fillZ_of (n:=q) Hv.out Hk.out)
 have hfl:fill (sz k) q<sz k:=fill_lt (sz_or k)
 have hqq:=kfit_le h2
 have Q3:Hid (((2:Int)+(q:Int))=((2+q:Nat):Int)∧(0:Int)≤((2+q:Nat):Int)∧((2+q:Nat):Int)≤100000):=hid ⟨by omega,by omega,by omega⟩
 have Q4:Hid ((((2+q:Nat):Int)+(fill (sz k) q:Int))=((2+q+fill (sz k) q:Nat):Int)∧(0:Int)≤((2+q+fill (sz k) q:Nat):Int)∧((2+q+fill (sz k) q:Nat):Int)≤100000):=hid ⟨by omega,by omega,by omega⟩
 have hq0:0<q:=by omega
 have hcq:2+q≤ct:=by omega
 have hqM:2+q≤M:=by omega
 generalize hrr:b%8=r8 at*
 generalize hss:2+q+fill (sz k) q=s8 at*
 have e1:((M:Int) != (s8:Int))=false:=by simp;omega
 clear h1 h2 h3 hrr hss hfl hform
 go_wp2_with (first
   | (with_reducible refine wpl_val rfl _ (exec_remN _ _ _ _ rfl _ _ _ rfl rfl Q2.out) ?_)
   | ((with_reducible refine wpg_val ?_ _ (exec_quoN _ _ _ _ rfl _ _ _ rfl rfl Q1.out) ?_);exact rfl)
   | ((with_reducible refine wpg_val ?_ _ (exec_ldc 5 _ rfl ⟨w1.heap.size,2,none⟩ rfl _ hca4 (.inl ⟨_,Tryz.underlying5⟩)) ?_);exact rfl)
   | ((with_reducible refine wpg_val ?_ _ (exec_ldc 5 _ rfl ⟨w1.heap.size,0,none⟩ rfl _ hcv4 (.inl ⟨_,Tryz.underlying5⟩)) ?_);exact rfl)
   | (go_at_call 12;refine(rfits_any (f 7) q Hka.out _).mono ?_;rintro x5 w5 ⟨rfl,hw5⟩;rw[hw5,hdk];clear hw5)
   | (go_at_call 13;refine(rfill_any (f 0) (q:Int) _).mono ?_;rintro x7 w7 ⟨rfl,hw7⟩;rw[hw7,HF.out];clear hw7)
   | ((with_reducible refine wpg_val ?_ _ (exec_addN _ _ _ _ rfl _ _ _ rfl rfl Q3.out) ?_);exact rfl)
   | ((with_reducible refine wpg_val ?_ _ (exec_addN _ _ _ _ rfl _ _ _ rfl rfl Q4.out) ?_);exact rfl))
 refine wp_region_held_drew (S:=fun W=>Only w.heap.size w14 W) (by kernel_rfl) (Only.refl _ _).drew (fun hS0z=>?_)
 refine ztk (i:=0) (v:= .agg (hdC (cutH f))) rfl (fun W hW=>exec_ldcs 24 _ rfl w1.heap.size rfl 24 _ (hW.blk Hh14.out hne.out) _ Tryz.underlying24 (sizeC _)) hS0z ?_
 (try simp only[Act.put,zza,zzb,zzc,zzd,zze,zzf])
 refine ztk (i:=1) (v:= .slice (some adt) M ct) rfl (fun _ _=>exec_move _ rfl _ rfl) hS0z ?_
 (try simp only[Act.put,zza,zzb,zzc,zzd,zze,zzf])
 refine ztk (i:=2) (v:= .int .i64 (b:Int)) rfl (fun _ _=>exec_move _ rfl _ rfl) hS0z ?_
 (try simp only[Act.put,zza,zzb,zzc,zzd,zze,zzf])
 refine ztk (i:=3) (v:= .int .i64 (q:Int)) rfl (fun _ _=>exec_quoN _ _ _ _ rfl _ _ _ rfl rfl Q1.out) hS0z ?_
 (try simp only[Act.put,zza,zzb,zzc,zzd,zze,zzf])
 refine ztk (i:=4) (v:= .int .i64 ((2+q:Nat):Int)) rfl (fun _ _=>exec_addN _ _ _ _ rfl _ _ _ rfl rfl Q3.out) hS0z ?_
 (try simp only[Act.put,zza,zzb,zzc,zzd,zze,zzf])
 refine ztk (i:=5) (v:= .slice (some (adt.add 2)) q (ct-2)) rfl (fun _ _=>wcutB _ _ _ rfl adt M ct 2 q _ _ rfl rfl rfl rfl rfl hq0 hcq) hS0z ?_
 (try simp only[Act.put,zza,zzb,zzc,zzd,zze,zzf])
 refine wpAnyH_ready (rs:=[6]) (by kernel_rfl) (by simp) (AllReadyH.cons rfl (fun K hK=>?_) AllReadyH.nil)
 (try simp only[Act.put,zza,zzb,zzc,zzd,zze,zzf])
 refine Eq.mpr (if_pos (by rfl)) ?_
 refine wp_store_blk 24 _ _ rfl w.heap.size (hdC (cutH f)) rfl rfl 24 _ (show Blk w14.drew _ _ _ from Hr14.out) (sizeC _) rfl (oneC _) ?_
 refine hK.out _ _ (hS0z.setRow _) (fun hS1z=>?_)
 (try simp only[Act.put,zza,zzb,zzc,zzd,zze,zzf])
 clear hK K
 refine ztk (i:=7) (v:= .slice (some (adt.add 2)) q (ct-2)) rfl (fun _ _=>exec_assign _ rfl _ rfl) hS1z ?_
 (try simp only[Act.put,zza,zzb,zzc,zzd,zze,zzf])
 refine ztk (i:=8) (v:= .int .i64 0) rfl (fun _ _=>exec_assign _ rfl _ rfl) hS1z ?_
 (try simp only[Act.put,zza,zzb,zzc,zzd,zze,zzf])
 refine ztk (i:=9) (v:= .int .i64 (-1)) rfl (fun _ _=>exec_assign _ rfl _ rfl) hS1z ?_
 (try simp only[Act.put,zza,zzb,zzc,zzd,zze,zzf])
 refine wpAnyH_done (by kernel_rfl) ?_ _
 go_wp2_with fail
 exact ret_cs4 Tryz.results16 rfl w.heap.size rfl _ rfl _ rfl _ rfl 24 _ ((show Blk w14.drew _ _ _ from Hr14.out).setRow _) _ Tryz.underlying24 (sizeC _) ⟨below_setRow' HB14.out.drew (Nat.le_refl _) _,_,_,rfl,by have h:=reads_tail (q:=2) (n:=q) (own_hd (show Mem.Own w14.drew _ _ _ _ _ _ from HT14.out) (show Blk w14.drew _ _ _ from Hr14.out) (hdC (cutH f))).reads hqM;exact h⟩
theorem runwrap_any (A:Option Addr) (L c n:Nat) (f:Nat→Nat) (hf: ∀i,f i<256) (hn2:n≤500) (W:Nat→Nat) (hc:L≤c) (hb: ∀i,i<L→W i<256) (w:World) (hX:Reads w w.heap.size A L W) (o:UO) (hU:UR L W n f o):
  Calls Tryz.prog 16 #[.slice A L c, .string (strF n f)] w (ROut (o) w):=by
 cases hU with
 | short hn=>exact ru_short A L c n f hn w
 | head hn hp=>exact ru_head A L c n f hf hn hn2 hp w
 | keys k hn hp hv hfk=>exact ru_keys A L c n k f hf hn hn2 hp hv hfk w
 | size k hn hp hv hfk hs=>exact ru_size A L c n k f hf hn hn2 hp hv hfk hc W hb w hX hs
 | digit k M N i hn hp hv hfk hS hd=>exact ru_digit A L c n k f hf hn hn2 hp hv hfk hc W hb w hX M N hS i hd
 | sum k M N hd cd tx hn hp hv hfk hS hall hdec heq=>exact ru_rest A L c n k f hf hn hn2 hp hv hfk hc W hb w hX M N hS hd cd tx hall hdec _ heq _ _ rfl rfl _ (.inl ⟨rfl,rfl⟩)
 | form k M N hd cd tx hn hp hv hfk hS hall hdec heq hform=>exact ru_rest A L c n k f hf hn hn2 hp hv hfk hc W hb w hX M N hS hd cd tx hall hdec _ heq _ _ rfl rfl _ (.inr (.inl ⟨rfl,hform,rfl⟩))
 | good k M N hd cd tx hn hp hv hfk hS hall hdec heq hform=>exact ru_rest A L c n k f hf hn hn2 hp hv hfk hc W hb w hX M N hS hd cd tx hall hdec _ heq _ _ rfl rfl _ (.inr (.inr ⟨rfl,hform,rfl⟩))
theorem ur_ok {L:Nat}{W:Nat→Nat}{n:Nat}{f:Nat→Nat}{o:UO} (hf: ∀i,f i<256) (h:UR L W n f o):o.H.Ok:=by
 cases h with
 | good=>exact cutH_ok hf
 | _=>exact noW_ok
theorem ur_n {L:Nat}{W:Nat→Nat}{n:Nat}{f:Nat→Nat}{o:UO} (h:UR L W n f o):o.n≤1000:=by
 cases h with
 | good k M N hd cd tx _ _ _ _ _ _ _ _ hform=>
  have:=kfit_le hform.2.1
  show b16 tx/8≤1000
  omega
 | _=>exact Nat.zero_le _
end Go.Proofs.YtlmacfmfmjhidaaGreatDoor.Wr
