/-
 Wr6 Wr7 Wr8
-/
import Derived.Test.YtlmacfmfmjhidaaGreatDoorWrX
import Derived.Test.YtlmacfmfmjhidaaGreatDoorHdY
import Derived.Test.YtlmacfmfmjhidaaGreatDoorSame
namespace Go.Proofs.YtlmacfmfmjhidaaGreatDoor.Wr
open Mem Bk Md Mc Hd Dg As Go.ChangeShapes Go.WideShapes Go.ChangeAt Go.RowKit
structure UO where
 H:Hd
 n:Nat
 f:Nat→Nat
 c:Int
 a:Int
def noW:Hd:=⟨0,0,fun _=>0,0,0,0,fun _=>0,0⟩
theorem noW_ok:noW.Ok:=⟨by decide,fun _=>Nat.zero_lt_succ _,by decide,by decide,fun _=>Nat.zero_lt_succ _,by decide⟩
def UO.bad (c a:Int):UO:=⟨noW,0,fun _=>0,c,a⟩
def lnZ (f:Nat→Nat):Int:=lenZ fun i=>f (1+i)
def b16 (tx:Nat→Nat):Nat:=256*tx 0+tx 1
structure Sz (k n M N:Nat) (f:Nat→Nat):Prop where
 len:lnZ f=(n:Int)
 n16:n=16+2*M+2*sz k
 mn:M=N*sz k
 m0:0<M
theorem Sz.whole {k n M N:Nat}{f:Nat→Nat} (h:Sz k n M N f):whB (n-16) (sz k)=true:=by
 obtain⟨-,h1,h2,h3⟩:=h
 unfold whB
 rcases sz_or k with e | e<;>rw[e] at h1 h2 ⊢ <;>exact decide_eq_true ⟨by omega,by omega⟩
theorem sz_of {k n:Nat}{f:Nat→Nat} (hn:16≤n) (hl:lnZ f=(n:Int)) (hw:whB (n-16) (sz k)=true): ∃M N,Sz k n M N f:=by
 obtain⟨h1,h2⟩:=of_decide_eq_true hw
 rcases sz_or k with e | e
 ·rw[e] at h1 h2
  exact⟨((n-16)/16-1)*8,(n-16)/16-1,hl,by rw[e];omega,by rw[e],by omega⟩
 rw[e] at h1 h2
 exact⟨((n-16)/32-1)*16,(n-16)/32-1,hl,by rw[e];omega,by rw[e],by omega⟩
inductive UR (L:Nat) (W:Nat→Nat) (n:Nat) (f:Nat→Nat):UO→Prop
 | short:n<16→UR L W n f (UO.bad 2 (-1))
 | head:16≤n→0≤parZ f→UR L W n f (UO.bad 6 (parZ f))
 | keys (k:Nat):16≤n→parZ f= -1→kd (f 0)=k→¬kfit k L→UR L W n f (UO.bad 2 (-1))
 | size (k:Nat):16≤n→parZ f= -1→kd (f 0)=k→kfit k L→¬(lnZ f=(n:Int)∧whB (n-16) (sz k)=true)→UR L W n f (UO.bad 2 (-1))
 | digit (k M N i:Nat):16≤n→parZ f= -1→kd (f 0)=k→kfit k L→Sz k n M N f→BadD 16 (n-16) (fun j=>f (16+j)) i→UR L W n f (UO.bad 16 ((16+i:Nat):Int))
 | sum (k M N:Nat) (hd cd tx:Nat→Nat):16≤n→parZ f= -1→kd (f 0)=k→kfit k L→Sz k n M N f→AllD 16 (n-16) (fun j=>f (16+j))→Dec k L W M N f hd cd tx→eqB (sz k) (cmF k L W M f tx) cd=false→UR L W n f (UO.bad 4 (-1))
 | form (k M N:Nat) (hd cd tx:Nat→Nat):16≤n→parZ f= -1→kd (f 0)=k→kfit k L→Sz k n M N f→AllD 16 (n-16) (fun j=>f (16+j))→Dec k L W M N f hd cd tx→eqB (sz k) (cmF k L W M f tx) cd=true→¬formP k (f 7) M (b16 tx)→UR L W n f (UO.bad 6 (-1))
 | good (k M N:Nat) (hd cd tx:Nat→Nat):16≤n→parZ f= -1→kd (f 0)=k→kfit k L→Sz k n M N f→AllD 16 (n-16) (fun j=>f (16+j))→Dec k L W M N f hd cd tx→eqB (sz k) (cmF k L W M f tx) cd=true→formP k (f 7) M (b16 tx)→UR L W n f ⟨cutH f,b16 tx/8,fun i=>tx (2+i),0,-1⟩
theorem par_lo (f:Nat→Nat):parZ f= -1∨0≤parZ f:=by
 unfold parZ refZ
 have:=wrong_lo (cutH f)
 split
 ·exact .inr (by omega)
 split
 ·exact .inr (by omega)
 split
 ·exact .inr (by assumption)
 split
 ·exact .inr (by omega)
 exact .inl rfl
theorem ur_total (L:Nat) (W:Nat→Nat) (n:Nat) (f:Nat→Nat): ∃o,UR L W n f o:=by
 by_cases hn:n<16
 ·exact⟨_, .short hn⟩
 have hn:16≤n:=by omega
 rcases par_lo f with hp | hp
 rotate_left
 ·exact⟨_, .head hn hp⟩
 by_cases hk:kfit (kd (f 0)) L
 rotate_left
 ·exact⟨_, .keys _ hn hp rfl hk⟩
 by_cases hs:lnZ f=(n:Int)∧whB (n-16) (sz (kd (f 0)))=true
 rotate_left
 ·exact⟨_, .size _ hn hp rfl hk hs⟩
 obtain⟨M,N,hS⟩:=sz_of hn hs.1 hs.2
 rcases allD_or 16 (fun j=>f (16+j)) (n-16) with ha | ⟨i,hb⟩
 rotate_left
 ·exact⟨_, .digit _ M N i hn hp rfl hk hS hb⟩
 have hD:Dec (kd (f 0)) L W M N f (unhF fun j=>f (16+j)) (fun i=>unhF (fun j=>f (16+j)) (M+i)) (chainF (kd (f 0)) L (kyF (kd (f 0)) L W 0) true (fun i=>unhF (fun j=>f (16+j)) (M+i)) (unhF fun j=>f (16+j)) N):=⟨fun _ _=>rfl,fun _ _=>rfl,fun _ _=>rfl⟩
 cases hc:eqB (sz (kd (f 0))) (cmF (kd (f 0)) L W M f (chainF (kd (f 0)) L (kyF (kd (f 0)) L W 0) true (fun i=>unhF (fun j=>f (16+j)) (M+i)) (unhF fun j=>f (16+j)) N)) (fun i=>unhF (fun j=>f (16+j)) (M+i))
 ·exact⟨_, .sum _ M N _ _ _ hn hp rfl hk hS ha hD hc⟩
 by_cases hF:formP (kd (f 0)) (f 7) M (b16 (chainF (kd (f 0)) L (kyF (kd (f 0)) L W 0) true (fun i=>unhF (fun j=>f (16+j)) (M+i)) (unhF fun j=>f (16+j)) N))
 ·exact⟨_, .good _ M N _ _ _ hn hp rfl hk hS ha hD hc hF⟩
 exact⟨_, .form _ M N _ _ _ hn hp rfl hk hS ha hD hc hF⟩
def UOut (o:UO) (w:World) (e:Ending) (w':World):Prop:=
 Below w.heap.size w w'∧∃A c v,e= .returned (.tuple #[.agg (hdC o.H), .slice A o.n c,v])∧EA v o.c o.a w'∧Reads w' w'.heap.size A o.n o.f∧(o.c=0→v= .nilIface)
theorem uout_bad {c a:Int}{w w':World}{v:Value} (hB:Below w.heap.size w w') (hE:EA v c a w') (hc:c≠0):UOut (UO.bad c a) w (.returned (.tuple #[.agg noHd, .slice none 0 0,v])) w':=
 ⟨hB,none,0,v,rfl,hE,(show Reads w' w'.heap.size none 0 (fun _=>0) from fun h=>absurd h (by omega)),fun h=>absurd h hc⟩
set_option maxRecDepth 100000 in
set_option maxHeartbeats 1000000 in
theorem un_short (A:Option Addr) (L c n:Nat) (f:Nat→Nat) (hn:n<16) (w:World):
  Calls Tryz.prog 15 #[.slice A L c, .string (strF n f)] w (UOut (UO.bad 2 (-1)) w):=by
 have hB0:=(Below.refl w.heap.size w).alloc (Nat.le_refl _) (.cells noHd 24)
 have Hr:=hid (Blk.fresh w 24 noHd)
 have HB:=hid hB0
 clear hB0
 go_enter Tryz.func15,Tryz.ntmps15
 go_wp2_with (with_reducible refine wpl_alloc rfl 24 rfl _ zHead ?_)
 refine(parse_short n f hn _).mono ?_
 rintro e w1 ⟨rfl,hB1⟩
 have Hr1:=hid (Hr.out.below hB1 Hr.out.lt)
 have HB1:=hid (HB.out.trans (hB1.mono HB.out.size))
 have Hn1:=hid (Blk.fresh w1 24 noHd)
 have hB2:Below w1.heap.size w1 ((w1.alloc (.cells noHd 24)).setRow w1.heap.size noHd):=below_setRow' ((Below.refl _ _).alloc (Nat.le_refl _) _) (Nat.le_refl _) _
 have Hr2:=hid (Hr1.out.below hB2 Hr1.out.lt)
 have HB2:=hid (HB1.out.trans (hB2.mono HB1.out.size))
 clear hB1 hB2 Hr HB Hr1 HB1
 go_wp2_with (first
  | (with_reducible refine wpl_alloc rfl 24 rfl _ zHead ?_)
  | (with_reducible refine wpl_storeH rfl 24 _ _ rfl w1.heap.size noHd rfl rfl 24 _ Hn1.out sizeN rfl oneNo ?_)
  | (with_reducible refine wpl_build0 rfl 24 rfl _ built0 ?_)
  | (with_reducible refine wpl_storeH rfl 24 _ _ rfl w.heap.size noHd rfl rfl 24 _ Hr2.out sizeN rfl oneNo ?_))
 exact ret_cs3 Tryz.results15 rfl w.heap.size rfl _ rfl _ rfl 24 _ (Hr2.out.setRow _) _ Tryz.underlying24 sizeN (uout_bad (below_setRow' HB2.out (Nat.le_refl _) _) (EA.head (ea_no 2 _) Hr2.out _) (by decide))
set_option maxRecDepth 100000 in
set_option maxHeartbeats 1000000 in
theorem un_head (A:Option Addr) (L c n:Nat) (f:Nat→Nat) (hf: ∀i,f i<256) (hn:16≤n) (hn2:n≤500) (hp:0≤parZ f) (w:World) (hg:Laid w):
  Calls Tryz.prog 15 #[.slice A L c, .string (strF n f)] w (UOut (UO.bad 6 (parZ f)) w):=by
 have hB0:=(Below.refl w.heap.size w).alloc (Nat.le_refl _) (.cells noHd 24)
 have Hr:=hid (Blk.fresh w 24 noHd)
 have HB:=hid hB0
 have HG:=hid (hg.below hB0)
 have Hf:=hid hf
 have Hp:=hid hp
 clear hB0 hg hf hp
 go_enter Tryz.func15,Tryz.ntmps15
 go_wp2_with (with_reducible refine wpl_alloc rfl 24 rfl _ zHead ?_)
 refine(parse_any n f Hf.out hn (by omega) _ HG.out).mono ?_
 rintro e w1 ⟨hB1,⟨hz,-⟩ | ⟨-,g,-,rfl,hF⟩⟩
 ·have:=Hp.out
  omega
 have Hr1:=hid (Hr.out.below hB1 Hr.out.lt)
 have HB1:=hid (HB.out.trans (hB1.mono HB.out.size))
 have Hn1:=hid (Blk.fresh w1 24 noHd)
 have hB2:Below w1.heap.size w1 ((w1.alloc (.cells noHd 24)).setRow w1.heap.size noHd):=below_setRow' ((Below.refl _ _).alloc (Nat.le_refl _) _) (Nat.le_refl _) _
 have Hr2:=hid (Hr1.out.below hB2 Hr1.out.lt)
 have HB2:=hid (HB1.out.trans (hB2.mono HB1.out.size))
 have HE2:=hid ((ea_fault hF).below hB2)
 clear hB1 hB2 Hr HB Hr1 HB1 hF
 go_wp2_with (first
  | (with_reducible refine wpl_alloc rfl 24 rfl _ zHead ?_)
  | (with_reducible refine wpl_storeH rfl 24 _ _ rfl w1.heap.size noHd rfl rfl 24 _ Hn1.out sizeN rfl oneNo ?_)
  | (with_reducible refine wpl_build0 rfl 24 rfl _ built0 ?_)
  | (with_reducible refine wpl_storeH rfl 24 _ _ rfl w.heap.size noHd rfl rfl 24 _ Hr2.out sizeN rfl oneNo ?_))
 exact ret_cs3 Tryz.results15 rfl w.heap.size rfl _ rfl _ rfl 24 _ (Hr2.out.setRow _) _ Tryz.underlying24 sizeN (uout_bad (below_setRow' HB2.out (Nat.le_refl _) _) (EA.head (HE2.out) Hr2.out _) (by decide))
set_option maxRecDepth 100000 in
set_option maxHeartbeats 1000000 in
theorem un_keys (A:Option Addr) (L c n k:Nat) (f:Nat→Nat) (hf: ∀i,f i<256) (hn:16≤n) (hn2:n≤500) (hp:parZ f= -1) (hv:kd (f 0)=k) (hfk: ¬kfit k L) (w:World) (hg:Laid w):
  Calls Tryz.prog 15 #[.slice A L c, .string (strF n f)] w (UOut (UO.bad 2 (-1)) w):=by
 have hB0:=(Below.refl w.heap.size w).alloc (Nat.le_refl _) (.cells noHd 24)
 have Hr:=hid (Blk.fresh w 24 noHd)
 have HB:=hid hB0
 have HG:=hid (hg.below hB0)
 have hsz:=strF_size n f
 have Hf:=hid hf
 have Hp:=hid hp
 have Hw:=hid (par_inv hp).1
 have Hv:=hid hv
 have Hk:Hid (k=1∨k=2):=hid (hv▸wrong_kd (h:=cutH f) Hw.out)
 have Hfk:=hid hfk
 obtain⟨z,hz⟩: ∃z,z=lnZ f:=⟨_,rfl⟩
 have Hz:=hid hz
 clear hB0 hg hf hp hv hz hfk
 go_enter Tryz.func15,Tryz.ntmps15
 go_wp2_with (with_reducible refine wpl_alloc rfl 24 rfl _ zHead ?_)
 refine(parse_any n f Hf.out hn (by omega) _ HG.out).mono ?_
 rintro e w1 ⟨hB1,⟨-,rfl⟩ | ⟨hz,-⟩⟩
 rotate_left
 ·have:=Hp.out
  omega
 rw[show(lenZ fun i=>f (1+i))=z from Hz.out.symm]
 have Hr1:=hid (Hr.out.below hB1 Hr.out.lt)
 have HB1:=hid (HB.out.trans (hB1.mono HB.out.size))
 have HG1:=hid (HG.out.below hB1)
 have Hn1:=hid (Blk.fresh w1 24 noHd)
 have hB2:Below w1.heap.size w1 ((w1.alloc (.cells noHd 24)).setRow w1.heap.size (hdC (cutH f))):=below_setRow' ((Below.refl _ _).alloc (Nat.le_refl _) _) (Nat.le_refl _) _
 have Hr2:=hid (Hr1.out.below hB2 Hr1.out.lt)
 have HB2:=hid (HB1.out.trans (hB2.mono HB1.out.size))
 have HG2:=hid (HG1.out.below hB2)
 have Hh2:=hid (Hn1.out.setRow (hdC (cutH f)))
 have hcv:((w1.alloc (.cells noHd 24)).setRow w1.heap.size (hdC (cutH f))).cell? ⟨w1.heap.size,0,none⟩=some (.int .u8 (f 0:Int)):=(Hh2.out.cell 0).trans rfl
 clear hB1 hB2 Hr HB Hr1 HB1 HG HG1 Hp
 go_wp2_with (first
  | (with_reducible refine wpl_alloc rfl 24 rfl _ zHead ?_)
  | (with_reducible refine wpl_storeH rfl 24 _ _ rfl w1.heap.size (hdC (cutH f)) rfl rfl 24 _ Hn1.out (sizeC _) rfl (oneC _) ?_)
  | (with_reducible refine wpl_valw rfl _ (exec_ldc 5 _ rfl ⟨w1.heap.size,0,none⟩ rfl _ hcv (.inl ⟨_,Tryz.underlying5⟩)) ?_))
 refine(pair_size (f 0) k Hv.out Hk.out A L c Hfk.out _).mono ?_
 rintro e w3 ⟨rfl,hB3⟩
 have Hr3:=hid (Hr2.out.below hB3 Hr2.out.lt)
 have HB3:=hid (HB2.out.trans (hB3.mono HB2.out.size))
 have Hq3:=hid (Blk.fresh w3 51 noPr)
 have hB4:Below w3.heap.size w3 ((w3.alloc (.cells noPr 51)).setRow w3.heap.size noPr):=below_setRow' ((Below.refl _ _).alloc (Nat.le_refl _) _) (Nat.le_refl _) _
 have Hr4:=hid (Hr3.out.below hB4 Hr3.out.lt)
 have HB4:=hid (HB3.out.trans (hB4.mono HB3.out.size))
 clear hB3 hB4 Hr2 HB2 Hr3 HB3 Hh2 hcv Hn1 HG2
 go_wp2_with (first
  | (with_reducible refine wpl_alloc rfl 51 rfl _ zPair ?_)
  | (with_reducible refine wpl_storeH rfl 51 _ _ rfl w3.heap.size noPr rfl rfl 51 _ Hq3.out sizePn rfl oneP0 ?_)
  | (with_reducible refine wpl_build0 rfl 24 rfl _ built0 ?_)
  | (with_reducible refine wpl_storeH rfl 24 _ _ rfl w.heap.size noHd rfl rfl 24 _ Hr4.out sizeN rfl oneNo ?_))
 exact ret_cs3 Tryz.results15 rfl w.heap.size rfl _ rfl _ rfl 24 _ (Hr4.out.setRow _) _ Tryz.underlying24 sizeN (uout_bad (below_setRow' HB4.out (Nat.le_refl _) _) (EA.head (ea_no 2 _) Hr4.out _) (by decide))
set_option maxRecDepth 100000 in
set_option maxHeartbeats 1000000 in
theorem un_size1 (A:Option Addr) (L c n k:Nat) (f:Nat→Nat) (hf: ∀i,f i<256) (hn:16≤n) (hn2:n≤500) (hp:parZ f= -1) (hv:kd (f 0)=k) (hfk:kfit k L) (W:Nat→Nat) (hA:A=none→L=0∧c=0) (hb: ∀i,i<L→W i<256) (w:World) (hg:Laid w) (hX:Reads w w.heap.size A L W) (hl:lnZ f≠(n:Int)):
  Calls Tryz.prog 15 #[.slice A L c, .string (strF n f)] w (UOut (UO.bad 2 (-1)) w):=by
 have hB0:=(Below.refl w.heap.size w).alloc (Nat.le_refl _) (.cells noHd 24)
 have Hr:=hid (Blk.fresh w 24 noHd)
 have HB:=hid hB0
 have HG:=hid (hg.below hB0)
 have hsz:=strF_size n f
 have Hf:=hid hf
 have Hp:=hid hp
 have Hw:=hid (par_inv hp).1
 have Hv:=hid hv
 have Hk:Hid (k=1∨k=2):=hid (hv▸wrong_kd (h:=cutH f) Hw.out)
 have Hfk:=hid hfk
 have HA:=hid hA
 have Hb:=hid hb
 have HX:=hid ((hX.below hB0).more hB0.size)
 have Hl:=hid hl
 obtain⟨z,hz⟩: ∃z,z=lnZ f:=⟨_,rfl⟩
 have Hz:=hid hz
 clear hB0 hg hf hp hv hz hfk hA hb hX hl
 go_enter Tryz.func15,Tryz.ntmps15
 go_wp2_with (with_reducible refine wpl_alloc rfl 24 rfl _ zHead ?_)
 refine(parse_any n f Hf.out hn (by omega) _ HG.out).mono ?_
 rintro e w1 ⟨hB1,⟨-,rfl⟩ | ⟨hz,-⟩⟩
 rotate_left
 ·have:=Hp.out
  omega
 rw[show(lenZ fun i=>f (1+i))=z from Hz.out.symm]
 have Hr1:=hid (Hr.out.below hB1 Hr.out.lt)
 have HB1:=hid (HB.out.trans (hB1.mono HB.out.size))
 have HG1:=hid (HG.out.below hB1)
 have HX1:=hid ((HX.out.below hB1).more hB1.size)
 have Hn1:=hid (Blk.fresh w1 24 noHd)
 have hB2:Below w1.heap.size w1 ((w1.alloc (.cells noHd 24)).setRow w1.heap.size (hdC (cutH f))):=below_setRow' ((Below.refl _ _).alloc (Nat.le_refl _) _) (Nat.le_refl _) _
 have Hr2:=hid (Hr1.out.below hB2 Hr1.out.lt)
 have HB2:=hid (HB1.out.trans (hB2.mono HB1.out.size))
 have HG2:=hid (HG1.out.below hB2)
 have Hh2:=hid (Hn1.out.setRow (hdC (cutH f)))
 have HX2:=hid ((HX1.out.below hB2).more hB2.size)
 have hcv:((w1.alloc (.cells noHd 24)).setRow w1.heap.size (hdC (cutH f))).cell? ⟨w1.heap.size,0,none⟩=some (.int .u8 (f 0:Int)):=(Hh2.out.cell 0).trans rfl
 clear hB1 hB2 Hr HB Hr1 HB1 HG HG1 Hp
 go_wp2_with (first
  | (with_reducible refine wpl_alloc rfl 24 rfl _ zHead ?_)
  | (with_reducible refine wpl_storeH rfl 24 _ _ rfl w1.heap.size (hdC (cutH f)) rfl rfl 24 _ Hn1.out (sizeC _) rfl (oneC _) ?_)
  | (with_reducible refine wpl_valw rfl _ (exec_ldc 5 _ rfl ⟨w1.heap.size,0,none⟩ rfl _ hcv (.inl ⟨_,Tryz.underlying5⟩)) ?_))
 refine(pair_ok (f 0) k Hv.out Hk.out A L c W _ Hfk.out HA.out Hb.out HX2.out).mono ?_
 rintro e w3 ⟨g1,g2,rfl,hP3,hB3⟩
 have Hr3:=hid (Hr2.out.below hB3 Hr2.out.lt)
 have HB3:=hid (HB2.out.trans (hB3.mono HB2.out.size))
 have HG3:=hid (HG2.out.below hB3)
 have Hh3:=hid (Hh2.out.below hB3 Hh2.out.lt)
 have Hq3:=hid (Blk.fresh w3 51 noPr)
 have hB4':=(Below.refl w3.heap.size w3).alloc (Nat.le_refl _) (.cells noPr 51)
 have hB4:Below w3.heap.size w3 ((w3.alloc (.cells noPr 51)).setRow w3.heap.size (prV g1 g2)):=below_setRow' hB4' (Nat.le_refl _) _
 have HP4:=hid ((hP3.keep hB4').store Hk.out Hq3.out (prV g1 g2))
 have Hq4:=hid (Hq3.out.setRow (prV g1 g2))
 have Hr4:=hid (Hr3.out.below hB4 Hr3.out.lt)
 have Hh4:=hid (Hh3.out.below hB4 Hh3.out.lt)
 have HG4:=hid (HG3.out.below hB4)
 have HB4:=hid (HB3.out.trans (hB4.mono HB3.out.size))
 clear hB3 hB4 hB4' Hr2 HB2 Hr3 HB3 Hh2 Hh3 hcv Hn1 HG2 HG3 HX HX1 HX2 hP3
 have hzn:(z != (n:Int))=true:=by
  have:=Hl.out
  rw[← Hz.out] at this
  simpa using this
 go_wp2_with (first
  | (with_reducible refine wpl_alloc rfl 51 rfl _ zPair ?_)
  | (with_reducible refine wpl_storeH rfl 51 _ _ rfl w3.heap.size (prV g1 g2) rfl rfl 51 _ Hq3.out (sizeP g1 g2) rfl (oneP g1 g2) ?_)
  | (with_reducible refine wpl_build0 rfl 24 rfl _ built0 ?_)
  | (with_reducible refine wpl_storeH rfl 24 _ _ rfl w.heap.size noHd rfl rfl 24 _ Hr4.out sizeN rfl oneNo ?_))
 exact ret_cs3 Tryz.results15 rfl w.heap.size rfl _ rfl _ rfl 24 _ (Hr4.out.setRow _) _ Tryz.underlying24 sizeN (uout_bad (below_setRow' HB4.out (Nat.le_refl _) _) (EA.head (ea_no 2 _) Hr4.out _) (by decide))
set_option maxRecDepth 100000 in
set_option maxHeartbeats 1000000 in
theorem un_size2 (A:Option Addr) (L c n k:Nat) (f:Nat→Nat) (hf: ∀i,f i<256) (hn:16≤n) (hn2:n≤500) (hp:parZ f= -1) (hv:kd (f 0)=k) (hfk:kfit k L) (W:Nat→Nat) (hA:A=none→L=0∧c=0) (hb: ∀i,i<L→W i<256) (w:World) (hg:Laid w) (hX:Reads w w.heap.size A L W) (hl:lnZ f=(n:Int)) (hwh:whB (n-16) (sz k)=false):
  Calls Tryz.prog 15 #[.slice A L c, .string (strF n f)] w (UOut (UO.bad 2 (-1)) w):=by
 have hB0:=(Below.refl w.heap.size w).alloc (Nat.le_refl _) (.cells noHd 24)
 have Hr:=hid (Blk.fresh w 24 noHd)
 have HB:=hid hB0
 have HG:=hid (hg.below hB0)
 have hsz:=strF_size n f
 have Hf:=hid hf
 have Hp:=hid hp
 have Hw:=hid (par_inv hp).1
 have Hv:=hid hv
 have Hk:Hid (k=1∨k=2):=hid (hv▸wrong_kd (h:=cutH f) Hw.out)
 have Hfk:=hid hfk
 have HA:=hid hA
 have Hb:=hid hb
 have HX:=hid ((hX.below hB0).more hB0.size)
 have Hl:=hid hl
 have Hwh:=hid hwh
 obtain⟨z,hz⟩: ∃z,z=lnZ f:=⟨_,rfl⟩
 have Hz:=hid hz
 clear hB0 hg hf hp hv hz hfk hA hb hX hl hwh
 go_enter Tryz.func15,Tryz.ntmps15
 go_wp2_with (with_reducible refine wpl_alloc rfl 24 rfl _ zHead ?_)
 refine(parse_any n f Hf.out hn (by omega) _ HG.out).mono ?_
 rintro e w1 ⟨hB1,⟨-,rfl⟩ | ⟨hz,-⟩⟩
 rotate_left
 ·have:=Hp.out
  omega
 rw[show(lenZ fun i=>f (1+i))=z from Hz.out.symm]
 have Hr1:=hid (Hr.out.below hB1 Hr.out.lt)
 have HB1:=hid (HB.out.trans (hB1.mono HB.out.size))
 have HG1:=hid (HG.out.below hB1)
 have HX1:=hid ((HX.out.below hB1).more hB1.size)
 have Hn1:=hid (Blk.fresh w1 24 noHd)
 have hB2:Below w1.heap.size w1 ((w1.alloc (.cells noHd 24)).setRow w1.heap.size (hdC (cutH f))):=below_setRow' ((Below.refl _ _).alloc (Nat.le_refl _) _) (Nat.le_refl _) _
 have Hr2:=hid (Hr1.out.below hB2 Hr1.out.lt)
 have HB2:=hid (HB1.out.trans (hB2.mono HB1.out.size))
 have HG2:=hid (HG1.out.below hB2)
 have Hh2:=hid (Hn1.out.setRow (hdC (cutH f)))
 have HX2:=hid ((HX1.out.below hB2).more hB2.size)
 have hcv:((w1.alloc (.cells noHd 24)).setRow w1.heap.size (hdC (cutH f))).cell? ⟨w1.heap.size,0,none⟩=some (.int .u8 (f 0:Int)):=(Hh2.out.cell 0).trans rfl
 clear hB1 hB2 Hr HB Hr1 HB1 HG HG1 Hp
 go_wp2_with (first
  | (with_reducible refine wpl_alloc rfl 24 rfl _ zHead ?_)
  | (with_reducible refine wpl_storeH rfl 24 _ _ rfl w1.heap.size (hdC (cutH f)) rfl rfl 24 _ Hn1.out (sizeC _) rfl (oneC _) ?_)
  | (with_reducible refine wpl_valw rfl _ (exec_ldc 5 _ rfl ⟨w1.heap.size,0,none⟩ rfl _ hcv (.inl ⟨_,Tryz.underlying5⟩)) ?_))
 refine(pair_ok (f 0) k Hv.out Hk.out A L c W _ Hfk.out HA.out Hb.out HX2.out).mono ?_
 rintro e w3 ⟨g1,g2,rfl,hP3,hB3⟩
 have Hr3:=hid (Hr2.out.below hB3 Hr2.out.lt)
 have HB3:=hid (HB2.out.trans (hB3.mono HB2.out.size))
 have HG3:=hid (HG2.out.below hB3)
 have Hh3:=hid (Hh2.out.below hB3 Hh2.out.lt)
 have Hq3:=hid (Blk.fresh w3 51 noPr)
 have hB4':=(Below.refl w3.heap.size w3).alloc (Nat.le_refl _) (.cells noPr 51)
 have hB4:Below w3.heap.size w3 ((w3.alloc (.cells noPr 51)).setRow w3.heap.size (prV g1 g2)):=below_setRow' hB4' (Nat.le_refl _) _
 have HP4:=hid ((hP3.keep hB4').store Hk.out Hq3.out (prV g1 g2))
 have Hq4:=hid (Hq3.out.setRow (prV g1 g2))
 have Hr4:=hid (Hr3.out.below hB4 Hr3.out.lt)
 have Hh4:=hid (Hh3.out.below hB4 Hh3.out.lt)
 have HG4:=hid (HG3.out.below hB4)
 have HB4:=hid (HB3.out.trans (hB4.mono HB3.out.size))
 clear hB3 hB4 hB4' Hr2 HB2 Hr3 HB3 Hh2 Hh3 hcv Hn1 HG2 HG3 HX HX1 HX2 hP3
 have hzn:(z != (n:Int))=false:=by
  rw[Hz.out,Hl.out]
  simp
 go_wp2_with (first
  | (with_reducible refine wpl_alloc rfl 51 rfl _ zPair ?_)
  | (with_reducible refine wpl_storeH rfl 51 _ _ rfl w3.heap.size (prV g1 g2) rfl rfl 51 _ Hq3.out (sizeP g1 g2) rfl (oneP g1 g2) ?_)
  | ((with_reducible refine wpg_val ?_ _ (exec_ldcs 51 _ rfl w3.heap.size rfl 51 _ Hq4.out _ Tryz.underlying51 (sizeP g1 g2)) ?_);exact rfl)
  | (go_at_call 27;refine(psize_any _ k L W g1 g2 HP4.out).mono ?_;rintro x5 w5 ⟨rfl,hB5⟩;have HP5:=hid (HP4.out.keep hB5);have Hq5:=hid (Hq4.out.below hB5 Hq4.out.lt);have Hr5:=hid (Hr4.out.below hB5 Hr4.out.lt);have Hh5:=hid (Hh4.out.below hB5 Hh4.out.lt);have HG5:=hid (HG4.out.below hB5);have HB5:=hid (HB4.out.trans (hB5.mono HB4.out.size));clear hB5 HP4 Hq4 Hr4 Hh4 HG4 HB4)
  | (go_at_call 39;refine(whole_w _ (sz k) (sz_or k) (n-16) (by omega) _).mono ?_;rintro x6 w6 ⟨rfl,hw6⟩;subst hw6;rw[Hwh.out])
  | (with_reducible refine wpl_build0 rfl 24 rfl _ built0 ?_)
  | (with_reducible refine wpl_storeH rfl 24 _ _ rfl w.heap.size noHd rfl rfl 24 _ Hr5.out sizeN rfl oneNo ?_))
 exact ret_cs3 Tryz.results15 rfl w.heap.size rfl _ rfl _ rfl 24 _ (Hr5.out.setRow _) _ Tryz.underlying24 sizeN (uout_bad (below_setRow' HB5.out (Nat.le_refl _) _) (EA.head (ea_no 2 _) Hr5.out _) (by decide))
set_option maxRecDepth 100000 in
set_option maxHeartbeats 1000000 in
theorem un_digit (A:Option Addr) (L c n k:Nat) (f:Nat→Nat) (hf: ∀i,f i<256) (hn:16≤n) (hn2:n≤500) (hp:parZ f= -1) (hv:kd (f 0)=k) (hfk:kfit k L) (W:Nat→Nat) (hA:A=none→L=0∧c=0) (hb: ∀i,i<L→W i<256) (w:World) (hg:Laid w) (hX:Reads w w.heap.size A L W) (M N:Nat) (hS:Sz k n M N f) (i:Nat) (hd:BadD 16 (n-16) (fun j=>f (16+j)) i):
  Calls Tryz.prog 15 #[.slice A L c, .string (strF n f)] w (UOut (UO.bad 16 ((16+i:Nat):Int)) w):=by
 have hB0:=(Below.refl w.heap.size w).alloc (Nat.le_refl _) (.cells noHd 24)
 have Hr:=hid (Blk.fresh w 24 noHd)
 have HB:=hid hB0
 have HG:=hid (hg.below hB0)
 have hsz:=strF_size n f
 have Hf:=hid hf
 have Hp:=hid hp
 have Hw:=hid (par_inv hp).1
 have Hv:=hid hv
 have Hk:Hid (k=1∨k=2):=hid (hv▸wrong_kd (h:=cutH f) Hw.out)
 have Hfk:=hid hfk
 have HA:=hid hA
 have Hb:=hid hb
 have HX:=hid ((hX.below hB0).more hB0.size)
 have Hl:=hid hS.len
 have Hwh:=hid hS.whole
 have Hn16:=hid hS.n16
 have HMN:=hid hS.mn
 have hM0:=hS.m0
 have hM4:M≤400:=by have:=hS.n16;omega
 have Hd:=hid hd
 obtain⟨z,hz⟩: ∃z,z=lnZ f:=⟨_,rfl⟩
 have Hz:=hid hz
 clear hB0 hg hf hp hv hz hfk hA hb hX hS hd
 go_enter Tryz.func15,Tryz.ntmps15
 go_wp2_with (with_reducible refine wpl_alloc rfl 24 rfl _ zHead ?_)
 refine(parse_any n f Hf.out hn (by omega) _ HG.out).mono ?_
 rintro e w1 ⟨hB1,⟨-,rfl⟩ | ⟨hz,-⟩⟩
 rotate_left
 ·have:=Hp.out
  omega
 rw[show(lenZ fun i=>f (1+i))=z from Hz.out.symm]
 have Hr1:=hid (Hr.out.below hB1 Hr.out.lt)
 have HB1:=hid (HB.out.trans (hB1.mono HB.out.size))
 have HG1:=hid (HG.out.below hB1)
 have HX1:=hid ((HX.out.below hB1).more hB1.size)
 have Hn1:=hid (Blk.fresh w1 24 noHd)
 have hB2:Below w1.heap.size w1 ((w1.alloc (.cells noHd 24)).setRow w1.heap.size (hdC (cutH f))):=below_setRow' ((Below.refl _ _).alloc (Nat.le_refl _) _) (Nat.le_refl _) _
 have Hr2:=hid (Hr1.out.below hB2 Hr1.out.lt)
 have HB2:=hid (HB1.out.trans (hB2.mono HB1.out.size))
 have HG2:=hid (HG1.out.below hB2)
 have Hh2:=hid (Hn1.out.setRow (hdC (cutH f)))
 have HX2:=hid ((HX1.out.below hB2).more hB2.size)
 have hcv:((w1.alloc (.cells noHd 24)).setRow w1.heap.size (hdC (cutH f))).cell? ⟨w1.heap.size,0,none⟩=some (.int .u8 (f 0:Int)):=(Hh2.out.cell 0).trans rfl
 clear hB1 hB2 Hr HB Hr1 HB1 HG HG1 Hp
 go_wp2_with (first
  | (with_reducible refine wpl_alloc rfl 24 rfl _ zHead ?_)
  | (with_reducible refine wpl_storeH rfl 24 _ _ rfl w1.heap.size (hdC (cutH f)) rfl rfl 24 _ Hn1.out (sizeC _) rfl (oneC _) ?_)
  | (with_reducible refine wpl_valw rfl _ (exec_ldc 5 _ rfl ⟨w1.heap.size,0,none⟩ rfl _ hcv (.inl ⟨_,Tryz.underlying5⟩)) ?_))
 refine(pair_ok (f 0) k Hv.out Hk.out A L c W _ Hfk.out HA.out Hb.out HX2.out).mono ?_
 rintro e w3 ⟨g1,g2,rfl,hP3,hB3⟩
 have Hr3:=hid (Hr2.out.below hB3 Hr2.out.lt)
 have HB3:=hid (HB2.out.trans (hB3.mono HB2.out.size))
 have HG3:=hid (HG2.out.below hB3)
 have Hh3:=hid (Hh2.out.below hB3 Hh2.out.lt)
 have Hq3:=hid (Blk.fresh w3 51 noPr)
 have hB4':=(Below.refl w3.heap.size w3).alloc (Nat.le_refl _) (.cells noPr 51)
 have hB4:Below w3.heap.size w3 ((w3.alloc (.cells noPr 51)).setRow w3.heap.size (prV g1 g2)):=below_setRow' hB4' (Nat.le_refl _) _
 have HP4:=hid ((hP3.keep hB4').store Hk.out Hq3.out (prV g1 g2))
 have Hq4:=hid (Hq3.out.setRow (prV g1 g2))
 have Hr4:=hid (Hr3.out.below hB4 Hr3.out.lt)
 have Hh4:=hid (Hh3.out.below hB4 Hh3.out.lt)
 have HG4:=hid (HG3.out.below hB4)
 have HB4:=hid (HB3.out.trans (hB4.mono HB3.out.size))
 clear hB3 hB4 hB4' Hr2 HB2 Hr3 HB3 Hh2 Hh3 hcv Hn1 HG2 HG3 HX HX1 HX2 hP3
 have hzn:(z != (n:Int))=false:=by
  rw[Hz.out,Hl.out]
  simp
 go_wp2_with (first
  | (with_reducible refine wpl_alloc rfl 51 rfl _ zPair ?_)
  | (with_reducible refine wpl_storeH rfl 51 _ _ rfl w3.heap.size (prV g1 g2) rfl rfl 51 _ Hq3.out (sizeP g1 g2) rfl (oneP g1 g2) ?_)
  | ((with_reducible refine wpg_val ?_ _ (exec_ldcs 51 _ rfl w3.heap.size rfl 51 _ Hq4.out _ Tryz.underlying51 (sizeP g1 g2)) ?_);exact rfl)
  | (go_at_call 27;refine(psize_any _ k L W g1 g2 HP4.out).mono ?_;rintro x5 w5 ⟨rfl,hB5⟩;have HP5:=hid (HP4.out.keep hB5);have Hq5:=hid (Hq4.out.below hB5 Hq4.out.lt);have Hr5:=hid (Hr4.out.below hB5 Hr4.out.lt);have Hh5:=hid (Hh4.out.below hB5 Hh4.out.lt);have HG5:=hid (HG4.out.below hB5);have HB5:=hid (HB4.out.trans (hB5.mono HB4.out.size));clear hB5 HP4 Hq4 Hr4 Hh4 HG4 HB4)
  | (go_at_call 39;refine(whole_w _ (sz k) (sz_or k) (n-16) (by omega) _).mono ?_;rintro x6 w6 ⟨rfl,hw6⟩;subst hw6;rw[Hwh.out])
  | (with_reducible refine wpl_valw rfl _ (exec_ldcs 51 _ rfl w3.heap.size rfl 51 _ Hq5.out _ Tryz.underlying51 (sizeP g1 g2)) ?_))
 refine(open_bad n f Hf.out hn (by omega) i Hd.out g1 g2 _ HG5.out).mono ?_
 rintro e w7 ⟨g,rfl,hE,hB7⟩
 have HE:=hid hE
 have Hr7:=hid (Hr5.out.below hB7 Hr5.out.lt)
 have HB7:=hid (HB5.out.trans (hB7.mono HB5.out.size))
 clear hE hB7 Hr5 HB5
 go_wp2_with (first
  | (with_reducible refine wpl_build0 rfl 24 rfl _ built0 ?_)
  | (with_reducible refine wpl_storeH rfl 24 _ _ rfl w.heap.size noHd rfl rfl 24 _ Hr7.out sizeN rfl oneNo ?_))
 exact ret_cs3 Tryz.results15 rfl w.heap.size rfl _ rfl _ rfl 24 _ (Hr7.out.setRow _) _ Tryz.underlying24 sizeN (uout_bad (below_setRow' HB7.out (Nat.le_refl _) _) (EA.head (HE.out) Hr7.out _) (by omega))
set_option maxRecDepth 100000 in
set_option maxHeartbeats 1000000 in
theorem un_sum (A:Option Addr) (L c n k:Nat) (f:Nat→Nat) (hf: ∀i,f i<256) (hn:16≤n) (hn2:n≤500) (hp:parZ f= -1) (hv:kd (f 0)=k) (hfk:kfit k L) (W:Nat→Nat) (hA:A=none→L=0∧c=0) (hb: ∀i,i<L→W i<256) (w:World) (hg:Laid w) (hX:Reads w w.heap.size A L W) (M N:Nat) (hS:Sz k n M N f) (hd cd tx:Nat→Nat) (hall:AllD 16 (n-16) (fun j=>f (16+j))) (hdec:Dec k L W M N f hd cd tx) (heq:eqB (sz k) (cmF k L W M f tx) cd=false):
  Calls Tryz.prog 15 #[.slice A L c, .string (strF n f)] w (UOut (UO.bad 4 (-1)) w):=by
 have hB0:=(Below.refl w.heap.size w).alloc (Nat.le_refl _) (.cells noHd 24)
 have Hr:=hid (Blk.fresh w 24 noHd)
 have HB:=hid hB0
 have HG:=hid (hg.below hB0)
 have hsz:=strF_size n f
 have Hf:=hid hf
 have Hp:=hid hp
 have Hw:=hid (par_inv hp).1
 have Hv:=hid hv
 have Hk:Hid (k=1∨k=2):=hid (hv▸wrong_kd (h:=cutH f) Hw.out)
 have Hfk:=hid hfk
 have HA:=hid hA
 have Hb:=hid hb
 have HX:=hid ((hX.below hB0).more hB0.size)
 have Hl:=hid hS.len
 have Hwh:=hid hS.whole
 have Hn16:=hid hS.n16
 have HMN:=hid hS.mn
 have hM0:=hS.m0
 have hM4:M≤400:=by have:=hS.n16;omega
 have Hall:=hid hall
 have Hdec:=hid hdec
 have Heq:=hid heq
 obtain⟨z,hz⟩: ∃z,z=lnZ f:=⟨_,rfl⟩
 have Hz:=hid hz
 clear hB0 hg hf hp hv hz hfk hA hb hX hS hall hdec heq
 go_enter Tryz.func15,Tryz.ntmps15
 go_wp2_with (with_reducible refine wpl_alloc rfl 24 rfl _ zHead ?_)
 refine(parse_any n f Hf.out hn (by omega) _ HG.out).mono ?_
 rintro e w1 ⟨hB1,⟨-,rfl⟩ | ⟨hz,-⟩⟩
 rotate_left
 ·have:=Hp.out
  omega
 rw[show(lenZ fun i=>f (1+i))=z from Hz.out.symm]
 have Hr1:=hid (Hr.out.below hB1 Hr.out.lt)
 have HB1:=hid (HB.out.trans (hB1.mono HB.out.size))
 have HG1:=hid (HG.out.below hB1)
 have HX1:=hid ((HX.out.below hB1).more hB1.size)
 have Hn1:=hid (Blk.fresh w1 24 noHd)
 have hB2:Below w1.heap.size w1 ((w1.alloc (.cells noHd 24)).setRow w1.heap.size (hdC (cutH f))):=below_setRow' ((Below.refl _ _).alloc (Nat.le_refl _) _) (Nat.le_refl _) _
 have Hr2:=hid (Hr1.out.below hB2 Hr1.out.lt)
 have HB2:=hid (HB1.out.trans (hB2.mono HB1.out.size))
 have HG2:=hid (HG1.out.below hB2)
 have Hh2:=hid (Hn1.out.setRow (hdC (cutH f)))
 have HX2:=hid ((HX1.out.below hB2).more hB2.size)
 have hcv:((w1.alloc (.cells noHd 24)).setRow w1.heap.size (hdC (cutH f))).cell? ⟨w1.heap.size,0,none⟩=some (.int .u8 (f 0:Int)):=(Hh2.out.cell 0).trans rfl
 clear hB1 hB2 Hr HB Hr1 HB1 HG HG1 Hp
 go_wp2_with (first
  | (with_reducible refine wpl_alloc rfl 24 rfl _ zHead ?_)
  | (with_reducible refine wpl_storeH rfl 24 _ _ rfl w1.heap.size (hdC (cutH f)) rfl rfl 24 _ Hn1.out (sizeC _) rfl (oneC _) ?_)
  | (with_reducible refine wpl_valw rfl _ (exec_ldc 5 _ rfl ⟨w1.heap.size,0,none⟩ rfl _ hcv (.inl ⟨_,Tryz.underlying5⟩)) ?_))
 refine(pair_ok (f 0) k Hv.out Hk.out A L c W _ Hfk.out HA.out Hb.out HX2.out).mono ?_
 rintro e w3 ⟨g1,g2,rfl,hP3,hB3⟩
 have Hr3:=hid (Hr2.out.below hB3 Hr2.out.lt)
 have HB3:=hid (HB2.out.trans (hB3.mono HB2.out.size))
 have HG3:=hid (HG2.out.below hB3)
 have Hh3:=hid (Hh2.out.below hB3 Hh2.out.lt)
 have Hq3:=hid (Blk.fresh w3 51 noPr)
 have hB4':=(Below.refl w3.heap.size w3).alloc (Nat.le_refl _) (.cells noPr 51)
 have hB4:Below w3.heap.size w3 ((w3.alloc (.cells noPr 51)).setRow w3.heap.size (prV g1 g2)):=below_setRow' hB4' (Nat.le_refl _) _
 have HP4:=hid ((hP3.keep hB4').store Hk.out Hq3.out (prV g1 g2))
 have Hq4:=hid (Hq3.out.setRow (prV g1 g2))
 have Hr4:=hid (Hr3.out.below hB4 Hr3.out.lt)
 have Hh4:=hid (Hh3.out.below hB4 Hh3.out.lt)
 have HG4:=hid (HG3.out.below hB4)
 have HB4:=hid (HB3.out.trans (hB4.mono HB3.out.size))
 clear hB3 hB4 hB4' Hr2 HB2 Hr3 HB3 Hh2 Hh3 hcv Hn1 HG2 HG3 HX HX1 HX2 hP3
 have hzn:(z != (n:Int))=false:=by
  rw[Hz.out,Hl.out]
  simp
 go_wp2_with (first
  | (with_reducible refine wpl_alloc rfl 51 rfl _ zPair ?_)
  | (with_reducible refine wpl_storeH rfl 51 _ _ rfl w3.heap.size (prV g1 g2) rfl rfl 51 _ Hq3.out (sizeP g1 g2) rfl (oneP g1 g2) ?_)
  | ((with_reducible refine wpg_val ?_ _ (exec_ldcs 51 _ rfl w3.heap.size rfl 51 _ Hq4.out _ Tryz.underlying51 (sizeP g1 g2)) ?_);exact rfl)
  | (go_at_call 27;refine(psize_any _ k L W g1 g2 HP4.out).mono ?_;rintro x5 w5 ⟨rfl,hB5⟩;have HP5:=hid (HP4.out.keep hB5);have Hq5:=hid (Hq4.out.below hB5 Hq4.out.lt);have Hr5:=hid (Hr4.out.below hB5 Hr4.out.lt);have Hh5:=hid (Hh4.out.below hB5 Hh4.out.lt);have HG5:=hid (HG4.out.below hB5);have HB5:=hid (HB4.out.trans (hB5.mono HB4.out.size));clear hB5 HP4 Hq4 Hr4 Hh4 HG4 HB4)
  | (go_at_call 39;refine(whole_w _ (sz k) (sz_or k) (n-16) (by omega) _).mono ?_;rintro x6 w6 ⟨rfl,hw6⟩;subst hw6;rw[Hwh.out])
  | (with_reducible refine wpl_valw rfl _ (exec_ldcs 51 _ rfl w3.heap.size rfl 51 _ Hq5.out _ Tryz.underlying51 (sizeP g1 g2)) ?_))
 refine(open_any k L W Hk.out Hfk.out Hb.out n M N f hd cd tx Hf.out Hn16.out HMN.out hM0 hM4 Hall.out Hdec.out g1 g2 _ HP5.out false Heq.out).mono ?_
 rintro e w7 ⟨hB7,⟨h,-⟩ | ⟨-,rfl⟩⟩
 ·cases h
 have Hr7:=hid (Hr5.out.below hB7 Hr5.out.lt)
 have HB7:=hid (HB5.out.trans (hB7.mono HB5.out.size))
 clear hB7 Hr5 HB5
 go_wp2_with (first
  | (with_reducible refine wpl_build0 rfl 24 rfl _ built0 ?_)
  | (with_reducible refine wpl_storeH rfl 24 _ _ rfl w.heap.size noHd rfl rfl 24 _ Hr7.out sizeN rfl oneNo ?_))
 exact ret_cs3 Tryz.results15 rfl w.heap.size rfl _ rfl _ rfl 24 _ (Hr7.out.setRow _) _ Tryz.underlying24 sizeN (uout_bad (below_setRow' HB7.out (Nat.le_refl _) _) (EA.head (ea_no 4 _) Hr7.out _) (by decide))
set_option maxRecDepth 100000 in
set_option maxHeartbeats 1000000 in
theorem un_form (A:Option Addr) (L c n k:Nat) (f:Nat→Nat) (hf: ∀i,f i<256) (hn:16≤n) (hn2:n≤500) (hp:parZ f= -1) (hv:kd (f 0)=k) (hfk:kfit k L) (W:Nat→Nat) (hA:A=none→L=0∧c=0) (hb: ∀i,i<L→W i<256) (w:World) (hg:Laid w) (hX:Reads w w.heap.size A L W) (M N:Nat) (hS:Sz k n M N f) (hd cd tx:Nat→Nat) (hall:AllD 16 (n-16) (fun j=>f (16+j))) (hdec:Dec k L W M N f hd cd tx) (heq:eqB (sz k) (cmF k L W M f tx) cd=true) (hform: ¬formP k (f 7) M (b16 tx)):
  Calls Tryz.prog 15 #[.slice A L c, .string (strF n f)] w (UOut (UO.bad 6 (-1)) w):=by
 have hB0:=(Below.refl w.heap.size w).alloc (Nat.le_refl _) (.cells noHd 24)
 have Hr:=hid (Blk.fresh w 24 noHd)
 have HB:=hid hB0
 have HG:=hid (hg.below hB0)
 have hsz:=strF_size n f
 have Hf:=hid hf
 have Hp:=hid hp
 have Hw:=hid (par_inv hp).1
 have Hv:=hid hv
 have Hk:Hid (k=1∨k=2):=hid (hv▸wrong_kd (h:=cutH f) Hw.out)
 have Hfk:=hid hfk
 have HA:=hid hA
 have Hb:=hid hb
 have HX:=hid ((hX.below hB0).more hB0.size)
 have Hl:=hid hS.len
 have Hwh:=hid hS.whole
 have Hn16:=hid hS.n16
 have HMN:=hid hS.mn
 have hM0:=hS.m0
 have hM4:M≤400:=by have:=hS.n16;omega
 have Hall:=hid hall
 have Hdec:=hid hdec
 have Heq:=hid heq
 have Hform:=hid hform
 obtain⟨z,hz⟩: ∃z,z=lnZ f:=⟨_,rfl⟩
 have Hz:=hid hz
 clear hB0 hg hf hp hv hz hfk hA hb hX hS hall hdec heq hform
 go_enter Tryz.func15,Tryz.ntmps15
 go_wp2_with (with_reducible refine wpl_alloc rfl 24 rfl _ zHead ?_)
 refine(parse_any n f Hf.out hn (by omega) _ HG.out).mono ?_
 rintro e w1 ⟨hB1,⟨-,rfl⟩ | ⟨hz,-⟩⟩
 rotate_left
 ·have:=Hp.out
  omega
 rw[show(lenZ fun i=>f (1+i))=z from Hz.out.symm]
 have Hr1:=hid (Hr.out.below hB1 Hr.out.lt)
 have HB1:=hid (HB.out.trans (hB1.mono HB.out.size))
 have HG1:=hid (HG.out.below hB1)
 have HX1:=hid ((HX.out.below hB1).more hB1.size)
 have Hn1:=hid (Blk.fresh w1 24 noHd)
 have hB2:Below w1.heap.size w1 ((w1.alloc (.cells noHd 24)).setRow w1.heap.size (hdC (cutH f))):=below_setRow' ((Below.refl _ _).alloc (Nat.le_refl _) _) (Nat.le_refl _) _
 have Hr2:=hid (Hr1.out.below hB2 Hr1.out.lt)
 have HB2:=hid (HB1.out.trans (hB2.mono HB1.out.size))
 have HG2:=hid (HG1.out.below hB2)
 have Hh2:=hid (Hn1.out.setRow (hdC (cutH f)))
 have HX2:=hid ((HX1.out.below hB2).more hB2.size)
 have hcv:((w1.alloc (.cells noHd 24)).setRow w1.heap.size (hdC (cutH f))).cell? ⟨w1.heap.size,0,none⟩=some (.int .u8 (f 0:Int)):=(Hh2.out.cell 0).trans rfl
 clear hB1 hB2 Hr HB Hr1 HB1 HG HG1 Hp
 go_wp2_with (first
  | (with_reducible refine wpl_alloc rfl 24 rfl _ zHead ?_)
  | (with_reducible refine wpl_storeH rfl 24 _ _ rfl w1.heap.size (hdC (cutH f)) rfl rfl 24 _ Hn1.out (sizeC _) rfl (oneC _) ?_)
  | (with_reducible refine wpl_valw rfl _ (exec_ldc 5 _ rfl ⟨w1.heap.size,0,none⟩ rfl _ hcv (.inl ⟨_,Tryz.underlying5⟩)) ?_))
 refine(pair_ok (f 0) k Hv.out Hk.out A L c W _ Hfk.out HA.out Hb.out HX2.out).mono ?_
 rintro e w3 ⟨g1,g2,rfl,hP3,hB3⟩
 have Hr3:=hid (Hr2.out.below hB3 Hr2.out.lt)
 have HB3:=hid (HB2.out.trans (hB3.mono HB2.out.size))
 have HG3:=hid (HG2.out.below hB3)
 have Hh3:=hid (Hh2.out.below hB3 Hh2.out.lt)
 have Hq3:=hid (Blk.fresh w3 51 noPr)
 have hB4':=(Below.refl w3.heap.size w3).alloc (Nat.le_refl _) (.cells noPr 51)
 have hB4:Below w3.heap.size w3 ((w3.alloc (.cells noPr 51)).setRow w3.heap.size (prV g1 g2)):=below_setRow' hB4' (Nat.le_refl _) _
 have HP4:=hid ((hP3.keep hB4').store Hk.out Hq3.out (prV g1 g2))
 have Hq4:=hid (Hq3.out.setRow (prV g1 g2))
 have Hr4:=hid (Hr3.out.below hB4 Hr3.out.lt)
 have Hh4:=hid (Hh3.out.below hB4 Hh3.out.lt)
 have HG4:=hid (HG3.out.below hB4)
 have HB4:=hid (HB3.out.trans (hB4.mono HB3.out.size))
 clear hB3 hB4 hB4' Hr2 HB2 Hr3 HB3 Hh2 Hh3 hcv Hn1 HG2 HG3 HX HX1 HX2 hP3
 have hzn:(z != (n:Int))=false:=by
  rw[Hz.out,Hl.out]
  simp
 go_wp2_with (first
  | (with_reducible refine wpl_alloc rfl 51 rfl _ zPair ?_)
  | (with_reducible refine wpl_storeH rfl 51 _ _ rfl w3.heap.size (prV g1 g2) rfl rfl 51 _ Hq3.out (sizeP g1 g2) rfl (oneP g1 g2) ?_)
  | ((with_reducible refine wpg_val ?_ _ (exec_ldcs 51 _ rfl w3.heap.size rfl 51 _ Hq4.out _ Tryz.underlying51 (sizeP g1 g2)) ?_);exact rfl)
  | (go_at_call 27;refine(psize_any _ k L W g1 g2 HP4.out).mono ?_;rintro x5 w5 ⟨rfl,hB5⟩;have HP5:=hid (HP4.out.keep hB5);have Hq5:=hid (Hq4.out.below hB5 Hq4.out.lt);have Hr5:=hid (Hr4.out.below hB5 Hr4.out.lt);have Hh5:=hid (Hh4.out.below hB5 Hh4.out.lt);have HG5:=hid (HG4.out.below hB5);have HB5:=hid (HB4.out.trans (hB5.mono HB4.out.size));clear hB5 HP4 Hq4 Hr4 Hh4 HG4 HB4)
  | (go_at_call 39;refine(whole_w _ (sz k) (sz_or k) (n-16) (by omega) _).mono ?_;rintro x6 w6 ⟨rfl,hw6⟩;subst hw6;rw[Hwh.out])
  | (with_reducible refine wpl_valw rfl _ (exec_ldcs 51 _ rfl w3.heap.size rfl 51 _ Hq5.out _ Tryz.underlying51 (sizeP g1 g2)) ?_))
 refine(open_any k L W Hk.out Hfk.out Hb.out n M N f hd cd tx Hf.out Hn16.out HMN.out hM0 hM4 Hall.out Hdec.out g1 g2 _ HP5.out true Heq.out).mono ?_
 rintro e w7 ⟨hB7,⟨-,ad,c7,rfl,hc7,hR7⟩ | ⟨h,-⟩⟩
 rotate_left
 ·cases h
 have Hr7:=hid (Hr5.out.below hB7 Hr5.out.lt)
 have Hh7:=hid (Hh5.out.below hB7 Hh5.out.lt)
 have HB7:=hid (HB5.out.trans (hB7.mono HB5.out.size))
 have HR7:=hid hR7
 have hM2:2≤M:=by
  have h1:=HMN.out
  have h2:=sz_or k
  rcases N with _ | N
  ·omega
  rw[Nat.succ_mul] at h1
  omega
 have Htb:Hid (∀i,i<M→tx i<256):=hid fun i hi=>by
  rw[← Hdec.out.et i hi]
  have h1:=HMN.out
  have h2:=Hn16.out
  have hBL: ∀i,i<M+sz k→unhF (fun j=>f (16+j)) i<256:=fun i hi=>unhF_lt Hall.out (by omega)
  rw[h1] at hi
  exact chain_lt (kfit_fits Hfk.out Hk.out) (by have:=Hk.out;omega) (kyF_lt (e:=0) Hfk.out Hk.out Hb.out (by decide)) (fun i hi=>by rw[← Hdec.out.ec i hi];exact hBL _ (by omega)) (fun i hi=>by rw[← h1] at hi;rw[← Hdec.out.eh i hi];exact hBL _ (by omega)) i hi
 clear hB7 Hr5 Hh5 HB5 hR7
 go_wp2_with (first
  | (with_reducible refine wpl_valw rfl _ (exec_ldcs 24 _ rfl w1.heap.size rfl 24 _ Hh7.out _ Tryz.underlying24 (sizeC _)) ?_))
 refine(keyof_bad (cutH f) k Hv.out Hk.out (wrong_ka Hw.out) ad M c7 tx hM2 (by omega) Htb.out _ HR7.out _ rfl Hform.out).mono ?_
 rintro e w8 ⟨rfl,hB8⟩
 have Hr8:=hid (Hr7.out.below hB8 Hr7.out.lt)
 have HB8:=hid (HB7.out.trans (hB8.mono HB7.out.size))
 clear hB8 Hr7 HB7 Hh7 HR7
 go_wp2_with (first
  | (with_reducible refine wpl_build0 rfl 24 rfl _ built0 ?_)
  | (with_reducible refine wpl_storeH rfl 24 _ _ rfl w.heap.size noHd rfl rfl 24 _ Hr8.out sizeN rfl oneNo ?_))
 exact ret_cs3 Tryz.results15 rfl w.heap.size rfl _ rfl _ rfl 24 _ (Hr8.out.setRow _) _ Tryz.underlying24 sizeN (uout_bad (below_setRow' HB8.out (Nat.le_refl _) _) (EA.head (ea_no 6 _) Hr8.out _) (by decide))
theorem own_hd {w:World}{base n g:Nat}{v:Value}{f:Nat→Nat}{ds:Array Value} (h:Mem.Own w base 5 1 v n f) (hg:Blk w g 24 ds) (cs:Array Value):Mem.Own (w.setRow g cs) base 5 1 v n f:=by
 refine⟨h.1,?_⟩
 rcases h.2 with h2 | ⟨k,cap,cur,hv,hbg,hk,r⟩
 ·exact .inl h2
 exact .inr ⟨k,cap,cur,hv,hbg,(setRow_other w g k cs (blk_ne hk hg (by decide))).trans hk,r⟩
set_option maxRecDepth 100000 in
set_option maxHeartbeats 1000000 in
theorem un_good (A:Option Addr) (L c n k:Nat) (f:Nat→Nat) (hf: ∀i,f i<256) (hn:16≤n) (hn2:n≤500) (hp:parZ f= -1) (hv:kd (f 0)=k) (hfk:kfit k L) (W:Nat→Nat) (hA:A=none→L=0∧c=0) (hb: ∀i,i<L→W i<256) (w:World) (hg:Laid w) (hX:Reads w w.heap.size A L W) (M N:Nat) (hS:Sz k n M N f) (hd cd tx:Nat→Nat) (hall:AllD 16 (n-16) (fun j=>f (16+j))) (hdec:Dec k L W M N f hd cd tx) (heq:eqB (sz k) (cmF k L W M f tx) cd=true) (hform:formP k (f 7) M (b16 tx)):
  Calls Tryz.prog 15 #[.slice A L c, .string (strF n f)] w fun e w'=> ∃A' c',e= .returned (.tuple #[.agg (hdC (cutH f)), .slice A' (b16 tx/8) c', .nilIface])∧Mem.Own w' w.heap.size 5 1 (.slice A' (b16 tx/8) c') (b16 tx/8) (fun i=>tx (2+i))∧Below w.heap.size w w':=by
 have hB0:=(Below.refl w.heap.size w).alloc (Nat.le_refl _) (.cells noHd 24)
 have Hr:=hid (Blk.fresh w 24 noHd)
 have HB:=hid hB0
 have HG:=hid (hg.below hB0)
 have hsz:=strF_size n f
 have Hf:=hid hf
 have Hp:=hid hp
 have Hw:=hid (par_inv hp).1
 have Hv:=hid hv
 have Hk:Hid (k=1∨k=2):=hid (hv▸wrong_kd (h:=cutH f) Hw.out)
 have Hfk:=hid hfk
 have HA:=hid hA
 have Hb:=hid hb
 have HX:=hid ((hX.below hB0).more hB0.size)
 have Hl:=hid hS.len
 have Hwh:=hid hS.whole
 have Hn16:=hid hS.n16
 have HMN:=hid hS.mn
 have hM0:=hS.m0
 have hM4:M≤400:=by have:=hS.n16;omega
 have Hall:=hid hall
 have Hdec:=hid hdec
 have Heq:=hid heq
 have Hform:=hid hform
 obtain⟨z,hz⟩: ∃z,z=lnZ f:=⟨_,rfl⟩
 have Hz:=hid hz
 clear hB0 hg hf hp hv hz hfk hA hb hX hS hall hdec heq hform
 go_enter Tryz.func15,Tryz.ntmps15
 go_wp2_with (with_reducible refine wpl_alloc rfl 24 rfl _ zHead ?_)
 refine(parse_any n f Hf.out hn (by omega) _ HG.out).mono ?_
 rintro e w1 ⟨hB1,⟨-,rfl⟩ | ⟨hz,-⟩⟩
 rotate_left
 ·have:=Hp.out
  omega
 rw[show(lenZ fun i=>f (1+i))=z from Hz.out.symm]
 have Hr1:=hid (Hr.out.below hB1 Hr.out.lt)
 have HB1:=hid (HB.out.trans (hB1.mono HB.out.size))
 have HG1:=hid (HG.out.below hB1)
 have HX1:=hid ((HX.out.below hB1).more hB1.size)
 have Hn1:=hid (Blk.fresh w1 24 noHd)
 have hB2:Below w1.heap.size w1 ((w1.alloc (.cells noHd 24)).setRow w1.heap.size (hdC (cutH f))):=below_setRow' ((Below.refl _ _).alloc (Nat.le_refl _) _) (Nat.le_refl _) _
 have Hr2:=hid (Hr1.out.below hB2 Hr1.out.lt)
 have HB2:=hid (HB1.out.trans (hB2.mono HB1.out.size))
 have HG2:=hid (HG1.out.below hB2)
 have Hh2:=hid (Hn1.out.setRow (hdC (cutH f)))
 have HX2:=hid ((HX1.out.below hB2).more hB2.size)
 have hcv:((w1.alloc (.cells noHd 24)).setRow w1.heap.size (hdC (cutH f))).cell? ⟨w1.heap.size,0,none⟩=some (.int .u8 (f 0:Int)):=(Hh2.out.cell 0).trans rfl
 clear hB1 hB2 Hr HB Hr1 HB1 HG HG1 Hp
 go_wp2_with (first
  | (with_reducible refine wpl_alloc rfl 24 rfl _ zHead ?_)
  | (with_reducible refine wpl_storeH rfl 24 _ _ rfl w1.heap.size (hdC (cutH f)) rfl rfl 24 _ Hn1.out (sizeC _) rfl (oneC _) ?_)
  | (with_reducible refine wpl_valw rfl _ (exec_ldc 5 _ rfl ⟨w1.heap.size,0,none⟩ rfl _ hcv (.inl ⟨_,Tryz.underlying5⟩)) ?_))
 refine(pair_ok (f 0) k Hv.out Hk.out A L c W _ Hfk.out HA.out Hb.out HX2.out).mono ?_
 rintro e w3 ⟨g1,g2,rfl,hP3,hB3⟩
 have Hr3:=hid (Hr2.out.below hB3 Hr2.out.lt)
 have HB3:=hid (HB2.out.trans (hB3.mono HB2.out.size))
 have HG3:=hid (HG2.out.below hB3)
 have Hh3:=hid (Hh2.out.below hB3 Hh2.out.lt)
 have Hq3:=hid (Blk.fresh w3 51 noPr)
 have hB4':=(Below.refl w3.heap.size w3).alloc (Nat.le_refl _) (.cells noPr 51)
 have hB4:Below w3.heap.size w3 ((w3.alloc (.cells noPr 51)).setRow w3.heap.size (prV g1 g2)):=below_setRow' hB4' (Nat.le_refl _) _
 have HP4:=hid ((hP3.keep hB4').store Hk.out Hq3.out (prV g1 g2))
 have Hq4:=hid (Hq3.out.setRow (prV g1 g2))
 have Hr4:=hid (Hr3.out.below hB4 Hr3.out.lt)
 have Hh4:=hid (Hh3.out.below hB4 Hh3.out.lt)
 have HG4:=hid (HG3.out.below hB4)
 have HB4:=hid (HB3.out.trans (hB4.mono HB3.out.size))
 clear hB3 hB4 hB4' Hr2 HB2 Hr3 HB3 Hh2 Hh3 hcv Hn1 HG2 HG3 HX HX1 HX2 hP3
 have hzn:(z != (n:Int))=false:=by
  rw[Hz.out,Hl.out]
  simp
 go_wp2_with (first
  | (with_reducible refine wpl_alloc rfl 51 rfl _ zPair ?_)
  | (with_reducible refine wpl_storeH rfl 51 _ _ rfl w3.heap.size (prV g1 g2) rfl rfl 51 _ Hq3.out (sizeP g1 g2) rfl (oneP g1 g2) ?_)
  | ((with_reducible refine wpg_val ?_ _ (exec_ldcs 51 _ rfl w3.heap.size rfl 51 _ Hq4.out _ Tryz.underlying51 (sizeP g1 g2)) ?_);exact rfl)
  | (go_at_call 27;refine(psize_any _ k L W g1 g2 HP4.out).mono ?_;rintro x5 w5 ⟨rfl,hB5⟩;have HP5:=hid (HP4.out.keep hB5);have Hq5:=hid (Hq4.out.below hB5 Hq4.out.lt);have Hr5:=hid (Hr4.out.below hB5 Hr4.out.lt);have Hh5:=hid (Hh4.out.below hB5 Hh4.out.lt);have HG5:=hid (HG4.out.below hB5);have HB5:=hid (HB4.out.trans (hB5.mono HB4.out.size));clear hB5 HP4 Hq4 Hr4 Hh4 HG4 HB4)
  | (go_at_call 39;refine(whole_w _ (sz k) (sz_or k) (n-16) (by omega) _).mono ?_;rintro x6 w6 ⟨rfl,hw6⟩;subst hw6;rw[Hwh.out])
  | (with_reducible refine wpl_valw rfl _ (exec_ldcs 51 _ rfl w3.heap.size rfl 51 _ Hq5.out _ Tryz.underlying51 (sizeP g1 g2)) ?_))
 refine(open_any k L W Hk.out Hfk.out Hb.out n M N f hd cd tx Hf.out Hn16.out HMN.out hM0 hM4 Hall.out Hdec.out g1 g2 _ HP5.out true Heq.out).mono ?_
 rintro e w7 ⟨hB7,⟨-,ad,c7,rfl,hc7,hR7⟩ | ⟨h,-⟩⟩
 rotate_left
 ·cases h
 have Hr7:=hid (Hr5.out.below hB7 Hr5.out.lt)
 have Hh7:=hid (Hh5.out.below hB7 Hh5.out.lt)
 have HB7:=hid (HB5.out.trans (hB7.mono HB5.out.size))
 have HR7:=hid hR7
 have hM2:2≤M:=by
  have h1:=HMN.out
  have h2:=sz_or k
  rcases N with _ | N
  ·omega
  rw[Nat.succ_mul] at h1
  omega
 have Htb:Hid (∀i,i<M→tx i<256):=hid fun i hi=>by
  rw[← Hdec.out.et i hi]
  have h1:=HMN.out
  have h2:=Hn16.out
  have hBL: ∀i,i<M+sz k→unhF (fun j=>f (16+j)) i<256:=fun i hi=>unhF_lt Hall.out (by omega)
  rw[h1] at hi
  exact chain_lt (kfit_fits Hfk.out Hk.out) (by have:=Hk.out;omega) (kyF_lt (e:=0) Hfk.out Hk.out Hb.out (by decide)) (fun i hi=>by rw[← Hdec.out.ec i hi];exact hBL _ (by omega)) (fun i hi=>by rw[← h1] at hi;rw[← Hdec.out.eh i hi];exact hBL _ (by omega)) i hi
 clear hB7 Hr5 Hh5 HB5 hR7
 go_wp2_with (first
  | (with_reducible refine wpl_valw rfl _ (exec_ldcs 24 _ rfl w1.heap.size rfl 24 _ Hh7.out _ Tryz.underlying24 (sizeC _)) ?_))
 refine(keyof_ok (cutH f) k Hv.out Hk.out (wrong_ka Hw.out) ad M c7 tx hM2 (by omega) hc7 Htb.out _ HR7.out _ rfl Hform.out).mono ?_
 rintro e w8 ⟨v8,rfl,ho8,hB8⟩
 rw[show(256*tx 0+tx 1)/8=b16 tx/8 from rfl] at ho8
 obtain⟨A8,c8,rfl,-⟩:=ho8.slice'
 have HO8:=hid (own_base ho8 HB7.out.size)
 have Hr8:=hid (Hr7.out.below hB8 Hr7.out.lt)
 have Hh8:=hid (Hh7.out.below hB8 Hh7.out.lt)
 have HB8:=hid (HB7.out.trans (hB8.mono HB7.out.size))
 clear hB8 Hr7 HB7 Hh7 HR7 ho8
 go_wp2_with (first
  | (with_reducible refine wpl_valw rfl _ (exec_ldcs 24 _ rfl w1.heap.size rfl 24 _ Hh8.out _ Tryz.underlying24 (sizeC _)) ?_)
  | (with_reducible refine wpl_storeH rfl 24 _ _ rfl w.heap.size (hdC (cutH f)) rfl rfl 24 _ Hr8.out (sizeC _) rfl (oneC _) ?_))
 exact ret_cs3 Tryz.results15 rfl w.heap.size rfl _ rfl _ rfl 24 _ (Hr8.out.setRow _) _ Tryz.underlying24 (sizeC _) ⟨A8,c8,rfl,own_hd HO8.out Hr8.out _,below_setRow' HB8.out (Nat.le_refl _) _⟩
theorem unwrap_any (A:Option Addr) (L c n:Nat) (f:Nat→Nat) (hf: ∀i,f i<256) (hn2:n≤500) (W:Nat→Nat) (hA:A=none→L=0∧c=0) (hb: ∀i,i<L→W i<256) (w:World) (hg:Laid w) (hX:Reads w w.heap.size A L W) (o:UO) (hU:UR L W n f o):
  Calls Tryz.prog 15 #[.slice A L c, .string (strF n f)] w (UOut (o) w):=by
 cases hU with
 | short hn=>exact un_short A L c n f hn w
 | head hn hp=>exact un_head A L c n f hf hn hn2 hp w hg
 | keys k hn hp hv hfk=>exact un_keys A L c n k f hf hn hn2 hp hv hfk w hg
 | size k hn hp hv hfk hs=>
  by_cases hl:lnZ f=(n:Int)
  ·refine un_size2 A L c n k f hf hn hn2 hp hv hfk W hA hb w hg hX hl ?_
   cases hw:whB (n-16) (sz k)
   ·rfl
   exact absurd ⟨hl,hw⟩ hs
  exact un_size1 A L c n k f hf hn hn2 hp hv hfk W hA hb w hg hX hl
 | digit k M N i hn hp hv hfk hS hd=>exact un_digit A L c n k f hf hn hn2 hp hv hfk W hA hb w hg hX M N hS i hd
 | sum k M N hd cd tx hn hp hv hfk hS hall hdec heq=>exact un_sum A L c n k f hf hn hn2 hp hv hfk W hA hb w hg hX M N hS hd cd tx hall hdec heq
 | form k M N hd cd tx hn hp hv hfk hS hall hdec heq hform=>exact un_form A L c n k f hf hn hn2 hp hv hfk W hA hb w hg hX M N hS hd cd tx hall hdec heq hform
 | good k M N hd cd tx hn hp hv hfk hS hall hdec heq hform=>
  refine(un_good A L c n k f hf hn hn2 hp hv hfk W hA hb w hg hX M N hS hd cd tx hall hdec heq hform).mono ?_
  rintro e w' ⟨A',c',rfl,ho,hB⟩
  exact⟨hB,A',c', .nilIface,rfl,ea_nil _,ho.reads,fun _=>rfl⟩
end Go.Proofs.YtlmacfmfmjhidaaGreatDoor.Wr
namespace Go.Proofs.YtlmacfmfmjhidaaGreatDoor.Wr
open Mem Bk Md Mc Hd Dg As Go.ChangeShapes Go.WideShapes Go.ChangeAt Go.RowKit
structure Wd (k L:Nat) (W:Nat→Nat) (h:Hd) (L2 L3:Nat) (key fl:Nat→Nat) (M N T:Nat) (tx cd hd:Nat→Nat):Prop where
 kk:k=1∨k=2
 fk:kfit k L
 wb: ∀i,i<L→W i<256
 ok:h.Ok
 w:wrong h= -1
 v:kd h.v=k
 f2:kfit (ka h.a) L2
 f3:L3=fill (sz k) L2
 kb: ∀i,i<L2→key i<256
 lb: ∀i,i<L3→fl i<256
 eM:M=2+L2+L3
 eN:M=N*sz k
 eT:T=16+2*M+2*sz k
 etx:tx=txF L2 key fl
 ecd:cd=cdF k L W M (prF h T) tx
 ehd:hd=hdF k L W M cd tx
section
variable {k L:Nat}{W:Nat→Nat}{h:Hd}{L2 L3:Nat}{key fl:Nat→Nat}{M N T:Nat}{tx cd hd:Nat→Nat}
theorem wd_of (hw:wrong h= -1) (ok:h.Ok) (hv:kd h.v=k) (fk:kfit k L) (wb: ∀i,i<L→W i<256) (f2:kfit (ka h.a) L2) (f3:L3=fill (sz k) L2) (kb: ∀i,i<L2→key i<256) (lb: ∀i,i<L3→fl i<256): ∃M N T tx cd hd,Wd k L W h L2 L3 key fl M N T tx cd hd:=by
 have hL2:L2=16∨L2=24∨L2=32:=by unfold kfit at f2;omega
 obtain⟨N,hN,-⟩:=whole_tx (hv▸wrong_kd hw) hL2 f3
 exact⟨_,N,_,_,_,_,hv▸wrong_kd hw,fk,wb,ok,hw,hv,f2,f3,kb,lb,rfl,hN,rfl,rfl,rfl,rfl⟩
theorem Wd.sizes (d:Wd k L W h L2 L3 key fl M N T tx cd hd):(L2=16∨L2=24∨L2=32)∧0<L3∧L3≤16∧0<N∧0<M∧M≤64∧16≤T∧T≤200:=by
 have hL2:L2=16∨L2=24∨L2=32:=by have:=d.f2;unfold kfit at this;omega
 obtain⟨N',hN,h1,h2,h3⟩:=whole_tx d.kk hL2 d.f3
 have hs:=sz_or k
 have hM:=d.eM
 have hT:=d.eT
 have hMN:=d.eN
 refine⟨hL2,h1,h2,?_,by omega,by omega,by omega,by omega⟩
 rcases N with _ | N
 ·rw[Nat.zero_mul] at hMN
  omega
 omega
theorem Wd.txb (d:Wd k L W h L2 L3 key fl M N T tx cd hd): ∀i,i<M→tx i<256:=by
 rw[d.etx,d.eM]
 exact txF_lt d.kb d.lb
theorem Wd.div (d:Wd k L W h L2 L3 key fl M N T tx cd hd):M/sz k=N:=by rw[d.eN];exact Nat.mul_div_cancel _ (sz_pos k)
theorem Wd.cdb (d:Wd k L W h L2 L3 key fl M N T tx cd hd): ∀i,i<sz k→cd i<256:=by
 rw[d.ecd]
 have hk3:k≠3:=by have:=d.kk;omega
 exact cmac_lt (L:=16+M) (kfit_fits d.fk d.kk) hk3 (kyF_lt (e:=1) d.fk d.kk d.wb (by decide)) (fun i hi=>by
  unfold cat
  split
  ·exact prF_lt d.ok T _ (by assumption)
  exact d.txb _ (by omega))
theorem Wd.hdb (d:Wd k L W h L2 L3 key fl M N T tx cd hd): ∀i,i<M→hd i<256:=fun i hi=>by
 have hk3:k≠3:=by have:=d.kk;omega
 rw[d.ehd]
 unfold hdF
 rw[d.div]
 exact chain_lt (kfit_fits d.fk d.kk) hk3 (kyF_lt (e:=0) d.fk d.kk d.wb (by decide)) d.cdb (d.eN▸d.txb) i (d.eN▸hi)
def bkF (M T:Nat) (h:Hd) (hd cd:Nat→Nat):Nat→Nat:=fun i=>blF M (prF h T) hd cd i%256
theorem bkF_lt (i:Nat):bkF M T h hd cd i<256:=Nat.mod_lt _ (by decide)
theorem Wd.head (d:Wd k L W h L2 L3 key fl M N T tx cd hd){i:Nat} (hi:i<16):bkF M T h hd cd i=prF h T i:=by
 unfold bkF blF cat
 rw[if_pos (by omega),if_pos hi]
 exact Nat.mod_eq_of_lt (prF_lt d.ok T i hi)
theorem hexF_at {f:Nat→Nat}{n i:Nat} (hf: ∀j,j<n→f j<256) (hi:i<2*n):hexF f i<256:=by
 unfold hexF
 apply dg_lt
 have:=hf (i/2) (by omega)
 split<;>omega
theorem Wd.hid (d:Wd k L W h L2 L3 key fl M N T tx cd hd){i:Nat} (hi:i<2*M):bkF M T h hd cd (16+i)=hexF hd i:=by
 unfold bkF blF cat
 rw[if_pos (by omega),if_neg (by omega),Nat.add_sub_cancel_left]
 exact Nat.mod_eq_of_lt (hexF_at d.hdb hi)
theorem Wd.tail (d:Wd k L W h L2 L3 key fl M N T tx cd hd){i:Nat} (hi:i<2*sz k):bkF M T h hd cd (16+(2*M+i))=hexF cd i:=by
 unfold bkF blF cat
 rw[if_neg (by omega),show 16+(2*M+i)-(16+2*M)=i by omega]
 exact Nat.mod_eq_of_lt (hexF_at d.cdb hi)
theorem Wd.str (d:Wd k L W h L2 L3 key fl M N T tx cd hd):strF T (blF M (prF h T) hd cd)=strF T (bkF M T h hd cd):=strF_ext fun i hi=>by
 have hT:=d.eT
 have e:bkF M T h hd cd i=blF M (prF h T) hd cd i%256:=rfl
 rw[e,Nat.mod_eq_of_lt]
 unfold blF cat
 split
 ·split
  ·exact prF_lt d.ok T i (by assumption)
  exact hexF_at d.hdb (by omega)
 exact hexF_at d.cdb (by omega)
theorem Wd.two (d:Wd k L W h L2 L3 key fl M N T tx cd hd):h.n=2∧h.m=2:=⟨prB_two (wrong_n d.w),prB_two (wrong_m d.w)⟩
theorem Wd.prt (d:Wd k L W h L2 L3 key fl M N T tx cd hd):Prt h T (bkF M T h hd cd):=by
 have p:=prt_of h T (fun _=>0)
 have e: ∀i,i<16→bkF M T h hd cd i=cat 16 (prF h T) (fun _=>0) i:=fun i hi=>by rw[d.head hi];unfold cat;rw[if_pos hi]
 exact⟨(e 0 (by omega)).trans p.v,fun i hi=>(e _ (by omega)).trans (p.l i hi),fun i hi=>(e _ (by omega)).trans (p.f i hi),(e 7 (by omega)).trans p.a,(e 8 (by omega)).trans p.k,fun i hi=>(e _ (by omega)).trans (p.g i hi),(e 11 (by omega)).trans p.x,fun i hi=>(e _ (by omega)).trans (p.z i hi)⟩
theorem Wd.par (d:Wd k L W h L2 L3 key fl M N T tx cd hd):parZ (bkF M T h hd cd)= -1:=by
 have:=d.sizes
 exact d.prt.par d.two.1 d.two.2 d.w (by omega) (by omega)
theorem Wd.all (d:Wd k L W h L2 L3 key fl M N T tx cd hd):AllD 16 (T-16) (fun j=>bkF M T h hd cd (16+j)):=fun i hi=>by
 have hT:=d.eT
 by_cases h1:i<2*M
 ·show dv (bkF M T h hd cd (16+i))<16
  rw[d.hid h1]
  exact hex_all M hd d.hdb i h1
 obtain⟨j,rfl⟩: ∃j,i=2*M+j:=⟨i-2*M,by omega⟩
 show dv (bkF M T h hd cd (16+(2*M+j)))<16
 rw[d.tail (by omega)]
 exact hex_all (sz k) cd d.cdb j (by omega)
theorem Wd.dec (d:Wd k L W h L2 L3 key fl M N T tx cd hd):Dec k L W M N (bkF M T h hd cd) hd cd tx:=by
 have hk3:k≠3:=by have:=d.kk;omega
 refine⟨fun i hi=>?_,fun i hi=>?_,fun i hi=>?_⟩
 ·have e:=unh_hex hd i (d.hdb i hi)
  rw[← e]
  show 16*dv (bkF M T h hd cd (16+2*i))+dv (bkF M T h hd cd (16+(2*i+1)))=16*dv (hexF hd (2*i))+dv (hexF hd (2*i+1))
  rw[d.hid (by omega),d.hid (by omega)]
 ·have e:=unh_hex cd i (d.cdb i hi)
  rw[← e]
  show 16*dv (bkF M T h hd cd (16+2*(M+i)))+dv (bkF M T h hd cd (16+(2*(M+i)+1)))=16*dv (hexF cd (2*i))+dv (hexF cd (2*i+1))
  rw[show 2*(M+i)=2*M+2*i by omega,show 2*M+2*i+1=2*M+(2*i+1) by omega,d.tail (by omega),d.tail (by omega)]
 have e:=chain_back (bk:=false) (kfit_fits d.fk d.kk) hk3 (kyF_lt (e:=0) d.fk d.kk d.wb (by decide)) d.cdb (d.eN▸d.txb) i (d.eN▸hi)
 rw[d.ehd]
 unfold hdF
 rw[d.div]
 exact e
theorem Wd.code (d:Wd k L W h L2 L3 key fl M N T tx cd hd):eqB (sz k) (cmF k L W M (bkF M T h hd cd) tx) cd=true:=by
 have e:cat 16 (bkF M T h hd cd) tx=cat 16 (prF h T) tx:=by
  funext i
  unfold cat
  by_cases hi:i<16
  ·rw[if_pos hi,if_pos hi,d.head hi]
  rw[if_neg hi,if_neg hi]
 unfold cmF
 rw[e,d.ecd]
 exact eqB_true fun _ _=>rfl
theorem Wd.bits (d:Wd k L W h L2 L3 key fl M N T tx cd hd):b16 tx=8*L2:=by
 have hs:=d.sizes
 have e0:tx 0=8*L2/256%256:=by
  rw[d.etx]
  unfold txF cat btF
  rw[if_pos (by omega),if_pos (by omega),if_pos rfl]
 have e1:tx 1=8*L2%256:=by
  rw[d.etx]
  unfold txF cat btF
  rw[if_pos (by omega),if_pos (by omega),if_neg (by omega)]
 unfold b16
 rw[e0,e1]
 omega
theorem Wd.ky (d:Wd k L W h L2 L3 key fl M N T tx cd hd){i:Nat} (hi:i<L2):tx (2+i)=key i:=by
 rw[d.etx]
 unfold txF cat
 rw[if_pos (by omega),if_neg (by omega),Nat.add_sub_cancel_left]
theorem Wd.form (d:Wd k L W h L2 L3 key fl M N T tx cd hd):formP k (bkF M T h hd cd 7) M (b16 tx):=by
 have e:b16 tx/8=L2:=by rw[d.bits];omega
 refine⟨by rw[d.bits];omega,?_,?_⟩
 ·rw[e,d.prt.a]
  exact d.f2
 rw[e,← d.f3]
 exact d.eM
theorem Wd.szs (d:Wd k L W h L2 L3 key fl M N T tx cd hd):Sz k T M N (bkF M T h hd cd):=by
 have hs:=d.sizes
 exact⟨d.prt.len (by omega),d.eT,d.eN,hs.2.2.2.2.1⟩
theorem Wd.ver (d:Wd k L W h L2 L3 key fl M N T tx cd hd):kd (bkF M T h hd cd 0)=k:=by rw[d.prt.v];exact d.v
theorem Wd.wrap (d:Wd k L W h L2 L3 key fl M N T tx cd hd) (A A2 A3:Option Addr) (c c2 c3:Nat) (hA:A=none→L=0∧c=0) (w:World) (hX:Reads w w.heap.size A L W) (hK:Reads w w.heap.size A2 L2 key) (hL:Reads w w.heap.size A3 L3 fl) (hT:Tab w):
  Calls Tryz.prog 7 #[.slice A L c, .agg (hdC h), .slice A2 L2 c2, .slice A3 L3 c3] w fun e w'=>Below w.heap.size w w'∧e= .returned (.tuple #[.string (strF T (bkF M T h hd cd)), .nilIface]):=by
 rw[← d.str]
 exact wrap_ok A A2 A3 L c L2 c2 L3 c3 k W key fl h d.ok d.w d.v d.fk hA d.wb w hX d.f2 d.f3 hK d.kb hL d.lb hT M N T d.eM d.eN d.eT tx cd hd d.etx d.ecd d.ehd
theorem Wd.unwrap (d:Wd k L W h L2 L3 key fl M N T tx cd hd) (A:Option Addr) (c:Nat) (hA:A=none→L=0∧c=0) (w:World) (hg:Laid w) (hX:Reads w w.heap.size A L W):
  Calls Tryz.prog 15 #[.slice A L c, .string (strF T (bkF M T h hd cd))] w fun e w'=> ∃A' c',e= .returned (.tuple #[.agg (hdC (cutH (bkF M T h hd cd))), .slice A' L2 c', .nilIface])∧Mem.Own w' w.heap.size 5 1 (.slice A' L2 c') L2 key∧Below w.heap.size w w':=by
 have hs:=d.sizes
 have e:b16 tx/8=L2:=by rw[d.bits];omega
 refine(un_good A L c T k _ bkF_lt hs.2.2.2.2.2.2.1 (by omega) d.par d.ver d.fk W hA d.wb w hg hX M N d.szs hd cd tx d.all d.dec d.code d.form).mono ?_
 rintro x w' ⟨A',c',rfl,ho,hB⟩
 rw[e] at ho ⊢
 exact⟨A',c',rfl,ho.ext fun i hi=>d.ky (by omega),hB⟩
end
end Go.Proofs.YtlmacfmfmjhidaaGreatDoor.Wr
namespace Go.Proofs.YtlmacfmfmjhidaaGreatDoor.Wr
open Mem Bk Md Mc Hd Dg As Go.ChangeShapes Go.WideShapes Go.ChangeAt Go.RowKit
def smF (L:Nat) (f:Nat→Nat):Nat→Nat:=fun i=>if L=0 then 0 else f (i%L)
theorem smF_lt {L:Nat}{f:Nat→Nat} (hf: ∀i,i<L→f i<256) (i:Nat):smF L f i<256:=by
 unfold smF
 split
 ·decide
 exact hf _ (Nat.mod_lt _ (by omega))
theorem bs1W (w:World):(Instr.buildSlice 22 1 #[(0, .int .u8 0)]).run Tryz.prog w= .ok (.slice (some ⟨w.heap.size,0,none⟩) 1 1) (w.alloc (.cells #[.int .u8 0] 5)):=by kernel_rfl
theorem row0W: #[Value.int .u8 0]=row (1*1) (b8 fun _=>0):=rfl
set_option maxRecDepth 100000 in
set_option maxHeartbeats 1000000 in
theorem some_any (A:Option Addr) (L c n:Nat) (f:Nat→Nat) (w:World) (hL:L≤1000) (hn:n≤1000) (hR:Reads w w.heap.size A L f):
  Calls Tryz.prog 18 #[.slice A L c, .int .i64 (n:Int)] w fun e w'=> ∃v,e= .returned v∧Mem.Own w' w.heap.size 5 1 v n (smF L f)∧Below w.heap.size w w':=by
 have HR:=hid hR
 clear hR
 go_enter Tryz.func18,Tryz.ntmps18
 go_wp2_with fail
 go_loopw [5,6] (fun v i wr=> ∃k:Nat,k≤n∧Hid (Mem.Own wr w.heap.size 5 1 v k (smF L f))∧i= .int .i64 (k:Int)∧Hid (Below w.heap.size w wr)) (fun _ i _=>n-(intOf i).toNat)
 case atStart=>exact⟨0,by omega,hid (Mem.Own.nil _ _ _ _ _),rfl,hid (Below.refl _ _)⟩
 case round=>
  obtain⟨k,hk,HO,rfl,HB⟩:=hrel
  by_cases hlt:k<n
  ·have hltI:(k:Int)< (n:Int):=by omega
   have h1:=bs1W
   have HZ:=hid (Blk.fresh wr 5 (row (1*1) (b8 fun _=>0)))
   have HOa:=hid (HO.out.alloc (.cells (row (1*1) (b8 fun _=>0)) 5))
   have hBz:=HB.out.alloc HB.out.size (.cells (row (1*1) (b8 fun _=>0)) 5)
   have HBz:=hid hBz
   have hr0:=row0W
   clear hBz HO HB
   go_wp2_with (at_builtin; (refine wpl_app_gen rfl _ _ 22 rfl w.heap.size 5 (.int .u8 0) Tryz.underlying22 wi8 rfl _ k _ rfl HOa.out (some ⟨wr.heap.size,0,none⟩) 1 1 (fun _=>0) _ (Blk.reads (n:=1) HZ.out) (fun h=>by cases h) rfl (by omega) HBz.out.size ?_))
   intro v2 w2 ho2 hB2
   obtain⟨A2,c2,rfl,hc2,-,-⟩:=ho2.slice'
   have HB2:=hid (HBz.out.trans hB2)
   clear h1 hr0 HZ HOa HBz hB2
   by_cases hL0:L=0
   ·subst hL0
    have HO2:=hid (ho2.ext (g:=smF 0 f) fun i hi=>by
     simp[cat,smF])
    clear ho2
    go_wp2_with fail
    go_round
    case rel=>exact⟨k+1,by omega,HO2,val_int (by omega),HB2⟩
    case measure=>simp[intOf];omega
   have hLI:(L:Int)>0:=by omega
   have hLp:0<L:=by omega
   obtain⟨ad,rfl⟩: ∃ad,A=some ad:=by
    obtain⟨ad,h,-⟩:=HR.out hLp
    exact⟨ad,h⟩
   obtain⟨r,hr⟩: ∃r,r=k%L:=⟨_,rfl⟩
   have hrL:r<L:=by rw[hr];exact Nat.mod_lt _ hLp
   have E1:Hid ((0:Int)≤(k:Int)∧(0:Int)< (L:Int)∧(k:Int)%(L:Int)=(r:Int)):=hid ⟨by omega,by omega,by rw[hr];rfl⟩
   have hcb:w2.cell? (ad.add r)=some (.int .u8 ((f r:Nat):Int)):=(cells_reads ((HR.out.below HB2.out).more HB2.out.size) hLp).2 r hrL
   obtain⟨g,rfl,hg1,hg2,hc0,hf0,hop⟩:=Bk.Own.put ho2 (i:=k) (by omega) (f r)
   have HO2:=hid (hop.ext (g:=smF L f) fun i hi=>by
    unfold upd cat smF
    by_cases h:i=k
    ·rw[if_pos h,if_neg hL0,h,hr]
    rw[if_neg h,if_pos (by omega)])
   have HB3:=hid (HB2.out.setCell (p:=⟨g,k,none⟩) hg1 (.int .u8 ((f r:Nat):Int)))
   have hk1:k<k+1:=by omega
   clear ho2 hop hr hg2
   go_wp2_with (first
    | (with_reducible refine wpl_val rfl _ (exec_remN _ _ _ _ rfl _ _ _ rfl rfl E1.out) ?_)
    | (with_reducible refine wpl_slb rfl 22 _ _ rfl g (k+1) c2 rfl .i64 _ rfl k rfl 5 Tryz.underlying22 hk1 Dg.i8q ?_)
    | (with_reducible refine wpl_val rfl _ (exec_slW 22 _ _ rfl ad L c rfl .i64 _ rfl r rfl 5 Tryz.underlying22 hrL Dg.i8q) ?_)
    | (with_reducible refine wpl_ld rfl 5 _ rfl _ rfl .u8 Tryz.underlying5 _ hcb ?_)
    | (with_reducible refine wpl_st rfl 5 _ _ rfl _ rfl .u8 _ rfl Dg.i8q _ hc0 hf0 ?_))
   go_round
   case rel=>exact⟨k+1,by omega,HO2,val_int (by omega),HB3⟩
   case measure=>simp[intOf];omega
  have hltI: ¬(k:Int)< (n:Int):=by omega
  obtain rfl:k=n:=by omega
  go_wp2_with fail
  go_ret
  exact⟨_,rfl,HO.out,HB.out⟩
def smp (v:Nat):Hd:=⟨v,2,fun i=>if i=0 then 80 else 48,84,69,2,fun _=>48,69⟩
theorem smp_ok {v:Nat} (hv:v<256):(smp v).Ok:=⟨hv,fun i=>by show(if i=0 then 80 else 48)<256;split<;>decide,(show 84<256 by decide),(show 69<256 by decide),fun _=>(show 48<256 by decide),(show 69<256 by decide)⟩
theorem smp_eq (v:Nat):hdC (smp v)=#[.int .u8 (v:Int), .string ⟨#[80,48]⟩, .int .u8 84, .int .u8 69, .string ⟨#[48,48]⟩, .int .u8 69]:=rfl
theorem smp_wrong:wrong (smp 66)= -1:=by decide+kernel
set_option maxRecDepth 100000 in
theorem sample_any (v:Nat) (w:World):Calls Tryz.prog 20 #[.int .u8 (v:Int)] w fun e w'=>e= .returned (.agg (hdC (smp v)))∧Below w.heap.size w w':=by
 have Hn:=hid (Blk.fresh w 24 noHd)
 have HB:=hid ((Below.refl w.heap.size w).alloc (Nat.le_refl _) (.cells noHd 24))
 have hb6: ∀x:Int,Tryz.prog.built 24 [(0, .int .u8 x),(1, .string ⟨#[80,48]⟩),(2, .int .u8 84),(3, .int .u8 69),(4, .string ⟨#[48,48]⟩),(5, .int .u8 69)]=some #[.int .u8 x, .string ⟨#[80,48]⟩, .int .u8 84, .int .u8 69, .string ⟨#[48,48]⟩, .int .u8 69]:=fun x=>by kernel_rfl
 have h1:(#[.int .u8 (v:Int), .string ⟨#[80,48]⟩, .int .u8 84, .int .u8 69, .string ⟨#[48,48]⟩, .int .u8 69]:Array Value).all (·.oneCell')=true:=by simp[Value.oneCell']
 have h6:(Tryz.prog.info? 24).map (·.size)=some (#[.int .u8 (v:Int), .string ⟨#[80,48]⟩, .int .u8 84, .int .u8 69, .string ⟨#[48,48]⟩, .int .u8 69]:Array Value).size:=iHead
 have h7:noHd.size=(#[.int .u8 (v:Int), .string ⟨#[80,48]⟩, .int .u8 84, .int .u8 69, .string ⟨#[48,48]⟩, .int .u8 69]:Array Value).size:=rfl
 rw[smp_eq]
 go_enter Tryz.func20,Tryz.ntmps20
 go_wp2_with (first
  | (with_reducible refine wpl_alloc rfl 24 rfl _ zHead ?_)
  | (with_reducible refine wpl_storeH rfl 24 _ _ rfl w.heap.size #[.int .u8 (v:Int), .string ⟨#[80,48]⟩, .int .u8 84, .int .u8 69, .string ⟨#[48,48]⟩, .int .u8 69] rfl rfl 24 _ Hn.out h6 h7 h1 ?_))
 exact ret_cs1 Tryz.results20 rfl w.heap.size rfl 24 (hdC (smp v)) (Hn.out.setRow _) _ Tryz.underlying24 (sizeC (smp v)) ⟨rfl,below_setRow' HB.out (Nat.le_refl _) _⟩
theorem exec_mkW {o:Oper}{a:Act}{w:World} (x y:Operand) (ho:o.op= .makeSlice 22 x y) (n:Nat) (hn:n≤1000) (hx:a.eval x= .int .i64 (n:Int)) (hy:a.eval y= .int .i64 (n:Int)):(execOp a.eval o).run Tryz.prog w= .ok (.value (.slice (some ⟨w.heap.size,0,none⟩) n n)) (w.alloc (.cells (row n (b8 zf)) 5)):=by
 have hr:=run_make_row' (P:=Tryz.prog) 22 5 (.int .u8 0) 1 Tryz.underlying22 wi8 rfl .i64 .i64 n (by omega) (by omega) w
 rw[made_b8] at hr
 unfold execOp
 simp[ho,hx,hy,hr]
 rfl
def zW:Nat→Nat:=fun _=>0
theorem wd0:Wd 2 16 zW (smp 66) 16 6 zW zW 24 3 80 (txF 16 zW zW) (cdF 2 16 zW 24 (prF (smp 66) 80) (txF 16 zW zW)) (hdF 2 16 zW 24 (cdF 2 16 zW 24 (prF (smp 66) 80) (txF 16 zW zW)) (txF 16 zW zW)):=
 ⟨.inr rfl, .inl rfl,fun _ _=>by show 0<256;decide,smp_ok (by decide),smp_wrong,rfl, .inl rfl,rfl,fun _ _=>by show 0<256;decide,fun _ _=>by show 0<256;decide,rfl,rfl,rfl,rfl,rfl,rfl⟩
set_option maxRecDepth 100000 in
set_option maxHeartbeats 1000000 in
set_option linter.unusedSimpArgs false in
theorem awake11_any (w:World) (hg:Laid w) (hT:Tab w):Calls Tryz.prog 6 #[] w fun e w'=>e= .returned (.bool true)∧Below w.heap.size w w':=by
 obtain⟨tx,cd,hd,d⟩: ∃tx cd hd,Wd 2 16 zW (smp 66) 16 6 zW zW 24 3 80 tx cd hd:=⟨_,_,_,wd0⟩
 have HD:=hid d
 have hs5:strF 5 (bkF 24 80 (smp 66) hd cd)=⟨#[66,48,48,56,48]⟩:=(strF_ext (g:=prF (smp 66) 80) fun i hi=>d.head (by omega)).trans (by decide+kernel)
 have hsz:(strF 80 (bkF 24 80 (smp 66) hd cd)).size=80:=strF_size _ _
 have hEq:=hid (d.prt.eq d.two.1 d.two.2)
 have HG:=hid hg
 have HT:=hid hT
 have hfl:(fillZ (smp 66).v 16:Int)=6:=by decide
 have Hfl:=hid hfl
 clear hg hT d hfl
 go_enter Tryz.func6,Tryz.ntmps6
 go_wp2_with fail
 refine(sample_any 66 w).mono ?_
 rintro e w1 ⟨rfl,hB1⟩
 have Hn1:=hid (Blk.fresh w1 24 noHd)
 have hB2:Below w1.heap.size w1 ((w1.alloc (.cells noHd 24)).setRow w1.heap.size (hdC (smp 66))):=below_setRow' ((Below.refl _ _).alloc (Nat.le_refl _) _) (Nat.le_refl _) _
 have Hh2:=hid (Hn1.out.setRow (hdC (smp 66)))
 have HG2:=hid ((HG.out.below hB1).below hB2)
 have HT2:=hid ((HT.out.below hB1).below hB2)
 have HB2:=hid (hB1.trans (hB2.mono hB1.size))
 clear hB1 hB2 HG HT
 go_wp2_with (first
  | (with_reducible refine wpl_alloc rfl 24 rfl _ zHead ?_)
  | (with_reducible refine wpl_storeH rfl 24 _ _ rfl w1.heap.size (hdC (smp 66)) rfl rfl 24 _ Hn1.out (sizeC _) rfl (oneC _) ?_)
  | (with_reducible refine wpl_make rfl 22 5 _ _ rfl Tryz.underlying22 wi8 _ _ _ _ rfl rfl 16 rfl rfl (by omega) ?_))
 have e2:((w1.alloc (.cells noHd 24)).setRow w1.heap.size (hdC (smp 66))).heap.size=w1.heap.size+1:=by simp
 generalize hw2:(w1.alloc (.cells noHd 24)).setRow w1.heap.size (hdC (smp 66))=w2 at*
 have Hk3:Hid (Blk (w2.alloc (.cells (row 16 (b8 fun _=>0)) 5)) w2.heap.size 5 (row 16 (b8 zW))):=hid (Blk.fresh w2 5 (row 16 (b8 zW)))
 have hB3:=(Below.refl w2.heap.size w2).alloc (Nat.le_refl _) (.cells (row 16 (b8 fun _=>0)) 5)
 have Hh3:=hid (Hh2.out.below hB3 Hh2.out.lt)
 have HG3:=hid (HG2.out.below hB3)
 have HT3:=hid (HT2.out.below hB3)
 have HB3:=hid (HB2.out.trans (hB3.mono HB2.out.size))
 generalize hw3:w2.alloc (.cells (row 16 (b8 fun _=>0)) 5)=w3 at*
 rw[e2] at Hk3
 clear e2
 generalize hgk:w1.heap.size+1=gk at*
 clear hw2 hw3 hB3 Hh2 HG2 HT2 HB2 hgk Hn1
 refine wp_region_held_drew (S:=fun W=>Below w3.heap.size w3 W) (by kernel_rfl) (Below.refl _ _).drew (fun hS0=>?_)
 refine ztk (i:=0) (v:= .slice (some ⟨gk,0,none⟩) 16 16) rfl (fun _ _=>exec_move _ rfl _ rfl) hS0 ?_
 (try simp only[Act.put,zza,zzb,zzc,zzd,zze,zzf])
 refine ztk (i:=1) (v:= .agg (hdC (smp 66))) rfl (fun W hW=>exec_ldcs 24 _ rfl w1.heap.size rfl 24 _ (Hh3.out.below hW Hh3.out.lt) _ Tryz.underlying24 (sizeC _)) hS0 ?_
 (try simp only[Act.put,zza,zzb,zzc,zzd,zze,zzf])
 refine ztk (i:=2) (v:= .slice (some ⟨gk,0,none⟩) 16 16) rfl (fun _ _=>exec_move _ rfl _ rfl) hS0 ?_
 (try simp only[Act.put,zza,zzb,zzc,zzd,zze,zzf])
 refine wpAnyH_ready (rs:=[3]) (by kernel_rfl) (by simp) (AllReadyH.cons rfl (fun K hK=>?_) AllReadyH.nil)
 (try simp only[Act.put,zza,zzb,zzc,zzd,zze,zzf])
 refine Eq.mpr (if_pos (by rfl)) ?_
 refine wp_vw _ (exec_mkW _ _ rfl 6 (by omega) rfl rfl) ?_
 refine hK.out _ _ (hS0.alloc (hS0).size _) (fun hS1=>?_)
 (try simp only[Act.put,zza,zzb,zzc,zzd,zze,zzf])
 clear hK K
 have hRf:=Blk.reads (Blk.fresh w3.drew 5 (row 6 (b8 zW)))
 refine wpAnyH_ready (rs:=[4]) (by kernel_rfl) (by simp) (AllReadyH.cons rfl (fun K hK=>?_) AllReadyH.nil)
 (try simp only[Act.put,zza,zzb,zzc,zzd,zze,zzf])
 refine Eq.mpr (if_pos (by rfl)) ?_
 go_simp
 refine(HD.out.wrap (some ⟨gk,0,none⟩) (some ⟨gk,0,none⟩) (some ⟨w3.heap.size,0,none⟩) 16 16 6 (fun h=>by cases h) _ (((Blk.reads Hk3.out).below hS1).more (hS1).size) (((Blk.reads Hk3.out).below hS1).more (hS1).size) hRf (HT3.out.below hS1)).mono ?_
 rintro e wq2 ⟨hB4,rfl⟩
 refine hK.out _ _ (hS1.trans (hB4.mono hS1.size)) (fun hS2=>?_)
 (try simp only[Act.put,zza,zzb,zzc,zzd,zze,zzf])
 clear hK K
 refine ztk (i:=5) (v:= .tuple #[.string (strF 80 (bkF 24 80 (smp 66) hd cd)), .nilIface]) rfl (fun _ _=>exec_move _ rfl _ rfl) hS2 ?_
 (try simp only[Act.put,zza,zzb,zzc,zzd,zze,zzf])
 refine ztk (i:=6) (v:= .string (strF 80 (bkF 24 80 (smp 66) hd cd))) rfl (fun _ _=>exec_extract _ 0 rfl _ rfl _ rfl) hS2 ?_
 (try simp only[Act.put,zza,zzb,zzc,zzd,zze,zzf])
 refine ztk (i:=7) (v:= .nilIface) rfl (fun _ _=>exec_extract _ 1 rfl _ rfl _ rfl) hS2 ?_
 (try simp only[Act.put,zza,zzb,zzc,zzd,zze,zzf])
 refine ztk (i:=8) (v:= .string (strF 80 (bkF 24 80 (smp 66) hd cd))) rfl (fun _ _=>exec_assign _ rfl _ rfl) hS2 ?_
 (try simp only[Act.put,zza,zzb,zzc,zzd,zze,zzf])
 refine ztk (i:=9) (v:= .nilIface) rfl (fun _ _=>exec_assign _ rfl _ rfl) hS2 ?_
 (try simp only[Act.put,zza,zzb,zzc,zzd,zze,zzf])
 refine wpAnyH_done (by kernel_rfl) ?_ _
 have Hk4:=hid (Hk3.out.below hS2 Hk3.out.lt)
 have Hh4:=hid (Hh3.out.below hS2 Hh3.out.lt)
 have HG4:=hid (HG3.out.below hS2)
 have HB4:=hid (HB3.out.trans (hS2.mono HB3.out.size))
 clear hS0 hS1 hS2 hB4 hRf Hk3 Hh3 HG3 HT3 HB3
 go_wp2_with fail
 refine(HD.out.unwrap (some ⟨gk,0,none⟩) 16 (fun h=>by cases h) _ HG4.out (Blk.reads Hk4.out)).mono ?_
 rintro e w5 ⟨A5,c5,rfl,ho5,hB5⟩
 have Hn5:=hid (Blk.fresh w5 24 noHd)
 have hB6:Below w5.heap.size w5 ((w5.alloc (.cells noHd 24)).setRow w5.heap.size (hdC (cutH (bkF 24 80 (smp 66) hd cd)))):=below_setRow' ((Below.refl _ _).alloc (Nat.le_refl _) _) (Nat.le_refl _) _
 have Hx6:=hid (Hn5.out.setRow (hdC (cutH (bkF 24 80 (smp 66) hd cd))))
 have Hk6:=hid ((Hk4.out.below hB5 Hk4.out.lt).below hB6 (Nat.lt_of_lt_of_le Hk4.out.lt hB5.size))
 have Hh6:=hid ((Hh4.out.below hB5 Hh4.out.lt).below hB6 (Nat.lt_of_lt_of_le Hh4.out.lt hB5.size))
 have HR6:=hid ((ho5.reads.below hB6).more hB6.size)
 have HB6:=hid ((HB4.out.trans (hB5.mono HB4.out.size)).trans (hB6.mono (Nat.le_trans HB4.out.size hB5.size)))
 clear hB5 hB6 ho5 Hk4 Hh4 HG4 HB4
 have okc:(cutH (bkF 24 80 (smp 66) hd cd)).Ok:=cutH_ok bkF_lt
 have oks:(smp 66).Ok:=smp_ok (by decide)
 have Hc:=hid okc
 have Hs:=hid oks
 clear okc oks
 go_wp2_with (first
  | (with_reducible refine wpl_alloc rfl 24 rfl _ zHead ?_)
  | (with_reducible refine wpl_storeH rfl 24 _ _ rfl w5.heap.size (hdC (cutH (bkF 24 80 (smp 66) hd cd))) rfl rfl 24 _ Hn5.out (sizeC _) rfl (oneC _) ?_)
  | (with_reducible refine wpl_valw rfl _ (exec_ldcs 24 _ rfl w1.heap.size rfl 24 _ Hh6.out _ Tryz.underlying24 (sizeC _)) ?_)
  | (go_at_call 19;refine(fill_any (smp 66) 16 _).mono ?_;rintro x7 w7 ⟨rfl,hB7⟩;rw[Hfl.out];have Hh7:=hid (Hh6.out.below hB7 Hh6.out.lt);have Hx7:=hid (Hx6.out.below hB7 Hx6.out.lt);have HR7:=hid ((HR6.out.below hB7).more hB7.size);have Hk7:=hid (((Blk.reads Hk6.out).below hB7).more hB7.size);have HB7:=hid (HB6.out.trans (hB7.mono HB6.out.size));clear hB7 Hh6 Hx6 HR6 Hk6 HB6)
  | ((with_reducible refine wpg_val ?_ _ (exec_cutSh 9 _ _ rfl 80 (bkF 24 80 (smp 66) hd cd) 5 rfl rfl 5 rfl (by omega) Tryz.underlying9) ?_);exact rfl)
  | ((with_reducible refine wpg_val ?_ _ (exec_ldcs 24 _ rfl w1.heap.size rfl 24 _ Hh7.out _ Tryz.underlying24 (sizeC _)) ?_);exact rfl)
  | ((with_reducible refine wpg_val ?_ _ (exec_ldcs 24 _ rfl w5.heap.size rfl 24 _ Hx7.out _ Tryz.underlying24 (sizeC _)) ?_);exact rfl)
  | ((with_reducible refine wpg_val ?_ _ (exec_eqH _ _ _ rfl _ _ rfl rfl Hc.out Hs.out _ hEq.out) ?_);exact rfl)
  | (go_at_call 17;refine(same_yes A5 (some ⟨gk,0,none⟩) 16 c5 16 zW _ (by omega) HR7.out Hk7.out).mono ?_;rintro x8 w8 ⟨rfl,hB8⟩;have HB8:=hid (HB7.out.trans (hB8.mono HB7.out.size));clear hB8))
 go_ret
 exact⟨rfl,HB8.out⟩
end Go.Proofs.YtlmacfmfmjhidaaGreatDoor.Wr
