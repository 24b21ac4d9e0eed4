/-
 WrapSpoilt returns true: its walk.
-/
import Derived.Test.YtlmacfmfmjhidaaGreatDoorWr14
namespace Go.Proofs.YtlmacfmfmjhidaaGreatDoor.Wr.Spoilt
open Mem Bk Md Mc Hd Dg As Wr Go.ChangeShapes Go.WideShapes Go.ChangeAt Go.RowKit
set_option maxRecDepth 100000 in
set_option maxHeartbeats 4000000 in
set_option linter.unusedSimpArgs false in
theorem spoilt_true (A:Option Addr) (L c:Nat) (g:Nat→Nat) (h:Hd) (A2:Option Addr) (L2 c2:Nat) (g2:Nat→Nat) (p q:Nat) (w:World) (hL:Laid w∧Tab w) (hR:Reads w w.heap.size A L g) (hg: ∀i,i<L→g i<256) (ok:h.Ok) (hR2:Reads w w.heap.size A2 L2 g2) (hg2: ∀i,i<L2→g2 i<256) (hp:p<256) (hq:q<256):
  Calls Tryz.prog 5 #[.slice A L c, .agg (hdC h), .slice A2 L2 c2, .int .u8 (p:Int), .int .u8 (q:Int)] w fun e w'=>e= .returned (.bool true)∧Below w.heap.size w w':=by
 have hB0:=(Below.refl w.heap.size w).alloc (Nat.le_refl _) (.cells (hdC h) 24)
 have Hh:=hid (Blk.fresh w 24 (hdC h))
 have HB:=hid hB0
 have HG:=hid (hL.1.below hB0)
 have HT:=hid (hL.2.below hB0)
 have HX:=hid ((hR.below hB0).more hB0.size)
 have HK:=hid ((hR2.below hB0).more hB0.size)
 have Hg:=hid hg
 have Hg2:=hid hg2
 have Hok:=hid ok
 clear hB0 hL hR hg ok hR2 hg2
 go_enter Tryz.func5,Tryz.ntmps5
 go_wp2_with fail
 refine(awake11_any _ HG.out HT.out).mono ?_
 rintro e w1 ⟨rfl,hB1⟩
 have Hh1:=hid (Hh.out.below hB1 Hh.out.lt)
 have HG1:=hid (HG.out.below hB1)
 have HT1:=hid (HT.out.below hB1)
 have HX1:=hid ((HX.out.below hB1).more hB1.size)
 have HK1:=hid ((HK.out.below hB1).more hB1.size)
 have HB1:=hid (HB.out.trans (hB1.mono HB.out.size))
 clear Hh HG HT HX HK HB hB1
 by_cases h1:L≤100
 rotate_left
 ·have i1:decide (100< (L:Int))=true:=by simp;omega
  go_wp2_with fail
  refine(awake11_any _ HG1.out HT1.out).mono ?_
  rintro e w2 ⟨rfl,hB2⟩
  have HB2:=hid (HB1.out.trans (hB2.mono HB1.out.size))
  clear hB2
  go_wp2_with fail
  go_ret
  exact⟨rfl,HB2.out⟩
 have i1:decide (100< (L:Int))=false:=by simp;omega
 by_cases h2:L2≤100
 rotate_left
 ·have i2:decide (100< (L2:Int))=true:=by simp;omega
  go_wp2_with fail
  refine(awake11_any _ HG1.out HT1.out).mono ?_
  rintro e w2 ⟨rfl,hB2⟩
  have HB2:=hid (HB1.out.trans (hB2.mono HB1.out.size))
  clear hB2
  go_wp2_with fail
  go_ret
  exact⟨rfl,HB2.out⟩
 have i2:decide (100< (L2:Int))=false:=by simp;omega
 have HW:=hid (rwrong_any h Hok.out)
 by_cases hw:0≤wrong h
 ·have Hw:=hid hw
  clear hw
  go_wp2_with (first
   | ((with_reducible refine wpg_val ?_ _ (exec_ldcs 24 _ rfl w.heap.size rfl 24 _ Hh1.out _ Tryz.underlying24 (sizeC _)) ?_);exact rfl)
   | (go_at_call 8;refine(HW.out _).mono ?_;rintro x2 w2 ⟨rfl,hB2⟩;have hw2:=Hw.out;have HG2:=hid (HG1.out.below hB2);have HT2:=hid (HT1.out.below hB2);have HB2:=hid (HB1.out.trans (hB2.mono HB1.out.size));clear hB2))
  refine(awake11_any _ HG2.out HT2.out).mono ?_
  rintro e w3 ⟨rfl,hB3⟩
  have HB3:=hid (HB2.out.trans (hB3.mono HB2.out.size))
  clear hB3
  go_wp2_with fail
  go_ret
  exact⟨rfl,HB3.out⟩
 have hwr:wrong h= -1:=(wrong_lo h).resolve_right hw
 rw[hwr] at HW
 have Hwr:=hid hwr
 clear hw hwr
 go_wp2_with (first
  | ((with_reducible refine wpg_val ?_ _ (exec_ldcs 24 _ rfl w.heap.size rfl 24 _ Hh1.out _ Tryz.underlying24 (sizeC _)) ?_);exact rfl)
  | (go_at_call 8;refine(HW.out _).mono ?_;rintro x2 w2 ⟨rfl,hB2⟩;have Hh2:=hid (Hh1.out.below hB2 Hh1.out.lt);have HG2:=hid (HG1.out.below hB2);have HT2:=hid (HT1.out.below hB2);have HX2:=hid ((HX1.out.below hB2).more hB2.size);have HK2:=hid ((HK1.out.below hB2).more hB2.size);have HB2:=hid (HB1.out.trans (hB2.mono HB1.out.size));clear Hh1 HG1 HT1 HX1 HK1 HB1 hB2))
 refine(some_any A L c 16 g _ (by omega) (by omega) HX2.out).mono ?_
 rintro e w3 ⟨v3,rfl,ho3,hB3⟩
 obtain⟨ga,ca,rfl,hca⟩:=own_at ho3 (by omega)
 have HV3:=hid ho3.reads
 have Hh3:=hid (Hh2.out.below hB3 Hh2.out.lt)
 have HG3:=hid (HG2.out.below hB3)
 have HT3:=hid (HT2.out.below hB3)
 have HK3:=hid ((HK2.out.below hB3).more hB3.size)
 have HB3:=hid (HB2.out.trans (hB3.mono HB2.out.size))
 clear Hh2 HG2 HT2 HK2 HB2 hB3
 clear ho3 HX2
 go_wp2_with fail
 refine(some_any A2 L2 c2 16 g2 _ (by omega) (by omega) HK3.out).mono ?_
 rintro e w4 ⟨v4,rfl,ho4,hB4⟩
 obtain⟨gb,cb,rfl,-⟩:=own_at ho4 (by omega)
 have HY4:=hid ho4.reads
 have Hh4:=hid (Hh3.out.below hB4 Hh3.out.lt)
 have HG4:=hid (HG3.out.below hB4)
 have HT4:=hid (HT3.out.below hB4)
 have HV4:=hid ((HV3.out.below hB4).more hB4.size)
 have HB4:=hid (HB3.out.trans (hB4.mono HB3.out.size))
 clear Hh3 HG3 HT3 HV3 HB3 hB4
 clear ho4 HK3 HW
 obtain⟨k,hk⟩: ∃k,kd h.v=k:=⟨_,rfl⟩
 have hkk:=wrong_kd Hwr.out
 rw[hk] at hkk
 have hfl:=fill_lt (n:=16) (sz_or k)
 have hs16:=sz_or k
 have HF:Hid (fillZ h.v 16=fill (sz k) 16):=hid (fillZ_of (n:=16) hk hkk)
 obtain⟨M,N,T,tx,cd,hd,d⟩:=wd_of (L:=16) (W:=smF L g) (L2:=16) (key:=smF L2 g2) (fl:=smF 0 (fun _=>0)) Hwr.out Hok.out hk (.inl rfl) (fun i _=>smF_lt Hg.out i) (by unfold kfit;omega) rfl (fun i _=>smF_lt Hg2.out i) (fun i _=>smF_lt (fun i hi=>by omega) i)
 have HD:=hid d
 have hTb:17≤T∧T≤200:=by have:=d.sizes;have:=d.eT;omega
 have hl6:fill (sz k) 16≤1000:=by omega
 clear d hkk hk hfl hs16
 generalize fill (sz k) 16=lf at*
 go_wp2_with fail
 refine wp_region_held_drew (S:=fun W=>Below w4.heap.size w4 W) (by kernel_rfl) (Below.refl _ _).drew (fun hS0=>?_)
 refine ztk (i:=0) (v:= .slice (some ⟨ga,0,none⟩) 16 ca) rfl (fun _ _=>exec_move _ rfl _ rfl) hS0 ?_
 (try simp only[Act.put,zza,zzb,zzc,zzd,zze,zzf])
 refine ztk (i:=1) (v:= .agg (hdC h)) rfl (fun W hW=>exec_ldcs 24 _ rfl w.heap.size rfl 24 _ (Hh4.out.below hW Hh4.out.lt) _ Tryz.underlying24 (sizeC _)) hS0 ?_
 (try simp only[Act.put,zza,zzb,zzc,zzd,zze,zzf])
 refine ztk (i:=2) (v:= .slice (some ⟨gb,0,none⟩) 16 cb) rfl (fun _ _=>exec_move _ rfl _ rfl) hS0 ?_
 (try simp only[Act.put,zza,zzb,zzc,zzd,zze,zzf])
 refine ztk (i:=3) (v:= .agg (hdC h)) rfl (fun W hW=>exec_ldcs 24 _ rfl w.heap.size rfl 24 _ (Hh4.out.below hW Hh4.out.lt) _ Tryz.underlying24 (sizeC _)) hS0 ?_
 (try simp only[Act.put,zza,zzb,zzc,zzd,zze,zzf])
 refine wpAnyH_ready (rs:=[4]) (by kernel_rfl) (by simp) (AllReadyH.cons rfl (fun K hK=>?_) AllReadyH.nil)
 (try simp only[Act.put,zza,zzb,zzc,zzd,zze,zzf])
 refine Eq.mpr (if_pos (by rfl)) ?_
 go_simp
 refine(fill_any h 16 _).mono ?_
 rintro e wq1 ⟨rfl,hB5⟩
 rw[HF.out]
 refine hK.out _ _ (hS0.trans (hB5.mono hS0.size)) (fun hS1=>?_)
 (try simp only[Act.put,zza,zzb,zzc,zzd,zze,zzf])
 clear hK K
 refine wpAnyH_ready (rs:=[5]) (by kernel_rfl) (by simp) (AllReadyH.cons rfl (fun K hK=>?_) AllReadyH.nil)
 (try simp only[Act.put,zza,zzb,zzc,zzd,zze,zzf])
 refine Eq.mpr (if_pos (by rfl)) ?_
 go_simp
 refine(some_any none 0 0 lf (fun _=>0) _ (by omega) hl6 (fun h=>absurd h (by omega))).mono ?_
 rintro e wq2 ⟨v6,rfl,ho6,hB6⟩
 obtain⟨A6,c6,rfl,-⟩:=ho6.slice'
 refine hK.out _ _ (hS1.trans (hB6.mono hS1.size)) (fun hS2=>?_)
 (try simp only[Act.put,zza,zzb,zzc,zzd,zze,zzf])
 clear hK K
 refine wpAnyH_ready (rs:=[6]) (by kernel_rfl) (by simp) (AllReadyH.cons rfl (fun K hK=>?_) AllReadyH.nil)
 (try simp only[Act.put,zza,zzb,zzc,zzd,zze,zzf])
 refine Eq.mpr (if_pos (by rfl)) ?_
 go_simp
 refine(HD.out.wrap (some ⟨ga,0,none⟩) (some ⟨gb,0,none⟩) A6 ca cb c6 (fun h=>by cases h) _ ((HV4.out.below hS2).more (hS2).size) ((HY4.out.below hS2).more (hS2).size) ho6.reads (HT4.out.below hS2)).mono ?_
 rintro e wq3 ⟨hB7,rfl⟩
 refine hK.out _ _ (hS2.trans (hB7.mono hS2.size)) (fun hS3=>?_)
 (try simp only[Act.put,zza,zzb,zzc,zzd,zze,zzf])
 clear hK K
 refine ztk (i:=7) (v:= .tuple #[.string (strF T (bkF M T h hd cd)), .nilIface]) rfl (fun _ _=>exec_move _ rfl _ rfl) hS3 ?_
 (try simp only[Act.put,zza,zzb,zzc,zzd,zze,zzf])
 refine ztk (i:=8) (v:= .string (strF T (bkF M T h hd cd))) rfl (fun _ _=>exec_extract _ 0 rfl _ rfl _ rfl) hS3 ?_
 (try simp only[Act.put,zza,zzb,zzc,zzd,zze,zzf])
 refine ztk (i:=9) (v:= .nilIface) rfl (fun _ _=>exec_extract _ 1 rfl _ rfl _ rfl) hS3 ?_
 (try simp only[Act.put,zza,zzb,zzc,zzd,zze,zzf])
 refine ztk (i:=10) (v:= .string (strF T (bkF M T h hd cd))) rfl (fun _ _=>exec_assign _ rfl _ rfl) hS3 ?_
 (try simp only[Act.put,zza,zzb,zzc,zzd,zze,zzf])
 refine ztk (i:=11) (v:= .nilIface) rfl (fun _ _=>exec_assign _ rfl _ rfl) hS3 ?_
 (try simp only[Act.put,zza,zzb,zzc,zzd,zze,zzf])
 refine wpAnyH_done (by kernel_rfl) ?_ _
 have HG8:=hid (HG4.out.below hS3)
 have HV8:=hid ((HV4.out.below hS3).more (hS3).size)
 have HB8:=hid (HB4.out.trans (hS3.mono HB4.out.size))
 clear hS0 hS1 hS2 hS3 hB5 hB6 hB7 ho6 Hh4 HT4 HY4 HG4 HV4 HB4
 generalize wq3=w8 at*
 have Hsh:=hid (ur_short HD.out)
 have Hlo:=hid (ur_long HD.out)
 have Hbb:Hid (∀i,bkF M T h hd cd i<256):=hid fun i=>bkF_lt i
 have HsW:=hid (fun i (_:i<16)=>smF_lt Hg.out i)
 clear HD HF Hwr Hok Hg Hg2
 generalize bkF M T h hd cd=bk at*
 have hsT:(strF T bk).size=T:=strF_size _ _
 obtain⟨ix,hix⟩: ∃ix,ix=T-1-p%16:=⟨_,rfl⟩
 have hixT:ix<T:=by omega
 have F1:Hid ((T:Int)-1=((T-1:Nat):Int)∧(0:Int)≤((T-1:Nat):Int)∧((T-1:Nat):Int)≤100000):=hid ⟨by omega,by omega,by omega⟩
 have F2:Hid ((0:Int)≤(p:Int)∧(0:Int)<16∧(p:Int)%16=((p%16:Nat):Int)):=hid ⟨by omega,by omega,by omega⟩
 have F3:Hid (((T-1:Nat):Int)-((p%16:Nat):Int)=(ix:Int)∧(0:Int)≤(ix:Int)∧(ix:Int)≤100000):=hid ⟨by omega,by omega,by omega⟩
 have hcv:=cv_new w8 T bk (by omega) (fun i _=>Hbb.out i)
 have hbb:=below_bytes w8 5 (strF T bk)
 have hex: ∀(o:Oper) (a:Act) (x:Operand),o.op= .convert 9 22 x→a.eval x= .string (strF T bk)→(execOp a.eval o).run Tryz.prog w8= .ok (.value (.slice (some ⟨w8.heap.size,0,none⟩) T (grownCap w8 T 0 5))) (Lib.bytesWorld w8 5 (strF T bk)):=fun o a x h1 h2=>exec_bytes x h1 T _ h2
 generalize Lib.bytesWorld w8 5 (strF T bk)=wb at*
 generalize grownCap w8 T 0 5=cw at*
 have Hex:=hid hex
 have hcell:=hcv.cell hixT
 have hfree:=hcv.free hixT
 have Hcv:=hid hcv
 have Hbw:=hid hbb
 have hTm:T-1≤T:=by omega
 generalize p%16=pm at*
 clear hex hcv hbb hix
 by_cases heq:q=bk ix
 ·have dq:((q:Int) == ((bk ix:Nat):Int))=true:=by simp;omega
  clear heq
  go_wp2_with (first
   | (with_reducible refine wpl_valw rfl _ (Hex.out _ _ _ rfl rfl) ?_)
   | (with_reducible refine wpl_val rfl _ (exec_subN _ _ _ _ rfl _ _ _ rfl rfl F1.out) ?_)
   | (with_reducible refine wpl_val rfl _ (exec_cW _ _ _ rfl p hp rfl Tryz.underlying5 Tryz.underlying3) ?_)
   | (with_reducible refine wpl_val rfl _ (exec_remN _ _ _ _ rfl _ _ _ rfl rfl F2.out) ?_)
   | (with_reducible refine wpl_val rfl _ (exec_subN _ _ _ _ rfl _ _ _ rfl rfl F3.out) ?_)
   | (with_reducible refine wpl_val rfl _ (exec_slz 22 _ _ rfl cw rfl ix rfl 5 Tryz.underlying22 hixT Dg.i8q) ?_)
   | (with_reducible refine wpl_ld rfl 5 _ rfl ⟨w8.heap.size,ix,none⟩ rfl .u8 Tryz.underlying5 _ hcell ?_))
  have HBw:=hid (HB8.out.trans (Hbw.out.mono HB8.out.size))
  clear Hbw HB8
  go_ret
  exact⟨rfl,HBw.out⟩
 have dq:((q:Int) == ((bk ix:Nat):Int))=false:=by simp;omega
 have hst:=Hcv.out.set hixT q
 have hsb:=cv_set_below (i:=ix) (u:= .int .u8 ((q:Nat):Int)) Hcv.out Hbw.out (Nat.le_refl _)
 obtain⟨ws,hws⟩: ∃x,x=wb.setCell ⟨w8.heap.size,ix,none⟩ (.int .u8 ((q:Nat):Int)):=⟨_,rfl⟩
 rw[← hws] at hst hsb
 have Hws:=hid hws
 have Hub:Hid (∀i,upd bk ix q i<256):=hid fun i=>by
  unfold upd
  split
  ·exact hq
  exact Hbb.out i
 generalize upd bk ix q=bs at*
 obtain⟨o,hU⟩:=ur_total 16 (smF L g) T bs
 have HU:=hid hU
 have HoO:=hid (ur_ok Hub.out hU)
 have hon:=ur_n hU
 have HEq:=hid (hdEq_refl o.H)
 have HS8:=hid hst
 have hlt8:=hst.lt
 have hsb8:=hsb
 have HG9:=hid (HG8.out.below hsb)
 have HV9:=hid ((HV8.out.below hsb).more hsb.size)
 have HB9:=hid (HB8.out.trans (hsb.mono HB8.out.size))
 clear HG8 HV8 HB8 hsb
 clear heq hws hst hU Hbw Hcv hsb8
 go_wp2_with (first
  | (with_reducible refine wpl_valw rfl _ (Hex.out _ _ _ rfl rfl) ?_)
  | (with_reducible refine wpl_val rfl _ (exec_subN _ _ _ _ rfl _ _ _ rfl rfl F1.out) ?_)
  | (with_reducible refine wpl_val rfl _ (exec_cW _ _ _ rfl p hp rfl Tryz.underlying5 Tryz.underlying3) ?_)
  | (with_reducible refine wpl_val rfl _ (exec_remN _ _ _ _ rfl _ _ _ rfl rfl F2.out) ?_)
  | (with_reducible refine wpl_val rfl _ (exec_subN _ _ _ _ rfl _ _ _ rfl rfl F3.out) ?_)
  | (with_reducible refine wpl_val rfl _ (exec_slz 22 _ _ rfl cw rfl ix rfl 5 Tryz.underlying22 hixT Dg.i8q) ?_)
  | (with_reducible refine wpl_ld rfl 5 _ rfl ⟨w8.heap.size,ix,none⟩ rfl .u8 Tryz.underlying5 _ hcell ?_)
  | ((with_reducible refine wpl_st rfl 5 _ _ rfl ⟨w8.heap.size,ix,none⟩ rfl .u8 (q:Int) rfl Dg.i8q _ hcell hfree ?_);rw[← Hws.out])
  | (with_reducible refine wpl_val rfl _ (exec_strc _ rfl HS8.out cw rfl) ?_))
 refine(unwrap_any (some ⟨ga,0,none⟩) 16 ca T bs Hub.out (by omega) (smF L g) (fun h=>by cases h) HsW.out _ HG9.out HV9.out o HU.out).mono ?_
 rintro e w10 ⟨hB10,A10,c10,v10,rfl,hE,hR10,-⟩
 have HE10:=hid hE
 have HY10:=hid hR10
 have HS10:=hid (HS8.out.below hB10 hlt8)
 have hlt10:w8.heap.size<w10.heap.size:=Nat.lt_of_lt_of_le hlt8 hB10.size
 have HG10:=hid (HG9.out.below hB10)
 have HV10:=hid ((HV9.out.below hB10).more hB10.size)
 have HB10:=hid (HB9.out.trans (hB10.mono HB9.out.size))
 clear HG9 HV9 HB9 hB10
 have Hn10:=hid (Blk.fresh w10 24 noHd)
 have hB11:Below w10.heap.size w10 ((w10.alloc (.cells noHd 24)).setRow w10.heap.size (hdC o.H)):=below_setRow' ((Below.refl _ _).alloc (Nat.le_refl _) _) (Nat.le_refl _) _
 have Hx11:=hid (Hn10.out.setRow (hdC o.H))
 have HS11:=hid (HS10.out.below hB11 hlt10)
 have HG11:=hid (HG10.out.below hB11)
 have HV11:=hid ((HV10.out.below hB11).more hB11.size)
 have HE11:=hid (HE10.out.below hB11)
 have HY11:=hid ((HY10.out.below hB11).more hB11.size)
 have HB11:=hid (HB10.out.trans (hB11.mono HB10.out.size))
 clear HG10 HV10 HE10 HY10 HB10 hB11
 clear hE hR10 HS8 HS10
 go_wp2_with (first
  | (with_reducible refine wpl_alloc rfl 24 rfl _ zHead ?_)
  | (with_reducible refine wpl_storeH rfl 24 _ _ rfl w10.heap.size (hdC o.H) rfl rfl 24 _ Hn10.out (sizeC _) rfl (oneC _) ?_)
  | (with_reducible refine wpl_val rfl _ (exec_strc _ rfl HS11.out cw rfl) ?_))
 refine(runwrap_any (some ⟨ga,0,none⟩) 16 ca T bs Hub.out (by omega) (smF L g) hca HsW.out _ HV11.out o HU.out).mono ?_
 rintro e w12 ⟨hB12,A12,c12,rfl,hR12⟩
 have HZ12:=hid hR12
 have Hx12:=hid (Hx11.out.below hB12 Hx11.out.lt)
 have HG12:=hid (HG11.out.below hB12)
 have HV12:=hid ((HV11.out.below hB12).more hB12.size)
 have HE12:=hid (HE11.out.below hB12)
 have HY12:=hid ((HY11.out.below hB12).more hB12.size)
 have HB12:=hid (HB11.out.trans (hB12.mono HB11.out.size))
 clear Hx11 HG11 HV11 HE11 HY11 HB11 hB12
 have Hn12:=hid (Blk.fresh w12 24 noHd)
 have hB13:Below w12.heap.size w12 ((w12.alloc (.cells noHd 24)).setRow w12.heap.size (hdC o.H)):=below_setRow' ((Below.refl _ _).alloc (Nat.le_refl _) _) (Nat.le_refl _) _
 have Hz13:=hid (Hn12.out.setRow (hdC o.H))
 have Hx13:=hid (Hx12.out.below hB13 Hx12.out.lt)
 have HG13:=hid (HG12.out.below hB13)
 have HV13:=hid ((HV12.out.below hB13).more hB13.size)
 have HE13:=hid (HE12.out.below hB13)
 have HY13:=hid ((HY12.out.below hB13).more hB13.size)
 have HZ13:=hid ((HZ12.out.below hB13).more hB13.size)
 have HB13:=hid (HB12.out.trans (hB13.mono HB12.out.size))
 clear Hx12 HG12 HV12 HE12 HY12 HZ12 HB12 hB13
 clear hR12 HS11 HU
 go_wp2_with (first
  | (with_reducible refine wpl_alloc rfl 24 rfl _ zHead ?_)
  | (with_reducible refine wpl_storeH rfl 24 _ _ rfl w12.heap.size (hdC o.H) rfl rfl 24 _ Hn12.out (sizeC _) rfl (oneC _) ?_)
  | (with_reducible refine wpl_val rfl _ (exec_cat0 _ _ _ _ rfl rfl rfl (by omega)) ?_))
 refine(unwrap_any (some ⟨ga,0,none⟩) 16 ca (T+1) (cat T bk fun _=>48) (fun i=>by unfold cat;split;exact Hbb.out i;exact(show 48<256 by decide)) (by omega) (smF L g) (fun h=>by cases h) HsW.out _ HG13.out HV13.out _ Hlo.out).mono ?_
 rintro e w14 ⟨hB14,A14,c14,v14,rfl,hE14,-,-⟩
 have HL14:=hid hE14
 have Hx14:=hid (Hx13.out.below hB14 Hx13.out.lt)
 have Hz14:=hid (Hz13.out.below hB14 Hz13.out.lt)
 have HG14:=hid (HG13.out.below hB14)
 have HV14:=hid ((HV13.out.below hB14).more hB14.size)
 have HE14:=hid (HE13.out.below hB14)
 have HY14:=hid ((HY13.out.below hB14).more hB14.size)
 have HZ14:=hid ((HZ13.out.below hB14).more hB14.size)
 have HB14:=hid (HB13.out.trans (hB14.mono HB13.out.size))
 clear Hx13 Hz13 HG13 HV13 HE13 HY13 HZ13 HB13 hB14
 have Hn14:=hid (Blk.fresh w14 24 noHd)
 have hB15:Below w14.heap.size w14 ((w14.alloc (.cells noHd 24)).setRow w14.heap.size (hdC (UO.bad 2 (-1)).H)):=below_setRow' ((Below.refl _ _).alloc (Nat.le_refl _) _) (Nat.le_refl _) _
 have Hx15:=hid (Hx14.out.below hB15 Hx14.out.lt)
 have Hz15:=hid (Hz14.out.below hB15 Hz14.out.lt)
 have HG15:=hid (HG14.out.below hB15)
 have HV15:=hid ((HV14.out.below hB15).more hB15.size)
 have HE15:=hid (HE14.out.below hB15)
 have HL15:=hid (HL14.out.below hB15)
 have HY15:=hid ((HY14.out.below hB15).more hB15.size)
 have HZ15:=hid ((HZ14.out.below hB15).more hB15.size)
 have HB15:=hid (HB14.out.trans (hB15.mono HB14.out.size))
 clear Hx14 Hz14 HG14 HV14 HE14 HL14 HY14 HZ14 HB14 hB15
 clear hE14
 go_wp2_with (first
  | (with_reducible refine wpl_alloc rfl 24 rfl _ zHead ?_)
  | (with_reducible refine wpl_storeH rfl 24 _ _ rfl w14.heap.size (hdC (UO.bad 2 (-1)).H) rfl rfl 24 _ Hn14.out (sizeC _) rfl (oneC _) ?_)
  | (with_reducible refine wpl_val rfl _ (exec_subN _ _ _ _ rfl _ _ _ rfl rfl F1.out) ?_)
  | (with_reducible refine wpl_valw rfl _ (exec_cutSh 9 _ _ rfl T bk ((T-1:Nat):Int) rfl rfl (T-1) rfl hTm Tryz.underlying9) ?_))
 refine(unwrap_any (some ⟨ga,0,none⟩) 16 ca (T-1) bk Hbb.out (by omega) (smF L g) (fun h=>by cases h) HsW.out _ HG15.out HV15.out _ Hsh.out).mono ?_
 rintro e w16 ⟨hB16,A16,c16,v16,rfl,hE16,-,-⟩
 have HM16:=hid hE16
 have Hx16:=hid (Hx15.out.below hB16 Hx15.out.lt)
 have Hz16:=hid (Hz15.out.below hB16 Hz15.out.lt)
 have HG16:=hid (HG15.out.below hB16)
 have HE16:=hid (HE15.out.below hB16)
 have HL16:=hid (HL15.out.below hB16)
 have HY16:=hid ((HY15.out.below hB16).more hB16.size)
 have HZ16:=hid ((HZ15.out.below hB16).more hB16.size)
 have HB16:=hid (HB15.out.trans (hB16.mono HB15.out.size))
 clear Hx15 Hz15 HG15 HE15 HL15 HY15 HZ15 HB15 hB16
 have Hn16:=hid (Blk.fresh w16 24 noHd)
 have hB17:Below w16.heap.size w16 ((w16.alloc (.cells noHd 24)).setRow w16.heap.size (hdC (UO.bad 2 (-1)).H)):=below_setRow' ((Below.refl _ _).alloc (Nat.le_refl _) _) (Nat.le_refl _) _
 have Hx17:=hid (Hx16.out.below hB17 Hx16.out.lt)
 have Hz17:=hid (Hz16.out.below hB17 Hz16.out.lt)
 have HG17:=hid (HG16.out.below hB17)
 have HE17:=hid (HE16.out.below hB17)
 have HL17:=hid (HL16.out.below hB17)
 have HM17:=hid (HM16.out.below hB17)
 have HY17:=hid ((HY16.out.below hB17).more hB17.size)
 have HZ17:=hid ((HZ16.out.below hB17).more hB17.size)
 have HB17:=hid (HB16.out.trans (hB17.mono HB16.out.size))
 clear Hx16 Hz16 HG16 HE16 HL16 HM16 HY16 HZ16 HB16 hB17
 clear hE16 HV15
 go_wp2_with (first
  | (with_reducible refine wpl_alloc rfl 24 rfl _ zHead ?_)
  | (with_reducible refine wpl_storeH rfl 24 _ _ rfl w16.heap.size (hdC (UO.bad 2 (-1)).H) rfl rfl 24 _ Hn16.out (sizeC _) rfl (oneC _) ?_)
  | (with_reducible refine wpl_valw rfl _ (exec_ldcs 24 _ rfl w10.heap.size rfl 24 _ Hx17.out _ Tryz.underlying24 (sizeC _)) ?_)
  | (with_reducible refine wpl_valw rfl _ (exec_ldcs 24 _ rfl w12.heap.size rfl 24 _ Hz17.out _ Tryz.underlying24 (sizeC _)) ?_)
  | (with_reducible refine wpl_val rfl _ (exec_eqH _ _ _ rfl _ _ rfl rfl HoO.out HoO.out _ HEq.out) ?_))
 refine(same_yes A10 A12 o.n c10 c12 o.f _ (by omega) HY17.out HZ17.out).mono ?_
 rintro e w18 ⟨rfl,hB18⟩
 have HG18:=hid (HG17.out.below hB18)
 have HE18:=hid (HE17.out.below hB18)
 have HL18:=hid (HL17.out.below hB18)
 have HM18:=hid (HM17.out.below hB18)
 have HB18:=hid (HB17.out.trans (hB18.mono HB17.out.size))
 clear HG17 HE17 HL17 HM17 HB17 hB18
 clear HY17 HZ17 Hx17 Hz17
 go_wp2_with (first
  | (go_at_call 9;refine(HE18.out.code HG18.out).mono ?_;rintro x19 w19 ⟨rfl,hB19⟩;have HG19:=hid (HG18.out.below hB19);have HL19:=hid (HL18.out.below hB19);have HM19:=hid (HM18.out.below hB19);have HB19:=hid (HB18.out.trans (hB19.mono HB18.out.size));clear HG18 HL18 HM18 HB18 hB19)
  | (go_at_call 9;refine(HL19.out.code HG19.out).mono ?_;rintro x20 w20 ⟨rfl,hB20⟩;have HG20:=hid (HG19.out.below hB20);have HM20:=hid (HM19.out.below hB20);have HB20:=hid (HB19.out.trans (hB20.mono HB19.out.size));clear HG19 HM19 HB19 hB20)
  | (go_at_call 9;refine(HM20.out.code HG20.out).mono ?_;rintro x21 w21 ⟨rfl,hB21⟩;have HB21:=hid (HB20.out.trans (hB21.mono HB20.out.size));clear HB20 hB21))
 go_ret
 exact⟨rfl,HB21.out⟩
end Go.Proofs.YtlmacfmfmjhidaaGreatDoor.Wr.Spoilt
