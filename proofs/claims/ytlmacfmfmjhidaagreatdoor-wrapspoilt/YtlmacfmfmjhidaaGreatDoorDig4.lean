/-
 What Hex, Unhex, Check and Mod of the document's own lockboxref08 return.
-/
import Derived.Test.YtlmacfmfmjhidaaGreatDoorDigX
namespace Go.Proofs.YtlmacfmfmjhidaaGreatDoor.Dg
open Mem Go.ChangeShapes Go.WideShapes Go.ChangeAt Go.RowKit
section
variable {P:Program}{o:Oper}{a:Act}{w:World}
theorem exec_c64 (t t':TypeId) (x:Operand) (ho:o.op= .convert t t' x) (n:Nat) (hn:n<256) (hx:a.eval x= .int .u8 (n:Int)) (ht:P.underlying t=some (.int .u8)) (ht':P.underlying t'=some (.int .i64)):(execOp a.eval o).run P w= .ok (.value (.int .i64 (n:Int))) w:=by
 have hw:IntKind.i64.wrap (n:Int)=(n:Int):=wrap_i64 _ _ rfl (by omega) (by omega)
 have e:(convert t t' (.int .u8 (n:Int))).run P w= .ok (.int .i64 (n:Int)) w:=by
  simp[convert,run_underlying ht,run_underlying ht',Conv.intToInt,hw]
 unfold execOp
 simp only[ho,hx,e,Sem.run_bind,Sem.run_pure,Result.andThen_ok]
theorem exec_quo16 (t:TypeId) (x y:Operand) (rt:TypeId) (ho:o.op= .binOp .quo t x y rt) (n:Nat) (hn:n<256) (hx:a.eval x= .int .i64 (n:Int)) (hy:a.eval y= .int .i64 16):(execOp a.eval o).run P w= .ok (.value (.int .i64 ((n/16:Nat):Int))) w:=by
 have hm:(n:Int).tdiv 16=((n/16:Nat):Int):=by rw[Int.tdiv_eq_ediv_of_nonneg (by omega)];omega
 have hw:IntKind.i64.wrap ((n/16:Nat):Int)=((n/16:Nat):Int):=wrap_i64 _ _ rfl (by omega) (by omega)
 unfold execOp
 simp only[ho,hx,hy,Sem.run_bind]
 simp only[eqGuard,binOp,Op.intDiv,hm,hw]
 simp
theorem exec_rem16 (t:TypeId) (x y:Operand) (rt:TypeId) (ho:o.op= .binOp .rem t x y rt) (n:Nat) (hx:a.eval x= .int .i64 (n:Int)) (hy:a.eval y= .int .i64 16):(execOp a.eval o).run P w= .ok (.value (.int .i64 ((n%16:Nat):Int))) w:=by
 have hm:(n:Int).tmod 16=((n%16:Nat):Int):=by rw[Int.tmod_eq_emod_of_nonneg (by omega)];omega
 unfold execOp
 simp only[ho,hx,hy,Sem.run_bind]
 simp only[eqGuard,binOp,Op.intDiv,hm]
 simp
end
theorem rhex_step (k:Nat) (f:Nat→Nat) (x:Nat) (hx:f k=x):strF (2*k+1+1) (cat (2*k+1) (cat (2*k) (hexF f) fun _=>dg (x/16)) fun _=>dg (x%16))=strF (2*(k+1)) (hexF f):=by
 subst hx
 refine strF_ext fun i hi=>?_
 unfold cat
 by_cases h:i<2*k
 ·rw[if_pos (by omega),if_pos h]
 by_cases h0:i=2*k
 ·subst h0
  rw[if_pos (by omega),if_neg (by omega)]
  unfold hexF
  rw[if_pos (by omega),show 2*k/2=k by omega]
 obtain rfl:i=2*k+1:=by omega
 rw[if_neg (by omega)]
 unfold hexF
 rw[if_neg (by omega),show(2*k+1)/2=k by omega]
set_option maxRecDepth 100000 in
set_option maxHeartbeats 1000000 in
set_option linter.unusedSimpArgs false in
theorem rhex_any (A:Option Addr) (L c:Nat) (f:Nat→Nat) (w:World) (hL:L≤1000) (hf: ∀i,i<L→f i<256) (hR:Reads w w.heap.size A L f):
  Calls Tryz.prog 37 #[.slice A L c] w fun e w'=>e= .returned (.string (strF (2*L) (hexF f)))∧Below w.heap.size w w':=by
 have HR:=hid hR
 have Hf:=hid hf
 clear hR hf
 go_enter Tryz.func37,Tryz.ntmps37
 go_wp2
 go_loopw [3,4] (fun s y wr=> ∃k:Nat,k≤L∧s= .string (strF (2*k) (hexF f))∧y= .int .i64 (k:Int)∧Below w.heap.size w wr) (fun _ y _=>L-(intOf y).toNat)
 case atStart=>exact⟨0,by omega,rfl,rfl,Below.refl _ _⟩
 case round=>
  obtain⟨k,hk,rfl,rfl,hB⟩:=hrel
  by_cases hlt:k<L
  ·obtain⟨ad,rfl,had,hcs⟩:=HR.out (by omega)
   have Hcx:Hid (∀W,Below w.heap.size w W→W.cell? (ad.add k)=some (.int .u8 ((f k:Nat):Int))):=hid (fun W hW=>(hW.cell (p:=ad.add k) (by rw[add_block];exact had)).trans (hcs _ hlt))
   have hx:=Hf.out k hlt
   have HE:=hid (rhex_step k f (f k) rfl)
   generalize f k=x at*
   clear hcs
   go_wp2_with fail
   refine wp_region_held_drew (S:=fun W=>Below w.heap.size w W) (by kernel_rfl) hB.drew (fun hS0=>?_)
   refine ztk (i:=0) (v:= .string (strF (2*k) (hexF f))) rfl (fun _ _=>exec_move _ rfl _ rfl) hS0 ?_
   (try simp only[Act.put,zza,zzb,zzc,zzd,zze,zzf])
   refine ztk (i:=1) (v:= .slice (some ad) L c) rfl (fun _ _=>exec_move _ rfl _ rfl) hS0 ?_
   (try simp only[Act.put,zza,zzb,zzc,zzd,zze,zzf])
   refine ztk (i:=2) (v:= .int .i64 (k:Int)) rfl (fun _ _=>exec_move _ rfl _ rfl) hS0 ?_
   (try simp only[Act.put,zza,zzb,zzc,zzd,zze,zzf])
   refine ztk (i:=3) (v:= .pointer (some (ad.add k))) rfl (fun _ _=>exec_sl1 22 _ _ rfl ad L c rfl .i64 _ rfl k rfl 5 Tryz.underlying22 hlt i8q) hS0 ?_
   (try simp only[Act.put,zza,zzb,zzc,zzd,zze,zzf])
   refine ztk (i:=4) (v:= .int .u8 (x:Int)) rfl (fun W hW=>exec_ld 5 _ rfl _ rfl .u8 Tryz.underlying5 _ (Hcx.out W hW)) hS0 ?_
   (try simp only[Act.put,zza,zzb,zzc,zzd,zze,zzf])
   refine ztk (i:=5) (v:= .int .i64 (x:Int)) rfl (fun _ _=>exec_c64 _ _ _ rfl x hx rfl Tryz.underlying5 Tryz.underlying3) hS0 ?_
   (try simp only[Act.put,zza,zzb,zzc,zzd,zze,zzf])
   refine ztk (i:=6) (v:= .int .i64 ((x/16:Nat):Int)) rfl (fun _ _=>exec_quo16 _ _ _ _ rfl x hx rfl rfl) hS0 ?_
   (try simp only[Act.put,zza,zzb,zzc,zzd,zze,zzf])
   refine ztk (i:=9) (v:= .slice (some ad) L c) rfl (fun _ _=>exec_move _ rfl _ rfl) hS0 ?_
   (try simp only[Act.put,zza,zzb,zzc,zzd,zze,zzf])
   refine ztk (i:=10) (v:= .int .i64 (k:Int)) rfl (fun _ _=>exec_move _ rfl _ rfl) hS0 ?_
   (try simp only[Act.put,zza,zzb,zzc,zzd,zze,zzf])
   refine ztk (i:=11) (v:= .pointer (some (ad.add k))) rfl (fun _ _=>exec_sl1 22 _ _ rfl ad L c rfl .i64 _ rfl k rfl 5 Tryz.underlying22 hlt i8q) hS0 ?_
   (try simp only[Act.put,zza,zzb,zzc,zzd,zze,zzf])
   refine ztk (i:=12) (v:= .int .u8 (x:Int)) rfl (fun W hW=>exec_ld 5 _ rfl _ rfl .u8 Tryz.underlying5 _ (Hcx.out W hW)) hS0 ?_
   (try simp only[Act.put,zza,zzb,zzc,zzd,zze,zzf])
   refine ztk (i:=13) (v:= .int .i64 (x:Int)) rfl (fun _ _=>exec_c64 _ _ _ rfl x hx rfl Tryz.underlying5 Tryz.underlying3) hS0 ?_
   (try simp only[Act.put,zza,zzb,zzc,zzd,zze,zzf])
   refine ztk (i:=14) (v:= .int .i64 ((x%16:Nat):Int)) rfl (fun _ _=>exec_rem16 _ _ _ _ rfl x rfl rfl) hS0 ?_
   (try simp only[Act.put,zza,zzb,zzc,zzd,zze,zzf])
   refine wpAnyH_ready (rs:=[7]) (by kernel_rfl) (by simp) (AllReadyH.cons rfl (fun K hK=>?_) AllReadyH.nil)
   (try simp only[Act.put,zza,zzb,zzc,zzd,zze,zzf])
   refine Eq.mpr (if_pos (by rfl)) ?_
   go_simp
   refine(digit_any (x/16) (by omega) _).mono ?_
   rintro e wq1 ⟨rfl,hBa⟩
   refine hK.out _ _ (hS0.trans (hBa.mono hS0.size)) (fun hS1=>?_)
   (try simp only[Act.put,zza,zzb,zzc,zzd,zze,zzf])
   clear hK K
   refine ztk (i:=8) (v:= .string (strF (2*k+1) (cat (2*k) (hexF f) fun _=>dg (x/16)))) rfl (fun _ _=>exec_cat _ _ _ _ rfl (2*k) 1 _ _ rfl rfl (by omega)) hS1 ?_
   (try simp only[Act.put,zza,zzb,zzc,zzd,zze,zzf])
   refine wpAnyH_ready (rs:=[15]) (by kernel_rfl) (by simp) (AllReadyH.cons rfl (fun K hK=>?_) AllReadyH.nil)
   (try simp only[Act.put,zza,zzb,zzc,zzd,zze,zzf])
   refine Eq.mpr (if_pos (by rfl)) ?_
   go_simp
   refine(digit_any (x%16) (by omega) _).mono ?_
   rintro e wq2 ⟨rfl,hBb⟩
   refine hK.out _ _ (hS1.trans (hBb.mono hS1.size)) (fun hS2=>?_)
   (try simp only[Act.put,zza,zzb,zzc,zzd,zze,zzf])
   clear hK K
   refine ztk (i:=16) (v:= .string (strF (2*k+1+1) (cat (2*k+1) (cat (2*k) (hexF f) fun _=>dg (x/16)) fun _=>dg (x%16)))) rfl (fun _ _=>exec_cat _ _ _ _ rfl (2*k+1) 1 _ _ rfl rfl (by omega)) hS2 ?_
   (try simp only[Act.put,zza,zzb,zzc,zzd,zze,zzf])
   refine ztk (i:=17) (v:= .string (strF (2*k+1+1) (cat (2*k+1) (cat (2*k) (hexF f) fun _=>dg (x/16)) fun _=>dg (x%16)))) rfl (fun _ _=>exec_assign _ rfl _ rfl) hS2 ?_
   (try simp only[Act.put,zza,zzb,zzc,zzd,zze,zzf])
   refine wpAnyH_done (by kernel_rfl) ?_ _
   rw[HE.out]
   go_wp2_with fail
   go_round
   case rel=>exact⟨k+1,by omega,rfl,val_int (by omega),hS2⟩
   case measure=>simp[intOf];omega
  obtain rfl:k=L:=by omega
  go_wp2
  go_ret
  exact⟨rfl,hB⟩
theorem bs1 (x:Int) (w:World):(Instr.buildSlice 22 1 #[(0, .int .u8 x)]).run Tryz.prog w= .ok (.slice (some ⟨w.heap.size,0,none⟩) 1 1) (w.alloc (.cells #[.int .u8 x] 5)):=by kernel_rfl
theorem wp_bs1 {P:Program}{o:Oper}{a:Act}{w:World}{K:Act→World→Prop}{Q:Exit→Act→World→Prop} (t:TypeId) (p:Operand) (ho:o.op= .buildSlice t 1 #[(0,p)]) (u:Value) (hp:a.eval p=u) (cs:Array Value) (e:TypeId)
  (hr:(Instr.buildSlice t 1 #[(0,u)]).run P w= .ok (.slice (some ⟨w.heap.size,0,none⟩) 1 1) (w.alloc (.cells cs e)))
  (h:K (a.put o.dst (.slice (some ⟨w.heap.size,0,none⟩) 1 1)) (w.alloc (.cells cs e))):o.wp P a w K Q:=by
 unfold Oper.wp execOp
 simp only[ho,List.map_toArray,List.map_cons,List.map_nil,hp,hr,Sem.run_bind,Sem.run_pure,Result.andThen_ok]
 exact h
theorem one_reads (w:World) (x:Nat):Reads (w.alloc (.cells #[.int .u8 (x:Int)] 5)) (w.heap.size+1) (some ⟨w.heap.size,0,none⟩) 1 (fun _=>x):=fun _=>
 ⟨_,rfl,Nat.lt_succ_self _,fun i hi=>by
  obtain rfl:i=0:=by omega
  exact(Blk.fresh w 5 #[.int .u8 (x:Int)]).cell 0⟩
set_option maxRecDepth 100000 in
set_option maxHeartbeats 1000000 in
set_option linter.unusedSimpArgs false in
theorem runhex_any (n m:Nat) (f:Nat→Nat) (w:World) (hf: ∀i,f i<256) (hm:m≤1000) (hn:n=2*m) (h:AllD 16 n f):
  Calls Tryz.prog 44 #[.string (strF n f)] w fun e w'=> ∃v,e= .returned v∧Own w' w.heap.size 5 1 v m (unhF f)∧Below w.heap.size w w':=by
 have hsz:=strF_size n f
 have Hn:=hid hn
 have HA:=hid h
 clear hn h
 have hnn:n≤2000:=by have:=Hn.out;omega
 go_enter Tryz.func44,Tryz.ntmps44
 go_wp2
 go_loopw [3,4] (fun v y wr=> ∃k:Nat,k≤m∧y= .int .i64 (2*(k:Int))∧Own wr w.heap.size 5 1 v k (unhF f)∧Below w.heap.size w wr) (fun _ y _=>2*m-(intOf y).toNat)
 case atStart=>exact⟨0,by omega,rfl,Own.nil _ _ _ _ _,Below.refl _ _⟩
 case round=>
  obtain⟨k,hk,rfl,hov,hBr⟩:=hrel
  obtain⟨A',c',rfl,hc',-⟩:=hov.slice'
  have Hov:=hid hov
  have HBr:=hid hBr
  clear hov hBr
  by_cases hlt:k<m
  ·have hl1:2*k<n:=by have:=Hn.out;omega
   have hl2:2*k+1<n:=by have:=Hn.out;omega
   have hl2I:2*(k:Int)+1< (n:Int):=by omega
   have hd1:=HA.out _ hl1
   have hd2:=HA.out _ hl2
   have hu:unhF f k=16*dv (f (2*k))+dv (f (2*k+1)):=rfl
   have HU:Hid (16*(dv (f (2*k)):Int)+(dv (f (2*k+1)):Int)=((unhF f k:Nat):Int)):=hid (by rw[hu];omega)
   have hul:unhF f k<256:=by rw[hu];omega
   clear hu
   have HovA:Hid (∀cs,Own (wr.drew.alloc (.cells cs 5)) w.heap.size 5 1 (.slice A' k c') k (unhF f)):=hid (fun cs=>Own.alloc (show Own wr.drew w.heap.size 5 1 (.slice A' k c') k (unhF f) from Hov.out) _)
   go_wp2_with fail
   refine wp_region_held_drew (S:=fun W=>Below w.heap.size w W) (by kernel_rfl) HBr.out.drew (fun hS0=>?_)
   refine ztk (i:=0) (v:= .slice A' k c') rfl (fun _ _=>exec_move _ rfl _ rfl) hS0 ?_
   (try simp only[Act.put,zza,zzb,zzc,zzd,zze,zzf])
   refine ztk (i:=1) (v:= .string (strF n f)) rfl (fun _ _=>exec_move _ rfl _ rfl) hS0 ?_
   (try simp only[Act.put,zza,zzb,zzc,zzd,zze,zzf])
   refine ztk (i:=2) (v:= .int .i64 (2*(k:Int))) rfl (fun _ _=>exec_move _ rfl _ rfl) hS0 ?_
   (try simp only[Act.put,zza,zzb,zzc,zzd,zze,zzf])
   refine ztk (i:=3) (v:= .int .u8 ((f (2*k):Nat):Int)) rfl (fun _ _=>exec_str 9 _ _ rfl (strF n f) rfl .i64 _ rfl (2*k) (by omega) Tryz.underlying9 _ (byteAt_strF hl1 (hf _))) hS0 ?_
   (try simp only[Act.put,zza,zzb,zzc,zzd,zze,zzf])
   refine ztk (i:=6) (v:= .string (strF n f)) rfl (fun _ _=>exec_move _ rfl _ rfl) hS0 ?_
   (try simp only[Act.put,zza,zzb,zzc,zzd,zze,zzf])
   refine ztk (i:=7) (v:= .int .i64 (2*(k:Int))) rfl (fun _ _=>exec_move _ rfl _ rfl) hS0 ?_
   (try simp only[Act.put,zza,zzb,zzc,zzd,zze,zzf])
   refine ztk (i:=8) (v:= .int .i64 (2*(k:Int)+1)) rfl (fun _ _=>exec_arith .add (.inl rfl) _ _ _ _ rfl (2*(k:Int)) 1 rfl rfl (2*(k:Int)+1) rfl (by omega) (by omega)) hS0 ?_
   (try simp only[Act.put,zza,zzb,zzc,zzd,zze,zzf])
   refine ztk (i:=9) (v:= .int .u8 ((f (2*k+1):Nat):Int)) rfl (fun _ _=>exec_str 9 _ _ rfl (strF n f) rfl .i64 _ rfl (2*k+1) (by omega) Tryz.underlying9 _ (byteAt_strF hl2 (hf _))) hS0 ?_
   (try simp only[Act.put,zza,zzb,zzc,zzd,zze,zzf])
   refine wpAnyH_ready (rs:=[4]) (by kernel_rfl) (by simp) (AllReadyH.cons rfl (fun K hK=>?_) AllReadyH.nil)
   (try simp only[Act.put,zza,zzb,zzc,zzd,zze,zzf])
   refine Eq.mpr (if_pos (by rfl)) ?_
   go_simp
   refine(value_any (f (2*k)) (hf _) _).mono ?_
   rintro e wq1 ⟨rfl,rfl⟩
   refine hK.out _ _ (hS0.trans ((Below.refl _ _).mono hS0.size)) (fun hS1=>?_)
   (try simp only[Act.put,zza,zzb,zzc,zzd,zze,zzf])
   clear hK K
   refine ztk (i:=5) (v:= .int .i64 (16*(dv (f (2*k)):Int))) rfl (fun _ _=>exec_arith .mul (.inr (.inr rfl)) _ _ _ _ rfl 16 (dv (f (2*k)):Int) rfl rfl (16*(dv (f (2*k)):Int)) rfl (by omega) (by omega)) hS1 ?_
   (try simp only[Act.put,zza,zzb,zzc,zzd,zze,zzf])
   refine wpAnyH_ready (rs:=[10]) (by kernel_rfl) (by simp) (AllReadyH.cons rfl (fun K hK=>?_) AllReadyH.nil)
   (try simp only[Act.put,zza,zzb,zzc,zzd,zze,zzf])
   refine Eq.mpr (if_pos (by rfl)) ?_
   go_simp
   refine(value_any (f (2*k+1)) (hf _) _).mono ?_
   rintro e wq2 ⟨rfl,rfl⟩
   refine hK.out _ _ (hS1.trans ((Below.refl _ _).mono hS1.size)) (fun hS2=>?_)
   (try simp only[Act.put,zza,zzb,zzc,zzd,zze,zzf])
   clear hK K
   refine ztk (i:=11) (v:= .int .i64 ((unhF f k:Nat):Int)) rfl (fun _ _=>exec_arith .add (.inl rfl) _ _ _ _ rfl (16*(dv (f (2*k)):Int)) (dv (f (2*k+1)):Int) rfl rfl _ HU.out (by omega) (by omega)) hS2 ?_
   (try simp only[Act.put,zza,zzb,zzc,zzd,zze,zzf])
   refine ztk (i:=12) (v:= .int .u8 ((unhF f k:Nat):Int)) rfl (fun _ _=>exec_c8 _ _ _ rfl (unhF f k) hul rfl Tryz.underlying3 Tryz.underlying5) hS2 ?_
   (try simp only[Act.put,zza,zzb,zzc,zzd,zze,zzf])
   refine wpAnyH_ready (rs:=[13]) (by kernel_rfl) (by simp) (AllReadyH.cons rfl (fun K hK=>?_) AllReadyH.nil)
   (try simp only[Act.put,zza,zzb,zzc,zzd,zze,zzf])
   refine Eq.mpr (if_pos (by rfl)) ?_
   refine wp_bs1 22 _ rfl (.int .u8 ((unhF f k:Nat):Int)) rfl _ _ (bs1 _ _) ?_
   refine hK.out _ _ (hS2.alloc hS2.size _) (fun hS3=>?_)
   (try simp only[Act.put,zza,zzb,zzc,zzd,zze,zzf])
   clear hK K
   refine wpAnyH_ready (rs:=[14]) (by kernel_rfl) (by simp) (AllReadyH.cons rfl (fun K hK=>?_) AllReadyH.nil)
   (try simp only[Act.put,zza,zzb,zzc,zzd,zze,zzf])
   refine Eq.mpr (if_pos (by rfl)) ?_
   refine wp_app_gen _ _ 22 rfl w.heap.size 5 (.int .u8 0) Tryz.underlying22 info8 rfl _ k (unhF f) rfl (HovA.out _) (some ⟨wr.drew.heap.size,0,none⟩) 1 1 _ _ (one_reads wr.drew _) (fun h=>by cases h) rfl (by omega) (by have:=HBr.out.size;simp;omega) ?_
   intro v3 w3 ho3 hB3
   refine hK.out _ _ (hS3.trans hB3) (fun hS4=>?_)
   (try simp only[Act.put,zza,zzb,zzc,zzd,zze,zzf])
   clear hK K
   refine ztk (i:=15) (v:=v3) rfl (fun _ _=>exec_assign _ rfl _ rfl) hS4 ?_
   (try simp only[Act.put,zza,zzb,zzc,zzd,zze,zzf])
   refine wpAnyH_done (by kernel_rfl) ?_ _
   go_wp2_with fail
   go_round
   case rel=>exact⟨k+1,by omega,val_int (by omega),ho3.ext (fun i hi=>by
    unfold cat
    by_cases h:i<k
    ·rw[if_pos h]
    rw[if_neg h]
    have:i=k:=by omega
    rw[this]),hS4⟩
   case measure=>simp[intOf];omega
  have hl2I: ¬2*(k:Int)+1< (n:Int):=by have:=Hn.out;omega
  obtain rfl:k=m:=by omega
  go_wp2
  go_ret
  exact⟨_,rfl,Hov.out,HBr.out⟩
theorem back_step {c:Nat→Nat}{j s q S:Nat} (hs:s+sumD c (j+1)=S) (hq:q=c j):s+q+sumD c j=S:=by
 simp only[sumD] at hs
 omega
end Go.Proofs.YtlmacfmfmjhidaaGreatDoor.Dg
