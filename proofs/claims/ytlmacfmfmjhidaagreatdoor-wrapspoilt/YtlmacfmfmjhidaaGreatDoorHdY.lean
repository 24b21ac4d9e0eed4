/-
 Hd5 Hd9 Law10 HdBackMath
-/
import Derived.Test.YtlmacfmfmjhidaaGreatDoorHdX
namespace Go.Proofs.YtlmacfmfmjhidaaGreatDoor.Hd
open Mem Go.ChangeShapes Go.WideShapes Go.ChangeAt Go.RowKit
theorem bsb5 (x y z s t:Int) (w:World):(Instr.buildSlice 22 5 #[(0, .int .u8 x),(1, .int .u8 y),(2, .int .u8 z),(3, .int .u8 s),(4, .int .u8 t)]).run Tryz.prog w= .ok (.slice (some ⟨w.heap.size,0,none⟩) 5 5) (w.alloc (.cells #[.int .u8 x, .int .u8 y, .int .u8 z, .int .u8 s, .int .u8 t] 5)):=by kernel_rfl
theorem bsb7 (x y z s t u v:Int) (w:World):(Instr.buildSlice 22 7 #[(0, .int .u8 x),(1, .int .u8 y),(2, .int .u8 z),(3, .int .u8 s),(4, .int .u8 t),(5, .int .u8 u),(6, .int .u8 v)]).run Tryz.prog w= .ok (.slice (some ⟨w.heap.size,0,none⟩) 7 7) (w.alloc (.cells #[.int .u8 x, .int .u8 y, .int .u8 z, .int .u8 s, .int .u8 t, .int .u8 u, .int .u8 v] 5)):=by kernel_rfl
theorem wpl_appG {ops:Array Oper}{rest:List Oper}{o:Oper}{a:Act}{w:World}{Q:Exit→Act→World→Prop} (hgd:o.guard=none) (p q:Operand) (ho:o.op= .call {callee:= .builtin .append,args:=#[p,q],argTypes:=#[22,22]}) (base:Nat) (v:Value) (n:Nat) (f:Nat→Nat) (hp:a.eval p=v) (hown:Own w base 5 1 v n f)
  (m:Nat) (g:Nat→Nat) (cs:Array Value) (hcs:cs=row (m*1) (b8 g)) (b:Nat) (hb:b=w.heap.size) (hq:a.eval q= .slice (some ⟨b,0,none⟩) m m) (hn:(n+m)*1≤1000000) (hbase:base≤w.heap.size)
  (h: ∀v' w',Own w' base 5 1 v' (n+m) (cat (n*1) f g)→Below base w w'→wpList Tryz.prog ops Q rest (a.put o.dst v') w'):wpList Tryz.prog ops Q (o::rest) a (w.alloc (.cells cs 5)):=by
 subst hb
 exact wpl_app hgd p q 22 ho base 5 1 (.int .u8 0) Tryz.underlying22 info8h rfl (by omega) v n f hp hown m g cs hcs hq hn hbase h
theorem exec_catZ {P:Program}{o:Oper}{a:Act}{w:World} (t:TypeId) (x y:Operand) (rt:TypeId) (ho:o.op= .binOp .add t x y rt) (n:Nat) (f:Nat→Nat) (hx:a.eval x= .string (strF n f)) (hy:a.eval y= .string ⟨#[48,48,48,48]⟩) (hn:n≤1000):
  (execOp a.eval o).run P w= .ok (.value (.string (strF (n+4) (cat n f fun _=>48)))) w:=
 exec_cat t x y rt ho n 4 f (fun _=>48) hx (hy.trans rfl) (by omega)
def h5 (v n:Nat):Nat→Nat:=fun i=>if i=0 then v else dgF n (i-1)
def h7 (f:Nat→Nat) (a k:Nat) (g:Nat→Nat) (x:Nat):Nat→Nat:=fun i=>if i=0 then f 0 else if i=1 then f 1 else if i=2 then a else if i=3 then k else if i=4 then g 0 else if i=5 then g 1 else x
theorem row7 (f:Nat→Nat) (a k:Nat) (g:Nat→Nat) (x:Nat): #[Value.int .u8 ((f 0:Nat):Int), .int .u8 ((f 1:Nat):Int), .int .u8 (a:Int), .int .u8 (k:Int), .int .u8 ((g 0:Nat):Int), .int .u8 ((g 1:Nat):Int), .int .u8 (x:Int)]=row (7*1) (b8 (h7 f a k g x)):=rfl
theorem prF_cat2 (v a k x n:Nat) (f g:Nat→Nat) (i:Nat) (hi:i<16):cat 12 (cat 5 (cat 0 (fun _=>0) (h5 v n)) (h7 f a k g x)) (fun _=>48) i=prF ⟨v,2,f,a,k,2,g,x⟩ n i:=by
 match i,hi with
 | 0,_=>rfl
 | 1,_=>rfl
 | 2,_=>rfl
 | 3,_=>rfl
 | 4,_=>rfl
 | 5,_=>rfl
 | 6,_=>rfl
 | 7,_=>rfl
 | 8,_=>rfl
 | 9,_=>rfl
 | 10,_=>rfl
 | 11,_=>rfl
 | 12,_=>rfl
 | 13,_=>rfl
 | 14,_=>rfl
 | 15,_=>rfl
 | i+16,hi=>exact absurd hi (by omega)
set_option maxRecDepth 100000 in
set_option maxHeartbeats 1000000 in
set_option linter.unusedSimpArgs false in
theorem rprint_ok (h:Hd) (ok:h.Ok) (hw:wrong h= -1) (n:Nat) (hn1:16≤n) (hn2:n≤9999) (w:World):
  Calls Tryz.prog 35 #[.agg (hdC h), .int .i64 (n:Int)] w fun e w'=>e= .returned (.string (strF 16 (prF h n)))∧Below w.heap.size w w':=by
 obtain⟨v,nn,f,a,k,m,g,x⟩:=h
 obtain⟨hv,hf,ha,hk,hg,hx⟩:=ok
 simp only at hv hf ha hk hg hx
 have hpr:=prB_two (wrong_n hw)
 have hpm:=prB_two (wrong_m hw)
 simp only at hpr hpm
 subst hpr hpm
 have hB0:Below w.heap.size w (w.alloc (.cells (hdC ⟨v,2,f,a,k,2,g,x⟩) 24)):=(Below.refl _ _).alloc (Nat.le_refl _) _
 have hb0:=Blk.fresh w 24 (hdC ⟨v,2,f,a,k,2,g,x⟩)
 have hlt:w.heap.size< (w.alloc (.cells (hdC ⟨v,2,f,a,k,2,g,x⟩) 24)).heap.size:=by simp
 unfold hdC at hB0 hb0 hlt ⊢
 simp only at hB0 hb0 hlt ⊢
 have HB0:=hid hB0
 have HC:Hid (∀W,Below (w.alloc (.cells #[Value.int .u8 (v:Int), .string (strF 2 f), .int .u8 (a:Int), .int .u8 (k:Int), .string (strF 2 g), .int .u8 (x:Int)] 24)).heap.size (w.alloc (.cells #[Value.int .u8 (v:Int), .string (strF 2 f), .int .u8 (a:Int), .int .u8 (k:Int), .string (strF 2 g), .int .u8 (x:Int)] 24)) W→∀i u,(#[Value.int .u8 (v:Int), .string (strF 2 f), .int .u8 (a:Int), .int .u8 (k:Int), .string (strF 2 g), .int .u8 (x:Int)]:Array Value)[i]? =some u→W.cell? ⟨w.heap.size,i,none⟩=some u):=hid (fun W hW i u hu=>by rw[(hb0.below hW hb0.lt).cell i];exact hu)
 have Hlt:=hid hlt
 clear hb0 hB0 hw hlt
 go_enter Tryz.func35,Tryz.ntmps35
 have hd0:(48+(n:Int)/1000)=((dgF n 0:Nat):Int):=by rw[show dgF n 0=48+n/1000%10 from rfl];omega
 have hd1:(48+(n:Int)/100%10)=((dgF n 1:Nat):Int):=by rw[show dgF n 1=48+n/100%10 from rfl];omega
 have hd2:(48+(n:Int)/10%10)=((dgF n 2:Nat):Int):=by rw[show dgF n 2=48+n/10%10 from rfl];omega
 have hd3:(48+(n:Int)%10)=((dgF n 3:Nat):Int):=by rw[show dgF n 3=48+n%10 from rfl];omega
 have hrw: #[Value.int .u8 (v:Int), .int .u8 (48+(n:Int)/1000), .int .u8 (48+(n:Int)/100%10), .int .u8 (48+(n:Int)/10%10), .int .u8 (48+(n:Int)%10)]=row (5*1) (b8 (h5 v n)):=by rw[hd0,hd1,hd2,hd3];rfl
 have Hrw:=hid hrw
 have hn0:=Own.nil (w.alloc (.cells #[Value.int .u8 (v:Int), .string (strF 2 f), .int .u8 (a:Int), .int .u8 (k:Int), .string (strF 2 g), .int .u8 (x:Int)] 24)) (w.alloc (.cells #[Value.int .u8 (v:Int), .string (strF 2 f), .int .u8 (a:Int), .int .u8 (k:Int), .string (strF 2 g), .int .u8 (x:Int)] 24)).heap.size 5 1 (fun _=>0)
 have Hn0:=hid hn0
 clear hrw hn0 hd0 hd1 hd2 hd3
 go_wp2_with (first
  | (with_reducible refine wpl_valw rfl _ (exec_bs 22 5 _ rfl #[(0, .int .u8 (v:Int)),(1, .int .u8 (48+(n:Int)/1000)),(2, .int .u8 (48+(n:Int)/100%10)),(3, .int .u8 (48+(n:Int)/10%10)),(4, .int .u8 (48+(n:Int)%10))] rfl _ (bsb5 _ _ _ _ _ _)) ?_)
  | (at_builtin;refine wpl_appG rfl _ _ rfl (w.alloc (.cells #[Value.int .u8 (v:Int), .string (strF 2 f), .int .u8 (a:Int), .int .u8 (k:Int), .string (strF 2 g), .int .u8 (x:Int)] 24)).heap.size _ 0 _ rfl Hn0.out 5 (h5 v n) _ Hrw.out (w.heap.size+1) (by simp) rfl (by omega) (Nat.le_refl _) ?_))
 intro v1 w1 ho1 hB1
 rw[← show(w.alloc (.cells #[Value.int .u8 (v:Int), .string (strF 2 f), .int .u8 (a:Int), .int .u8 (k:Int), .string (strF 2 g), .int .u8 (x:Int)] 24)).heap.size=w.heap.size+1 by simp] at ho1 hB1
 generalize w.alloc (.cells #[Value.int .u8 (v:Int), .string (strF 2 f), .int .u8 (a:Int), .int .u8 (k:Int), .string (strF 2 g), .int .u8 (x:Int)] 24)=W0 at*
 have Ho1:=hid ho1
 have HB1:=hid hB1
 have h0:=byteAt_strF (n:=2) (f:=f) (k:=0) (by omega) (hf 0)
 have h1:=byteAt_strF (n:=2) (f:=f) (k:=1) (by omega) (hf 1)
 have h2:=byteAt_strF (n:=2) (f:=g) (k:=0) (by omega) (hg 0)
 have h3:=byteAt_strF (n:=2) (f:=g) (k:=1) (by omega) (hg 1)
 have hsz1:=hB1.size
 clear Hn0 Hrw ho1 hB1
 go_wp2_with fail
 refine wp_region_held_drew (S:=fun W=>Below W0.heap.size W0 W) (by kernel_rfl) HB1.out.drew (fun hS0=>?_)
 refine ztk (i:=0) (v:=v1) rfl (fun _ _=>exec_move _ rfl _ rfl) hS0 ?_
 (try simp only[Act.put,zza,zzb,zzc,zzd,zze,zzf])
 refine ztk (i:=1) (v:= .pointer (some ⟨w.heap.size,1,none⟩)) rfl (fun W _=>by go_simp) hS0 ?_
 (try simp only[Act.put,zza,zzb,zzc,zzd,zze,zzf])
 refine ztk (i:=2) (v:= .string (strF 2 f)) rfl (fun W hW=>exec_ldc 9 _ rfl ⟨w.heap.size,1,none⟩ rfl _ (HC.out W hW 1 _ rfl) (.inr Tryz.underlying9)) hS0 ?_
 (try simp only[Act.put,zza,zzb,zzc,zzd,zze,zzf])
 refine ztk (i:=3) (v:= .int .u8 ((f 0:Nat):Int)) rfl (fun W _=>exec_str 9 _ _ rfl (strF 2 f) rfl .i64 _ rfl 0 rfl Tryz.underlying9 (f 0) h0) hS0 ?_
 (try simp only[Act.put,zza,zzb,zzc,zzd,zze,zzf])
 refine ztk (i:=4) (v:= .pointer (some ⟨w.heap.size,1,none⟩)) rfl (fun W _=>by go_simp) hS0 ?_
 (try simp only[Act.put,zza,zzb,zzc,zzd,zze,zzf])
 refine ztk (i:=5) (v:= .string (strF 2 f)) rfl (fun W hW=>exec_ldc 9 _ rfl ⟨w.heap.size,1,none⟩ rfl _ (HC.out W hW 1 _ rfl) (.inr Tryz.underlying9)) hS0 ?_
 (try simp only[Act.put,zza,zzb,zzc,zzd,zze,zzf])
 refine ztk (i:=6) (v:= .int .u8 ((f 1:Nat):Int)) rfl (fun W _=>exec_str 9 _ _ rfl (strF 2 f) rfl .i64 _ rfl 1 rfl Tryz.underlying9 (f 1) h1) hS0 ?_
 (try simp only[Act.put,zza,zzb,zzc,zzd,zze,zzf])
 refine ztk (i:=7) (v:= .pointer (some ⟨w.heap.size,2,none⟩)) rfl (fun W _=>by go_simp) hS0 ?_
 (try simp only[Act.put,zza,zzb,zzc,zzd,zze,zzf])
 refine ztk (i:=8) (v:= .int .u8 (a:Int)) rfl (fun W hW=>exec_ldc 5 _ rfl ⟨w.heap.size,2,none⟩ rfl _ (HC.out W hW 2 _ rfl) (.inl ⟨_,Tryz.underlying5⟩)) hS0 ?_
 (try simp only[Act.put,zza,zzb,zzc,zzd,zze,zzf])
 refine ztk (i:=9) (v:= .pointer (some ⟨w.heap.size,3,none⟩)) rfl (fun W _=>by go_simp) hS0 ?_
 (try simp only[Act.put,zza,zzb,zzc,zzd,zze,zzf])
 refine ztk (i:=10) (v:= .int .u8 (k:Int)) rfl (fun W hW=>exec_ldc 5 _ rfl ⟨w.heap.size,3,none⟩ rfl _ (HC.out W hW 3 _ rfl) (.inl ⟨_,Tryz.underlying5⟩)) hS0 ?_
 (try simp only[Act.put,zza,zzb,zzc,zzd,zze,zzf])
 refine ztk (i:=11) (v:= .pointer (some ⟨w.heap.size,4,none⟩)) rfl (fun W _=>by go_simp) hS0 ?_
 (try simp only[Act.put,zza,zzb,zzc,zzd,zze,zzf])
 refine ztk (i:=12) (v:= .string (strF 2 g)) rfl (fun W hW=>exec_ldc 9 _ rfl ⟨w.heap.size,4,none⟩ rfl _ (HC.out W hW 4 _ rfl) (.inr Tryz.underlying9)) hS0 ?_
 (try simp only[Act.put,zza,zzb,zzc,zzd,zze,zzf])
 refine ztk (i:=13) (v:= .int .u8 ((g 0:Nat):Int)) rfl (fun W _=>exec_str 9 _ _ rfl (strF 2 g) rfl .i64 _ rfl 0 rfl Tryz.underlying9 (g 0) h2) hS0 ?_
 (try simp only[Act.put,zza,zzb,zzc,zzd,zze,zzf])
 refine ztk (i:=14) (v:= .pointer (some ⟨w.heap.size,4,none⟩)) rfl (fun W _=>by go_simp) hS0 ?_
 (try simp only[Act.put,zza,zzb,zzc,zzd,zze,zzf])
 refine ztk (i:=15) (v:= .string (strF 2 g)) rfl (fun W hW=>exec_ldc 9 _ rfl ⟨w.heap.size,4,none⟩ rfl _ (HC.out W hW 4 _ rfl) (.inr Tryz.underlying9)) hS0 ?_
 (try simp only[Act.put,zza,zzb,zzc,zzd,zze,zzf])
 refine ztk (i:=16) (v:= .int .u8 ((g 1:Nat):Int)) rfl (fun W _=>exec_str 9 _ _ rfl (strF 2 g) rfl .i64 _ rfl 1 rfl Tryz.underlying9 (g 1) h3) hS0 ?_
 (try simp only[Act.put,zza,zzb,zzc,zzd,zze,zzf])
 refine ztk (i:=17) (v:= .pointer (some ⟨w.heap.size,5,none⟩)) rfl (fun W _=>by go_simp) hS0 ?_
 (try simp only[Act.put,zza,zzb,zzc,zzd,zze,zzf])
 refine ztk (i:=18) (v:= .int .u8 (x:Int)) rfl (fun W hW=>exec_ldc 5 _ rfl ⟨w.heap.size,5,none⟩ rfl _ (HC.out W hW 5 _ rfl) (.inl ⟨_,Tryz.underlying5⟩)) hS0 ?_
 (try simp only[Act.put,zza,zzb,zzc,zzd,zze,zzf])
 refine wpAnyH_ready (rs:=[19]) (by kernel_rfl) (by simp) (AllReadyH.cons rfl (fun K hK=>?_) AllReadyH.nil)
 (try simp only[Act.put,zza,zzb,zzc,zzd,zze,zzf])
 refine Eq.mpr (if_pos (by rfl)) ?_
 refine wp_vw _ (exec_bs 22 7 _ rfl #[(0, .int .u8 ((f 0:Nat):Int)),(1, .int .u8 ((f 1:Nat):Int)),(2, .int .u8 (a:Int)),(3, .int .u8 (k:Int)),(4, .int .u8 ((g 0:Nat):Int)),(5, .int .u8 ((g 1:Nat):Int)),(6, .int .u8 (x:Int))] (by simp only[List.map_toArray,List.map_cons,List.map_nil];rfl) _ (bsb7 _ _ _ _ _ _ _ _)) ?_
 refine hK.out _ _ (hS0.alloc hS0.size _) (fun hS1=>?_)
 (try simp only[Act.put,zza,zzb,zzc,zzd,zze,zzf])
 clear hK K
 refine wpAnyH_ready (rs:=[20]) (by kernel_rfl) (by simp) (AllReadyH.cons rfl (fun K hK=>?_) AllReadyH.nil)
 (try simp only[Act.put,zza,zzb,zzc,zzd,zze,zzf])
 refine Eq.mpr (if_pos (by rfl)) ?_
 refine wp_app _ _ 22 rfl W0.heap.size 5 1 (.int .u8 0) Tryz.underlying22 info8h rfl (by omega) _ 5 _ rfl (Ho1.out.drewN 1) 7 (h7 f a k g x) _ (row7 f a k g x) rfl (by omega) (by show W0.heap.size≤w1.heap.size;exact hsz1) ?_
 intro v2 w2 ho2 hB2
 have hS2:=HB1.out.drew.trans hB2
 refine hK.out _ _ hS2 (fun hS3=>?_)
 (try simp only[Act.put,zza,zzb,zzc,zzd,zze,zzf])
 clear hK K hS1
 refine ztk (i:=21) (v:=v2) rfl (fun _ _=>exec_assign _ rfl _ rfl) hS2 ?_
 (try simp only[Act.put,zza,zzb,zzc,zzd,zze,zzf])
 refine wpAnyH_done (by kernel_rfl) ?_ _
 have ho2x:Own w2 W0.heap.size 5 1 v2 12 (cat 5 (cat 0 (fun _=>0) (h5 v n)) (h7 f a k g x)):=ho2
 have Ho2:=hid ho2x
 have HB2:=hid hS2
 clear ho2 ho2x hB2 hS2 hS3 hS0
 have hE:strF 16 (cat 12 (cat 5 (cat 0 (fun _=>0) (h5 v n)) (h7 f a k g x)) fun _=>48)=strF 16 (prF ⟨v,2,f,a,k,2,g,x⟩ n):=strF_ext fun i hi=>prF_cat2 v a k x n f g i hi
 have HE:=hid hE
 clear hE
 go_wp2_with (first
  | (with_reducible refine wpl_valw rfl _ (exec_convS _ rfl _ rfl Ho2.out) ?_)
  | (with_reducible refine wpl_valw rfl _ (exec_catZ 9 _ _ _ rfl 12 _ rfl rfl (by omega)) ?_))
 go_ret
 exact⟨congrArg (fun s=>Ending.returned (Value.string s)) HE.out,HB0.out.trans (HB2.out.mono HB0.out.size)⟩
end Go.Proofs.YtlmacfmfmjhidaaGreatDoor.Hd
namespace Go.Proofs.YtlmacfmfmjhidaaGreatDoor.Hd
open Mem As Go.ChangeShapes Go.WideShapes Go.ChangeAt Go.RowKit
theorem zero_ok {f:Nat→Nat} (h: ∀i,i<4→f i=48):zeroB f=true:=by
 unfold zeroB sameS
 rw[eqB_true (fun i hi=>h i hi)]
 rfl
theorem zero_bad {f:Nat→Nat}{i:Nat} (hi:i<4) (h:f i≠48):zeroB f=false:=by
 cases hz:zeroB f
 ·rfl
 unfold zeroB sameS at hz
 simp only[Bool.and_eq_true] at hz
 exact absurd (eqB_iff.1 hz.2 i hi) h
theorem wrong_v {h:Hd} (hv:verB h.v=false):wrong h=0:=by simp[wrong,hv]
theorem wrong_pos {h:Hd} (hv:verB h.v=true):wrong h= -1∨0<wrong h:=by
 unfold wrong
 rw[if_neg (by rw[hv];decide)]
 repeat' split
 all_goals omega
theorem par_v {f:Nat→Nat} (hv:verB (f 0)=false):parZ f=0:=by unfold parZ;rw[wrong_v hv];simp[refZ]
theorem par_len {f:Nat→Nat} (hv:verB (f 0)=true) (hl:(lenZ fun i=>f (1+i))<16):parZ f=1:=by
 unfold parZ
 have h:=wrong_pos (h:=cutH f) hv
 unfold refZ
 rw[if_neg (by omega),if_pos hl]
theorem par_w {f:Nat→Nat} (hv:verB (f 0)=true) (hl: ¬(lenZ fun i=>f (1+i))<16) (hw:0≤wrong (cutH f)):parZ f=wrong (cutH f):=by
 unfold parZ
 have h:=wrong_pos (h:=cutH f) hv
 unfold refZ
 rw[if_neg (by omega),if_neg hl,if_pos hw]
theorem par_z {f:Nat→Nat} (hv:verB (f 0)=true) (hl: ¬(lenZ fun i=>f (1+i))<16) (hw: ¬0≤wrong (cutH f)) (i:Nat) (hi:i<4) (hz:f (12+i)≠48):parZ f=12:=by
 unfold parZ
 have h:=wrong_pos (h:=cutH f) hv
 unfold refZ
 rw[if_neg (by omega),if_neg hl,if_neg hw,if_pos (zero_bad (f:=fun i=>f (12+i)) hi hz)]
theorem par_ok {f:Nat→Nat} (hv:verB (f 0)=true) (hl: ¬(lenZ fun i=>f (1+i))<16) (hw: ¬0≤wrong (cutH f)) (hz: ∀i,i<4→f (12+i)=48):parZ f= -1:=by
 unfold parZ
 have h:=wrong_pos (h:=cutH f) hv
 unfold refZ
 rw[if_neg (by omega),if_neg hl,if_neg hw,if_neg (by rw[zero_ok (f:=fun i=>f (12+i)) hz];decide)]
def RPOut (f:Nat→Nat) (w:World) (e:Ending) (w':World):Prop:=Below w.heap.size w w'∧
 ((parZ f= -1∧e= .returned (.tuple #[.agg (hdC (cutH f)), .int .i64 (lenZ fun i=>f (1+i)), .int .i64 (-1)]))∨(0≤parZ f∧e= .returned (.tuple #[.agg noHd, .int .i64 0, .int .i64 (parZ f)])))
set_option maxRecDepth 100000 in
set_option maxHeartbeats 1000000 in
set_option linter.unusedSimpArgs false in
theorem rparse_any (n:Nat) (f:Nat→Nat) (hf: ∀i,f i<256) (hn:16≤n) (hn2:n≤100000) (w:World):Calls Tryz.prog 42 #[.string (strF n f)] w (RPOut f w):=by
 have hsz:=strF_size n f
 have h0:=byteAt_strF (n:=n) (f:=f) (k:=0) (by omega) (hf 0)
 have h7:=byteAt_strF (n:=n) (f:=f) (k:=7) (by omega) (hf 7)
 have h8:=byteAt_strF (n:=n) (f:=f) (k:=8) (by omega) (hf 8)
 have h11:=byteAt_strF (n:=n) (f:=f) (k:=11) (by omega) (hf 11)
 have hB0:Below w.heap.size w (w.alloc (.cells noHd 24)):=(Below.refl _ _).alloc (Nat.le_refl _) _
 have hb0:=Blk.fresh w 24 noHd
 have HB0:=hid hB0
 have Hb0:=hid hb0
 clear hB0 hb0
 go_enter Tryz.func42,Tryz.ntmps42
 go_wp2_with (with_reducible refine wpl_alloc rfl 24 rfl _ zHead ?_)
 generalize w.alloc (.cells noHd 24)=w0 at HB0 Hb0 ⊢
 refine wp_region_held_drew (S:=fun W=>Below w.heap.size w W) (by kernel_rfl) HB0.out.drew (fun hS0=>?_)
 have hbx0:Blk w0.drew w.heap.size 24 noHd:=Hb0.out
 refine ztk (i:=0) (v:= .string (strF n f)) rfl (fun _ _=>exec_move _ rfl _ rfl) hS0 ?_
 (try simp only[Act.put,zza,zzb,zzc,zzd,zze,zzf])
 refine ztk (i:=1) (v:= .int .u8 ((f 0:Nat):Int)) rfl (fun W _=>exec_str 9 _ _ rfl (strF n f) rfl .i64 _ rfl 0 rfl Tryz.underlying9 (f 0) h0) hS0 ?_
 (try simp only[Act.put,zza,zzb,zzc,zzd,zze,zzf])
 refine ztk (i:=2) (v:= .string (strF n f)) rfl (fun _ _=>exec_move _ rfl _ rfl) hS0 ?_
 (try simp only[Act.put,zza,zzb,zzc,zzd,zze,zzf])
 refine ztk (i:=3) (v:= .string (strF 2 fun i=>f (5+i))) rfl (fun W _=>exec_cutS 9 _ _ _ rfl n f 5 7 rfl rfl rfl 5 7 rfl rfl (by omega) (by omega) Tryz.underlying9) hS0 ?_
 (try simp only[Act.put,zza,zzb,zzc,zzd,zze,zzf])
 refine ztk (i:=4) (v:= .string (strF n f)) rfl (fun _ _=>exec_move _ rfl _ rfl) hS0 ?_
 (try simp only[Act.put,zza,zzb,zzc,zzd,zze,zzf])
 refine ztk (i:=5) (v:= .int .u8 ((f 7:Nat):Int)) rfl (fun W _=>exec_str 9 _ _ rfl (strF n f) rfl .i64 _ rfl 7 rfl Tryz.underlying9 (f 7) h7) hS0 ?_
 (try simp only[Act.put,zza,zzb,zzc,zzd,zze,zzf])
 refine ztk (i:=6) (v:= .string (strF n f)) rfl (fun _ _=>exec_move _ rfl _ rfl) hS0 ?_
 (try simp only[Act.put,zza,zzb,zzc,zzd,zze,zzf])
 refine ztk (i:=7) (v:= .int .u8 ((f 8:Nat):Int)) rfl (fun W _=>exec_str 9 _ _ rfl (strF n f) rfl .i64 _ rfl 8 rfl Tryz.underlying9 (f 8) h8) hS0 ?_
 (try simp only[Act.put,zza,zzb,zzc,zzd,zze,zzf])
 refine ztk (i:=8) (v:= .string (strF n f)) rfl (fun _ _=>exec_move _ rfl _ rfl) hS0 ?_
 (try simp only[Act.put,zza,zzb,zzc,zzd,zze,zzf])
 refine ztk (i:=9) (v:= .string (strF 2 fun i=>f (9+i))) rfl (fun W _=>exec_cutS 9 _ _ _ rfl n f 9 11 rfl rfl rfl 9 11 rfl rfl (by omega) (by omega) Tryz.underlying9) hS0 ?_
 (try simp only[Act.put,zza,zzb,zzc,zzd,zze,zzf])
 refine ztk (i:=10) (v:= .string (strF n f)) rfl (fun _ _=>exec_move _ rfl _ rfl) hS0 ?_
 (try simp only[Act.put,zza,zzb,zzc,zzd,zze,zzf])
 refine ztk (i:=11) (v:= .int .u8 ((f 11:Nat):Int)) rfl (fun W _=>exec_str 9 _ _ rfl (strF n f) rfl .i64 _ rfl 11 rfl Tryz.underlying9 (f 11) h11) hS0 ?_
 (try simp only[Act.put,zza,zzb,zzc,zzd,zze,zzf])
 refine ztk (i:=12) (v:= .agg #[.int .u8 ((f 0:Nat):Int), .string (strF 2 fun i=>f (5+i)), .int .u8 ((f 7:Nat):Int), .int .u8 ((f 8:Nat):Int), .string (strF 2 fun i=>f (9+i)), .int .u8 ((f 11:Nat):Int)]) rfl (fun W _=>by go_simp) hS0 ?_
 (try simp only[Act.put,zza,zzb,zzc,zzd,zze,zzf])
 refine wpAnyH_ready (rs:=[13]) (by kernel_rfl) (by simp) ?_
 refine AllReadyH.cons rfl (fun K hK=>?_) AllReadyH.nil
 (try simp only[Act.put,zza,zzb,zzc,zzd,zze,zzf])
 refine Eq.mpr (if_pos (by rfl)) ?_
 refine wp_vw _ (exec_allocH 24 rfl _ zHead) ?_
 have hbx1:=hbx0.alloc (.cells noHd 24)
 have h5:=Blk.fresh w0.drew 24 noHd
 refine hK.out _ _ (hS0.alloc hS0.size _) (fun hS1=>?_)
 (try simp only[Act.put,zza,zzb,zzc,zzd,zze,zzf])
 clear hK K
 have hl5:w.heap.size<w0.drew.heap.size:=hbx0.lt
 obtain⟨g5,hg5⟩: ∃g,g=w0.drew.heap.size:=⟨_,rfl⟩
 rw[← hg5] at h5 hl5 ⊢
 clear hg5
 generalize w0.drew.alloc (.cells noHd 24)=w1 at*
 refine wpAnyH_ready (rs:=[14]) (by kernel_rfl) (by simp) ?_
 refine AllReadyH.cons rfl (fun K hK=>?_) AllReadyH.nil
 (try simp only[Act.put,zza,zzb,zzc,zzd,zze,zzf])
 refine Eq.mpr (if_pos (by rfl)) ?_
 refine wp_store_blk 24 _ _ rfl g5 (#[.int .u8 ((f 0:Nat):Int), .string (strF 2 fun i=>f (5+i)), .int .u8 ((f 7:Nat):Int), .int .u8 ((f 8:Nat):Int), .string (strF 2 fun i=>f (9+i)), .int .u8 ((f 11:Nat):Int)]) rfl rfl 24 _ h5 iHead rfl (one6 _ _ _ _ _ _) ?_
 (try simp only[Act.put,zza,zzb,zzc,zzd,zze,zzf])
 refine hK.out _ _ (below_setRow' hS1 (Nat.le_of_lt hl5) _) (fun hSz=>?_)
 (try simp only[Act.put,zza,zzb,zzc,zzd,zze,zzf])
 clear hK K
 refine wpAnyH_done (by kernel_rfl) ?_ _
 have hbx2:=hbx1.otherRow g5 (hdC (cutH f)) (by omega)
 have h52:=h5.setRow (hdC (cutH f))
 have hS2:Below w.heap.size w (w1.setRow g5 (hdC (cutH f))):=hSz
 clear hSz h5 hbx1 hS1 hbx0 hS0
 have e2:w1.setRow g5 (#[.int .u8 ((f 0:Nat):Int), .string (strF 2 fun i=>f (5+i)), .int .u8 ((f 7:Nat):Int), .int .u8 ((f 8:Nat):Int), .string (strF 2 fun i=>f (9+i)), .int .u8 ((f 11:Nat):Int)])=w1.setRow g5 (hdC (cutH f)):=rfl
 rw[e2]
 clear e2
 generalize w1.setRow g5 (hdC (cutH f))=w2 at hbx2 h52 hS2 ⊢
 have Hbx:=hid hbx2
 have H5:=hid h52
 have HB:=hid hS2
 have hsb:=hS2.size
 have hsx:=hbx2.lt
 clear hbx2 h52 hS2 HB0 Hb0
 go_wp2_with (with_reducible refine wpl_str rfl 9 _ _ rfl (strF n f) rfl .i64 _ rfl 0 rfl Tryz.underlying9 (f 0) h0 ?_)
 refine(rin_ver (f 0) (hf 0) _).mono ?_
 rintro e w3 ⟨rfl,rfl⟩
 cases hv:verB (f 0)
 ·have hz:=par_v hv
  go_wp2_with (first
   | (with_reducible refine wpl_build0 rfl 24 rfl _ built0 ?_)
   | (with_reducible refine wpl_storeH rfl 24 _ _ rfl w.heap.size noHd rfl rfl 24 _ Hbx.out sizeN rfl oneNo ?_))
  exact ret_cs3 Tryz.results42 rfl w.heap.size rfl _ rfl _ rfl 24 _ (Hbx.out.setRow _) _ Tryz.underlying24 sizeN ⟨below_setRow' HB.out (Nat.le_refl _) _, .inr ⟨by rw[hz];omega,by rw[hz];rfl⟩⟩
 have Hv:=hid hv
 clear hv h0 h7 h8 h11
 go_wp2_with fail
 go_loopw [6,7] (fun s y wr=> ∃k:Nat,k≤4∧s= .int .i64 ((lenF (fun i=>f (1+i)) k:Nat):Int)∧y= .int .i64 ((k:Int)+1)∧Hid (∀i,i<k→dgB (f (1+i))=true)∧wr=w3) (fun _ y _=>5-(intOf y).toNat)
 case atStart=>exact⟨0,by omega,rfl,rfl,hid (fun i hi=>by omega),rfl⟩
 case round=>
  obtain⟨k,hk,rfl,rfl,HD,rfl⟩:=hrel
  by_cases hlt:k<4
  ·have hb:=byteAt_strF (n:=n) (f:=f) (k:=1+k) (by omega) (hf _)
   have hc6:=hf (1+k)
   have hL:=lenF_lt k HD.out
   have hL2:lenF (fun i=>f (1+i)) k<10000:=Nat.lt_of_lt_of_le hL (pow4 hlt)
   clear hL
   obtain⟨c,hc⟩: ∃c,c=f (1+k):=⟨_,rfl⟩
   rw[← hc] at hb hc6
   have Hc:=hid hc
   clear hc
   have Hb:=hid hb
   clear hb
   by_cases h48:c<48
   ·have hI:(c:Int)<48:=by omega
    have hd:dgB (f (1+k))=false:=by rw[← Hc.out];unfold dgB;simp;omega
    have hz:=par_len Hv.out (by rw[lenZ_bad (f:=fun i=>f (1+i)) hlt hd];omega)
    go_wp2_with (first
     | (with_reducible refine wpl_str rfl 9 _ _ rfl (strF n f) rfl .i64 _ rfl (1+k) (by omega) Tryz.underlying9 c Hb.out ?_)
     | ((with_reducible refine wpg_val ?_ _ (exec_str 9 _ _ rfl (strF n f) rfl .i64 _ rfl (1+k) (by omega) Tryz.underlying9 c Hb.out) ?_);exact rfl)
     | (with_reducible refine wpl_build0 rfl 24 rfl _ built0 ?_)
     | (with_reducible refine wpl_storeH rfl 24 _ _ rfl w.heap.size noHd rfl rfl 24 _ Hbx.out sizeN rfl oneNo ?_))
    exact ret_cs3 Tryz.results42 rfl w.heap.size rfl _ rfl _ rfl 24 _ (Hbx.out.setRow _) _ Tryz.underlying24 sizeN ⟨below_setRow' HB.out (Nat.le_refl _) _, .inr ⟨by rw[hz];omega,by rw[hz];rfl⟩⟩
   by_cases h57:57<c
   ·have hI: ¬(c:Int)<48:=by omega
    have hJ:(57:Int)< (c:Int):=by omega
    have hd:dgB (f (1+k))=false:=by rw[← Hc.out];unfold dgB;simp;omega
    have hz:=par_len Hv.out (by rw[lenZ_bad (f:=fun i=>f (1+i)) hlt hd];omega)
    go_wp2_with (first
     | (with_reducible refine wpl_str rfl 9 _ _ rfl (strF n f) rfl .i64 _ rfl (1+k) (by omega) Tryz.underlying9 c Hb.out ?_)
     | ((with_reducible refine wpg_val ?_ _ (exec_str 9 _ _ rfl (strF n f) rfl .i64 _ rfl (1+k) (by omega) Tryz.underlying9 c Hb.out) ?_);exact rfl)
     | (with_reducible refine wpl_build0 rfl 24 rfl _ built0 ?_)
     | (with_reducible refine wpl_storeH rfl 24 _ _ rfl w.heap.size noHd rfl rfl 24 _ Hbx.out sizeN rfl oneNo ?_))
    exact ret_cs3 Tryz.results42 rfl w.heap.size rfl _ rfl _ rfl 24 _ (Hbx.out.setRow _) _ Tryz.underlying24 sizeN ⟨below_setRow' HB.out (Nat.le_refl _) _, .inr ⟨by rw[hz];omega,by rw[hz];rfl⟩⟩
   have hI: ¬(c:Int)<48:=by omega
   have hJ: ¬(57:Int)< (c:Int):=by omega
   go_wp2_with (first
    | (with_reducible refine wpl_str rfl 9 _ _ rfl (strF n f) rfl .i64 _ rfl (1+k) (by omega) Tryz.underlying9 c Hb.out ?_)
    | ((with_reducible refine wpg_val ?_ _ (exec_str 9 _ _ rfl (strF n f) rfl .i64 _ rfl (1+k) (by omega) Tryz.underlying9 c Hb.out) ?_);exact rfl)
    | (with_reducible refine wpl_build0 rfl 24 rfl _ built0 ?_)
    | (with_reducible refine wpl_storeH rfl 24 _ _ rfl w.heap.size noHd rfl rfl 24 _ Hbx.out sizeN rfl oneNo ?_))
   go_round
   case rel=>exact⟨k+1,by omega,val_int (by simp only[lenF];rw[← Hc.out];omega),val_int (by omega),hid (fun i hi=>by
     by_cases h:i<k
     ·exact HD.out i h
     obtain rfl:i=k:=by omega
     rw[← Hc.out];unfold dgB;simp;omega),by first | rfl | trivial⟩
   case measure=>simp[intOf];omega
  obtain rfl:k=4:=by omega
  have hZ:=lenZ_ok (f:=fun i=>f (1+i)) HD.out
  have hL:=lenF_lt 4 HD.out
  have hL2:lenF (fun i=>f (1+i)) 4<10000:=hL
  clear hL
  obtain⟨q,hq⟩: ∃q,q=lenF (fun i=>f (1+i)) 4:=⟨_,rfl⟩
  rw[← hq] at hZ hL2 ⊢
  have HZ:=hid hZ
  clear hq hZ HD
  by_cases hl:q<16
  ·have hI:(q:Int)<16:=by omega
   have hz:=par_len Hv.out (by rw[HZ.out];omega)
   go_wp2_with (first
    | (with_reducible refine wpl_build0 rfl 24 rfl _ built0 ?_)
    | (with_reducible refine wpl_storeH rfl 24 _ _ rfl w.heap.size noHd rfl rfl 24 _ Hbx.out sizeN rfl oneNo ?_))
   exact ret_cs3 Tryz.results42 rfl w.heap.size rfl _ rfl _ rfl 24 _ (Hbx.out.setRow _) _ Tryz.underlying24 sizeN ⟨below_setRow' HB.out (Nat.le_refl _) _, .inr ⟨by rw[hz];omega,by rw[hz];rfl⟩⟩
  have hI: ¬(q:Int)<16:=by omega
  have Hl:Hid (¬(lenZ fun i=>f (1+i))<16):=hid (by rw[HZ.out];omega)
  go_wp2_with (with_reducible refine wpl_valw rfl _ (exec_ldcs 24 _ rfl g5 rfl 24 _ H5.out _ Tryz.underlying24 (sizeC _)) ?_)
  refine(rwrong_any (cutH f) (cutH_ok hf) _).mono ?_
  rintro e w4 ⟨rfl,hB4⟩
  have hbx4:=Hbx.out.below hB4 Hbx.out.lt
  have h54:=H5.out.below hB4 H5.out.lt
  have HB4:=hid (HB.out.trans (hB4.mono hsb))
  have Hbx4:=hid hbx4
  have H54:=hid h54
  have hs4:w.heap.size≤w4.heap.size:=Nat.le_trans hsb hB4.size
  clear hbx4 h54 hB4
  by_cases hw:0≤wrong (cutH f)
  ·have hz:=par_w Hv.out (by have:=Hl.out;omega) hw
   obtain⟨z,hzz⟩: ∃z,z=wrong (cutH f):=⟨_,rfl⟩
   have HWz:=hid hzz
   rw[← hzz] at hw hz ⊢
   clear hzz
   go_wp2_with (first
    | (with_reducible refine wpl_build0 rfl 24 rfl _ built0 ?_)
    | (with_reducible refine wpl_valw rfl _ (exec_ldcs 24 _ rfl g5 rfl 24 _ H54.out _ Tryz.underlying24 (sizeC _)) ?_))
   refine(rwrong_any (cutH f) (cutH_ok hf) _).mono ?_
   rintro e w5 ⟨rfl,hB5⟩
   have hbx5:=Hbx4.out.below hB5 Hbx4.out.lt
   have HB5:=hid (HB4.out.trans (hB5.mono hs4))
   have Hbx5:=hid hbx5
   clear hbx5 hB5
   rw[← HWz.out]
   go_wp2_with (first
    | (with_reducible refine wpl_build0 rfl 24 rfl _ built0 ?_)
    | (with_reducible refine wpl_storeH rfl 24 _ _ rfl w.heap.size noHd rfl rfl 24 _ Hbx5.out sizeN rfl oneNo ?_))
   exact ret_cs3 Tryz.results42 rfl w.heap.size rfl _ rfl _ rfl 24 _ (Hbx5.out.setRow _) _ Tryz.underlying24 sizeN ⟨below_setRow' HB5.out (Nat.le_refl _) _, .inr ⟨by rw[hz];omega,by rw[hz];rfl⟩⟩
  obtain⟨z,hzz⟩: ∃z,z=wrong (cutH f):=⟨_,rfl⟩
  have HWz:=hid hzz
  have Hw:=hid hw
  rw[← hzz] at hw ⊢
  clear hzz
  go_wp2_with fail
  go_loopw [8] (fun y wr=> ∃k:Nat,k≤4∧y= .int .i64 ((k:Int)+12)∧Hid (∀i,i<k→f (12+i)=48)∧wr=w4) (fun y _=>16-(intOf y).toNat)
  case atStart=>exact⟨0,by omega,rfl,hid (fun i hi=>by omega),rfl⟩
  case round=>
   obtain⟨k,hk,rfl,HD,rfl⟩:=hrel
   by_cases hlt:k<4
   ·have hb:=byteAt_strF (n:=n) (f:=f) (k:=12+k) (by omega) (hf _)
    obtain⟨c,hc⟩: ∃c,c=f (12+k):=⟨_,rfl⟩
    rw[← hc] at hb
    have Hc:=hid hc
    clear hc
    have Hb:=hid hb
    clear hb
    by_cases h48:c=48
    ·have hI:(c:Int)=48:=by omega
     go_wp2_with (first
      | (with_reducible refine wpl_str rfl 9 _ _ rfl (strF n f) rfl .i64 _ rfl (12+k) (by omega) Tryz.underlying9 c Hb.out ?_)
      | (with_reducible refine wpl_build0 rfl 24 rfl _ built0 ?_)
      | (with_reducible refine wpl_storeH rfl 24 _ _ rfl w.heap.size noHd rfl rfl 24 _ Hbx4.out sizeN rfl oneNo ?_))
     go_round
     case rel=>exact⟨k+1,by omega,val_int (by omega),hid (fun i hi=>by
       by_cases h:i<k
       ·exact HD.out i h
       obtain rfl:i=k:=by omega
       rw[← Hc.out,h48]),by first | rfl | trivial⟩
     case measure=>simp[intOf];omega
    have hI: ¬(c:Int)=48:=by omega
    have hz:=par_z Hv.out (by have:=Hl.out;omega) (by have:=Hw.out;omega) k hlt (by rw[← Hc.out];exact h48)
    go_wp2_with (first
     | (with_reducible refine wpl_str rfl 9 _ _ rfl (strF n f) rfl .i64 _ rfl (12+k) (by omega) Tryz.underlying9 c Hb.out ?_)
     | (with_reducible refine wpl_build0 rfl 24 rfl _ built0 ?_)
     | (with_reducible refine wpl_storeH rfl 24 _ _ rfl w.heap.size noHd rfl rfl 24 _ Hbx4.out sizeN rfl oneNo ?_))
    exact ret_cs3 Tryz.results42 rfl w.heap.size rfl _ rfl _ rfl 24 _ (Hbx4.out.setRow _) _ Tryz.underlying24 sizeN ⟨below_setRow' HB4.out (Nat.le_refl _) _, .inr ⟨by rw[hz];omega,by rw[hz];rfl⟩⟩
   obtain rfl:k=4:=by omega
   have hz:=par_ok Hv.out (by have:=Hl.out;omega) (by have:=Hw.out;omega) HD.out
   go_wp2_with (first
    | (with_reducible refine wpl_valw rfl _ (exec_ldcs 24 _ rfl g5 rfl 24 _ H54.out _ Tryz.underlying24 (sizeC _)) ?_)
    | (with_reducible refine wpl_storeH rfl 24 _ _ rfl w.heap.size (hdC (cutH f)) rfl rfl 24 _ Hbx4.out (sizeC _) rfl (oneC _) ?_))
   exact ret_cs3 Tryz.results42 rfl w.heap.size rfl _ rfl _ rfl 24 _ (Hbx4.out.setRow _) _ Tryz.underlying24 (sizeC _) ⟨below_setRow' HB4.out (Nat.le_refl _) _, .inl ⟨hz,by rw[HZ.out];rfl⟩⟩
end Go.Proofs.YtlmacfmfmjhidaaGreatDoor.Hd
namespace Go.Proofs.YtlmacfmfmjhidaaGreatDoor.Hd
open Mem As Go.ChangeShapes Go.WideShapes Go.ChangeAt Go.RowKit
def hdEq (a b:Hd):Bool:=a.v == b.v && (sameS a.n a.f b.n b.f && (a.a == b.a && (a.k == b.k && (sameS a.m a.g b.m b.g && a.x == b.x))))
theorem natInt_beq (a b:Nat):((a:Int) == (b:Int))=(a == b):=by
 rw[Bool.eq_iff_iff]
 simp only[beq_iff_eq]
 omega
set_option linter.unusedSimpArgs false in
set_option maxRecDepth 100000 in
theorem run_eqH (a b:Hd) (oka:a.Ok) (okb:b.Ok) (w:World):(Op.equalIn 10000 24 (.agg (hdC a)) (.agg (hdC b))).run Tryz.prog w= .ok (hdEq a b) w:=by
 rw[run_equalIn_agg w 9999 24 _ _ (by kernel_rfl) (by kernel_rfl)]
 have hf: ∀(d:Nat) (x y:Array Value),Op.eqFields d x y (Tryz.prog.fieldsOf 24).toList=Op.eqFields d x y (Tryz.prog.fieldsOf 24).toList:=fun _ _ _=>rfl
 have e1:=natInt_beq a.v b.v
 have e2:=natInt_beq a.a b.a
 have e3:=natInt_beq a.k b.k
 have e4:=natInt_beq a.x b.x
 have e5:=strF_eq (n:=a.n) (m:=b.n) (f:=a.f) (g:=b.f) (fun i _=>oka.f i) (fun i _=>okb.f i)
 have e6:=strF_eq (n:=a.m) (m:=b.m) (f:=a.g) (g:=b.g) (fun i _=>oka.g i) (fun i _=>okb.g i)
 unfold hdC hdEq sameS
 go_simp
 clear e1 e2 e3 e4 e5 e6 hf
 by_cases h1:a.v=b.v
 ·by_cases h2:a.n=b.n
  ·cases h3:eqB a.n a.f b.f
   ·simp[h1,h2,h3]
   by_cases h4:a.a=b.a
   ·by_cases h5:a.k=b.k
    ·by_cases h6:a.m=b.m
     ·cases h7:eqB a.m a.g b.g
      ·simp[h1,h2,h4,h5,h6,h7]
      by_cases h8:a.x=b.x<;>simp_all
     simp[h1,h2,h3,h4,h5,h6]
    simp[h1,h2,h3,h4,h5]
   simp[h1,h2,h3,h4]
  simp[h1,h2]
 simp[h1]
theorem eqGuardH:Tryz.prog.eqGuardType Tryz.prog.depth 24=false:=by kernel_rfl
section
variable {o:Oper}{a:Act}{w:World}
theorem exec_eqH (x y:Operand) (rt:TypeId) (ho:o.op= .binOp .eql 24 x y rt) (h k:Hd) (hx:a.eval x= .agg (hdC h)) (hy:a.eval y= .agg (hdC k)) (okh:h.Ok) (okk:k.Ok) (b:Bool) (hb:hdEq h k=b):(execOp a.eval o).run Tryz.prog w= .ok (.value (.bool b)) w:=by
 subst hb
 unfold execOp
 simp only[ho,hx,hy,Sem.run_bind,run_eqGuard_agg w .eql 24 x y _ _ eqGuardH,run_eql_struct,run_eqH h k okh okk,Sem.run_pure,Result.andThen_ok]
end
theorem hdEq_refl (h:Hd):hdEq h h=true:=by
 unfold hdEq sameS
 simp[eqB_true (fun i _=>rfl)]
end Go.Proofs.YtlmacfmfmjhidaaGreatDoor.Hd
namespace Go.Proofs.YtlmacfmfmjhidaaGreatDoor.Hd
open Mem As Go.ChangeShapes Go.WideShapes Go.ChangeAt Go.RowKit
theorem dg_sum {n:Nat} (hn:n≤9999):lenF (dgF n) 4=n:=by
 simp only[lenF,dgF]
 simp
 omega
theorem dg_dgB (n i:Nat):dgB (dgF n i)=true:=by
 unfold dgF dgB
 repeat' split
 all_goals simp
 all_goals omega
theorem lenF_ext {f g:Nat→Nat}: ∀k,(∀i,i<k→f i=g i)→lenF f k=lenF g k
 | 0,_=>rfl
 | k+1,h=>by
  simp only[lenF]
  rw[lenF_ext k (fun i hi=>h i (by omega)),h k (by omega)]
theorem prB_ext {f g:Nat→Nat} (h0:f 0=g 0) (h1:f 1=g 1):prB 2 f=prB 2 g:=by unfold prB;rw[h0,h1]
structure Prt (h:Hd) (n:Nat) (F:Nat→Nat):Prop where
 v:F 0=h.v
 l: ∀i,i<4→F (1+i)=dgF n i
 f: ∀i,i<2→F (5+i)=h.f i
 a:F 7=h.a
 k:F 8=h.k
 g: ∀i,i<2→F (9+i)=h.g i
 x:F 11=h.x
 z: ∀i,i<4→F (12+i)=48
theorem prt_of (h:Hd) (n:Nat) (f:Nat→Nat):Prt h n (cat 16 (prF h n) f):=by
 have hc: ∀i,i<16→cat 16 (prF h n) f i=prF h n i:=fun i hi=>by unfold cat;rw[if_pos hi]
 refine⟨hc 0 (by omega),fun i hi=>?_,fun i hi=>?_,hc 7 (by omega),hc 8 (by omega),fun i hi=>?_,hc 11 (by omega),fun i hi=>?_⟩
 ·rw[hc _ (by omega)]
  unfold prF
  rw[if_neg (by omega),if_pos (by omega),show 1+i-1=i by omega]
 ·rw[hc _ (by omega)]
  unfold prF
  rw[if_neg (by omega),if_neg (by omega),if_pos (by omega),show 5+i-5=i by omega]
 ·rw[hc _ (by omega)]
  unfold prF
  rw[if_neg (by omega),if_neg (by omega),if_neg (by omega),if_neg (by omega),if_neg (by omega),if_pos (by omega),show 9+i-9=i by omega]
 rw[hc _ (by omega)]
 unfold prF
 rw[if_neg (by omega),if_neg (by omega),if_neg (by omega),if_neg (by omega),if_neg (by omega),if_neg (by omega),if_neg (by omega)]
theorem Prt.wrong {h:Hd}{n:Nat}{F:Nat→Nat} (p:Prt h n F) (hn:h.n=2) (hm:h.m=2):Hd.wrong (cutH F)=Hd.wrong h:=by
 have e1:prB 2 (fun i=>F (5+i))=prB h.n h.f:=by rw[hn];exact prB_ext (p.f 0 (by omega)) (p.f 1 (by omega))
 have e2:prB 2 (fun i=>F (9+i))=prB h.m h.g:=by rw[hm];exact prB_ext (p.g 0 (by omega)) (p.g 1 (by omega))
 unfold Hd.wrong cutH
 simp only[e1,e2,p.v,p.a,p.k,p.x]
theorem Prt.eq {h:Hd}{n:Nat}{F:Nat→Nat} (p:Prt h n F) (hn:h.n=2) (hm:h.m=2):hdEq (cutH F) h=true:=by
 unfold hdEq cutH sameS
 simp only[p.v,p.a,p.k,p.x,hn,hm]
 rw[eqB_true (fun i hi=>p.f i hi),eqB_true (fun i hi=>p.g i hi)]
 simp
theorem Prt.len {h:Hd}{n:Nat}{F:Nat→Nat} (p:Prt h n F) (hn:n≤9999):(lenZ fun i=>F (1+i))=(n:Int):=by
 rw[lenZ_ok (f:=fun i=>F (1+i)) (fun i hi=>by rw[p.l i hi];exact dg_dgB n i),lenF_ext (g:=dgF n) 4 (fun i hi=>p.l i hi),dg_sum hn]
theorem Prt.par {h:Hd}{n:Nat}{F:Nat→Nat} (p:Prt h n F) (hn:h.n=2) (hm:h.m=2) (hw:Hd.wrong h= -1) (h1:16≤n) (h2:n≤9999):parZ F= -1:=by
 unfold parZ refZ
 rw[p.wrong hn hm,hw,p.len h2,if_neg (by omega),if_neg (by omega),if_neg (by omega),if_neg (by rw[zero_ok (f:=fun i=>F (12+i)) p.z];decide)]
theorem par_inv {f:Nat→Nat} (h:parZ f= -1):Hd.wrong (cutH f)= -1∧∃n:Nat,16≤n∧n≤9999∧(lenZ fun i=>f (1+i))=(n:Int)∧Prt (cutH f) n f:=by
 unfold parZ refZ at h
 split at h
 ·omega
 split at h
 ·omega
 rename_i hl
 split at h
 ·omega
 rename_i hw
 split at h
 ·omega
 rename_i hz
 have hwr:Hd.wrong (cutH f)= -1:=by have:=wrong_lo (cutH f);omega
 have hd: ∀i,i<4→dgB (f (1+i))=true:=fun i hi=>by
  cases hdi:dgB (f (1+i))
  ·have:=lenZ_bad (f:=fun i=>f (1+i)) hi hdi
   omega
  rfl
 have hlz:=lenZ_ok (f:=fun i=>f (1+i)) hd
 have hlt:lenF (fun i=>f (1+i)) 4<10000:=lenF_lt 4 hd
 have hzz: ∀i,i<4→f (12+i)=48:=fun i hi=>Classical.byContradiction fun hne=>hz (zero_bad (f:=fun i=>f (12+i)) hi hne)
 refine⟨hwr,lenF (fun i=>f (1+i)) 4,by omega,by omega,hlz,⟨rfl,fun i hi=>?_,fun _ _=>rfl,rfl,rfl,fun _ _=>rfl,rfl,hzz⟩⟩
 have h0:=dgB_iff.1 (hd 0 (by omega))
 have h1:=dgB_iff.1 (hd 1 (by omega))
 have h2:=dgB_iff.1 (hd 2 (by omega))
 have h3:=dgB_iff.1 (hd 3 (by omega))
 have hi4:i=0∨i=1∨i=2∨i=3:=by omega
 simp only[lenF]
 rcases hi4 with rfl | rfl | rfl | rfl
 ·show f (1+0)=48+_/1000%10
  omega
 ·show f (1+1)=48+_/100%10
  omega
 ·show f (1+2)=48+_/10%10
  omega
 show f (1+3)=48+_%10
 omega
theorem Prt.same {f:Nat→Nat}{n:Nat} (p:Prt (cutH f) n f):sameS 16 (prF (cutH f) n) 16 f=true:=by
 unfold sameS
 rw[eqB_true (fun i hi=>?_)]
 ·rfl
 unfold prF
 by_cases h0:i=0
 ·subst h0;rfl
 rw[if_neg h0]
 by_cases h1:i<5
 ·rw[if_pos h1]
  have:=p.l (i-1) (by omega)
  rw[← this,show 1+(i-1)=i by omega]
 rw[if_neg h1]
 by_cases h2:i<7
 ·rw[if_pos h2]
  show f (5+(i-5))=f i
  rw[show 5+(i-5)=i by omega]
 rw[if_neg h2]
 by_cases h3:i=7
 ·subst h3;rfl
 rw[if_neg h3]
 by_cases h4:i=8
 ·subst h4;rfl
 rw[if_neg h4]
 by_cases h5:i<11
 ·rw[if_pos h5]
  show f (9+(i-9))=f i
  rw[show 9+(i-9)=i by omega]
 rw[if_neg h5]
 by_cases h6:i=11
 ·subst h6;rfl
 rw[if_neg h6]
 have:=p.z (i-12) (by omega)
 rw[show 12+(i-12)=i by omega] at this
 exact this.symm
end Go.Proofs.YtlmacfmfmjhidaaGreatDoor.Hd
