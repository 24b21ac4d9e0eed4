/-
 What the document's own Keys of layer 3 returns: a contract over the loaded program.
-/
import Derived.Test.YtlmacfmfmjhidaaGreatDoorRef03A
import Derived.Test.YtlmacfmfmjhidaaGreatDoorDraw
namespace Go.Proofs.YtlmacfmfmjhidaaGreatDoor.Des
open Go.ChangeShapes Go.WideShapes Go.ChangeAt Go.RowKit Mem
def bitL (n x:Nat):Nat→Nat:=fun t=>x/2^(n-1-t)%2
theorem bitL_eq {n x y t u:Nat}{m:Nat} (h:x.testBit (n-1-t)=y.testBit (m-1-u)):bitL n x t=bitL m y u:=by
 unfold bitL
 rw[bit_mod,bit_mod] at h
 have:=decide_eq_decide.1 h
 omega
theorem bitL_pk (p:Nat→Nat) (sz x n t:Nat) (ht:t<n) (hp:1≤p t∧p t≤sz):bitL sz x (p t-1)=bitL n (pk p sz x n) t:=by
 apply bitL_eq
 rw[pk_bit _ _ _ _ _ (by omega),show n-1-(n-1-t)=t by omega,show sz-1-(p t-1)=sz-p t by omega]
theorem bitL_bits {f:Nat→Nat} (hf:By8 f) (t:Nat) (ht:t<64):bitsF f t=bitL 64 (num f 8) t:=by
 have h:=num_bit hf 8 (64-1-t) (by omega) (by omega)
 rw[bit_mod,bit_mod,show 8-1-(64-1-t)/8=t/8 by omega,show(64-1-t)%8=7-t%8 by omega] at h
 have:=decide_eq_decide.1 h
 unfold bitL bitsF
 omega
theorem bitL_left (B t:Nat) (ht:t<28):bitL 56 B t=bitL 28 (B/268435456) t:=by
 apply bitL_eq
 have:=Nat.testBit_div_two_pow (n:=28) (i:=28-1-t) B
 rw[show(2:Nat)^28=268435456 from rfl] at this
 rw[this,show 28-1-t+28=56-1-t by omega]
theorem bitL_right (B t:Nat) (ht:t<28):bitL 56 B (28+t)=bitL 28 (B%268435456) t:=by
 apply bitL_eq
 have:=Nat.testBit_mod_two_pow B 28 (28-1-t)
 rw[show(2:Nat)^28=268435456 from rfl] at this
 rw[this,decide_eq_true (show 28-1-t<28 by omega),Bool.true_and,show 56-1-(28+t)=28-1-t by omega]
theorem bitL_turn (x n t:Nat) (hx:x<2^28) (hn:n≤28) (ht:t<28):cat (28-n) (fun i=>bitL 28 x (n+i)) (bitL 28 x) t=bitL 28 (rt 28 x n) t:=by
 unfold cat
 by_cases h:t<28-n
 ·rw[if_pos h]
  apply bitL_eq
  rw[rt_bit _ _ _ _ hx hn (by omega),if_neg (by omega),show 28-1-(n+t)=28-1-t-n by omega]
 rw[if_neg h]
 apply bitL_eq
 rw[rt_bit _ _ _ _ hx hn (by omega),if_pos (by omega),show 28-1-(t-(28-n))=28-n+(28-1-t) by omega]
theorem bitL_join (l r t:Nat) (hr:r<2^28) (ht:t<56):cat 28 (bitL 28 l) (bitL 28 r) t=bitL 56 (l*2^28+r) t:=by
 unfold cat
 by_cases h:t<28
 ·rw[if_pos h]
  apply bitL_eq
  rw[join_bit hr,if_neg (by omega),show 56-1-t-28=28-1-t by omega]
 rw[if_neg h]
 apply bitL_eq
 rw[join_bit hr,if_pos (by omega),show 56-1-t=28-1-(t-28) by omega]
theorem infoSI:(Tryz.prog.info? 152).map (fun i=>(i.zero,i.size,i.bytes))=some (some (.slice none 0 0),1,24):=by kernel_rfl
theorem bs0 (w:World):(Instr.buildSlice 152 0 #[]).run Tryz.prog w= .ok (.slice (some ⟨w.heap.size,0,none⟩) 0 0) (w.alloc (.cells #[] 3)):=by kernel_rfl
theorem wp_bs0 {P:Program}{o:Oper}{a:Act}{w:World}{K:Act→World→Prop}{Q:Exit→Act→World→Prop} (t e:TypeId) (ho:o.op= .buildSlice t 0 #[]) (hr:(Instr.buildSlice t 0 #[]).run P w= .ok (.slice (some ⟨w.heap.size,0,none⟩) 0 0) (w.alloc (.cells #[] e)))
  (h:K (a.put o.dst (.slice (some ⟨w.heap.size,0,none⟩) 0 0)) (w.alloc (.cells #[] e))):o.wp P a w K Q:=by
 unfold Oper.wp execOp
 simp only[ho,List.map_toArray,List.map_nil,hr,Sem.run_bind,Sem.run_pure,Result.andThen_ok]
 exact h
def Kys (w:World) (B k:Nat) (V:Nat→Value):Prop:= ∀r,r<k→∃A c,V r= .slice A 48 c∧48≤c∧Lst w 3 A 48 (iv .i64 (bitL 48 (rkOf B r)))
theorem Kys.below {w w':World}{B k:Nat}{V:Nat→Value} (h:Kys w B k V) (hb:Below w.heap.size w w'):Kys w' B k V:=fun r hr=>by
 obtain⟨A,c,h1,h2,h3⟩:=h r hr
 exact⟨A,c,h1,h2,h3.below hb (Nat.le_refl _)⟩
theorem ivx {x y:Nat} (h:x=y):Value.int .i64 ((x:Nat):Int)=Value.int .i64 ((y:Nat):Int):=by rw[h]
theorem turn_cells (n:Nat) (X i:Nat) (hi:i<28):catV (28-n) (catV 0 (iv .i64 fun _=>0) (iv .i64 fun i=>bitL 28 X (n+i))) (iv .i64 (bitL 28 X)) i=iv .i64 (cat (28-n) (fun i=>bitL 28 X (n+i)) (bitL 28 X)) i:=by
 unfold catV iv cat
 by_cases h:i<28-n
 ·rw[if_pos h,if_pos h,if_neg (by omega),Nat.sub_zero]
 rw[if_neg h,if_neg h]
theorem join_cells (l r i:Nat) (hi:i<56):catV 28 (catV 0 (iv .i64 fun _=>0) (iv .i64 (bitL 28 l))) (iv .i64 (bitL 28 r)) i=iv .i64 (cat 28 (bitL 28 l) (bitL 28 r)) i:=by
 unfold catV iv cat
 by_cases h:i<28
 ·rw[if_pos h,if_pos h,if_neg (by omega),Nat.sub_zero]
 rw[if_neg h,if_neg h]
theorem tn_one (k:Nat) (h:k=0∨k=1∨k=8∨k=15):tn k=1:=by unfold tn;rw[if_pos h]
theorem tn_two (k:Nat) (h: ¬(k=0∨k=1∨k=8∨k=15)):tn k=2:=by unfold tn;rw[if_neg h]
set_option linter.unusedSimpArgs false in
set_option maxRecDepth 100000 in
set_option maxHeartbeats 8000000 in
theorem keys_any (A:Option Addr) (c:Nat) (f:Nat→Nat) (hf:By8 f) (w:World) (hR:Reads w w.heap.size A 8 f):
  Calls Tryz.prog 136 #[.slice A 8 c] w fun e w'=> ∃A' c' V,e= .returned (.slice A' 16 c')∧Lst w' 152 A' 16 V∧Kys w' (pk pc1 64 (num f 8) 56) 16 V∧Below w.heap.size w w':=by
 have Hf:=hid hf
 clear hf
 go_enter Tryz.func136,Tryz.ntmps136
 go_wp2_with fail
 refine(bits_any A 8 c f (by omega) (by omega) Hf.out _ hR).mono ?_
 rintro e w1 ⟨A1,c1,rfl,hc1,hL1,hB1⟩
 have hL1b:Lst w1 3 A1 64 (iv .i64 (bitL 64 (num f 8))):=hL1.ext (fun i hi=>by unfold iv;rw[bitL_bits Hf.out i hi])
 clear hL1 hR
 go_wp2_with fail
 refine(permute_any _ 56 pc1 (by decide+kernel) A1 64 c1 _ (by omega) (by omega) (fun i hi=>⟨(pc1_range i hi).1,(pc1_range i hi).2.1⟩) _ hL1b).mono ?_
 rintro e w2 ⟨A2,c2,rfl,hc2,hL2,hB2⟩
 have hL2b:Lst w2 3 A2 56 (iv .i64 (bitL 56 (pk pc1 64 (num f 8) 56))):=hL2.ext (fun i hi=>ivx (bitL_pk pc1 64 _ 56 i hi ⟨(pc1_range i hi).1,(pc1_range i hi).2.1⟩))
 have hB3:=hB1.trans (hB2.mono hB1.size)
 have hP:pk pc1 64 (num f 8) 56<72057594037927936:=pk_lt pc1 64 (num f 8) 56
 clear hL1b hL2 hB1 hB2 hc1
 obtain⟨B,HBe⟩: ∃B,Hid (pk pc1 64 (num f 8) 56=B):=⟨_,hid rfl⟩
 rw[HBe.out] at hL2b hP
 obtain⟨a0,rfl,ha0⟩:=hL2b.some
 have t1:(28:Int)≤(c2:Int):=by omega
 have t2: ¬c2=28:=by omega
 have t3:(56:Int)≤(c2:Int):=by omega
 have hLl:Lst w2 3 (some a0) 28 (iv .i64 (bitL 28 (hl (B/268435456) 0))):=(hL2b.less (by omega)).ext (fun i hi=>by unfold iv;rw[bitL_left B i hi];rfl)
 have hLr:Lst w2 3 (some ⟨a0.block,a0.off+28,none⟩) 28 (iv .i64 (bitL 28 (hl (B%268435456) 0))):=(hL2b.cut 28 (by omega)).ext (fun i hi=>by unfold iv;rw[bitL_right B i hi];rfl)
 have HLl:=hid (fun k=>hl_lt (c:=B/268435456) (by omega) k)
 have HLr:=hid (fun k=>hl_lt (c:=B%268435456) (by omega) k)
 clear hL2b ha0
 go_wp2_with fail
 go_loopw [4,5,6,7] (fun vc vd vo vr wr=> ∃(k:Nat) (a1:Addr) (c1:Nat) (a2:Addr) (c2:Nat) (V:Nat→Value),k≤16∧28≤c1∧28≤c2∧vc= .slice (some a1) 28 c1∧vd= .slice (some a2) 28 c2∧vr= .int .i64 ((k:Int)+1)∧Lst wr 3 (some a1) 28 (iv .i64 (bitL 28 (hl (B/268435456) k)))∧Lst wr 3 (some a2) 28 (iv .i64 (bitL 28 (hl (B%268435456) k)))∧OwnV wr w.heap.size 152 vo k V∧Kys wr B k V∧Below w.heap.size w wr) (fun _ _ _ vr _=>17-(intOf vr).toNat)
 case atStart=>exact⟨0,a0,c2,⟨a0.block,a0.off+28,none⟩,c2-28,fun _=> .int .i64 0,by omega,by omega,by omega,rfl,rfl,rfl,hLl,hLr,OwnV.nil _ _ _ _,fun r hr=>by omega,hB3⟩
 case round=>
  clear hLl hLr hB3
  obtain⟨k,a1,c1,a2,c2,V,hk,hc1,hc2,rfl,rfl,rfl,hL1,hL2,ho,hK,hB⟩:=hrel
  by_cases hlt:k<16
  ·have HXl:=hid (HLl.out k)
   have HXr:=hid (HLr.out k)
   have Hl0:Hid (hl (B/268435456) (k+1)=rt 28 (hl (B/268435456) k) (tn k)):=hid rfl
   have Hr0:Hid (hl (B%268435456) (k+1)=rt 28 (hl (B%268435456) k) (tn k)):=hid rfl
   have Hrk0:Hid (rkOf B k=pk pc2 56 (rt 28 (hl (B/268435456) k) (tn k)*2^28+rt 28 (hl (B%268435456) k) (tn k)) 48):=hid rfl
   by_cases hk0:k=0∨k=1∨k=8∨k=15
   ·have htn:=tn_one k hk0
    have Hl:=hid (htn▸Hl0.out)
    have Hr:=hid (htn▸Hr0.out)
    have Hrk:=hid (htn▸Hrk0.out)
    clear Hl0 Hr0 Hrk0 htn
    generalize hl (B/268435456) k=xl at*
    generalize hl (B%268435456) k=xr at*
    rcases hk0 with hk0 | hk0 | hk0 | hk0
    ·have e1:((k:Int)+1 == 1)=true:=by simp;omega
     clear hk0
     go_wp2_with fail
     have uc0:(1:Int)≤(c1:Int):=by omega
     have uc1: ¬c1=1:=by omega
     refine wp_region_held_drew (S:=fun W=>Below wr.heap.size wr W) (by kernel_rfl) (Below.refl _ _).drew (fun hS0=>?_)
     refine ztk (i:=1) (v:= .slice (some a1) 28 c1) rfl (fun _ _=>exec_move _ rfl _ rfl) hS0 ?_
     (try simp only[Act.put,zza,zzb,zzc,zzd,zze,zzf])
     refine ztk (i:=2) (v:= .int .i64 1) rfl (fun _ _=>exec_move _ rfl _ rfl) hS0 ?_
     (try simp only[Act.put,zza,zzb,zzc,zzd,zze,zzf])
     refine ztk (i:=3) (v:= .slice (some ⟨a1.block,a1.off+1,none⟩) 27 (c1-1)) rfl (fun W _=>by go_simp) hS0 ?_
     (try simp only[Act.put,zza,zzb,zzc,zzd,zze,zzf])
     refine ztk (i:=5) (v:= .slice (some a1) 28 c1) rfl (fun _ _=>exec_move _ rfl _ rfl) hS0 ?_
     (try simp only[Act.put,zza,zzb,zzc,zzd,zze,zzf])
     refine ztk (i:=6) (v:= .int .i64 1) rfl (fun _ _=>exec_move _ rfl _ rfl) hS0 ?_
     (try simp only[Act.put,zza,zzb,zzc,zzd,zze,zzf])
     refine ztk (i:=7) (v:= .slice (some a1) 1 c1) rfl (fun W _=>by go_simp) hS0 ?_
     (try simp only[Act.put,zza,zzb,zzc,zzd,zze,zzf])
     refine wpAnyH_ready (rs:=[0]) (by kernel_rfl) (by simp) (AllReadyH.cons rfl (fun K hK=>?_) AllReadyH.nil)
     (try simp only[Act.put,zza,zzb,zzc,zzd,zze,zzf])
     refine Eq.mpr (if_pos (by rfl)) ?_
     refine wp_bs0 152 3 rfl (bs0 _) ?_
     (try simp only[Act.put,zza,zzb,zzc,zzd,zze,zzf])
     refine hK.out _ _ (hS0.alloc hS0.size _) (fun hS1=>?_)
     (try simp only[Act.put,zza,zzb,zzc,zzd,zze,zzf])
     clear hK K
     have hem:OwnV (wr.drew.alloc (.cells #[] 3)) wr.heap.size 3 (.slice (some ⟨wr.heap.size,0,none⟩) 0 0) 0 (iv .i64 fun _=>0):=OwnV.empty wr.drew wr.heap.size 3 (iv .i64 fun _=>0) (Nat.le_refl _)
     generalize hwa:wr.drew.alloc (.cells #[] 3)=wac at hem hS1 ⊢
     clear hwa
     have hLa:=hL1.below hS1 (Nat.le_refl _)
     have hLa2:=hLa.cut 1 (by omega)
     refine wpAnyH_ready (rs:=[4]) (by kernel_rfl) (by simp) (AllReadyH.cons rfl (fun K hK=>?_) AllReadyH.nil)
     (try simp only[Act.put,zza,zzb,zzc,zzd,zze,zzf])
     refine Eq.mpr (if_pos (by rfl)) ?_
     refine wp_appV _ _ 152 rfl wr.heap.size 3 (.int .i64 0) 8 Tryz.underlying152 infoI rfl (.slice (some ⟨wr.heap.size,0,none⟩) 0 0) 0 (iv .i64 fun _=>0) rfl hem ⟨a1.block,a1.off+1,none⟩ 27 _ (iv .i64 fun i=>bitL 28 xl (1+i)) hLa2.at (fun _=>rfl) rfl (by omega) (by omega) hS1.size ?_
     intro vc0 wc0 hoc0 hBq _
     (try simp only[Act.put,zza,zzb,zzc,zzd,zze,zzf])
     refine hK.out _ _ (hS1.trans hBq) (fun hSc0=>?_)
     (try simp only[Act.put,zza,zzb,zzc,zzd,zze,zzf])
     clear hK K hBq
     have hLb:=hL1.below hSc0 (Nat.le_refl _)
     refine wpAnyH_ready (rs:=[8]) (by kernel_rfl) (by simp) (AllReadyH.cons rfl (fun K hK=>?_) AllReadyH.nil)
     (try simp only[Act.put,zza,zzb,zzc,zzd,zze,zzf])
     refine Eq.mpr (if_pos (by rfl)) ?_
     refine wp_appV _ _ 152 rfl wr.heap.size 3 (.int .i64 0) 8 Tryz.underlying152 infoI rfl vc0 27 (catV 0 (iv .i64 fun _=>0) (iv .i64 fun i=>bitL 28 xl (1+i))) rfl hoc0 a1 1 _ (iv .i64 (bitL 28 xl)) (fun i hi=>(hLb.less (by omega)).at i hi) (fun _=>rfl) rfl (by omega) (by omega) hSc0.size ?_
     intro vc1 wc1 hoc1 hBq _
     (try simp only[Act.put,zza,zzb,zzc,zzd,zze,zzf])
     refine hK.out _ _ (hSc0.trans hBq) (fun hSc1=>?_)
     (try simp only[Act.put,zza,zzb,zzc,zzd,zze,zzf])
     clear hK K hBq
     refine ztk (i:=9) (v:=vc1) rfl (fun _ _=>exec_assign _ rfl _ rfl) hSc1 ?_
     (try simp only[Act.put,zza,zzb,zzc,zzd,zze,zzf])
     refine wpAnyH_done (by kernel_rfl) ?_ _
     obtain⟨Ac,capc,hv,hcapc,hL0⟩:=hoc1.lst (by omega)
     have hv2:vc1= .slice Ac 28 capc:=hv
     subst hv2
     clear hv
     obtain⟨adc,hA,hadc⟩:=hL0.some
     subst hA
     have hLc:Lst wc1 3 (some adc) 28 (iv .i64 (bitL 28 (rt 28 xl 1))):=hL0.ext (fun i hi=>by rw[turn_cells 1 xl i hi];unfold iv;rw[bitL_turn xl 1 i HXl.out (by omega) hi])
     have hcpc:28≤capc:=hcapc
     have hBc:=hSc1
     clear hS0 hS1 hSc0 hSc1 hem hLa hLa2 hLb hoc0 hoc1 hL0 hcapc uc0 uc1
     have hL2c:=hL2.below hBc (Nat.le_refl _)
     have hoc:=ho.below hBc (Nat.le_refl _)
     have hKc:=hK.below hBc
     have hBBc:=hB.trans (hBc.mono hB.size)
     clear hL1 hL2 ho hK hB hBc
     go_wp2_with fail
     have ud0:(1:Int)≤(c2:Int):=by omega
     have ud1: ¬c2=1:=by omega
     refine wp_region_held_drew (S:=fun W=>Below wc1.heap.size wc1 W) (by kernel_rfl) (Below.refl _ _).drew (fun hS0=>?_)
     refine ztk (i:=1) (v:= .slice (some a2) 28 c2) rfl (fun _ _=>exec_move _ rfl _ rfl) hS0 ?_
     (try simp only[Act.put,zza,zzb,zzc,zzd,zze,zzf])
     refine ztk (i:=2) (v:= .int .i64 1) rfl (fun _ _=>exec_move _ rfl _ rfl) hS0 ?_
     (try simp only[Act.put,zza,zzb,zzc,zzd,zze,zzf])
     refine ztk (i:=3) (v:= .slice (some ⟨a2.block,a2.off+1,none⟩) 27 (c2-1)) rfl (fun W _=>by go_simp) hS0 ?_
     (try simp only[Act.put,zza,zzb,zzc,zzd,zze,zzf])
     refine ztk (i:=5) (v:= .slice (some a2) 28 c2) rfl (fun _ _=>exec_move _ rfl _ rfl) hS0 ?_
     (try simp only[Act.put,zza,zzb,zzc,zzd,zze,zzf])
     refine ztk (i:=6) (v:= .int .i64 1) rfl (fun _ _=>exec_move _ rfl _ rfl) hS0 ?_
     (try simp only[Act.put,zza,zzb,zzc,zzd,zze,zzf])
     refine ztk (i:=7) (v:= .slice (some a2) 1 c2) rfl (fun W _=>by go_simp) hS0 ?_
     (try simp only[Act.put,zza,zzb,zzc,zzd,zze,zzf])
     refine wpAnyH_ready (rs:=[0]) (by kernel_rfl) (by simp) (AllReadyH.cons rfl (fun K hK=>?_) AllReadyH.nil)
     (try simp only[Act.put,zza,zzb,zzc,zzd,zze,zzf])
     refine Eq.mpr (if_pos (by rfl)) ?_
     refine wp_bs0 152 3 rfl (bs0 _) ?_
     (try simp only[Act.put,zza,zzb,zzc,zzd,zze,zzf])
     refine hK.out _ _ (hS0.alloc hS0.size _) (fun hS1=>?_)
     (try simp only[Act.put,zza,zzb,zzc,zzd,zze,zzf])
     clear hK K
     have hem:OwnV (wc1.drew.alloc (.cells #[] 3)) wc1.heap.size 3 (.slice (some ⟨wc1.heap.size,0,none⟩) 0 0) 0 (iv .i64 fun _=>0):=OwnV.empty wc1.drew wc1.heap.size 3 (iv .i64 fun _=>0) (Nat.le_refl _)
     generalize hwa:wc1.drew.alloc (.cells #[] 3)=wad at hem hS1 ⊢
     clear hwa
     have hLa:=hL2c.below hS1 (Nat.le_refl _)
     have hLa2:=hLa.cut 1 (by omega)
     refine wpAnyH_ready (rs:=[4]) (by kernel_rfl) (by simp) (AllReadyH.cons rfl (fun K hK=>?_) AllReadyH.nil)
     (try simp only[Act.put,zza,zzb,zzc,zzd,zze,zzf])
     refine Eq.mpr (if_pos (by rfl)) ?_
     refine wp_appV _ _ 152 rfl wc1.heap.size 3 (.int .i64 0) 8 Tryz.underlying152 infoI rfl (.slice (some ⟨wc1.heap.size,0,none⟩) 0 0) 0 (iv .i64 fun _=>0) rfl hem ⟨a2.block,a2.off+1,none⟩ 27 _ (iv .i64 fun i=>bitL 28 xr (1+i)) hLa2.at (fun _=>rfl) rfl (by omega) (by omega) hS1.size ?_
     intro vd0 wd0 hod0 hBq _
     (try simp only[Act.put,zza,zzb,zzc,zzd,zze,zzf])
     refine hK.out _ _ (hS1.trans hBq) (fun hSd0=>?_)
     (try simp only[Act.put,zza,zzb,zzc,zzd,zze,zzf])
     clear hK K hBq
     have hLb:=hL2c.below hSd0 (Nat.le_refl _)
     refine wpAnyH_ready (rs:=[8]) (by kernel_rfl) (by simp) (AllReadyH.cons rfl (fun K hK=>?_) AllReadyH.nil)
     (try simp only[Act.put,zza,zzb,zzc,zzd,zze,zzf])
     refine Eq.mpr (if_pos (by rfl)) ?_
     refine wp_appV _ _ 152 rfl wc1.heap.size 3 (.int .i64 0) 8 Tryz.underlying152 infoI rfl vd0 27 (catV 0 (iv .i64 fun _=>0) (iv .i64 fun i=>bitL 28 xr (1+i))) rfl hod0 a2 1 _ (iv .i64 (bitL 28 xr)) (fun i hi=>(hLb.less (by omega)).at i hi) (fun _=>rfl) rfl (by omega) (by omega) hSd0.size ?_
     intro vd1 wd1 hod1 hBq _
     (try simp only[Act.put,zza,zzb,zzc,zzd,zze,zzf])
     refine hK.out _ _ (hSd0.trans hBq) (fun hSd1=>?_)
     (try simp only[Act.put,zza,zzb,zzc,zzd,zze,zzf])
     clear hK K hBq
     refine ztk (i:=9) (v:=vd1) rfl (fun _ _=>exec_assign _ rfl _ rfl) hSd1 ?_
     (try simp only[Act.put,zza,zzb,zzc,zzd,zze,zzf])
     refine wpAnyH_done (by kernel_rfl) ?_ _
     obtain⟨Ad,capd,hv,hcapd,hL0⟩:=hod1.lst (by omega)
     have hv2:vd1= .slice Ad 28 capd:=hv
     subst hv2
     clear hv
     obtain⟨add,hA,hadd⟩:=hL0.some
     subst hA
     have hLd:Lst wd1 3 (some add) 28 (iv .i64 (bitL 28 (rt 28 xr 1))):=hL0.ext (fun i hi=>by rw[turn_cells 1 xr i hi];unfold iv;rw[bitL_turn xr 1 i HXr.out (by omega) hi])
     have hcpd:28≤capd:=hcapd
     have hBd:=hSd1
     clear hS0 hS1 hSd0 hSd1 hem hLa hLa2 hLb hod0 hod1 hL0 hcapd ud0 ud1
     have hLcd:=hLc.below hBd (Nat.le_refl _)
     have hod:=hoc.below hBd (Nat.le_refl _)
     have hKd:=hKc.below hBd
     have hBBd:=hBBc.trans (hBd.mono hBBc.size)
     clear hLc hL2c hoc hKc hBBc hBd
     go_wp2_with (at_builtin;refine wpl_appV rfl _ _ 152 rfl wd1.heap.size 3 (.int .i64 0) 8 Tryz.underlying152 infoI rfl _ 0 (iv .i64 fun _=>0) rfl (OwnV.empty wd1 wd1.heap.size 3 _ (Nat.le_refl _)) adc 28 capc (iv .i64 (bitL 28 (rt 28 xl 1))) (fun i hi=>(hLcd.alloc _).at i hi) (fun _=>rfl) rfl (by omega) (by omega) (by simp) ?_)
     intro v5 w5 ho5 hB5 _
     have hBx:=((Below.refl wd1.heap.size wd1).alloc (Nat.le_refl _) (.cells #[] 3)).trans hB5
     clear hB5
     have hLd5:=hLd.below hBx (Nat.le_refl _)
     go_wp2_with (at_builtin;refine wpl_appV rfl _ _ 152 rfl wd1.heap.size 3 (.int .i64 0) 8 Tryz.underlying152 infoI rfl _ (0+28) _ rfl ho5 add 28 capd (iv .i64 (bitL 28 (rt 28 xr 1))) (fun i hi=>hLd5.at i hi) (fun _=>rfl) rfl (by omega) (by omega) hBx.size ?_)
     intro v6 w6 ho6 hB6 _
     have hBy:=hBx.trans hB6
     clear hBx hB6 hLd5 ho5
     obtain⟨A6,cap6,hv,hcap6,hL0⟩:=ho6.lst (by omega)
     have hv2:v6= .slice A6 56 cap6:=hv
     subst hv2
     clear hv ho6
     have hL6:Lst w6 3 A6 56 (iv .i64 (bitL 56 (rt 28 xl 1*2^28+rt 28 xr 1))):=hL0.ext (fun i hi=>by rw[join_cells _ _ i hi];unfold iv;rw[bitL_join _ _ i (rt_lt _ _ _) hi])
     clear hL0
     have hLc6:=hLcd.below hBy (Nat.le_refl _)
     have hLd6:=hLd.below hBy (Nat.le_refl _)
     have ho6:=hod.below hBy (Nat.le_refl _)
     have hK6:=hKd.below hBy
     have hB6:=hBBd.trans (hBy.mono hBBd.size)
     clear hLcd hLd hod hKd hBBd hBy
     go_wp2_with fail
     refine(permute_any _ 48 pc2 (by decide+kernel) A6 56 cap6 _ (by omega) (by omega) pc2_range _ hL6).mono ?_
     rintro e w7 ⟨A7,c7,rfl,hc7,hL7,hB7⟩
     have hL7b:Lst w7 3 A7 48 (iv .i64 (bitL 48 (rkOf B k))):=hL7.ext (fun i hi=>ivx ((bitL_pk pc2 56 _ 48 i hi (pc2_range i hi)).trans (by rw[← Hrk.out])))
     have hLc7:=hLc6.below hB7 (Nat.le_refl _)
     have hLd7:=hLd6.below hB7 (Nat.le_refl _)
     have ho7:=ho6.below hB7 (Nat.le_refl _)
     have hK7:=hK6.below hB7
     have hB8:=hB6.trans (hB7.mono hB6.size)
     clear hL7 hL6 hLc6 hLd6 ho6 hK6 hB6 hB7
     go_wp2_with (at_builtin;refine wpl_appN rfl _ _ 188 rfl w.heap.size 152 (.slice none 0 0) 24 Tryz.underlying188 infoSI rfl _ k V rfl ho7 1 (fun _=> .slice A7 48 c7) _ (row1v _ _ rfl) (fun _=>rfl) rfl (by omega) (by omega) hB8.size ?_)
     intro v8 w8 ho8 hB9 hG8
     obtain⟨cs8,hcs8⟩:=(ho7.alloc (.cells #[.slice A7 48 c7] 152)).block
     have tr: ∀A n c,Lst w7 3 A n c→Lst w8 3 A n c:=fun A n c h=>(h.alloc (.cells #[.slice A7 48 c7] 152)).grown hG8 hcs8 (by decide)
     have hLc8:=tr _ _ _ hLc7
     have hLd8:=tr _ _ _ hLd7
     have hL8:=tr _ _ _ hL7b
     have hB10:=hB8.trans hB9
     have hK8:Kys w8 B (k+1) (catV k V (fun _=> .slice A7 48 c7)):=fun r hr=>by
      by_cases h:r<k
      ·obtain⟨A,c,h1,h2,h3⟩:=hK7 r h
       exact⟨A,c,by unfold catV;rw[if_pos h];exact h1,h2,tr _ _ _ h3⟩
      obtain rfl:r=k:=by omega
      exact⟨A7,c7,by unfold catV;rw[if_neg h],hc7,hL8⟩
     clear hLc7 hLd7 ho7 hK7 hB8 hB9 hG8 hcs8 tr hL8 hL7b
     go_wp2_with fail
     exact⟨⟨k+1,adc,capc,add,capd,_,by omega,hcpc,hcpd,rfl,rfl,val_int (by omega),by rw[← Hl.out] at hLc8;exact hLc8,by rw[← Hr.out] at hLd8;exact hLd8,ho8,hK8,hB10⟩,by simp[intOf];omega⟩
    ·have e1:((k:Int)+1 == 1)=false:=by simp;omega
     have e2:((k:Int)+1 == 2)=true:=by simp;omega
     clear hk0
     go_wp2_with fail
     have uc0:(1:Int)≤(c1:Int):=by omega
     have uc1: ¬c1=1:=by omega
     refine wp_region_held_drew (S:=fun W=>Below wr.heap.size wr W) (by kernel_rfl) (Below.refl _ _).drew (fun hS0=>?_)
     refine ztk (i:=1) (v:= .slice (some a1) 28 c1) rfl (fun _ _=>exec_move _ rfl _ rfl) hS0 ?_
     (try simp only[Act.put,zza,zzb,zzc,zzd,zze,zzf])
     refine ztk (i:=2) (v:= .int .i64 1) rfl (fun _ _=>exec_move _ rfl _ rfl) hS0 ?_
     (try simp only[Act.put,zza,zzb,zzc,zzd,zze,zzf])
     refine ztk (i:=3) (v:= .slice (some ⟨a1.block,a1.off+1,none⟩) 27 (c1-1)) rfl (fun W _=>by go_simp) hS0 ?_
     (try simp only[Act.put,zza,zzb,zzc,zzd,zze,zzf])
     refine ztk (i:=5) (v:= .slice (some a1) 28 c1) rfl (fun _ _=>exec_move _ rfl _ rfl) hS0 ?_
     (try simp only[Act.put,zza,zzb,zzc,zzd,zze,zzf])
     refine ztk (i:=6) (v:= .int .i64 1) rfl (fun _ _=>exec_move _ rfl _ rfl) hS0 ?_
     (try simp only[Act.put,zza,zzb,zzc,zzd,zze,zzf])
     refine ztk (i:=7) (v:= .slice (some a1) 1 c1) rfl (fun W _=>by go_simp) hS0 ?_
     (try simp only[Act.put,zza,zzb,zzc,zzd,zze,zzf])
     refine wpAnyH_ready (rs:=[0]) (by kernel_rfl) (by simp) (AllReadyH.cons rfl (fun K hK=>?_) AllReadyH.nil)
     (try simp only[Act.put,zza,zzb,zzc,zzd,zze,zzf])
     refine Eq.mpr (if_pos (by rfl)) ?_
     refine wp_bs0 152 3 rfl (bs0 _) ?_
     (try simp only[Act.put,zza,zzb,zzc,zzd,zze,zzf])
     refine hK.out _ _ (hS0.alloc hS0.size _) (fun hS1=>?_)
     (try simp only[Act.put,zza,zzb,zzc,zzd,zze,zzf])
     clear hK K
     have hem:OwnV (wr.drew.alloc (.cells #[] 3)) wr.heap.size 3 (.slice (some ⟨wr.heap.size,0,none⟩) 0 0) 0 (iv .i64 fun _=>0):=OwnV.empty wr.drew wr.heap.size 3 (iv .i64 fun _=>0) (Nat.le_refl _)
     generalize hwa:wr.drew.alloc (.cells #[] 3)=wac at hem hS1 ⊢
     clear hwa
     have hLa:=hL1.below hS1 (Nat.le_refl _)
     have hLa2:=hLa.cut 1 (by omega)
     refine wpAnyH_ready (rs:=[4]) (by kernel_rfl) (by simp) (AllReadyH.cons rfl (fun K hK=>?_) AllReadyH.nil)
     (try simp only[Act.put,zza,zzb,zzc,zzd,zze,zzf])
     refine Eq.mpr (if_pos (by rfl)) ?_
     refine wp_appV _ _ 152 rfl wr.heap.size 3 (.int .i64 0) 8 Tryz.underlying152 infoI rfl (.slice (some ⟨wr.heap.size,0,none⟩) 0 0) 0 (iv .i64 fun _=>0) rfl hem ⟨a1.block,a1.off+1,none⟩ 27 _ (iv .i64 fun i=>bitL 28 xl (1+i)) hLa2.at (fun _=>rfl) rfl (by omega) (by omega) hS1.size ?_
     intro vc0 wc0 hoc0 hBq _
     (try simp only[Act.put,zza,zzb,zzc,zzd,zze,zzf])
     refine hK.out _ _ (hS1.trans hBq) (fun hSc0=>?_)
     (try simp only[Act.put,zza,zzb,zzc,zzd,zze,zzf])
     clear hK K hBq
     have hLb:=hL1.below hSc0 (Nat.le_refl _)
     refine wpAnyH_ready (rs:=[8]) (by kernel_rfl) (by simp) (AllReadyH.cons rfl (fun K hK=>?_) AllReadyH.nil)
     (try simp only[Act.put,zza,zzb,zzc,zzd,zze,zzf])
     refine Eq.mpr (if_pos (by rfl)) ?_
     refine wp_appV _ _ 152 rfl wr.heap.size 3 (.int .i64 0) 8 Tryz.underlying152 infoI rfl vc0 27 (catV 0 (iv .i64 fun _=>0) (iv .i64 fun i=>bitL 28 xl (1+i))) rfl hoc0 a1 1 _ (iv .i64 (bitL 28 xl)) (fun i hi=>(hLb.less (by omega)).at i hi) (fun _=>rfl) rfl (by omega) (by omega) hSc0.size ?_
     intro vc1 wc1 hoc1 hBq _
     (try simp only[Act.put,zza,zzb,zzc,zzd,zze,zzf])
     refine hK.out _ _ (hSc0.trans hBq) (fun hSc1=>?_)
     (try simp only[Act.put,zza,zzb,zzc,zzd,zze,zzf])
     clear hK K hBq
     refine ztk (i:=9) (v:=vc1) rfl (fun _ _=>exec_assign _ rfl _ rfl) hSc1 ?_
     (try simp only[Act.put,zza,zzb,zzc,zzd,zze,zzf])
     refine wpAnyH_done (by kernel_rfl) ?_ _
     obtain⟨Ac,capc,hv,hcapc,hL0⟩:=hoc1.lst (by omega)
     have hv2:vc1= .slice Ac 28 capc:=hv
     subst hv2
     clear hv
     obtain⟨adc,hA,hadc⟩:=hL0.some
     subst hA
     have hLc:Lst wc1 3 (some adc) 28 (iv .i64 (bitL 28 (rt 28 xl 1))):=hL0.ext (fun i hi=>by rw[turn_cells 1 xl i hi];unfold iv;rw[bitL_turn xl 1 i HXl.out (by omega) hi])
     have hcpc:28≤capc:=hcapc
     have hBc:=hSc1
     clear hS0 hS1 hSc0 hSc1 hem hLa hLa2 hLb hoc0 hoc1 hL0 hcapc uc0 uc1
     have hL2c:=hL2.below hBc (Nat.le_refl _)
     have hoc:=ho.below hBc (Nat.le_refl _)
     have hKc:=hK.below hBc
     have hBBc:=hB.trans (hBc.mono hB.size)
     clear hL1 hL2 ho hK hB hBc
     go_wp2_with fail
     have ud0:(1:Int)≤(c2:Int):=by omega
     have ud1: ¬c2=1:=by omega
     refine wp_region_held_drew (S:=fun W=>Below wc1.heap.size wc1 W) (by kernel_rfl) (Below.refl _ _).drew (fun hS0=>?_)
     refine ztk (i:=1) (v:= .slice (some a2) 28 c2) rfl (fun _ _=>exec_move _ rfl _ rfl) hS0 ?_
     (try simp only[Act.put,zza,zzb,zzc,zzd,zze,zzf])
     refine ztk (i:=2) (v:= .int .i64 1) rfl (fun _ _=>exec_move _ rfl _ rfl) hS0 ?_
     (try simp only[Act.put,zza,zzb,zzc,zzd,zze,zzf])
     refine ztk (i:=3) (v:= .slice (some ⟨a2.block,a2.off+1,none⟩) 27 (c2-1)) rfl (fun W _=>by go_simp) hS0 ?_
     (try simp only[Act.put,zza,zzb,zzc,zzd,zze,zzf])
     refine ztk (i:=5) (v:= .slice (some a2) 28 c2) rfl (fun _ _=>exec_move _ rfl _ rfl) hS0 ?_
     (try simp only[Act.put,zza,zzb,zzc,zzd,zze,zzf])
     refine ztk (i:=6) (v:= .int .i64 1) rfl (fun _ _=>exec_move _ rfl _ rfl) hS0 ?_
     (try simp only[Act.put,zza,zzb,zzc,zzd,zze,zzf])
     refine ztk (i:=7) (v:= .slice (some a2) 1 c2) rfl (fun W _=>by go_simp) hS0 ?_
     (try simp only[Act.put,zza,zzb,zzc,zzd,zze,zzf])
     refine wpAnyH_ready (rs:=[0]) (by kernel_rfl) (by simp) (AllReadyH.cons rfl (fun K hK=>?_) AllReadyH.nil)
     (try simp only[Act.put,zza,zzb,zzc,zzd,zze,zzf])
     refine Eq.mpr (if_pos (by rfl)) ?_
     refine wp_bs0 152 3 rfl (bs0 _) ?_
     (try simp only[Act.put,zza,zzb,zzc,zzd,zze,zzf])
     refine hK.out _ _ (hS0.alloc hS0.size _) (fun hS1=>?_)
     (try simp only[Act.put,zza,zzb,zzc,zzd,zze,zzf])
     clear hK K
     have hem:OwnV (wc1.drew.alloc (.cells #[] 3)) wc1.heap.size 3 (.slice (some ⟨wc1.heap.size,0,none⟩) 0 0) 0 (iv .i64 fun _=>0):=OwnV.empty wc1.drew wc1.heap.size 3 (iv .i64 fun _=>0) (Nat.le_refl _)
     generalize hwa:wc1.drew.alloc (.cells #[] 3)=wad at hem hS1 ⊢
     clear hwa
     have hLa:=hL2c.below hS1 (Nat.le_refl _)
     have hLa2:=hLa.cut 1 (by omega)
     refine wpAnyH_ready (rs:=[4]) (by kernel_rfl) (by simp) (AllReadyH.cons rfl (fun K hK=>?_) AllReadyH.nil)
     (try simp only[Act.put,zza,zzb,zzc,zzd,zze,zzf])
     refine Eq.mpr (if_pos (by rfl)) ?_
     refine wp_appV _ _ 152 rfl wc1.heap.size 3 (.int .i64 0) 8 Tryz.underlying152 infoI rfl (.slice (some ⟨wc1.heap.size,0,none⟩) 0 0) 0 (iv .i64 fun _=>0) rfl hem ⟨a2.block,a2.off+1,none⟩ 27 _ (iv .i64 fun i=>bitL 28 xr (1+i)) hLa2.at (fun _=>rfl) rfl (by omega) (by omega) hS1.size ?_
     intro vd0 wd0 hod0 hBq _
     (try simp only[Act.put,zza,zzb,zzc,zzd,zze,zzf])
     refine hK.out _ _ (hS1.trans hBq) (fun hSd0=>?_)
     (try simp only[Act.put,zza,zzb,zzc,zzd,zze,zzf])
     clear hK K hBq
     have hLb:=hL2c.below hSd0 (Nat.le_refl _)
     refine wpAnyH_ready (rs:=[8]) (by kernel_rfl) (by simp) (AllReadyH.cons rfl (fun K hK=>?_) AllReadyH.nil)
     (try simp only[Act.put,zza,zzb,zzc,zzd,zze,zzf])
     refine Eq.mpr (if_pos (by rfl)) ?_
     refine wp_appV _ _ 152 rfl wc1.heap.size 3 (.int .i64 0) 8 Tryz.underlying152 infoI rfl vd0 27 (catV 0 (iv .i64 fun _=>0) (iv .i64 fun i=>bitL 28 xr (1+i))) rfl hod0 a2 1 _ (iv .i64 (bitL 28 xr)) (fun i hi=>(hLb.less (by omega)).at i hi) (fun _=>rfl) rfl (by omega) (by omega) hSd0.size ?_
     intro vd1 wd1 hod1 hBq _
     (try simp only[Act.put,zza,zzb,zzc,zzd,zze,zzf])
     refine hK.out _ _ (hSd0.trans hBq) (fun hSd1=>?_)
     (try simp only[Act.put,zza,zzb,zzc,zzd,zze,zzf])
     clear hK K hBq
     refine ztk (i:=9) (v:=vd1) rfl (fun _ _=>exec_assign _ rfl _ rfl) hSd1 ?_
     (try simp only[Act.put,zza,zzb,zzc,zzd,zze,zzf])
     refine wpAnyH_done (by kernel_rfl) ?_ _
     obtain⟨Ad,capd,hv,hcapd,hL0⟩:=hod1.lst (by omega)
     have hv2:vd1= .slice Ad 28 capd:=hv
     subst hv2
     clear hv
     obtain⟨add,hA,hadd⟩:=hL0.some
     subst hA
     have hLd:Lst wd1 3 (some add) 28 (iv .i64 (bitL 28 (rt 28 xr 1))):=hL0.ext (fun i hi=>by rw[turn_cells 1 xr i hi];unfold iv;rw[bitL_turn xr 1 i HXr.out (by omega) hi])
     have hcpd:28≤capd:=hcapd
     have hBd:=hSd1
     clear hS0 hS1 hSd0 hSd1 hem hLa hLa2 hLb hod0 hod1 hL0 hcapd ud0 ud1
     have hLcd:=hLc.below hBd (Nat.le_refl _)
     have hod:=hoc.below hBd (Nat.le_refl _)
     have hKd:=hKc.below hBd
     have hBBd:=hBBc.trans (hBd.mono hBBc.size)
     clear hLc hL2c hoc hKc hBBc hBd
     go_wp2_with (at_builtin;refine wpl_appV rfl _ _ 152 rfl wd1.heap.size 3 (.int .i64 0) 8 Tryz.underlying152 infoI rfl _ 0 (iv .i64 fun _=>0) rfl (OwnV.empty wd1 wd1.heap.size 3 _ (Nat.le_refl _)) adc 28 capc (iv .i64 (bitL 28 (rt 28 xl 1))) (fun i hi=>(hLcd.alloc _).at i hi) (fun _=>rfl) rfl (by omega) (by omega) (by simp) ?_)
     intro v5 w5 ho5 hB5 _
     have hBx:=((Below.refl wd1.heap.size wd1).alloc (Nat.le_refl _) (.cells #[] 3)).trans hB5
     clear hB5
     have hLd5:=hLd.below hBx (Nat.le_refl _)
     go_wp2_with (at_builtin;refine wpl_appV rfl _ _ 152 rfl wd1.heap.size 3 (.int .i64 0) 8 Tryz.underlying152 infoI rfl _ (0+28) _ rfl ho5 add 28 capd (iv .i64 (bitL 28 (rt 28 xr 1))) (fun i hi=>hLd5.at i hi) (fun _=>rfl) rfl (by omega) (by omega) hBx.size ?_)
     intro v6 w6 ho6 hB6 _
     have hBy:=hBx.trans hB6
     clear hBx hB6 hLd5 ho5
     obtain⟨A6,cap6,hv,hcap6,hL0⟩:=ho6.lst (by omega)
     have hv2:v6= .slice A6 56 cap6:=hv
     subst hv2
     clear hv ho6
     have hL6:Lst w6 3 A6 56 (iv .i64 (bitL 56 (rt 28 xl 1*2^28+rt 28 xr 1))):=hL0.ext (fun i hi=>by rw[join_cells _ _ i hi];unfold iv;rw[bitL_join _ _ i (rt_lt _ _ _) hi])
     clear hL0
     have hLc6:=hLcd.below hBy (Nat.le_refl _)
     have hLd6:=hLd.below hBy (Nat.le_refl _)
     have ho6:=hod.below hBy (Nat.le_refl _)
     have hK6:=hKd.below hBy
     have hB6:=hBBd.trans (hBy.mono hBBd.size)
     clear hLcd hLd hod hKd hBBd hBy
     go_wp2_with fail
     refine(permute_any _ 48 pc2 (by decide+kernel) A6 56 cap6 _ (by omega) (by omega) pc2_range _ hL6).mono ?_
     rintro e w7 ⟨A7,c7,rfl,hc7,hL7,hB7⟩
     have hL7b:Lst w7 3 A7 48 (iv .i64 (bitL 48 (rkOf B k))):=hL7.ext (fun i hi=>ivx ((bitL_pk pc2 56 _ 48 i hi (pc2_range i hi)).trans (by rw[← Hrk.out])))
     have hLc7:=hLc6.below hB7 (Nat.le_refl _)
     have hLd7:=hLd6.below hB7 (Nat.le_refl _)
     have ho7:=ho6.below hB7 (Nat.le_refl _)
     have hK7:=hK6.below hB7
     have hB8:=hB6.trans (hB7.mono hB6.size)
     clear hL7 hL6 hLc6 hLd6 ho6 hK6 hB6 hB7
     go_wp2_with (at_builtin;refine wpl_appN rfl _ _ 188 rfl w.heap.size 152 (.slice none 0 0) 24 Tryz.underlying188 infoSI rfl _ k V rfl ho7 1 (fun _=> .slice A7 48 c7) _ (row1v _ _ rfl) (fun _=>rfl) rfl (by omega) (by omega) hB8.size ?_)
     intro v8 w8 ho8 hB9 hG8
     obtain⟨cs8,hcs8⟩:=(ho7.alloc (.cells #[.slice A7 48 c7] 152)).block
     have tr: ∀A n c,Lst w7 3 A n c→Lst w8 3 A n c:=fun A n c h=>(h.alloc (.cells #[.slice A7 48 c7] 152)).grown hG8 hcs8 (by decide)
     have hLc8:=tr _ _ _ hLc7
     have hLd8:=tr _ _ _ hLd7
     have hL8:=tr _ _ _ hL7b
     have hB10:=hB8.trans hB9
     have hK8:Kys w8 B (k+1) (catV k V (fun _=> .slice A7 48 c7)):=fun r hr=>by
      by_cases h:r<k
      ·obtain⟨A,c,h1,h2,h3⟩:=hK7 r h
       exact⟨A,c,by unfold catV;rw[if_pos h];exact h1,h2,tr _ _ _ h3⟩
      obtain rfl:r=k:=by omega
      exact⟨A7,c7,by unfold catV;rw[if_neg h],hc7,hL8⟩
     clear hLc7 hLd7 ho7 hK7 hB8 hB9 hG8 hcs8 tr hL8 hL7b
     go_wp2_with fail
     exact⟨⟨k+1,adc,capc,add,capd,_,by omega,hcpc,hcpd,rfl,rfl,val_int (by omega),by rw[← Hl.out] at hLc8;exact hLc8,by rw[← Hr.out] at hLd8;exact hLd8,ho8,hK8,hB10⟩,by simp[intOf];omega⟩
    ·have e1:((k:Int)+1 == 1)=false:=by simp;omega
     have e2:((k:Int)+1 == 2)=false:=by simp;omega
     have e3:((k:Int)+1 == 9)=true:=by simp;omega
     clear hk0
     go_wp2_with fail
     have uc0:(1:Int)≤(c1:Int):=by omega
     have uc1: ¬c1=1:=by omega
     refine wp_region_held_drew (S:=fun W=>Below wr.heap.size wr W) (by kernel_rfl) (Below.refl _ _).drew (fun hS0=>?_)
     refine ztk (i:=1) (v:= .slice (some a1) 28 c1) rfl (fun _ _=>exec_move _ rfl _ rfl) hS0 ?_
     (try simp only[Act.put,zza,zzb,zzc,zzd,zze,zzf])
     refine ztk (i:=2) (v:= .int .i64 1) rfl (fun _ _=>exec_move _ rfl _ rfl) hS0 ?_
     (try simp only[Act.put,zza,zzb,zzc,zzd,zze,zzf])
     refine ztk (i:=3) (v:= .slice (some ⟨a1.block,a1.off+1,none⟩) 27 (c1-1)) rfl (fun W _=>by go_simp) hS0 ?_
     (try simp only[Act.put,zza,zzb,zzc,zzd,zze,zzf])
     refine ztk (i:=5) (v:= .slice (some a1) 28 c1) rfl (fun _ _=>exec_move _ rfl _ rfl) hS0 ?_
     (try simp only[Act.put,zza,zzb,zzc,zzd,zze,zzf])
     refine ztk (i:=6) (v:= .int .i64 1) rfl (fun _ _=>exec_move _ rfl _ rfl) hS0 ?_
     (try simp only[Act.put,zza,zzb,zzc,zzd,zze,zzf])
     refine ztk (i:=7) (v:= .slice (some a1) 1 c1) rfl (fun W _=>by go_simp) hS0 ?_
     (try simp only[Act.put,zza,zzb,zzc,zzd,zze,zzf])
     refine wpAnyH_ready (rs:=[0]) (by kernel_rfl) (by simp) (AllReadyH.cons rfl (fun K hK=>?_) AllReadyH.nil)
     (try simp only[Act.put,zza,zzb,zzc,zzd,zze,zzf])
     refine Eq.mpr (if_pos (by rfl)) ?_
     refine wp_bs0 152 3 rfl (bs0 _) ?_
     (try simp only[Act.put,zza,zzb,zzc,zzd,zze,zzf])
     refine hK.out _ _ (hS0.alloc hS0.size _) (fun hS1=>?_)
     (try simp only[Act.put,zza,zzb,zzc,zzd,zze,zzf])
     clear hK K
     have hem:OwnV (wr.drew.alloc (.cells #[] 3)) wr.heap.size 3 (.slice (some ⟨wr.heap.size,0,none⟩) 0 0) 0 (iv .i64 fun _=>0):=OwnV.empty wr.drew wr.heap.size 3 (iv .i64 fun _=>0) (Nat.le_refl _)
     generalize hwa:wr.drew.alloc (.cells #[] 3)=wac at hem hS1 ⊢
     clear hwa
     have hLa:=hL1.below hS1 (Nat.le_refl _)
     have hLa2:=hLa.cut 1 (by omega)
     refine wpAnyH_ready (rs:=[4]) (by kernel_rfl) (by simp) (AllReadyH.cons rfl (fun K hK=>?_) AllReadyH.nil)
     (try simp only[Act.put,zza,zzb,zzc,zzd,zze,zzf])
     refine Eq.mpr (if_pos (by rfl)) ?_
     refine wp_appV _ _ 152 rfl wr.heap.size 3 (.int .i64 0) 8 Tryz.underlying152 infoI rfl (.slice (some ⟨wr.heap.size,0,none⟩) 0 0) 0 (iv .i64 fun _=>0) rfl hem ⟨a1.block,a1.off+1,none⟩ 27 _ (iv .i64 fun i=>bitL 28 xl (1+i)) hLa2.at (fun _=>rfl) rfl (by omega) (by omega) hS1.size ?_
     intro vc0 wc0 hoc0 hBq _
     (try simp only[Act.put,zza,zzb,zzc,zzd,zze,zzf])
     refine hK.out _ _ (hS1.trans hBq) (fun hSc0=>?_)
     (try simp only[Act.put,zza,zzb,zzc,zzd,zze,zzf])
     clear hK K hBq
     have hLb:=hL1.below hSc0 (Nat.le_refl _)
     refine wpAnyH_ready (rs:=[8]) (by kernel_rfl) (by simp) (AllReadyH.cons rfl (fun K hK=>?_) AllReadyH.nil)
     (try simp only[Act.put,zza,zzb,zzc,zzd,zze,zzf])
     refine Eq.mpr (if_pos (by rfl)) ?_
     refine wp_appV _ _ 152 rfl wr.heap.size 3 (.int .i64 0) 8 Tryz.underlying152 infoI rfl vc0 27 (catV 0 (iv .i64 fun _=>0) (iv .i64 fun i=>bitL 28 xl (1+i))) rfl hoc0 a1 1 _ (iv .i64 (bitL 28 xl)) (fun i hi=>(hLb.less (by omega)).at i hi) (fun _=>rfl) rfl (by omega) (by omega) hSc0.size ?_
     intro vc1 wc1 hoc1 hBq _
     (try simp only[Act.put,zza,zzb,zzc,zzd,zze,zzf])
     refine hK.out _ _ (hSc0.trans hBq) (fun hSc1=>?_)
     (try simp only[Act.put,zza,zzb,zzc,zzd,zze,zzf])
     clear hK K hBq
     refine ztk (i:=9) (v:=vc1) rfl (fun _ _=>exec_assign _ rfl _ rfl) hSc1 ?_
     (try simp only[Act.put,zza,zzb,zzc,zzd,zze,zzf])
     refine wpAnyH_done (by kernel_rfl) ?_ _
     obtain⟨Ac,capc,hv,hcapc,hL0⟩:=hoc1.lst (by omega)
     have hv2:vc1= .slice Ac 28 capc:=hv
     subst hv2
     clear hv
     obtain⟨adc,hA,hadc⟩:=hL0.some
     subst hA
     have hLc:Lst wc1 3 (some adc) 28 (iv .i64 (bitL 28 (rt 28 xl 1))):=hL0.ext (fun i hi=>by rw[turn_cells 1 xl i hi];unfold iv;rw[bitL_turn xl 1 i HXl.out (by omega) hi])
     have hcpc:28≤capc:=hcapc
     have hBc:=hSc1
     clear hS0 hS1 hSc0 hSc1 hem hLa hLa2 hLb hoc0 hoc1 hL0 hcapc uc0 uc1
     have hL2c:=hL2.below hBc (Nat.le_refl _)
     have hoc:=ho.below hBc (Nat.le_refl _)
     have hKc:=hK.below hBc
     have hBBc:=hB.trans (hBc.mono hB.size)
     clear hL1 hL2 ho hK hB hBc
     go_wp2_with fail
     have ud0:(1:Int)≤(c2:Int):=by omega
     have ud1: ¬c2=1:=by omega
     refine wp_region_held_drew (S:=fun W=>Below wc1.heap.size wc1 W) (by kernel_rfl) (Below.refl _ _).drew (fun hS0=>?_)
     refine ztk (i:=1) (v:= .slice (some a2) 28 c2) rfl (fun _ _=>exec_move _ rfl _ rfl) hS0 ?_
     (try simp only[Act.put,zza,zzb,zzc,zzd,zze,zzf])
     refine ztk (i:=2) (v:= .int .i64 1) rfl (fun _ _=>exec_move _ rfl _ rfl) hS0 ?_
     (try simp only[Act.put,zza,zzb,zzc,zzd,zze,zzf])
     refine ztk (i:=3) (v:= .slice (some ⟨a2.block,a2.off+1,none⟩) 27 (c2-1)) rfl (fun W _=>by go_simp) hS0 ?_
     (try simp only[Act.put,zza,zzb,zzc,zzd,zze,zzf])
     refine ztk (i:=5) (v:= .slice (some a2) 28 c2) rfl (fun _ _=>exec_move _ rfl _ rfl) hS0 ?_
     (try simp only[Act.put,zza,zzb,zzc,zzd,zze,zzf])
     refine ztk (i:=6) (v:= .int .i64 1) rfl (fun _ _=>exec_move _ rfl _ rfl) hS0 ?_
     (try simp only[Act.put,zza,zzb,zzc,zzd,zze,zzf])
     refine ztk (i:=7) (v:= .slice (some a2) 1 c2) rfl (fun W _=>by go_simp) hS0 ?_
     (try simp only[Act.put,zza,zzb,zzc,zzd,zze,zzf])
     refine wpAnyH_ready (rs:=[0]) (by kernel_rfl) (by simp) (AllReadyH.cons rfl (fun K hK=>?_) AllReadyH.nil)
     (try simp only[Act.put,zza,zzb,zzc,zzd,zze,zzf])
     refine Eq.mpr (if_pos (by rfl)) ?_
     refine wp_bs0 152 3 rfl (bs0 _) ?_
     (try simp only[Act.put,zza,zzb,zzc,zzd,zze,zzf])
     refine hK.out _ _ (hS0.alloc hS0.size _) (fun hS1=>?_)
     (try simp only[Act.put,zza,zzb,zzc,zzd,zze,zzf])
     clear hK K
     have hem:OwnV (wc1.drew.alloc (.cells #[] 3)) wc1.heap.size 3 (.slice (some ⟨wc1.heap.size,0,none⟩) 0 0) 0 (iv .i64 fun _=>0):=OwnV.empty wc1.drew wc1.heap.size 3 (iv .i64 fun _=>0) (Nat.le_refl _)
     generalize hwa:wc1.drew.alloc (.cells #[] 3)=wad at hem hS1 ⊢
     clear hwa
     have hLa:=hL2c.below hS1 (Nat.le_refl _)
     have hLa2:=hLa.cut 1 (by omega)
     refine wpAnyH_ready (rs:=[4]) (by kernel_rfl) (by simp) (AllReadyH.cons rfl (fun K hK=>?_) AllReadyH.nil)
     (try simp only[Act.put,zza,zzb,zzc,zzd,zze,zzf])
     refine Eq.mpr (if_pos (by rfl)) ?_
     refine wp_appV _ _ 152 rfl wc1.heap.size 3 (.int .i64 0) 8 Tryz.underlying152 infoI rfl (.slice (some ⟨wc1.heap.size,0,none⟩) 0 0) 0 (iv .i64 fun _=>0) rfl hem ⟨a2.block,a2.off+1,none⟩ 27 _ (iv .i64 fun i=>bitL 28 xr (1+i)) hLa2.at (fun _=>rfl) rfl (by omega) (by omega) hS1.size ?_
     intro vd0 wd0 hod0 hBq _
     (try simp only[Act.put,zza,zzb,zzc,zzd,zze,zzf])
     refine hK.out _ _ (hS1.trans hBq) (fun hSd0=>?_)
     (try simp only[Act.put,zza,zzb,zzc,zzd,zze,zzf])
     clear hK K hBq
     have hLb:=hL2c.below hSd0 (Nat.le_refl _)
     refine wpAnyH_ready (rs:=[8]) (by kernel_rfl) (by simp) (AllReadyH.cons rfl (fun K hK=>?_) AllReadyH.nil)
     (try simp only[Act.put,zza,zzb,zzc,zzd,zze,zzf])
     refine Eq.mpr (if_pos (by rfl)) ?_
     refine wp_appV _ _ 152 rfl wc1.heap.size 3 (.int .i64 0) 8 Tryz.underlying152 infoI rfl vd0 27 (catV 0 (iv .i64 fun _=>0) (iv .i64 fun i=>bitL 28 xr (1+i))) rfl hod0 a2 1 _ (iv .i64 (bitL 28 xr)) (fun i hi=>(hLb.less (by omega)).at i hi) (fun _=>rfl) rfl (by omega) (by omega) hSd0.size ?_
     intro vd1 wd1 hod1 hBq _
     (try simp only[Act.put,zza,zzb,zzc,zzd,zze,zzf])
     refine hK.out _ _ (hSd0.trans hBq) (fun hSd1=>?_)
     (try simp only[Act.put,zza,zzb,zzc,zzd,zze,zzf])
     clear hK K hBq
     refine ztk (i:=9) (v:=vd1) rfl (fun _ _=>exec_assign _ rfl _ rfl) hSd1 ?_
     (try simp only[Act.put,zza,zzb,zzc,zzd,zze,zzf])
     refine wpAnyH_done (by kernel_rfl) ?_ _
     obtain⟨Ad,capd,hv,hcapd,hL0⟩:=hod1.lst (by omega)
     have hv2:vd1= .slice Ad 28 capd:=hv
     subst hv2
     clear hv
     obtain⟨add,hA,hadd⟩:=hL0.some
     subst hA
     have hLd:Lst wd1 3 (some add) 28 (iv .i64 (bitL 28 (rt 28 xr 1))):=hL0.ext (fun i hi=>by rw[turn_cells 1 xr i hi];unfold iv;rw[bitL_turn xr 1 i HXr.out (by omega) hi])
     have hcpd:28≤capd:=hcapd
     have hBd:=hSd1
     clear hS0 hS1 hSd0 hSd1 hem hLa hLa2 hLb hod0 hod1 hL0 hcapd ud0 ud1
     have hLcd:=hLc.below hBd (Nat.le_refl _)
     have hod:=hoc.below hBd (Nat.le_refl _)
     have hKd:=hKc.below hBd
     have hBBd:=hBBc.trans (hBd.mono hBBc.size)
     clear hLc hL2c hoc hKc hBBc hBd
     go_wp2_with (at_builtin;refine wpl_appV rfl _ _ 152 rfl wd1.heap.size 3 (.int .i64 0) 8 Tryz.underlying152 infoI rfl _ 0 (iv .i64 fun _=>0) rfl (OwnV.empty wd1 wd1.heap.size 3 _ (Nat.le_refl _)) adc 28 capc (iv .i64 (bitL 28 (rt 28 xl 1))) (fun i hi=>(hLcd.alloc _).at i hi) (fun _=>rfl) rfl (by omega) (by omega) (by simp) ?_)
     intro v5 w5 ho5 hB5 _
     have hBx:=((Below.refl wd1.heap.size wd1).alloc (Nat.le_refl _) (.cells #[] 3)).trans hB5
     clear hB5
     have hLd5:=hLd.below hBx (Nat.le_refl _)
     go_wp2_with (at_builtin;refine wpl_appV rfl _ _ 152 rfl wd1.heap.size 3 (.int .i64 0) 8 Tryz.underlying152 infoI rfl _ (0+28) _ rfl ho5 add 28 capd (iv .i64 (bitL 28 (rt 28 xr 1))) (fun i hi=>hLd5.at i hi) (fun _=>rfl) rfl (by omega) (by omega) hBx.size ?_)
     intro v6 w6 ho6 hB6 _
     have hBy:=hBx.trans hB6
     clear hBx hB6 hLd5 ho5
     obtain⟨A6,cap6,hv,hcap6,hL0⟩:=ho6.lst (by omega)
     have hv2:v6= .slice A6 56 cap6:=hv
     subst hv2
     clear hv ho6
     have hL6:Lst w6 3 A6 56 (iv .i64 (bitL 56 (rt 28 xl 1*2^28+rt 28 xr 1))):=hL0.ext (fun i hi=>by rw[join_cells _ _ i hi];unfold iv;rw[bitL_join _ _ i (rt_lt _ _ _) hi])
     clear hL0
     have hLc6:=hLcd.below hBy (Nat.le_refl _)
     have hLd6:=hLd.below hBy (Nat.le_refl _)
     have ho6:=hod.below hBy (Nat.le_refl _)
     have hK6:=hKd.below hBy
     have hB6:=hBBd.trans (hBy.mono hBBd.size)
     clear hLcd hLd hod hKd hBBd hBy
     go_wp2_with fail
     refine(permute_any _ 48 pc2 (by decide+kernel) A6 56 cap6 _ (by omega) (by omega) pc2_range _ hL6).mono ?_
     rintro e w7 ⟨A7,c7,rfl,hc7,hL7,hB7⟩
     have hL7b:Lst w7 3 A7 48 (iv .i64 (bitL 48 (rkOf B k))):=hL7.ext (fun i hi=>ivx ((bitL_pk pc2 56 _ 48 i hi (pc2_range i hi)).trans (by rw[← Hrk.out])))
     have hLc7:=hLc6.below hB7 (Nat.le_refl _)
     have hLd7:=hLd6.below hB7 (Nat.le_refl _)
     have ho7:=ho6.below hB7 (Nat.le_refl _)
     have hK7:=hK6.below hB7
     have hB8:=hB6.trans (hB7.mono hB6.size)
     clear hL7 hL6 hLc6 hLd6 ho6 hK6 hB6 hB7
     go_wp2_with (at_builtin;refine wpl_appN rfl _ _ 188 rfl w.heap.size 152 (.slice none 0 0) 24 Tryz.underlying188 infoSI rfl _ k V rfl ho7 1 (fun _=> .slice A7 48 c7) _ (row1v _ _ rfl) (fun _=>rfl) rfl (by omega) (by omega) hB8.size ?_)
     intro v8 w8 ho8 hB9 hG8
     obtain⟨cs8,hcs8⟩:=(ho7.alloc (.cells #[.slice A7 48 c7] 152)).block
     have tr: ∀A n c,Lst w7 3 A n c→Lst w8 3 A n c:=fun A n c h=>(h.alloc (.cells #[.slice A7 48 c7] 152)).grown hG8 hcs8 (by decide)
     have hLc8:=tr _ _ _ hLc7
     have hLd8:=tr _ _ _ hLd7
     have hL8:=tr _ _ _ hL7b
     have hB10:=hB8.trans hB9
     have hK8:Kys w8 B (k+1) (catV k V (fun _=> .slice A7 48 c7)):=fun r hr=>by
      by_cases h:r<k
      ·obtain⟨A,c,h1,h2,h3⟩:=hK7 r h
       exact⟨A,c,by unfold catV;rw[if_pos h];exact h1,h2,tr _ _ _ h3⟩
      obtain rfl:r=k:=by omega
      exact⟨A7,c7,by unfold catV;rw[if_neg h],hc7,hL8⟩
     clear hLc7 hLd7 ho7 hK7 hB8 hB9 hG8 hcs8 tr hL8 hL7b
     go_wp2_with fail
     exact⟨⟨k+1,adc,capc,add,capd,_,by omega,hcpc,hcpd,rfl,rfl,val_int (by omega),by rw[← Hl.out] at hLc8;exact hLc8,by rw[← Hr.out] at hLd8;exact hLd8,ho8,hK8,hB10⟩,by simp[intOf];omega⟩
    have e1:((k:Int)+1 == 1)=false:=by simp;omega
    have e2:((k:Int)+1 == 2)=false:=by simp;omega
    have e3:((k:Int)+1 == 9)=false:=by simp;omega
    have e4:((k:Int)+1 == 16)=true:=by simp;omega
    clear hk0
    go_wp2_with fail
    have uc0:(1:Int)≤(c1:Int):=by omega
    have uc1: ¬c1=1:=by omega
    refine wp_region_held_drew (S:=fun W=>Below wr.heap.size wr W) (by kernel_rfl) (Below.refl _ _).drew (fun hS0=>?_)
    refine ztk (i:=1) (v:= .slice (some a1) 28 c1) rfl (fun _ _=>exec_move _ rfl _ rfl) hS0 ?_
    (try simp only[Act.put,zza,zzb,zzc,zzd,zze,zzf])
    refine ztk (i:=2) (v:= .int .i64 1) rfl (fun _ _=>exec_move _ rfl _ rfl) hS0 ?_
    (try simp only[Act.put,zza,zzb,zzc,zzd,zze,zzf])
    refine ztk (i:=3) (v:= .slice (some ⟨a1.block,a1.off+1,none⟩) 27 (c1-1)) rfl (fun W _=>by go_simp) hS0 ?_
    (try simp only[Act.put,zza,zzb,zzc,zzd,zze,zzf])
    refine ztk (i:=5) (v:= .slice (some a1) 28 c1) rfl (fun _ _=>exec_move _ rfl _ rfl) hS0 ?_
    (try simp only[Act.put,zza,zzb,zzc,zzd,zze,zzf])
    refine ztk (i:=6) (v:= .int .i64 1) rfl (fun _ _=>exec_move _ rfl _ rfl) hS0 ?_
    (try simp only[Act.put,zza,zzb,zzc,zzd,zze,zzf])
    refine ztk (i:=7) (v:= .slice (some a1) 1 c1) rfl (fun W _=>by go_simp) hS0 ?_
    (try simp only[Act.put,zza,zzb,zzc,zzd,zze,zzf])
    refine wpAnyH_ready (rs:=[0]) (by kernel_rfl) (by simp) (AllReadyH.cons rfl (fun K hK=>?_) AllReadyH.nil)
    (try simp only[Act.put,zza,zzb,zzc,zzd,zze,zzf])
    refine Eq.mpr (if_pos (by rfl)) ?_
    refine wp_bs0 152 3 rfl (bs0 _) ?_
    (try simp only[Act.put,zza,zzb,zzc,zzd,zze,zzf])
    refine hK.out _ _ (hS0.alloc hS0.size _) (fun hS1=>?_)
    (try simp only[Act.put,zza,zzb,zzc,zzd,zze,zzf])
    clear hK K
    have hem:OwnV (wr.drew.alloc (.cells #[] 3)) wr.heap.size 3 (.slice (some ⟨wr.heap.size,0,none⟩) 0 0) 0 (iv .i64 fun _=>0):=OwnV.empty wr.drew wr.heap.size 3 (iv .i64 fun _=>0) (Nat.le_refl _)
    generalize hwa:wr.drew.alloc (.cells #[] 3)=wac at hem hS1 ⊢
    clear hwa
    have hLa:=hL1.below hS1 (Nat.le_refl _)
    have hLa2:=hLa.cut 1 (by omega)
    refine wpAnyH_ready (rs:=[4]) (by kernel_rfl) (by simp) (AllReadyH.cons rfl (fun K hK=>?_) AllReadyH.nil)
    (try simp only[Act.put,zza,zzb,zzc,zzd,zze,zzf])
    refine Eq.mpr (if_pos (by rfl)) ?_
    refine wp_appV _ _ 152 rfl wr.heap.size 3 (.int .i64 0) 8 Tryz.underlying152 infoI rfl (.slice (some ⟨wr.heap.size,0,none⟩) 0 0) 0 (iv .i64 fun _=>0) rfl hem ⟨a1.block,a1.off+1,none⟩ 27 _ (iv .i64 fun i=>bitL 28 xl (1+i)) hLa2.at (fun _=>rfl) rfl (by omega) (by omega) hS1.size ?_
    intro vc0 wc0 hoc0 hBq _
    (try simp only[Act.put,zza,zzb,zzc,zzd,zze,zzf])
    refine hK.out _ _ (hS1.trans hBq) (fun hSc0=>?_)
    (try simp only[Act.put,zza,zzb,zzc,zzd,zze,zzf])
    clear hK K hBq
    have hLb:=hL1.below hSc0 (Nat.le_refl _)
    refine wpAnyH_ready (rs:=[8]) (by kernel_rfl) (by simp) (AllReadyH.cons rfl (fun K hK=>?_) AllReadyH.nil)
    (try simp only[Act.put,zza,zzb,zzc,zzd,zze,zzf])
    refine Eq.mpr (if_pos (by rfl)) ?_
    refine wp_appV _ _ 152 rfl wr.heap.size 3 (.int .i64 0) 8 Tryz.underlying152 infoI rfl vc0 27 (catV 0 (iv .i64 fun _=>0) (iv .i64 fun i=>bitL 28 xl (1+i))) rfl hoc0 a1 1 _ (iv .i64 (bitL 28 xl)) (fun i hi=>(hLb.less (by omega)).at i hi) (fun _=>rfl) rfl (by omega) (by omega) hSc0.size ?_
    intro vc1 wc1 hoc1 hBq _
    (try simp only[Act.put,zza,zzb,zzc,zzd,zze,zzf])
    refine hK.out _ _ (hSc0.trans hBq) (fun hSc1=>?_)
    (try simp only[Act.put,zza,zzb,zzc,zzd,zze,zzf])
    clear hK K hBq
    refine ztk (i:=9) (v:=vc1) rfl (fun _ _=>exec_assign _ rfl _ rfl) hSc1 ?_
    (try simp only[Act.put,zza,zzb,zzc,zzd,zze,zzf])
    refine wpAnyH_done (by kernel_rfl) ?_ _
    obtain⟨Ac,capc,hv,hcapc,hL0⟩:=hoc1.lst (by omega)
    have hv2:vc1= .slice Ac 28 capc:=hv
    subst hv2
    clear hv
    obtain⟨adc,hA,hadc⟩:=hL0.some
    subst hA
    have hLc:Lst wc1 3 (some adc) 28 (iv .i64 (bitL 28 (rt 28 xl 1))):=hL0.ext (fun i hi=>by rw[turn_cells 1 xl i hi];unfold iv;rw[bitL_turn xl 1 i HXl.out (by omega) hi])
    have hcpc:28≤capc:=hcapc
    have hBc:=hSc1
    clear hS0 hS1 hSc0 hSc1 hem hLa hLa2 hLb hoc0 hoc1 hL0 hcapc uc0 uc1
    have hL2c:=hL2.below hBc (Nat.le_refl _)
    have hoc:=ho.below hBc (Nat.le_refl _)
    have hKc:=hK.below hBc
    have hBBc:=hB.trans (hBc.mono hB.size)
    clear hL1 hL2 ho hK hB hBc
    go_wp2_with fail
    have ud0:(1:Int)≤(c2:Int):=by omega
    have ud1: ¬c2=1:=by omega
    refine wp_region_held_drew (S:=fun W=>Below wc1.heap.size wc1 W) (by kernel_rfl) (Below.refl _ _).drew (fun hS0=>?_)
    refine ztk (i:=1) (v:= .slice (some a2) 28 c2) rfl (fun _ _=>exec_move _ rfl _ rfl) hS0 ?_
    (try simp only[Act.put,zza,zzb,zzc,zzd,zze,zzf])
    refine ztk (i:=2) (v:= .int .i64 1) rfl (fun _ _=>exec_move _ rfl _ rfl) hS0 ?_
    (try simp only[Act.put,zza,zzb,zzc,zzd,zze,zzf])
    refine ztk (i:=3) (v:= .slice (some ⟨a2.block,a2.off+1,none⟩) 27 (c2-1)) rfl (fun W _=>by go_simp) hS0 ?_
    (try simp only[Act.put,zza,zzb,zzc,zzd,zze,zzf])
    refine ztk (i:=5) (v:= .slice (some a2) 28 c2) rfl (fun _ _=>exec_move _ rfl _ rfl) hS0 ?_
    (try simp only[Act.put,zza,zzb,zzc,zzd,zze,zzf])
    refine ztk (i:=6) (v:= .int .i64 1) rfl (fun _ _=>exec_move _ rfl _ rfl) hS0 ?_
    (try simp only[Act.put,zza,zzb,zzc,zzd,zze,zzf])
    refine ztk (i:=7) (v:= .slice (some a2) 1 c2) rfl (fun W _=>by go_simp) hS0 ?_
    (try simp only[Act.put,zza,zzb,zzc,zzd,zze,zzf])
    refine wpAnyH_ready (rs:=[0]) (by kernel_rfl) (by simp) (AllReadyH.cons rfl (fun K hK=>?_) AllReadyH.nil)
    (try simp only[Act.put,zza,zzb,zzc,zzd,zze,zzf])
    refine Eq.mpr (if_pos (by rfl)) ?_
    refine wp_bs0 152 3 rfl (bs0 _) ?_
    (try simp only[Act.put,zza,zzb,zzc,zzd,zze,zzf])
    refine hK.out _ _ (hS0.alloc hS0.size _) (fun hS1=>?_)
    (try simp only[Act.put,zza,zzb,zzc,zzd,zze,zzf])
    clear hK K
    have hem:OwnV (wc1.drew.alloc (.cells #[] 3)) wc1.heap.size 3 (.slice (some ⟨wc1.heap.size,0,none⟩) 0 0) 0 (iv .i64 fun _=>0):=OwnV.empty wc1.drew wc1.heap.size 3 (iv .i64 fun _=>0) (Nat.le_refl _)
    generalize hwa:wc1.drew.alloc (.cells #[] 3)=wad at hem hS1 ⊢
    clear hwa
    have hLa:=hL2c.below hS1 (Nat.le_refl _)
    have hLa2:=hLa.cut 1 (by omega)
    refine wpAnyH_ready (rs:=[4]) (by kernel_rfl) (by simp) (AllReadyH.cons rfl (fun K hK=>?_) AllReadyH.nil)
    (try simp only[Act.put,zza,zzb,zzc,zzd,zze,zzf])
    refine Eq.mpr (if_pos (by rfl)) ?_
    refine wp_appV _ _ 152 rfl wc1.heap.size 3 (.int .i64 0) 8 Tryz.underlying152 infoI rfl (.slice (some ⟨wc1.heap.size,0,none⟩) 0 0) 0 (iv .i64 fun _=>0) rfl hem ⟨a2.block,a2.off+1,none⟩ 27 _ (iv .i64 fun i=>bitL 28 xr (1+i)) hLa2.at (fun _=>rfl) rfl (by omega) (by omega) hS1.size ?_
    intro vd0 wd0 hod0 hBq _
    (try simp only[Act.put,zza,zzb,zzc,zzd,zze,zzf])
    refine hK.out _ _ (hS1.trans hBq) (fun hSd0=>?_)
    (try simp only[Act.put,zza,zzb,zzc,zzd,zze,zzf])
    clear hK K hBq
    have hLb:=hL2c.below hSd0 (Nat.le_refl _)
    refine wpAnyH_ready (rs:=[8]) (by kernel_rfl) (by simp) (AllReadyH.cons rfl (fun K hK=>?_) AllReadyH.nil)
    (try simp only[Act.put,zza,zzb,zzc,zzd,zze,zzf])
    refine Eq.mpr (if_pos (by rfl)) ?_
    refine wp_appV _ _ 152 rfl wc1.heap.size 3 (.int .i64 0) 8 Tryz.underlying152 infoI rfl vd0 27 (catV 0 (iv .i64 fun _=>0) (iv .i64 fun i=>bitL 28 xr (1+i))) rfl hod0 a2 1 _ (iv .i64 (bitL 28 xr)) (fun i hi=>(hLb.less (by omega)).at i hi) (fun _=>rfl) rfl (by omega) (by omega) hSd0.size ?_
    intro vd1 wd1 hod1 hBq _
    (try simp only[Act.put,zza,zzb,zzc,zzd,zze,zzf])
    refine hK.out _ _ (hSd0.trans hBq) (fun hSd1=>?_)
    (try simp only[Act.put,zza,zzb,zzc,zzd,zze,zzf])
    clear hK K hBq
    refine ztk (i:=9) (v:=vd1) rfl (fun _ _=>exec_assign _ rfl _ rfl) hSd1 ?_
    (try simp only[Act.put,zza,zzb,zzc,zzd,zze,zzf])
    refine wpAnyH_done (by kernel_rfl) ?_ _
    obtain⟨Ad,capd,hv,hcapd,hL0⟩:=hod1.lst (by omega)
    have hv2:vd1= .slice Ad 28 capd:=hv
    subst hv2
    clear hv
    obtain⟨add,hA,hadd⟩:=hL0.some
    subst hA
    have hLd:Lst wd1 3 (some add) 28 (iv .i64 (bitL 28 (rt 28 xr 1))):=hL0.ext (fun i hi=>by rw[turn_cells 1 xr i hi];unfold iv;rw[bitL_turn xr 1 i HXr.out (by omega) hi])
    have hcpd:28≤capd:=hcapd
    have hBd:=hSd1
    clear hS0 hS1 hSd0 hSd1 hem hLa hLa2 hLb hod0 hod1 hL0 hcapd ud0 ud1
    have hLcd:=hLc.below hBd (Nat.le_refl _)
    have hod:=hoc.below hBd (Nat.le_refl _)
    have hKd:=hKc.below hBd
    have hBBd:=hBBc.trans (hBd.mono hBBc.size)
    clear hLc hL2c hoc hKc hBBc hBd
    go_wp2_with (at_builtin;refine wpl_appV rfl _ _ 152 rfl wd1.heap.size 3 (.int .i64 0) 8 Tryz.underlying152 infoI rfl _ 0 (iv .i64 fun _=>0) rfl (OwnV.empty wd1 wd1.heap.size 3 _ (Nat.le_refl _)) adc 28 capc (iv .i64 (bitL 28 (rt 28 xl 1))) (fun i hi=>(hLcd.alloc _).at i hi) (fun _=>rfl) rfl (by omega) (by omega) (by simp) ?_)
    intro v5 w5 ho5 hB5 _
    have hBx:=((Below.refl wd1.heap.size wd1).alloc (Nat.le_refl _) (.cells #[] 3)).trans hB5
    clear hB5
    have hLd5:=hLd.below hBx (Nat.le_refl _)
    go_wp2_with (at_builtin;refine wpl_appV rfl _ _ 152 rfl wd1.heap.size 3 (.int .i64 0) 8 Tryz.underlying152 infoI rfl _ (0+28) _ rfl ho5 add 28 capd (iv .i64 (bitL 28 (rt 28 xr 1))) (fun i hi=>hLd5.at i hi) (fun _=>rfl) rfl (by omega) (by omega) hBx.size ?_)
    intro v6 w6 ho6 hB6 _
    have hBy:=hBx.trans hB6
    clear hBx hB6 hLd5 ho5
    obtain⟨A6,cap6,hv,hcap6,hL0⟩:=ho6.lst (by omega)
    have hv2:v6= .slice A6 56 cap6:=hv
    subst hv2
    clear hv ho6
    have hL6:Lst w6 3 A6 56 (iv .i64 (bitL 56 (rt 28 xl 1*2^28+rt 28 xr 1))):=hL0.ext (fun i hi=>by rw[join_cells _ _ i hi];unfold iv;rw[bitL_join _ _ i (rt_lt _ _ _) hi])
    clear hL0
    have hLc6:=hLcd.below hBy (Nat.le_refl _)
    have hLd6:=hLd.below hBy (Nat.le_refl _)
    have ho6:=hod.below hBy (Nat.le_refl _)
    have hK6:=hKd.below hBy
    have hB6:=hBBd.trans (hBy.mono hBBd.size)
    clear hLcd hLd hod hKd hBBd hBy
    go_wp2_with fail
    refine(permute_any _ 48 pc2 (by decide+kernel) A6 56 cap6 _ (by omega) (by omega) pc2_range _ hL6).mono ?_
    rintro e w7 ⟨A7,c7,rfl,hc7,hL7,hB7⟩
    have hL7b:Lst w7 3 A7 48 (iv .i64 (bitL 48 (rkOf B k))):=hL7.ext (fun i hi=>ivx ((bitL_pk pc2 56 _ 48 i hi (pc2_range i hi)).trans (by rw[← Hrk.out])))
    have hLc7:=hLc6.below hB7 (Nat.le_refl _)
    have hLd7:=hLd6.below hB7 (Nat.le_refl _)
    have ho7:=ho6.below hB7 (Nat.le_refl _)
    have hK7:=hK6.below hB7
    have hB8:=hB6.trans (hB7.mono hB6.size)
    clear hL7 hL6 hLc6 hLd6 ho6 hK6 hB6 hB7
    go_wp2_with (at_builtin;refine wpl_appN rfl _ _ 188 rfl w.heap.size 152 (.slice none 0 0) 24 Tryz.underlying188 infoSI rfl _ k V rfl ho7 1 (fun _=> .slice A7 48 c7) _ (row1v _ _ rfl) (fun _=>rfl) rfl (by omega) (by omega) hB8.size ?_)
    intro v8 w8 ho8 hB9 hG8
    obtain⟨cs8,hcs8⟩:=(ho7.alloc (.cells #[.slice A7 48 c7] 152)).block
    have tr: ∀A n c,Lst w7 3 A n c→Lst w8 3 A n c:=fun A n c h=>(h.alloc (.cells #[.slice A7 48 c7] 152)).grown hG8 hcs8 (by decide)
    have hLc8:=tr _ _ _ hLc7
    have hLd8:=tr _ _ _ hLd7
    have hL8:=tr _ _ _ hL7b
    have hB10:=hB8.trans hB9
    have hK8:Kys w8 B (k+1) (catV k V (fun _=> .slice A7 48 c7)):=fun r hr=>by
     by_cases h:r<k
     ·obtain⟨A,c,h1,h2,h3⟩:=hK7 r h
      exact⟨A,c,by unfold catV;rw[if_pos h];exact h1,h2,tr _ _ _ h3⟩
     obtain rfl:r=k:=by omega
     exact⟨A7,c7,by unfold catV;rw[if_neg h],hc7,hL8⟩
    clear hLc7 hLd7 ho7 hK7 hB8 hB9 hG8 hcs8 tr hL8 hL7b
    go_wp2_with fail
    exact⟨⟨k+1,adc,capc,add,capd,_,by omega,hcpc,hcpd,rfl,rfl,val_int (by omega),by rw[← Hl.out] at hLc8;exact hLc8,by rw[← Hr.out] at hLd8;exact hLd8,ho8,hK8,hB10⟩,by simp[intOf];omega⟩
   have htn:=tn_two k hk0
   have Hl:=hid (htn▸Hl0.out)
   have Hr:=hid (htn▸Hr0.out)
   have Hrk:=hid (htn▸Hrk0.out)
   clear Hl0 Hr0 Hrk0 htn
   generalize hl (B/268435456) k=xl at*
   generalize hl (B%268435456) k=xr at*
   have e1:((k:Int)+1 == 1)=false:=by simp;omega
   have e2:((k:Int)+1 == 2)=false:=by simp;omega
   have e3:((k:Int)+1 == 9)=false:=by simp;omega
   have e4:((k:Int)+1 == 16)=false:=by simp;omega
   go_wp2_with fail
   have uc0:(2:Int)≤(c1:Int):=by omega
   have uc1: ¬c1=2:=by omega
   refine wp_region_held_drew (S:=fun W=>Below wr.heap.size wr W) (by kernel_rfl) (Below.refl _ _).drew (fun hS0=>?_)
   refine ztk (i:=1) (v:= .slice (some a1) 28 c1) rfl (fun _ _=>exec_move _ rfl _ rfl) hS0 ?_
   (try simp only[Act.put,zza,zzb,zzc,zzd,zze,zzf])
   refine ztk (i:=2) (v:= .int .i64 2) rfl (fun _ _=>exec_move _ rfl _ rfl) hS0 ?_
   (try simp only[Act.put,zza,zzb,zzc,zzd,zze,zzf])
   refine ztk (i:=3) (v:= .slice (some ⟨a1.block,a1.off+2,none⟩) 26 (c1-2)) rfl (fun W _=>by go_simp) hS0 ?_
   (try simp only[Act.put,zza,zzb,zzc,zzd,zze,zzf])
   refine ztk (i:=5) (v:= .slice (some a1) 28 c1) rfl (fun _ _=>exec_move _ rfl _ rfl) hS0 ?_
   (try simp only[Act.put,zza,zzb,zzc,zzd,zze,zzf])
   refine ztk (i:=6) (v:= .int .i64 2) rfl (fun _ _=>exec_move _ rfl _ rfl) hS0 ?_
   (try simp only[Act.put,zza,zzb,zzc,zzd,zze,zzf])
   refine ztk (i:=7) (v:= .slice (some a1) 2 c1) rfl (fun W _=>by go_simp) hS0 ?_
   (try simp only[Act.put,zza,zzb,zzc,zzd,zze,zzf])
   refine wpAnyH_ready (rs:=[0]) (by kernel_rfl) (by simp) (AllReadyH.cons rfl (fun K hK=>?_) AllReadyH.nil)
   (try simp only[Act.put,zza,zzb,zzc,zzd,zze,zzf])
   refine Eq.mpr (if_pos (by rfl)) ?_
   refine wp_bs0 152 3 rfl (bs0 _) ?_
   (try simp only[Act.put,zza,zzb,zzc,zzd,zze,zzf])
   refine hK.out _ _ (hS0.alloc hS0.size _) (fun hS1=>?_)
   (try simp only[Act.put,zza,zzb,zzc,zzd,zze,zzf])
   clear hK K
   have hem:OwnV (wr.drew.alloc (.cells #[] 3)) wr.heap.size 3 (.slice (some ⟨wr.heap.size,0,none⟩) 0 0) 0 (iv .i64 fun _=>0):=OwnV.empty wr.drew wr.heap.size 3 (iv .i64 fun _=>0) (Nat.le_refl _)
   generalize hwa:wr.drew.alloc (.cells #[] 3)=wac at hem hS1 ⊢
   clear hwa
   have hLa:=hL1.below hS1 (Nat.le_refl _)
   have hLa2:=hLa.cut 2 (by omega)
   refine wpAnyH_ready (rs:=[4]) (by kernel_rfl) (by simp) (AllReadyH.cons rfl (fun K hK=>?_) AllReadyH.nil)
   (try simp only[Act.put,zza,zzb,zzc,zzd,zze,zzf])
   refine Eq.mpr (if_pos (by rfl)) ?_
   refine wp_appV _ _ 152 rfl wr.heap.size 3 (.int .i64 0) 8 Tryz.underlying152 infoI rfl (.slice (some ⟨wr.heap.size,0,none⟩) 0 0) 0 (iv .i64 fun _=>0) rfl hem ⟨a1.block,a1.off+2,none⟩ 26 _ (iv .i64 fun i=>bitL 28 xl (2+i)) hLa2.at (fun _=>rfl) rfl (by omega) (by omega) hS1.size ?_
   intro vc0 wc0 hoc0 hBq _
   (try simp only[Act.put,zza,zzb,zzc,zzd,zze,zzf])
   refine hK.out _ _ (hS1.trans hBq) (fun hSc0=>?_)
   (try simp only[Act.put,zza,zzb,zzc,zzd,zze,zzf])
   clear hK K hBq
   have hLb:=hL1.below hSc0 (Nat.le_refl _)
   refine wpAnyH_ready (rs:=[8]) (by kernel_rfl) (by simp) (AllReadyH.cons rfl (fun K hK=>?_) AllReadyH.nil)
   (try simp only[Act.put,zza,zzb,zzc,zzd,zze,zzf])
   refine Eq.mpr (if_pos (by rfl)) ?_
   refine wp_appV _ _ 152 rfl wr.heap.size 3 (.int .i64 0) 8 Tryz.underlying152 infoI rfl vc0 26 (catV 0 (iv .i64 fun _=>0) (iv .i64 fun i=>bitL 28 xl (2+i))) rfl hoc0 a1 2 _ (iv .i64 (bitL 28 xl)) (fun i hi=>(hLb.less (by omega)).at i hi) (fun _=>rfl) rfl (by omega) (by omega) hSc0.size ?_
   intro vc1 wc1 hoc1 hBq _
   (try simp only[Act.put,zza,zzb,zzc,zzd,zze,zzf])
   refine hK.out _ _ (hSc0.trans hBq) (fun hSc1=>?_)
   (try simp only[Act.put,zza,zzb,zzc,zzd,zze,zzf])
   clear hK K hBq
   refine ztk (i:=9) (v:=vc1) rfl (fun _ _=>exec_assign _ rfl _ rfl) hSc1 ?_
   (try simp only[Act.put,zza,zzb,zzc,zzd,zze,zzf])
   refine wpAnyH_done (by kernel_rfl) ?_ _
   obtain⟨Ac,capc,hv,hcapc,hL0⟩:=hoc1.lst (by omega)
   have hv2:vc1= .slice Ac 28 capc:=hv
   subst hv2
   clear hv
   obtain⟨adc,hA,hadc⟩:=hL0.some
   subst hA
   have hLc:Lst wc1 3 (some adc) 28 (iv .i64 (bitL 28 (rt 28 xl 2))):=hL0.ext (fun i hi=>by rw[turn_cells 2 xl i hi];unfold iv;rw[bitL_turn xl 2 i HXl.out (by omega) hi])
   have hcpc:28≤capc:=hcapc
   have hBc:=hSc1
   clear hS0 hS1 hSc0 hSc1 hem hLa hLa2 hLb hoc0 hoc1 hL0 hcapc uc0 uc1
   have hL2c:=hL2.below hBc (Nat.le_refl _)
   have hoc:=ho.below hBc (Nat.le_refl _)
   have hKc:=hK.below hBc
   have hBBc:=hB.trans (hBc.mono hB.size)
   clear hL1 hL2 ho hK hB hBc
   go_wp2_with fail
   have ud0:(2:Int)≤(c2:Int):=by omega
   have ud1: ¬c2=2:=by omega
   refine wp_region_held_drew (S:=fun W=>Below wc1.heap.size wc1 W) (by kernel_rfl) (Below.refl _ _).drew (fun hS0=>?_)
   refine ztk (i:=1) (v:= .slice (some a2) 28 c2) rfl (fun _ _=>exec_move _ rfl _ rfl) hS0 ?_
   (try simp only[Act.put,zza,zzb,zzc,zzd,zze,zzf])
   refine ztk (i:=2) (v:= .int .i64 2) rfl (fun _ _=>exec_move _ rfl _ rfl) hS0 ?_
   (try simp only[Act.put,zza,zzb,zzc,zzd,zze,zzf])
   refine ztk (i:=3) (v:= .slice (some ⟨a2.block,a2.off+2,none⟩) 26 (c2-2)) rfl (fun W _=>by go_simp) hS0 ?_
   (try simp only[Act.put,zza,zzb,zzc,zzd,zze,zzf])
   refine ztk (i:=5) (v:= .slice (some a2) 28 c2) rfl (fun _ _=>exec_move _ rfl _ rfl) hS0 ?_
   (try simp only[Act.put,zza,zzb,zzc,zzd,zze,zzf])
   refine ztk (i:=6) (v:= .int .i64 2) rfl (fun _ _=>exec_move _ rfl _ rfl) hS0 ?_
   (try simp only[Act.put,zza,zzb,zzc,zzd,zze,zzf])
   refine ztk (i:=7) (v:= .slice (some a2) 2 c2) rfl (fun W _=>by go_simp) hS0 ?_
   (try simp only[Act.put,zza,zzb,zzc,zzd,zze,zzf])
   refine wpAnyH_ready (rs:=[0]) (by kernel_rfl) (by simp) (AllReadyH.cons rfl (fun K hK=>?_) AllReadyH.nil)
   (try simp only[Act.put,zza,zzb,zzc,zzd,zze,zzf])
   refine Eq.mpr (if_pos (by rfl)) ?_
   refine wp_bs0 152 3 rfl (bs0 _) ?_
   (try simp only[Act.put,zza,zzb,zzc,zzd,zze,zzf])
   refine hK.out _ _ (hS0.alloc hS0.size _) (fun hS1=>?_)
   (try simp only[Act.put,zza,zzb,zzc,zzd,zze,zzf])
   clear hK K
   have hem:OwnV (wc1.drew.alloc (.cells #[] 3)) wc1.heap.size 3 (.slice (some ⟨wc1.heap.size,0,none⟩) 0 0) 0 (iv .i64 fun _=>0):=OwnV.empty wc1.drew wc1.heap.size 3 (iv .i64 fun _=>0) (Nat.le_refl _)
   generalize hwa:wc1.drew.alloc (.cells #[] 3)=wad at hem hS1 ⊢
   clear hwa
   have hLa:=hL2c.below hS1 (Nat.le_refl _)
   have hLa2:=hLa.cut 2 (by omega)
   refine wpAnyH_ready (rs:=[4]) (by kernel_rfl) (by simp) (AllReadyH.cons rfl (fun K hK=>?_) AllReadyH.nil)
   (try simp only[Act.put,zza,zzb,zzc,zzd,zze,zzf])
   refine Eq.mpr (if_pos (by rfl)) ?_
   refine wp_appV _ _ 152 rfl wc1.heap.size 3 (.int .i64 0) 8 Tryz.underlying152 infoI rfl (.slice (some ⟨wc1.heap.size,0,none⟩) 0 0) 0 (iv .i64 fun _=>0) rfl hem ⟨a2.block,a2.off+2,none⟩ 26 _ (iv .i64 fun i=>bitL 28 xr (2+i)) hLa2.at (fun _=>rfl) rfl (by omega) (by omega) hS1.size ?_
   intro vd0 wd0 hod0 hBq _
   (try simp only[Act.put,zza,zzb,zzc,zzd,zze,zzf])
   refine hK.out _ _ (hS1.trans hBq) (fun hSd0=>?_)
   (try simp only[Act.put,zza,zzb,zzc,zzd,zze,zzf])
   clear hK K hBq
   have hLb:=hL2c.below hSd0 (Nat.le_refl _)
   refine wpAnyH_ready (rs:=[8]) (by kernel_rfl) (by simp) (AllReadyH.cons rfl (fun K hK=>?_) AllReadyH.nil)
   (try simp only[Act.put,zza,zzb,zzc,zzd,zze,zzf])
   refine Eq.mpr (if_pos (by rfl)) ?_
   refine wp_appV _ _ 152 rfl wc1.heap.size 3 (.int .i64 0) 8 Tryz.underlying152 infoI rfl vd0 26 (catV 0 (iv .i64 fun _=>0) (iv .i64 fun i=>bitL 28 xr (2+i))) rfl hod0 a2 2 _ (iv .i64 (bitL 28 xr)) (fun i hi=>(hLb.less (by omega)).at i hi) (fun _=>rfl) rfl (by omega) (by omega) hSd0.size ?_
   intro vd1 wd1 hod1 hBq _
   (try simp only[Act.put,zza,zzb,zzc,zzd,zze,zzf])
   refine hK.out _ _ (hSd0.trans hBq) (fun hSd1=>?_)
   (try simp only[Act.put,zza,zzb,zzc,zzd,zze,zzf])
   clear hK K hBq
   refine ztk (i:=9) (v:=vd1) rfl (fun _ _=>exec_assign _ rfl _ rfl) hSd1 ?_
   (try simp only[Act.put,zza,zzb,zzc,zzd,zze,zzf])
   refine wpAnyH_done (by kernel_rfl) ?_ _
   obtain⟨Ad,capd,hv,hcapd,hL0⟩:=hod1.lst (by omega)
   have hv2:vd1= .slice Ad 28 capd:=hv
   subst hv2
   clear hv
   obtain⟨add,hA,hadd⟩:=hL0.some
   subst hA
   have hLd:Lst wd1 3 (some add) 28 (iv .i64 (bitL 28 (rt 28 xr 2))):=hL0.ext (fun i hi=>by rw[turn_cells 2 xr i hi];unfold iv;rw[bitL_turn xr 2 i HXr.out (by omega) hi])
   have hcpd:28≤capd:=hcapd
   have hBd:=hSd1
   clear hS0 hS1 hSd0 hSd1 hem hLa hLa2 hLb hod0 hod1 hL0 hcapd ud0 ud1
   have hLcd:=hLc.below hBd (Nat.le_refl _)
   have hod:=hoc.below hBd (Nat.le_refl _)
   have hKd:=hKc.below hBd
   have hBBd:=hBBc.trans (hBd.mono hBBc.size)
   clear hLc hL2c hoc hKc hBBc hBd
   go_wp2_with (at_builtin;refine wpl_appV rfl _ _ 152 rfl wd1.heap.size 3 (.int .i64 0) 8 Tryz.underlying152 infoI rfl _ 0 (iv .i64 fun _=>0) rfl (OwnV.empty wd1 wd1.heap.size 3 _ (Nat.le_refl _)) adc 28 capc (iv .i64 (bitL 28 (rt 28 xl 2))) (fun i hi=>(hLcd.alloc _).at i hi) (fun _=>rfl) rfl (by omega) (by omega) (by simp) ?_)
   intro v5 w5 ho5 hB5 _
   have hBx:=((Below.refl wd1.heap.size wd1).alloc (Nat.le_refl _) (.cells #[] 3)).trans hB5
   clear hB5
   have hLd5:=hLd.below hBx (Nat.le_refl _)
   go_wp2_with (at_builtin;refine wpl_appV rfl _ _ 152 rfl wd1.heap.size 3 (.int .i64 0) 8 Tryz.underlying152 infoI rfl _ (0+28) _ rfl ho5 add 28 capd (iv .i64 (bitL 28 (rt 28 xr 2))) (fun i hi=>hLd5.at i hi) (fun _=>rfl) rfl (by omega) (by omega) hBx.size ?_)
   intro v6 w6 ho6 hB6 _
   have hBy:=hBx.trans hB6
   clear hBx hB6 hLd5 ho5
   obtain⟨A6,cap6,hv,hcap6,hL0⟩:=ho6.lst (by omega)
   have hv2:v6= .slice A6 56 cap6:=hv
   subst hv2
   clear hv ho6
   have hL6:Lst w6 3 A6 56 (iv .i64 (bitL 56 (rt 28 xl 2*2^28+rt 28 xr 2))):=hL0.ext (fun i hi=>by rw[join_cells _ _ i hi];unfold iv;rw[bitL_join _ _ i (rt_lt _ _ _) hi])
   clear hL0
   have hLc6:=hLcd.below hBy (Nat.le_refl _)
   have hLd6:=hLd.below hBy (Nat.le_refl _)
   have ho6:=hod.below hBy (Nat.le_refl _)
   have hK6:=hKd.below hBy
   have hB6:=hBBd.trans (hBy.mono hBBd.size)
   clear hLcd hLd hod hKd hBBd hBy
   go_wp2_with fail
   refine(permute_any _ 48 pc2 (by decide+kernel) A6 56 cap6 _ (by omega) (by omega) pc2_range _ hL6).mono ?_
   rintro e w7 ⟨A7,c7,rfl,hc7,hL7,hB7⟩
   have hL7b:Lst w7 3 A7 48 (iv .i64 (bitL 48 (rkOf B k))):=hL7.ext (fun i hi=>ivx ((bitL_pk pc2 56 _ 48 i hi (pc2_range i hi)).trans (by rw[← Hrk.out])))
   have hLc7:=hLc6.below hB7 (Nat.le_refl _)
   have hLd7:=hLd6.below hB7 (Nat.le_refl _)
   have ho7:=ho6.below hB7 (Nat.le_refl _)
   have hK7:=hK6.below hB7
   have hB8:=hB6.trans (hB7.mono hB6.size)
   clear hL7 hL6 hLc6 hLd6 ho6 hK6 hB6 hB7
   go_wp2_with (at_builtin;refine wpl_appN rfl _ _ 188 rfl w.heap.size 152 (.slice none 0 0) 24 Tryz.underlying188 infoSI rfl _ k V rfl ho7 1 (fun _=> .slice A7 48 c7) _ (row1v _ _ rfl) (fun _=>rfl) rfl (by omega) (by omega) hB8.size ?_)
   intro v8 w8 ho8 hB9 hG8
   obtain⟨cs8,hcs8⟩:=(ho7.alloc (.cells #[.slice A7 48 c7] 152)).block
   have tr: ∀A n c,Lst w7 3 A n c→Lst w8 3 A n c:=fun A n c h=>(h.alloc (.cells #[.slice A7 48 c7] 152)).grown hG8 hcs8 (by decide)
   have hLc8:=tr _ _ _ hLc7
   have hLd8:=tr _ _ _ hLd7
   have hL8:=tr _ _ _ hL7b
   have hB10:=hB8.trans hB9
   have hK8:Kys w8 B (k+1) (catV k V (fun _=> .slice A7 48 c7)):=fun r hr=>by
    by_cases h:r<k
    ·obtain⟨A,c,h1,h2,h3⟩:=hK7 r h
     exact⟨A,c,by unfold catV;rw[if_pos h];exact h1,h2,tr _ _ _ h3⟩
    obtain rfl:r=k:=by omega
    exact⟨A7,c7,by unfold catV;rw[if_neg h],hc7,hL8⟩
   clear hLc7 hLd7 ho7 hK7 hB8 hB9 hG8 hcs8 tr hL8 hL7b
   go_wp2_with fail
   exact⟨⟨k+1,adc,capc,add,capd,_,by omega,hcpc,hcpd,rfl,rfl,val_int (by omega),by rw[← Hl.out] at hLc8;exact hLc8,by rw[← Hr.out] at hLd8;exact hLd8,ho8,hK8,hB10⟩,by simp[intOf];omega⟩
  have HK16:Hid (k=16):=hid (by omega)
  go_wp2_with fail
  obtain⟨A',c',rfl,hc',hL'⟩:=ho.lst (by omega)
  have hLz: ∀n,k=n→Lst wr 152 A' n V:=fun n h=>by rw[← h];exact hL'
  have hKz: ∀n,k=n→Kys wr B n V:=fun n h=>by rw[← h];exact hK
  have hvz: ∀n,k=n→Ending.returned (Value.slice A' k c')= .returned (.slice A' n c'):=fun n h=>by rw[← h]
  go_ret
  exact⟨A',c',V,hvz 16 HK16.out,hLz 16 HK16.out,by rw[HBe.out];exact hKz 16 HK16.out,hB⟩
end Go.Proofs.YtlmacfmfmjhidaaGreatDoor.Des
