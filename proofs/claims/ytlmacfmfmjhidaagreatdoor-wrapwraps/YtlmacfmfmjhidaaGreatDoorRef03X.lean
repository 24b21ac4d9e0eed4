/-
 Ref03M Ref03N Ref03B Ref03T
-/
import Derived.Test.YtlmacfmfmjhidaaGreatDoorRef03K
import Derived.Test.YtlmacfmfmjhidaaGreatDoorDesX
import Derived.Test.YtlmacfmfmjhidaaGreatDoorMemX
import Derived.Test.YtlmacfmfmjhidaaGreatDoorDesY
import Derived.Test.YtlmacfmfmjhidaaGreatDoorConcat
namespace Go.Proofs.YtlmacfmfmjhidaaGreatDoor.Des
open Go.ChangeShapes Go.WideShapes Go.ChangeAt Go.RowKit Mem
theorem digit_any (d:Nat) (hd:d<16) (w:World):Calls Tryz.prog 160 #[.int .u8 ((hexc d:Nat):Int)] w fun e w'=>e= .returned (.int .i64 (d:Nat))∧w=w':=by
 have h1:=(hexc_ok d hd).1
 have h2:=(hexc_ok d hd).2
 generalize hexc d=c at*
 by_cases h:97≤c
 ·rw[if_pos h] at h2
  have hdd:decide ((97:Int)≤(c:Int))=true:=by simp;omega
  go_enter Tryz.func160,Tryz.ntmps160
  go_wp2
  go_ret
  exact⟨ret_int (by omega),rfl⟩
 rw[if_neg h] at h2
 have hdd:decide ((97:Int)≤(c:Int))=false:=by simp;omega
 go_enter Tryz.func160,Tryz.ntmps160
 go_wp2
 go_ret
 exact⟨ret_int (by omega),rfl⟩
def sixF (h k:Nat→Nat) (i:Nat):Nat→Nat:=fun j=>h ((4*i+j+31)%32) ^^^ k (6*i+j)
def boxF (h k:Nat→Nat):Nat→Nat:=fun t=>
 (boxes.getD (t/4) []).getD (16*(2*sixF h k (t/4) 0+sixF h k (t/4) 5)+(8*sixF h k (t/4) 1+4*sixF h k (t/4) 2+2*sixF h k (t/4) 3+sixF h k (t/4) 4)) 0/2^(3-t%4)%2
theorem wpl_bsl {P:Program}{ops:Array Oper}{rest:List Oper}{o:Oper}{a:Act}{w:World}{Q:Exit→Act→World→Prop} (hgd:o.guard=none) (t:TypeId) (n:Nat) (l:List (Nat×Operand)) (ho:o.op= .buildSlice t n l.toArray) (v:Value) (w':World)
  (hr:(Instr.buildSlice t n (l.map fun p=>(p.1,a.eval p.2)).toArray).run P w= .ok v w') (h:wpList P ops Q rest (a.put o.dst v) w'):wpList P ops Q (o::rest) a w:=by
 refine wpList_plain hgd fun _ hK=>?_
 unfold Oper.wp execOp
 simp only[ho,List.map_toArray,hr,Sem.run_bind,Sem.run_pure,Result.andThen_ok]
 exact hK _ _ h
theorem wpl_ldstr {P:Program}{ops:Array Oper}{rest:List Oper}{o:Oper}{a:Act}{w:World}{Q:Exit→Act→World→Prop} (hgd:o.guard=none) (ty:TypeId) (x:Operand) (ho:o.op= .load ty x) (p:Addr) (hx:a.eval x= .pointer (some p)) (hu:P.underlying ty=some .string) (v:Value) (hv:w.cell? p=some v)
  (h:wpList P ops Q rest (a.put o.dst v) w):wpList P ops Q (o::rest) a w:=by
 refine wpList_plain hgd fun _ hK=>?_
 have hr:(Instr.loadAt ty (.pointer (some p))).run P w= .ok v w:=by
  simp[Instr.loadAt,Instr.sureAddr,loadVar,isAgg,Sem.run_bind,run_underlying hu,hv]
 unfold Oper.wp execOp
 simp only[ho,hx,hr,Sem.run_bind,Sem.run_pure,Result.andThen_ok]
 exact hK _ _ h
theorem row4i (X:Nat) (a b c d:Int) (ha:a=((X/8%2:Nat):Int)) (hb:b=((X/4%2:Nat):Int)) (hc:c=((X/2%2:Nat):Int)) (hd:d=((X%2:Nat):Int)): #[Value.int .i64 a, .int .i64 b, .int .i64 c, .int .i64 d]=row 4 (iv .i64 fun t=>X/2^(3-t)%2):=by
 subst ha;subst hb;subst hc;subst hd
 apply row_of (by rfl)
 intro i hi
 match i,hi with
 | 0,_=>rfl
 | 1,_=>rfl
 | 2,_=>rfl
 | 3,_=>simp[iv]
 | n+4,h=>omega
theorem sixF_lt {h k:Nat→Nat} (hh: ∀i,i<32→h i<2) (hk: ∀i,i<48→k i<2) (i j:Nat) (hi:i<8) (hj:j<6):sixF h k i j<2:=
 Nat.xor_lt_two_pow (n:=1) (hh _ (by omega)) (hk _ (by omega))
theorem bs1 (x:Int) (w:World):(Instr.buildSlice 152 1 #[(0, .int .i64 x)]).run Tryz.prog w= .ok (.slice (some ⟨w.heap.size,0,none⟩) 1 1) (w.alloc (.cells #[.int .i64 x] 3)):=by kernel_rfl
theorem new_one (w:World) (v:Value) (t:TypeId): ∀i,i<1→(w.alloc (.cells #[v] t)).cell? ((⟨w.heap.size,0,none⟩:Addr).add i)=some v:=fun i hi=>by
 obtain rfl:i=0:=by omega
 rw[add_zero_off];exact(Blk.fresh w t #[v]).cell 0
theorem exec_rem {P:Program}{o:Oper}{a:Act}{w:World} (t:TypeId) (x y:Operand) (rt:TypeId) (ho:o.op= .binOp .rem t x y rt) (p q:Int) (hx:a.eval x= .int .i64 p) (hy:a.eval y= .int .i64 q) (hp:0≤p) (hq:0<q) (_hq2:q<9223372036854775808):(execOp a.eval o).run P w= .ok (.value (.int .i64 (p%q))) w:=by
 have hm:p.tmod q=p%q:=Int.tmod_eq_emod_of_nonneg hp
 unfold execOp
 simp[ho,hx,hy,eqGuard,binOp,Op.intDiv,hm,show¬q=0 by omega]
theorem exec_xor {P:Program}{o:Oper}{a:Act}{w:World} (t:TypeId) (x y:Operand) (rt:TypeId) (ho:o.op= .binOp .xor t x y rt) (p q:Int) (hx:a.eval x= .int .i64 p) (hy:a.eval y= .int .i64 q) (r:Int) (hr:bits .xor .i64 p q=r):(execOp a.eval o).run P w= .ok (.value (.int .i64 r)) w:=by
 have e:Op.intBits BinOp.xor IntKind.i64 p q=pure (.int .i64 (bits .xor .i64 p q)):=rfl
 unfold execOp
 simp[ho,hx,hy,eqGuard,binOp,e,hr]
theorem infoS:(Tryz.prog.info? 9).map (·.size)=some 1:=by kernel_rfl
set_option linter.unusedSimpArgs false in
set_option maxRecDepth 100000 in
set_option maxHeartbeats 4000000 in
theorem mix_any (A1 A2:Option Addr) (c1 c2:Nat) (h k:Nat→Nat) (hh: ∀i,i<32→h i<2) (hk: ∀i,i<48→k i<2) (w:World) (hL1:Lst w 3 A1 32 (iv .i64 h)) (hL2:Lst w 3 A2 48 (iv .i64 k)):
  Calls Tryz.prog 138 #[.slice A1 32 c1, .slice A2 48 c2] w fun e w'=> ∃A' c',e= .returned (.slice A' 32 c')∧32≤c'∧Lst w' 3 A' 32 (iv .i64 fun t=>boxF h k (tp t-1))∧Below w.heap.size w w':=by
 have Hh:=hid hh
 have Hk:=hid hk
 obtain⟨a1,rfl,ha1⟩:=hL1.some
 obtain⟨a2,rfl,ha2⟩:=hL2.some
 have HL1:=hid hL1
 have HL2:=hid hL2
 clear hh hk hL1 hL2
 have hb0:=Blk.fresh w 9 (row 8 bxv)
 have hB0:Below w.heap.size w (w.alloc (.cells (row 8 bxv) 9)):=(Below.refl _ _).alloc (Nat.le_refl _) _
 go_enter Tryz.func138,Tryz.ntmps138
 go_wp2_with ((with_reducible refine wpl_bsl rfl 220 8 _ rfl (.slice (some ⟨w.heap.size,0,none⟩) 8 8) (w.alloc (.cells (row 8 bxv) 9)) ?_ ?_); (kernel_rfl))
 generalize hw0:w.alloc (.cells (row 8 bxv) 9)=w0 at*
 have hs0:w.heap.size+1≤w0.heap.size:=by rw[← hw0];simp
 clear hw0
 go_loopw [6,7] (fun v i wr=> ∃n:Nat,n≤8∧OwnV wr (w.heap.size+1) 3 v (4*n) (iv .i64 (boxF h k))∧i= .int .i64 n∧Blk wr w.heap.size 9 (row 8 bxv)∧Below w.heap.size w wr∧w.heap.size+1≤wr.heap.size) (fun _ i _=>8-(intOf i).toNat)
 case atStart=>exact⟨0,by omega,OwnV.nil _ _ _ _,rfl,hb0,hB0,hs0⟩
 case round=>
  clear hb0 hB0 hs0
  obtain⟨n,hn,ho,rfl,hb,hB,hs⟩:=hrel
  rename World=>wo
  by_cases hlt:n<8
  ·go_wp2_with fail
   have Hho:=hid ho
   have Hhb:=hid hb
   have HhB:=hid hB
   clear ho hb hB
   generalize Value.bool (decide ((n:Int)<8))=vb at*
   go_loopw [8,9] (fun v j wr=> ∃q:Nat,q≤6∧OwnV wr wo.heap.size 3 v q (iv .i64 (sixF h k n))∧j= .int .i64 ((q:Int)+1)∧Below wo.heap.size wo wr) (fun _ j _=>7-(intOf j).toNat)
   case atStart=>exact⟨0,by omega,OwnV.nil _ _ _ _,rfl,Below.refl _ _⟩
   case round=>
    obtain⟨q,hq,ho6,rfl,hB6⟩:=hrel
    have hBw:=HhB.out.trans (hB6.mono HhB.out.size)
    by_cases hlt2:q<6
    ·have C1:Hid (∀W,Below wo.heap.size wr W→W.cell? (a1.add ((4*n+q+31)%32))=some (.int .i64 ((h ((4*n+q+31)%32):Nat):Int))):=hid (fun W hW=>((hBw.trans (hW.mono HhB.out.size)).cell (by rw[add_block];exact ha1)).trans (HL1.out.at _ (by omega)))
     have C2:Hid (∀W,Below wo.heap.size wr W→W.cell? (a2.add (6*n+q))=some (.int .i64 ((k (6*n+q):Nat):Int))):=hid (fun W hW=>((hBw.trans (hW.mono HhB.out.size)).cell (by rw[add_block];exact ha2)).trans (HL2.out.at _ (by omega)))
     have i1:(4*n+q+31)%32<32:=by omega
     have i2:6*n+q<48:=by omega
     have HX:Hid (bits .xor .i64 ((h ((4*n+q+31)%32):Nat):Int) ((k (6*n+q):Nat):Int)=((sixF h k n q:Nat):Int)):=hid (i64_xor_nat _ _ (by have:=Hh.out _ i1;omega) (by have:=Hk.out _ i2;omega))
     go_wp2_with fail
     refine wp_region_held_drew (S:=fun W=>Below wo.heap.size wr W) (by kernel_rfl) (Below.refl _ _).drew (fun hS0=>?_)
     refine ztk (i:=0) (v:=u8) rfl (fun _ _=>exec_move _ rfl _ rfl) hS0 ?_
     (try simp only[Act.put,zza,zzb,zzc,zzd,zze,zzf])
     refine ztk (i:=1) (v:= .slice (some a1) 32 c1) rfl (fun _ _=>exec_move _ rfl _ rfl) hS0 ?_
     (try simp only[Act.put,zza,zzb,zzc,zzd,zze,zzf])
     refine ztk (i:=2) (v:= .int .i64 (n:Int)) rfl (fun _ _=>exec_move _ rfl _ rfl) hS0 ?_
     (try simp only[Act.put,zza,zzb,zzc,zzd,zze,zzf])
     refine ztk (i:=3) (v:= .int .i64 (4*(n:Int))) rfl (fun _ _=>exec_arith .mul (.inr (.inr rfl)) _ _ _ _ rfl (4) ((n:Int)) rfl rfl _ rfl (by omega) (by omega)) hS0 ?_
     (try simp only[Act.put,zza,zzb,zzc,zzd,zze,zzf])
     refine ztk (i:=4) (v:= .int .i64 ((q:Int)+1)) rfl (fun _ _=>exec_move _ rfl _ rfl) hS0 ?_
     (try simp only[Act.put,zza,zzb,zzc,zzd,zze,zzf])
     refine ztk (i:=5) (v:= .int .i64 (4*(n:Int)+((q:Int)+1))) rfl (fun _ _=>exec_arith .add (.inl rfl) _ _ _ _ rfl (4*(n:Int)) ((q:Int)+1) rfl rfl _ rfl (by omega) (by omega)) hS0 ?_
     (try simp only[Act.put,zza,zzb,zzc,zzd,zze,zzf])
     refine ztk (i:=6) (v:= .int .i64 (4*(n:Int)+((q:Int)+1)-2)) rfl (fun _ _=>exec_arith .sub (.inr (.inl rfl)) _ _ _ _ rfl (4*(n:Int)+((q:Int)+1)) (2) rfl rfl _ rfl (by omega) (by omega)) hS0 ?_
     (try simp only[Act.put,zza,zzb,zzc,zzd,zze,zzf])
     refine ztk (i:=7) (v:= .int .i64 (4*(n:Int)+((q:Int)+1)-2+32)) rfl (fun _ _=>exec_arith .add (.inl rfl) _ _ _ _ rfl (4*(n:Int)+((q:Int)+1)-2) (32) rfl rfl _ rfl (by omega) (by omega)) hS0 ?_
     (try simp only[Act.put,zza,zzb,zzc,zzd,zze,zzf])
     refine ztk (i:=8) (v:= .int .i64 ((4*(n:Int)+((q:Int)+1)-2+32)%32)) rfl (fun _ _=>exec_rem _ _ _ _ rfl (4*(n:Int)+((q:Int)+1)-2+32) 32 rfl rfl (by omega) (by omega) (by omega)) hS0 ?_
     (try simp only[Act.put,zza,zzb,zzc,zzd,zze,zzf])
     refine ztk (i:=9) (v:= .pointer (some (a1.add ((4*n+q+31)%32)))) rfl (fun _ _=>exec_sl1 152 _ _ rfl a1 32 c1 rfl .i64 _ rfl ((4*n+q+31)%32) (by omega) 3 Tryz.underlying152 i1 iI) hS0 ?_
     (try simp only[Act.put,zza,zzb,zzc,zzd,zze,zzf])
     refine ztk (i:=10) (v:= .int .i64 ((h ((4*n+q+31)%32):Nat):Int)) rfl (fun W hW=>exec_ld 3 _ rfl _ rfl .i64 Tryz.underlying3 _ (C1.out W hW)) hS0 ?_
     (try simp only[Act.put,zza,zzb,zzc,zzd,zze,zzf])
     refine ztk (i:=11) (v:= .slice (some a2) 48 c2) rfl (fun _ _=>exec_move _ rfl _ rfl) hS0 ?_
     (try simp only[Act.put,zza,zzb,zzc,zzd,zze,zzf])
     refine ztk (i:=12) (v:= .int .i64 (n:Int)) rfl (fun _ _=>exec_move _ rfl _ rfl) hS0 ?_
     (try simp only[Act.put,zza,zzb,zzc,zzd,zze,zzf])
     refine ztk (i:=13) (v:= .int .i64 (6*(n:Int))) rfl (fun _ _=>exec_arith .mul (.inr (.inr rfl)) _ _ _ _ rfl (6) ((n:Int)) rfl rfl _ rfl (by omega) (by omega)) hS0 ?_
     (try simp only[Act.put,zza,zzb,zzc,zzd,zze,zzf])
     refine ztk (i:=14) (v:= .int .i64 ((q:Int)+1)) rfl (fun _ _=>exec_move _ rfl _ rfl) hS0 ?_
     (try simp only[Act.put,zza,zzb,zzc,zzd,zze,zzf])
     refine ztk (i:=15) (v:= .int .i64 (6*(n:Int)+((q:Int)+1))) rfl (fun _ _=>exec_arith .add (.inl rfl) _ _ _ _ rfl (6*(n:Int)) ((q:Int)+1) rfl rfl _ rfl (by omega) (by omega)) hS0 ?_
     (try simp only[Act.put,zza,zzb,zzc,zzd,zze,zzf])
     refine ztk (i:=16) (v:= .int .i64 (6*(n:Int)+((q:Int)+1)-1)) rfl (fun _ _=>exec_arith .sub (.inr (.inl rfl)) _ _ _ _ rfl (6*(n:Int)+((q:Int)+1)) (1) rfl rfl _ rfl (by omega) (by omega)) hS0 ?_
     (try simp only[Act.put,zza,zzb,zzc,zzd,zze,zzf])
     refine ztk (i:=17) (v:= .pointer (some (a2.add (6*n+q)))) rfl (fun _ _=>exec_sl1 152 _ _ rfl a2 48 c2 rfl .i64 _ rfl (6*n+q) (by omega) 3 Tryz.underlying152 i2 iI) hS0 ?_
     (try simp only[Act.put,zza,zzb,zzc,zzd,zze,zzf])
     refine ztk (i:=18) (v:= .int .i64 ((k (6*n+q):Nat):Int)) rfl (fun W hW=>exec_ld 3 _ rfl _ rfl .i64 Tryz.underlying3 _ (C2.out W hW)) hS0 ?_
     (try simp only[Act.put,zza,zzb,zzc,zzd,zze,zzf])
     refine ztk (i:=19) (v:= .int .i64 ((sixF h k n q:Nat):Int)) rfl (fun _ _=>exec_xor _ _ _ _ rfl _ _ rfl rfl _ HX.out) hS0 ?_
     (try simp only[Act.put,zza,zzb,zzc,zzd,zze,zzf])
     refine wpAnyH_ready (rs:=[20]) (by kernel_rfl) (by simp) (AllReadyH.cons rfl (fun K hK=>?_) AllReadyH.nil)
     (try simp only[Act.put,zza,zzb,zzc,zzd,zze,zzf])
     refine Eq.mpr (if_pos (by rfl)) ?_
     refine wp_bs 152 _ rfl (.int .i64 ((sixF h k n q:Nat):Int)) rfl #[.int .i64 ((sixF h k n q:Nat):Int)] 3 (bs1 _ _) ?_
     (try simp only[Act.put,zza,zzb,zzc,zzd,zze,zzf])
     refine hK.out _ _ (hS0.alloc (Nat.le_trans hB6.size hS0.size) _) (fun hS1=>?_)
     (try simp only[Act.put,zza,zzb,zzc,zzd,zze,zzf])
     clear hK K
     refine wpAnyH_ready (rs:=[21]) (by kernel_rfl) (by simp) (AllReadyH.cons rfl (fun K hK=>?_) AllReadyH.nil)
     (try simp only[Act.put,zza,zzb,zzc,zzd,zze,zzf])
     refine Eq.mpr (if_pos (by rfl)) ?_
     have ho7:OwnV wr.drew wo.heap.size 3 u8 q (iv .i64 (sixF h k n)):=ho6
     have hnew:=new_one wr.drew (.int .i64 ((sixF h k n q:Nat):Int)) 3
     refine wp_appV _ _ 152 rfl wo.heap.size 3 (.int .i64 0) 8 Tryz.underlying152 infoI rfl _ q _ rfl (ho7.alloc _) ⟨wr.heap.size,0,none⟩ 1 1 (fun _=> .int .i64 ((sixF h k n q:Nat):Int)) hnew (fun _=>rfl) rfl (by omega) (by omega) (Nat.le_trans hB6.size hS1.size) ?_
     intro v' w1 ho1 hB1 _
     (try simp only[Act.put,zza,zzb,zzc,zzd,zze,zzf])
     refine hK.out _ _ (hS1.trans hB1) (fun hS2=>?_)
     (try simp only[Act.put,zza,zzb,zzc,zzd,zze,zzf])
     clear hK K
     refine ztk (i:=22) (v:=v') rfl (fun _ _=>exec_assign _ rfl _ rfl) hS2 ?_
     (try simp only[Act.put,zza,zzb,zzc,zzd,zze,zzf])
     refine wpAnyH_done (by kernel_rfl) ?_ _
     have ho2:=own_step ho1 rfl
     have hB2:=hB6.trans hS2
     clear ho1 hB1 hS0 hS1 hS2 ho6 ho7 hB6 hBw
     go_wp2_with fail
     exact⟨⟨q+1,by omega,ho2,val_int (by omega),hB2⟩,by simp[intOf];omega⟩
    have hlst:OwnV wr wo.heap.size 3 u8 6 (iv .i64 (sixF h k n)):=by
     have hq6:q=6:=by omega
     rw[hq6] at ho6;exact ho6
    rcases hlst.form with⟨_,h0⟩ | ⟨g6,cap6,cur6,rfl,_,hg6,hcap6,hb6,hc6⟩
    ·omega
    have v0:wr.cell? ⟨g6,0,none⟩=some (.int .i64 ((sixF h k n 0:Nat):Int)):=(hb6.cell 0).trans (hc6 0 (by omega))
    have v1:wr.cell? ⟨g6,1,none⟩=some (.int .i64 ((sixF h k n 1:Nat):Int)):=(hb6.cell 1).trans (hc6 1 (by omega))
    have v2:wr.cell? ⟨g6,2,none⟩=some (.int .i64 ((sixF h k n 2:Nat):Int)):=(hb6.cell 2).trans (hc6 2 (by omega))
    have v3:wr.cell? ⟨g6,3,none⟩=some (.int .i64 ((sixF h k n 3:Nat):Int)):=(hb6.cell 3).trans (hc6 3 (by omega))
    have v4:wr.cell? ⟨g6,4,none⟩=some (.int .i64 ((sixF h k n 4:Nat):Int)):=(hb6.cell 4).trans (hc6 4 (by omega))
    have v5:wr.cell? ⟨g6,5,none⟩=some (.int .i64 ((sixF h k n 5:Nat):Int)):=(hb6.cell 5).trans (hc6 5 (by omega))
    have b0:=sixF_lt Hh.out Hk.out n 0 hlt (by omega)
    have b1:=sixF_lt Hh.out Hk.out n 1 hlt (by omega)
    have b2:=sixF_lt Hh.out Hk.out n 2 hlt (by omega)
    have b3:=sixF_lt Hh.out Hk.out n 3 hlt (by omega)
    have b4:=sixF_lt Hh.out Hk.out n 4 hlt (by omega)
    have b5:=sixF_lt Hh.out Hk.out n 5 hlt (by omega)
    have HB:Hid (∀t,t<4→boxF h k (4*n+t)=(boxes.getD n []).getD (16*(2*sixF h k n 0+sixF h k n 5)+(8*sixF h k n 1+4*sixF h k n 2+2*sixF h k n 3+sixF h k n 4)) 0/2^(3-t)%2):=hid (fun t ht=>by
     unfold boxF
     rw[show(4*n+t)/4=n by omega,show(4*n+t)%4=t by omega])
    have hobs:=Hho.out.below hB6 (Nat.le_refl _)
    have hbb:=Hhb.out.below hB6 Hhb.out.lt
    have hszw:Hid (w.heap.size+1≤wr.heap.size):=hid (Nat.le_trans hs hB6.size)
    clear hlst hb6 hc6 ho6 hB6 hg6
    generalize sixF h k n 0=s0 at*
    generalize sixF h k n 1=s1 at*
    generalize sixF h k n 2=s2 at*
    generalize sixF h k n 3=s3 at*
    generalize sixF h k n 4=s4 at*
    generalize sixF h k n 5=s5 at*
    go_wp2_with fail
    go_quiet (fail)
    generalize nq=nA
    go_wp2_with fail
    go_quiet (fail)
    have hoy:=(hobs.drewN nA).drewN nq
    have hby:=(hbb.drewN nA).drewN nq
    have hBy:=below_drewN (below_drewN hBw nA) nq
    have hsy:w.heap.size+1≤((wr.drewN nA).drewN nq).heap.size:=by have:=hszw.out;simpa using this
    clear hobs hbb hBw v0 v1 v2 v3 v4 v5
    generalize (wr.drewN nA).drewN nq=wy at*
    have hidx:16*(2*s0+s5)+(8*s1+4*s2+2*s3+s4)<64:=by omega
    have Hby:=hid ((bxs_ok n hlt).2 _ hidx)
    have hdg:=box_dig n hlt _ hidx
    generalize hXe:(boxes.getD n []).getD (16*(2*s0+s5)+(8*s1+4*s2+2*s3+s4)) 0=X at*
    clear hXe
    have HC:Hid (wy.cell? ⟨w.heap.size,n,none⟩=some (.string (bxs n))):=hid ((hby.cell n).trans (row_get 8 bxv n hlt))
    go_wp2_with (first
     | (with_reducible refine wpl_slb rfl 220 _ _ rfl _ _ _ rfl .i64 _ rfl n rfl 9 Tryz.underlying220 hlt infoS ?_)
     | (with_reducible refine wpl_ldstr rfl 9 _ rfl _ rfl Tryz.underlying9 _ HC.out ?_)
     | (with_reducible refine wpl_str rfl 9 _ _ rfl _ rfl .i64 _ rfl (16*(2*s0+s5)+(8*s1+4*s2+2*s3+s4)) (by omega) Tryz.underlying9 _ Hby.out ?_)
     | (go_at_call 160;refine(digit_any X hdg _).mono ?_;rintro e w' ⟨rfl,rfl⟩)
     | (at_builtin;refine wpl_appN rfl _ _ 152 rfl (w.heap.size+1) 3 (.int .i64 0) 8 Tryz.underlying152 infoI rfl _ (4*n) _ rfl hoy 4 (iv .i64 fun t=>X/2^(3-t)%2) _ (row4i X _ _ _ _ (by omega) (by omega) (by omega) (by omega)) (fun _=>rfl) rfl (by omega) (by omega) hsy ?_))
    intro v' w1 ho1 hB1 hG1
    have ho2:OwnV w1 (w.heap.size+1) 3 v' (4*(n+1)) (iv .i64 (boxF h k)):=ho1.ext (fun i hi=>by
     unfold catV iv
     by_cases hin:i<4*n
     ·rw[if_pos hin]
     rw[if_neg hin]
     have hb:=HB.out (i-4*n) (by omega)
     rw[show 4*n+(i-4*n)=i by omega] at hb
     exact ivx hb.symm)
    have hb2:=hby.below hB1 (by omega)
    have hB2:=hBy.trans (hB1.mono (by omega))
    have hs2:=Nat.le_trans hsy hB1.size
    clear ho1 hB1 hG1 hby hBy hoy
    go_wp2_with fail
    exact⟨⟨n+1,by omega,ho2,val_int (by omega),hb2,hB2,hs2⟩,by simp[intOf];omega⟩
  go_wp2_with fail
  have hlst:OwnV wo (w.heap.size+1) 3 u6 32 (iv .i64 (boxF h k)):=by
   have hn8:n=8:=by omega
   rw[hn8] at ho;exact ho
  obtain⟨A6,c6,rfl,hc6,hL6⟩:=hlst.lst (by omega)
  refine(permute_any _ 32 tp (by decide+kernel) A6 32 c6 _ (by omega) (by omega) tp_range _ hL6).mono ?_
  rintro e w7 ⟨A7,c7,rfl,hc7,hL7,hB7⟩
  go_wp2_with fail
  go_ret
  exact⟨A7,c7,rfl,hc7,hL7,hB.trans (hB7.mono hB.size)⟩
end Go.Proofs.YtlmacfmfmjhidaaGreatDoor.Des
namespace Go.Proofs.YtlmacfmfmjhidaaGreatDoor.Des
open Go.ChangeShapes Go.WideShapes Go.ChangeAt Go.RowKit Mem
theorem bitL_lt (n x t:Nat):bitL n x t<2:=Nat.mod_lt _ (by omega)
theorem bitL_test (n x t:Nat):bitL n x t=if x.testBit (n-1-t) then 1 else 0:=by
 unfold bitL
 rw[bit_mod]
 by_cases h:x/2^(n-1-t)%2=1
 ·simp[h]
 simp[h];omega
theorem bitL_xor (n x y t:Nat):bitL n x t ^^^ bitL n y t=bitL n (x ^^^ y) t:=by
 rw[bitL_test,bitL_test,bitL_test,Nat.testBit_xor]
 cases x.testBit (n-1-t)<;>cases y.testBit (n-1-t)<;>rfl
theorem six_place: ∀i,i<8→∀j,j<6→(if 6-1-j< (4*i+5)%32 then 32-(4*i+5)%32+(6-1-j) else 6-1-j-(4*i+5)%32)=32-1-(4*i+j+31)%32:=by decide
theorem e6_bitL (R i j:Nat) (hR:R<2^32) (hi:i<8) (hj:j<6):bitL 32 R ((4*i+j+31)%32)=bitL 6 (e6 R i) j:=by
 apply bitL_eq
 unfold e6
 rw[show(64:Nat)=2^6 from rfl,Nat.testBit_mod_two_pow,decide_eq_true (show 6-1-j<6 by omega),Bool.true_and,rt_bit _ _ _ _ hR (by omega) (by omega),six_place i hi j hj]
theorem k6_bitL (K i j:Nat) (hi:i<8) (hj:j<6):bitL 48 K (6*i+j)=bitL 6 (k6 K i) j:=by
 apply bitL_eq
 unfold k6
 rw[show(64:Nat)=2^6 from rfl,Nat.testBit_mod_two_pow,decide_eq_true (show 6-1-j<6 by omega),Bool.true_and,Nat.testBit_div_two_pow,show 6-1-j+(42-6*i)=48-1-(6*i+j) by omega]
theorem six_bitL (R K i j:Nat) (hR:R<2^32) (hi:i<8) (hj:j<6):sixF (bitL 32 R) (bitL 48 K) i j=bitL 6 (e6 R i ^^^ k6 K i) j:=by
 unfold sixF
 rw[e6_bitL R i j hR hi hj,k6_bitL K i j hi hj,bitL_xor]
theorem box_idx: ∀v,v<64→16*(2*bitL 6 v 0+bitL 6 v 5)+(8*bitL 6 v 1+4*bitL 6 v 2+2*bitL 6 v 3+bitL 6 v 4)=16*(2*(v/32%2)+v%2)+v/2%16:=by decide+kernel
theorem mx_bit (R K n j:Nat) (hn:n≤8) (hj:j<4*n):(mx R K n).testBit j=(sb (n-1-j/4) (e6 R (n-1-j/4) ^^^ k6 K (n-1-j/4))).testBit (j%4):=by
 induction n generalizing j with
 | zero=>omega
 | succ n ih=>
  have hs:=sb_lt n (e6 R n ^^^ k6 K n) (by omega)
  have e:=join_bit (n:=4) (x:=mx R K n) (y:=sb n (e6 R n ^^^ k6 K n)) hs j
  rw[Nat.mul_comm] at e
  rw[mx,show(16:Nat)=2^4 from rfl,e]
  by_cases h:j<4
  ·rw[if_pos h,show n+1-1-j/4=n by omega,show j%4=j by omega]
  rw[if_neg h,ih (j-4) (by omega) (by omega),show n-1-(j-4)/4=n+1-1-j/4 by omega,show(j-4)%4=j%4 by omega]
theorem box_bitL (R K s:Nat) (hR:R<2^32) (hs:s<32):boxF (bitL 32 R) (bitL 48 K) s=bitL 32 (mx R K 8) s:=by
 have hi:s/4<8:=by omega
 unfold boxF
 rw[six_bitL R K _ 0 hR hi (by omega),six_bitL R K _ 1 hR hi (by omega),six_bitL R K _ 2 hR hi (by omega),six_bitL R K _ 3 hR hi (by omega),six_bitL R K _ 4 hR hi (by omega),six_bitL R K _ 5 hR hi (by omega),box_idx _ (six_lt R K _)]
 have h:=mx_bit R K 8 (32-1-s) (by omega) (by omega)
 rw[show 8-1-(32-1-s)/4=s/4 by omega,show(32-1-s)%4=3-s%4 by omega,bit_mod,bit_mod] at h
 have:=decide_eq_decide.1 h
 unfold bitL
 show sb (s/4) _/2^(3-s%4)%2=_
 omega
theorem mix_bitL (R K t:Nat) (hR:R<2^32) (ht:t<32):boxF (bitL 32 R) (bitL 48 K) (tp t-1)=bitL 32 (ff R K) t:=by
 have hp:=tp_range t ht
 rw[box_bitL R K _ hR (by omega)]
 exact bitL_pk tp 32 _ 32 t ht hp
theorem half_left (B t:Nat) (ht:t<32):bitL 64 B t=bitL 32 (B/4294967296) t:=by
 apply bitL_eq
 have:=Nat.testBit_div_two_pow (n:=32) (i:=32-1-t) B
 rw[show(2:Nat)^32=4294967296 from rfl] at this
 rw[this,show 32-1-t+32=64-1-t by omega]
theorem half_right (B t:Nat) (ht:t<32):bitL 64 B (32+t)=bitL 32 (B%4294967296) t:=by
 apply bitL_eq
 have:=Nat.testBit_mod_two_pow B 32 (32-1-t)
 rw[show(2:Nat)^32=4294967296 from rfl] at this
 rw[this,decide_eq_true (show 32-1-t<32 by omega),Bool.true_and,show 64-1-(32+t)=32-1-t by omega]
theorem half_join (l r t:Nat) (hr:r<2^32) (ht:t<64):cat 32 (bitL 32 l) (bitL 32 r) t=bitL 64 (l*2^32+r) t:=by
 unfold cat
 by_cases h:t<32
 ·rw[if_pos h]
  apply bitL_eq
  rw[join_bit hr,if_neg (by omega),show 64-1-t-32=32-1-t by omega]
 rw[if_neg h]
 apply bitL_eq
 rw[join_bit hr,if_pos (by omega),show 64-1-t=32-1-(t-32) by omega]
theorem up_step (y n j:Nat) (hn:n<64) (hj:j<64):upd (bitL 64 (up ip 64 y n)) (ip n-1) (bitL 64 y n) j=bitL 64 (up ip 64 y (n+1)) j:=by
 have hp:=ip_range n hn
 by_cases h:j=ip n-1
 ·rw[h,upd_same]
  apply bitL_eq
  rw[Bool.eq_iff_iff,up_bit]
  constructor
  ·intro hy
   exact⟨n,by omega,by omega,hy⟩
  rintro⟨k,h1,h2,h3⟩
  have e1:=ip_inv k (by omega)
  have e2:=ip_inv n hn
  have e3:64-ip k=64-ip n:=by have:=ip_range k (by omega);omega
  rw[e3,e2] at e1
  rw[e1];exact h3
 rw[upd_other _ _ _ _ h]
 apply bitL_eq
 rw[Bool.eq_iff_iff,up_bit,up_bit]
 constructor
 ·rintro⟨k,h1,h2,h3⟩
  exact⟨k,by omega,h2,h3⟩
 rintro⟨k,h1,h2,h3⟩
 by_cases hk:k=n
 ·subst hk;omega
 exact⟨k,by omega,h2,h3⟩
def b2 (l:Nat→Nat) (i:Nat):Nat→Nat
 | 0=>0
 | k+1=>2*b2 l i k+l (8*i+k)
theorem b2_lt {l:Nat→Nat} (hl: ∀t,l t<2) (i k:Nat):b2 l i k<2^k:=by
 induction k with
 | zero=>simp[b2]
 | succ k ih=>have:=hl (8*i+k);rw[b2,Nat.pow_succ];omega
theorem b2_byt (z i:Nat) (hi:i<8) (k:Nat) (hk:k≤8):b2 (bitL 64 z) i k=z/2^(64-8*i-k)%2^k:=by
 induction k with
 | zero=>simp[b2,Nat.mod_one]
 | succ k ih=>
  rw[b2,ih (by omega)]
  unfold bitL
  rw[show 64-1-(8*i+k)=64-8*i-(k+1) by omega]
  have e:2^(64-8*i-k)=2^(64-8*i-(k+1))*2:=by rw[← Nat.pow_succ];congr 1;omega
  rw[e,← Nat.div_div_eq_div_mul,Nat.pow_succ,Nat.mul_comm (2^k) 2,Nat.mod_mul]
  omega
theorem b2_end (z i:Nat) (hi:i<8):b2 (bitL 64 z) i 8=byt z i:=by
 rw[b2_byt z i hi 8 (by omega)]
 unfold byt
 rw[show 64-8*i-8=56-8*i by omega]
theorem infoB:(Tryz.prog.info? 5).map (fun i=>(i.zero,i.size,i.bytes))=some (some (.int .u8 0),1,1):=by kernel_rfl
theorem Lst_reads {w:World}{A:Option Addr}{n:Nat}{f:Nat→Nat} (h:Lst w 5 A n (iv .u8 f)):Reads w w.heap.size A n f:=fun _=>by
 obtain⟨ad,rfl,hb⟩:=h.some
 exact⟨ad,rfl,hb,fun i hi=>h.at i hi⟩
set_option maxRecDepth 100000 in
set_option maxHeartbeats 2000000 in
theorem bytes_N (A:Option Addr) (c:Nat) (l:Nat→Nat) (hl: ∀t,l t<2) (w:World) (hL:Lst w 3 A 64 (iv .i64 l)):
  Calls Tryz.prog 97 #[.slice A 64 c] w fun e w'=> ∃A' c',e= .returned (.slice A' 8 c')∧8≤c'∧Lst w' 5 A' 8 (iv .u8 fun i=>b2 l i 8)∧Below w.heap.size w w'∧(∀ad,A'=some ad→w.heap.size≤ad.block):=by
 obtain⟨ad,rfl,had⟩:=hL.some
 have HL:=hid hL
 have Hl:=hid hl
 clear hL hl
 go_enter Tryz.func97,Tryz.ntmps97
 go_wp2_with fail
 go_loopw [3,4] (fun v i wr=> ∃m:Nat,m≤8∧OwnV wr w.heap.size 5 v m (iv .u8 fun i=>b2 l i 8)∧i= .int .i64 (8*(m:Int))∧Below w.heap.size w wr) (fun _ i _=>64-(intOf i).toNat)
 case atStart=>exact⟨0,by omega,OwnV.nil _ _ _ _,rfl,Below.refl _ _⟩
 case round=>
  obtain⟨m,hm,ho,rfl,hB⟩:=hrel
  by_cases hlt:m<8
  ·have e1:decide (8*(m:Int)+8≤64)=true:=by simp;omega
   go_wp2_with fail
   go_loop [5,6] (fun x k=> ∃q:Nat,q≤8∧x= .int .i64 (b2 l m q:Nat)∧k= .int .i64 q) (fun _ k=>8-(intOf k).toNat)
   case atStart=>exact⟨0,by omega,rfl,rfl⟩
   case round=>
    obtain⟨q,hq,rfl,rfl⟩:=hrel
    have hb:=b2_lt Hl.out m q
    have hb8:2^q≤2^8:=Nat.pow_le_pow_right (by omega) hq
    by_cases hlt2:q<8
    ·have hl2:=Hl.out (8*m+q)
     have hi:8*m+q<64:=by omega
     have HC:Hid (wr.cell? (ad.add (8*m+q))=some (.int .i64 ((l (8*m+q):Nat):Int))):=hid ((hB.cell (by rw[add_block];exact had)).trans (HL.out.at _ hi))
     have hbq:b2 l m q<256:=by omega
     go_wp2_with (first
      | (with_reducible refine wpl_sl1 rfl 152 _ _ rfl ad 64 c rfl .i64 _ rfl (8*m+q) (by omega) 3 Tryz.underlying152 hi iI ?_)
      | (with_reducible refine wpl_ld rfl 3 _ rfl _ rfl .i64 Tryz.underlying3 _ HC.out ?_))
     exact⟨⟨q+1,by omega,val_int (by rw[b2];omega),val_int (by omega)⟩,by simp[intOf];omega⟩
    have hq8:Hid (b2 l m q=b2 l m 8):=hid (by rw[show q=8 by omega])
    have hbq:b2 l m q<256:=by omega
    go_wp2_with (at_builtin;refine wpl_appN rfl _ _ 22 rfl w.heap.size 5 (.int .u8 0) 1 Tryz.underlying22 infoB rfl _ m _ rfl ho 1 (fun _=> .int .u8 ((b2 l m q:Nat):Int)) _ (row1v _ _ (val_int (by omega))) (fun _=>rfl) rfl (by omega) (by omega) hB.size ?_)
    intro v' w1 ho1 hB1 _
    have ho2:OwnV w1 w.heap.size 5 v' (m+1) (iv .u8 fun i=>b2 l i 8):=ho1.ext (fun i hi=>by
     unfold catV
     by_cases h:i<m
     ·rw[if_pos h]
     rw[if_neg h,hq8.out];obtain rfl:i=m:=by omega
     rfl)
    have hB2:=hB.trans hB1
    clear ho1 hB1 hB ho
    go_wp2_with fail
    exact⟨⟨m+1,by omega,ho2,val_int (by omega),hB2⟩,by simp[intOf];omega⟩
  have e1:decide (8*(m:Int)+8≤64)=false:=by simp;omega
  go_wp2_with fail
  have hlst:OwnV wr w.heap.size 5 u3 8 (iv .u8 fun i=>b2 l i 8):=by
   have hm8:m=8:=by omega
   rw[hm8] at ho;exact ho
  have hlow: ∀ad c',u3= .slice (some ad) 8 c'→w.heap.size≤ad.block:=fun ad c' hu=>by
   rcases hlst.form with⟨_,h0⟩ | ⟨g,cap,cur,hv,hbg,_⟩
   ·omega
   rw[hv] at hu;cases hu;exact hbg
  obtain⟨A',c',rfl,hc',hL'⟩:=hlst.lst (by omega)
  go_ret
  exact⟨A',c',rfl,hc',hL',hB,fun ad h=>by subst h;exact hlow ad c' rfl⟩
end Go.Proofs.YtlmacfmfmjhidaaGreatDoor.Des
namespace Go.Proofs.YtlmacfmfmjhidaaGreatDoor.Des
open Go.ChangeShapes Go.WideShapes Go.ChangeAt Go.RowKit Mem
theorem iSI2:(Tryz.prog.info? 152).map (·.size)=some 1:=by kernel_rfl
theorem mk64 (w:World):(Instr.makeSlice 152 (.int .i64 64) (.int .i64 64)).run Tryz.prog w= .ok (.slice (some ⟨w.heap.size,0,none⟩) 64 64) (w.alloc (.cells (row 64 (iv .i64 fun _=>0)) 3)):=by kernel_rfl
theorem wpl_mk {P:Program}{ops:Array Oper}{rest:List Oper}{o:Oper}{a:Act}{w:World}{Q:Exit→Act→World→Prop} (hgd:o.guard=none) (t:TypeId) (l c:Operand) (ho:o.op= .makeSlice t l c) (lv cv:Value) (hl:a.eval l=lv) (hc:a.eval c=cv) (v:Value) (w':World) (hr:(Instr.makeSlice t lv cv).run P w= .ok v w')
  (h:wpList P ops Q rest (a.put o.dst v) w'):wpList P ops Q (o::rest) a w:=by
 refine wpList_plain hgd fun _ hK=>?_
 unfold Oper.wp execOp
 simp only[ho,hl,hc,hr,Sem.run_bind,Sem.run_pure,Result.andThen_ok]
 exact hK _ _ h
theorem wp_st {P:Program}{o:Oper}{a:Act}{w:World}{K:Act→World→Prop}{Q:Exit→Act→World→Prop} (ty:TypeId) (x y:Operand) (ho:o.op= .store ty x y) (p:Addr) (hx:a.eval x= .pointer (some p)) (kd:IntKind) (n:Int) (hy:a.eval y= .int kd n) (hs:(P.info? ty).map (·.size)=some 1) (v:Value) (hc:w.cell? p=some v) (hf:w.frozen? p=false)
  (h:K (a.put o.dst undef) (w.setCell p (.int kd n))):o.wp P a w K Q:=by
 have hr:(Instr.storeAt ty (.pointer (some p)) (.int kd n)).run P w= .ok () (w.setCell p (.int kd n)):=by
  have h1:(store p (.int kd n)).run P w= .ok () (w.setCell p (.int kd n)):=by rw[run_store P w p _ _ (by rfl)];simp[hc,hf]
  have h0:p.add 0=p:=by simp[Addr.add]
  simp[Instr.storeAt,Instr.sureAddr,storeVar,Value.cells,Sem.run_bind,run_size hs,storeCells,h0,h1]
 unfold Oper.wp execOp
 simp only[ho,hx,hy,Sem.run_bind,hr,Sem.run_pure,Result.andThen_ok]
 exact h
theorem join64 (l r i:Nat) (hi:i<64):catV 32 (catV 0 (iv .i64 fun _=>0) (iv .i64 (bitL 32 l))) (iv .i64 (bitL 32 r)) i=iv .i64 (cat 32 (bitL 32 l) (bitL 32 r)) i:=by
 unfold catV iv cat
 by_cases h:i<32
 ·rw[if_pos h,if_pos h,if_neg (by omega),Nat.sub_zero]
 rw[if_neg h,if_neg h]
theorem exec_sl01 {P:Program}{o:Oper}{a:Act}{w:World} (ty:TypeId) (x ix:Operand) (ho:o.op= .indexAddr ty x ix) (g n c:Nat) (hx:a.eval x= .slice (some ⟨g,0,none⟩) n c) (kd:IntKind) (z:Int) (hix:a.eval ix= .int kd z) (k:Nat) (hz:z=(k:Int))
  (e:TypeId) (hu:P.underlying ty=some (.slice e)) (hk:k<n) (hs:(P.info? e).map (·.size)=some 1):(execOp a.eval o).run P w= .ok (.value (.pointer (some ⟨g,k,none⟩))) w:=by
 have:=exec_sl1 (P:=P) (w:=w) ty x ix ho ⟨g,0,none⟩ n c hx kd z hix k hz e hu hk hs
 rwa[add_zero_off] at this
theorem up_zero (y j:Nat):bitL 64 (up ip 64 y 0) j=0:=by unfold bitL up;simp
set_option linter.unusedSimpArgs false in
set_option maxRecDepth 100000 in
set_option maxHeartbeats 8000000 in
theorem rblock_fwd (A1 A2:Option Addr) (c1 c2:Nat) (f b:Nat→Nat) (hf:By8 f) (hb:By8 b) (w:World) (hR1:Reads w w.heap.size A1 8 f) (hR2:Reads w w.heap.size A2 8 b):
  Calls Tryz.prog 116 #[.slice A1 8 c1, .slice A2 8 c2, .bool false] w fun e w'=> ∃A' c',e= .returned (.slice A' 8 c')∧8≤c'∧Lst w' 5 A' 8 (iv .u8 (des f b false))∧Below w.heap.size w w'∧(∀ad,A'=some ad→w.heap.size≤ad.block):=by
 have Hf:=hid hf
 have Hb:=hid hb
 clear hf hb
 go_enter Tryz.func116,Tryz.ntmps116
 go_wp2_with fail
 refine(keys_any A1 c1 f Hf.out _ hR1).mono ?_
 rintro e w1 ⟨Ak,ck,V,rfl,hLk,hKk,hB1⟩
 obtain⟨ak,rfl,hak⟩:=hLk.some
 have hR3:=(hR2.below hB1).more hB1.size
 clear hR1 hR2
 go_wp2_with fail
 refine(bits_any A2 8 c2 b (by omega) (by omega) Hb.out _ hR3).mono ?_
 rintro e w2 ⟨A3,c3,rfl,hc3,hL3,hB2⟩
 have hL3b:Lst w2 3 A3 64 (iv .i64 (bitL 64 (num b 8))):=hL3.ext (fun i hi=>ivx (bitL_bits Hb.out i hi))
 clear hL3 hR3
 go_wp2_with fail
 refine(permute_any _ 64 ip (by decide+kernel) A3 64 c3 _ (by omega) (by omega) ip_range _ hL3b).mono ?_
 rintro e w3 ⟨A4,c4,rfl,hc4,hL4,hB3⟩
 have hL4b:Lst w3 3 A4 64 (iv .i64 (bitL 64 (pk ip 64 (num b 8) 64))):=hL4.ext (fun i hi=>ivx (bitL_pk ip 64 _ 64 i hi (ip_range i hi)))
 have hLk3:=(hLk.below hB2 (Nat.le_refl _)).below hB3 (Nat.le_refl _)
 have hKk3:=(hKk.below hB2).below hB3
 have hB4:=(hB1.trans (hB2.mono hB1.size))
 have hB5:=hB4.trans (hB3.mono hB4.size)
 have hak3:ak.block<w3.heap.size:=by have:=hB2.size;have:=hB3.size;omega
 clear hL3b hL4 hLk hKk hB1 hB2 hB3 hB4 hc3 hak
 have hP:pk ip 64 (num b 8) 64<18446744073709551616:=pk_lt ip 64 (num b 8) 64
 obtain⟨B,HBe⟩: ∃B,Hid (pk ip 64 (num b 8) 64=B):=⟨_,hid rfl⟩
 rw[HBe.out] at hL4b hP
 obtain⟨Bk,HBk⟩: ∃Bk,Hid (pk pc1 64 (num f 8) 56=Bk):=⟨_,hid rfl⟩
 rw[HBk.out] at hKk3
 obtain⟨K,HK⟩: ∃K:Nat→Nat,Hid (∀i,i<16→K i=rkOf Bk (i)):=⟨fun i=>rkOf Bk (i),hid (fun _ _=>rfl)⟩
 have Hdes:Hid (∀i,des f b false i=byt (fin (fe K (B/4294967296) (B%4294967296) 16)) i):=hid (fun i=>by
  show byt (blk (kk f false) (num b 8)) i=_
  rw[blk_ext _ (fun j hj=>(show kk f false j=K j by rw[HK.out j hj,← HBk.out];rfl))]
  unfold blk
  rw[HBe.out])
 obtain⟨a4,rfl,ha4⟩:=hL4b.some
 have t1:(32:Int)≤(c4:Int):=by omega
 have t2: ¬c4=32:=by omega
 have t3:(64:Int)≤(c4:Int):=by omega
 have hLl:Lst w3 3 (some a4) 32 (iv .i64 (bitL 32 (fe K (B/4294967296) (B%4294967296) 0).1)):=(hL4b.less (by omega)).ext (fun i hi=>ivx (half_left B i hi))
 have hLr:Lst w3 3 (some ⟨a4.block,a4.off+32,none⟩) 32 (iv .i64 (bitL 32 (fe K (B/4294967296) (B%4294967296) 0).2)):=(hL4b.cut 32 (by omega)).ext (fun i hi=>ivx (half_right B i hi))
 have HF:=hid (fun i=>fe_lt K (l:=B/4294967296) (r:=B%4294967296) (by omega) (by omega) i)
 clear hL4b
 go_wp2_with fail
 go_loopw [9,10,11] (fun vl vr vn wr=> ∃(n:Nat) (al:Addr) (cl:Nat) (ar:Addr) (cr:Nat),n≤16∧32≤cl∧32≤cr∧vl= .slice (some al) 32 cl∧vr= .slice (some ar) 32 cr∧vn= .int .i64 n∧Lst wr 3 (some al) 32 (iv .i64 (bitL 32 (fe K (B/4294967296) (B%4294967296) n).1))∧Lst wr 3 (some ar) 32 (iv .i64 (bitL 32 (fe K (B/4294967296) (B%4294967296) n).2))∧Lst wr 152 (some ak) 16 V∧Kys wr Bk 16 V∧Below w.heap.size w wr) (fun _ _ vn _=>16-(intOf vn).toNat)
 case atStart=>exact⟨0,a4,c4,⟨a4.block,a4.off+32,none⟩,c4-32,by omega,by omega,by omega,rfl,rfl,rfl,hLl,hLr,hLk3,hKk3,hB5⟩
 case round=>
  clear hLl hLr hLk3 hKk3 hB5 hak3 ha4
  obtain⟨n,al,cl,ar,cr,hn,hcl,hcr,rfl,rfl,rfl,hLl,hLr,hLk,hKk,hB⟩:=hrel
  rename World=>wo
  by_cases hlt:n<16
  ·obtain⟨An,cn,hV1,hcn,hLn⟩:=hKk n hlt
   obtain⟨Am,cm,hV2,hcm,hLm⟩:=hKk (15-n) (by omega)
   have KC1:Hid (wo.cell? (ak.add n)=some (.slice An 48 cn)):=hid ((hLk.at n hlt).trans (by rw[hV1]))
   have KC2:Hid (wo.cell? (ak.add (15-n))=some (.slice Am 48 cm)):=hid ((hLk.at (15-n) (by omega)).trans (by rw[hV2]))
   obtain⟨hxl,hxr⟩:=HF.out n
   have H1:Hid ((fe K (B/4294967296) (B%4294967296) (n+1)).1=(fe K (B/4294967296) (B%4294967296) n).2):=hid rfl
   have H2:Hid ((fe K (B/4294967296) (B%4294967296) (n+1)).2=(fe K (B/4294967296) (B%4294967296) n).1 ^^^ ff (fe K (B/4294967296) (B%4294967296) n).2 (K n)):=hid rfl
   have HKn:=hid (HK.out n hlt)
   generalize (fe K (B/4294967296) (B%4294967296) n).1=xl at*
   generalize (fe K (B/4294967296) (B%4294967296) n).2=xr at*
   go_wp2_with (first
    | (with_reducible refine wpl_sl1 rfl 188 _ _ rfl ak 16 ck rfl .i64 _ rfl n rfl 152 Tryz.underlying188 hlt iSI2 ?_)
    | (with_reducible refine wpl_lds rfl 152 _ rfl _ rfl 3 Tryz.underlying152 _ KC1.out ?_))
   refine(mix_any (some ar) An cr cn (bitL 32 xr) (bitL 48 (rkOf Bk (n))) (fun _ _=>bitL_lt _ _ _) (fun _ _=>bitL_lt _ _ _) _ hLr hLn).mono ?_
   rintro e w6 ⟨Af,cf,rfl,hcf,hLf0,hB6⟩
   have hLf:Lst w6 3 Af 32 (iv .i64 (bitL 32 (ff xr (K n)))):=hLf0.ext (fun i hi=>ivx ((mix_bitL xr _ i hxr hi).trans (by rw[HKn.out])))
   have hLl6:=hLl.below hB6 (Nat.le_refl _)
   have hLr6:=hLr.below hB6 (Nat.le_refl _)
   have hLk6:=hLk.below hB6 (Nat.le_refl _)
   have hKk6:=hKk.below hB6
   have hB7:=hB.trans (hB6.mono hB.size)
   clear hLf0 hLl hLr hLk hKk hB hB6 KC1 KC2 hLn hLm hV1 hV2
   obtain⟨af,rfl,haf⟩:=hLf.some
   generalize ff xr (K n)=xf at*
   have HLl6:=hid hLl6
   have HLf:=hid hLf
   go_wp2_with fail
   generalize Value.bool (decide ((n:Int)<16))=vb at*
   go_loopw [14,15] (fun vx vq wr=> ∃q:Nat,q≤32∧OwnV wr w6.heap.size 3 vx q (iv .i64 (bitL 32 (xl ^^^ xf)))∧vq= .int .i64 q∧Below w6.heap.size w6 wr) (fun _ vq _=>32-(intOf vq).toNat)
   case atStart=>exact⟨0,by omega,OwnV.nil _ _ _ _,rfl,Below.refl _ _⟩
   case round=>
    obtain⟨q,hq,ho6,rfl,hB6⟩:=hrel
    by_cases hlt2:q<32
    ·have C1:Hid (∀W,Below w6.heap.size wr W→W.cell? (al.add q)=some (.int .i64 ((bitL 32 xl q:Nat):Int))):=hid (fun W hW=>(HLl6.out.below (hB6.trans hW) (Nat.le_refl _)).at q hlt2)
     have C2:Hid (∀W,Below w6.heap.size wr W→W.cell? (af.add q)=some (.int .i64 ((bitL 32 xf q:Nat):Int))):=hid (fun W hW=>(HLf.out.below (hB6.trans hW) (Nat.le_refl _)).at q hlt2)
     have HX:Hid (bits .xor .i64 ((bitL 32 xl q:Nat):Int) ((bitL 32 xf q:Nat):Int)=((bitL 32 (xl ^^^ xf) q:Nat):Int)):=hid (by
      have p1:=bitL_lt 32 xl q
      have p2:=bitL_lt 32 xf q
      rw[i64_xor_nat _ _ (by omega) (by omega),bitL_xor])
     go_wp2_with fail
     refine wp_region_held_drew (S:=fun W=>Below w6.heap.size wr W) (by kernel_rfl) (Below.refl _ _).drew (fun hS0=>?_)
     refine ztk (i:=0) (v:=u14) rfl (fun _ _=>exec_move _ rfl _ rfl) hS0 ?_
     (try simp only[Act.put,zza,zzb,zzc,zzd,zze,zzf])
     refine ztk (i:=1) (v:= .slice (some al) 32 cl) rfl (fun _ _=>exec_move _ rfl _ rfl) hS0 ?_
     (try simp only[Act.put,zza,zzb,zzc,zzd,zze,zzf])
     refine ztk (i:=2) (v:= .int .i64 (q:Int)) rfl (fun _ _=>exec_move _ rfl _ rfl) hS0 ?_
     (try simp only[Act.put,zza,zzb,zzc,zzd,zze,zzf])
     refine ztk (i:=3) (v:= .pointer (some (al.add q))) rfl (fun _ _=>exec_sl1 152 _ _ rfl al 32 cl rfl .i64 _ rfl q rfl 3 Tryz.underlying152 hlt2 iI) hS0 ?_
     (try simp only[Act.put,zza,zzb,zzc,zzd,zze,zzf])
     refine ztk (i:=4) (v:= .int .i64 ((bitL 32 xl q:Nat):Int)) rfl (fun W hW=>exec_ld 3 _ rfl _ rfl .i64 Tryz.underlying3 _ (C1.out W hW)) hS0 ?_
     (try simp only[Act.put,zza,zzb,zzc,zzd,zze,zzf])
     refine ztk (i:=5) (v:= .slice (some af) 32 cf) rfl (fun _ _=>exec_move _ rfl _ rfl) hS0 ?_
     (try simp only[Act.put,zza,zzb,zzc,zzd,zze,zzf])
     refine ztk (i:=6) (v:= .int .i64 (q:Int)) rfl (fun _ _=>exec_move _ rfl _ rfl) hS0 ?_
     (try simp only[Act.put,zza,zzb,zzc,zzd,zze,zzf])
     refine ztk (i:=7) (v:= .pointer (some (af.add q))) rfl (fun _ _=>exec_sl1 152 _ _ rfl af 32 cf rfl .i64 _ rfl q rfl 3 Tryz.underlying152 hlt2 iI) hS0 ?_
     (try simp only[Act.put,zza,zzb,zzc,zzd,zze,zzf])
     refine ztk (i:=8) (v:= .int .i64 ((bitL 32 xf q:Nat):Int)) rfl (fun W hW=>exec_ld 3 _ rfl _ rfl .i64 Tryz.underlying3 _ (C2.out W hW)) hS0 ?_
     (try simp only[Act.put,zza,zzb,zzc,zzd,zze,zzf])
     refine ztk (i:=9) (v:= .int .i64 ((bitL 32 (xl ^^^ xf) q:Nat):Int)) rfl (fun _ _=>exec_xor _ _ _ _ rfl _ _ rfl rfl _ HX.out) hS0 ?_
     (try simp only[Act.put,zza,zzb,zzc,zzd,zze,zzf])
     refine wpAnyH_ready (rs:=[10]) (by kernel_rfl) (by simp) (AllReadyH.cons rfl (fun K hK=>?_) AllReadyH.nil)
     (try simp only[Act.put,zza,zzb,zzc,zzd,zze,zzf])
     refine Eq.mpr (if_pos (by rfl)) ?_
     refine wp_bs 152 _ rfl (.int .i64 ((bitL 32 (xl ^^^ xf) q:Nat):Int)) rfl #[.int .i64 ((bitL 32 (xl ^^^ xf) q:Nat):Int)] 3 (bs1 _ _) ?_
     (try simp only[Act.put,zza,zzb,zzc,zzd,zze,zzf])
     refine hK.out _ _ (hS0.alloc (Nat.le_trans hB6.size hS0.size) _) (fun hS1=>?_)
     (try simp only[Act.put,zza,zzb,zzc,zzd,zze,zzf])
     clear hK K
     refine wpAnyH_ready (rs:=[11]) (by kernel_rfl) (by simp) (AllReadyH.cons rfl (fun K hK=>?_) AllReadyH.nil)
     (try simp only[Act.put,zza,zzb,zzc,zzd,zze,zzf])
     refine Eq.mpr (if_pos (by rfl)) ?_
     have ho7:OwnV wr.drew w6.heap.size 3 u14 q (iv .i64 (bitL 32 (xl ^^^ xf))):=ho6
     have hnew:=new_one wr.drew (.int .i64 ((bitL 32 (xl ^^^ xf) q:Nat):Int)) 3
     refine wp_appV _ _ 152 rfl w6.heap.size 3 (.int .i64 0) 8 Tryz.underlying152 infoI rfl _ q _ rfl (ho7.alloc _) ⟨wr.heap.size,0,none⟩ 1 1 (fun _=> .int .i64 ((bitL 32 (xl ^^^ xf) q:Nat):Int)) hnew (fun _=>rfl) rfl (by omega) (by omega) (Nat.le_trans hB6.size hS1.size) ?_
     intro v' w1 ho1 hB1 _
     (try simp only[Act.put,zza,zzb,zzc,zzd,zze,zzf])
     refine hK.out _ _ (hS1.trans hB1) (fun hS2=>?_)
     (try simp only[Act.put,zza,zzb,zzc,zzd,zze,zzf])
     clear hK K
     refine ztk (i:=12) (v:=v') rfl (fun _ _=>exec_assign _ rfl _ rfl) hS2 ?_
     (try simp only[Act.put,zza,zzb,zzc,zzd,zze,zzf])
     refine wpAnyH_done (by kernel_rfl) ?_ _
     have ho2:=own_step ho1 rfl
     have hB2:=hB6.trans hS2
     clear ho1 hB1 hS0 hS1 hS2 ho6 ho7 hB6
     go_wp2_with fail
     exact⟨⟨q+1,by omega,ho2,val_int (by omega),hB2⟩,by simp[intOf];omega⟩
    have hq32:OwnV wr w6.heap.size 3 u14 32 (iv .i64 (bitL 32 (xl ^^^ xf))):=by
     have hq':q=32:=by omega
     rw[hq'] at ho6;exact ho6
    obtain⟨An',cn',rfl,hcn',hLn'⟩:=hq32.lst (by omega)
    obtain⟨an,rfl,han⟩:=hLn'.some
    have hLr8:=hLr6.below hB6 (Nat.le_refl _)
    have hLk8:=hLk6.below hB6 (Nat.le_refl _)
    have hKk8:=hKk6.below hB6
    have hB8:=hB7.trans (hB6.mono hB7.size)
    clear ho6 hB6 hq32
    go_wp2_with fail
    exact⟨⟨n+1,ar,cr,an,cn',by omega,hcr,hcn',rfl,rfl,val_int (by omega),by rw[H1.out];exact hLr8,by rw[H2.out];exact hLn',hLk8,hKk8,hB8⟩,by simp[intOf];omega⟩
  have Hn:Hid (n=16):=hid (by omega)
  have Hy:Hid (∀i,des f b false i=byt (up ip 64 ((fe K (B/4294967296) (B%4294967296) n).2*2^32+(fe K (B/4294967296) (B%4294967296) n).1) 64) i):=hid (fun i=>by rw[Hdes.out i,Hn.out];rfl)
  obtain⟨hxl,hxr⟩:=HF.out n
  clear Hdes hKk hLk
  generalize (fe K (B/4294967296) (B%4294967296) n).1=xl at*
  generalize (fe K (B/4294967296) (B%4294967296) n).2=xr at*
  go_wp2_with (at_builtin;refine wpl_appV rfl _ _ 152 rfl wo.heap.size 3 (.int .i64 0) 8 Tryz.underlying152 infoI rfl _ 0 (iv .i64 fun _=>0) rfl (OwnV.empty wo wo.heap.size 3 _ (Nat.le_refl _)) ar 32 cr (iv .i64 (bitL 32 xr)) (fun i hi=>(hLr.alloc _).at i hi) (fun _=>rfl) rfl (by omega) (by omega) (by simp) ?_)
  intro v5 w5 ho5 hB5 _
  have hBx:=((Below.refl wo.heap.size wo).alloc (Nat.le_refl _) (.cells #[] 3)).trans hB5
  have hLl5:=hLl.below hBx (Nat.le_refl _)
  clear hB5
  go_wp2_with (at_builtin;refine wpl_appV rfl _ _ 152 rfl wo.heap.size 3 (.int .i64 0) 8 Tryz.underlying152 infoI rfl _ (0+32) _ rfl ho5 al 32 cl (iv .i64 (bitL 32 xl)) (fun i hi=>hLl5.at i hi) (fun _=>rfl) rfl (by omega) (by omega) hBx.size ?_)
  intro v6 w6 ho6 hB6 _
  have hBy:=hBx.trans hB6
  have hBB:=hB.trans (hBy.mono hB.size)
  have ho64:OwnV w6 wo.heap.size 3 v6 64 (iv .i64 (bitL 64 (xr*2^32+xl))):=ho6.ext (fun i hi=>(join64 xr xl i hi).trans (ivx (half_join xr xl i hxl hi)))
  clear ho5 ho6 hB6 hBx hBy hLl5 hLl hLr hB
  generalize xr*2^32+xl=y at*
  rcases ho64.form with⟨_,h0⟩ | ⟨gb,capb,curb,rfl,_,hgb,hcapb,hbb,hcb⟩
  ·omega
  have hbb1:=hbb.alloc (.cells (row 64 (iv .i64 fun _=>0)) 3)
  have hbo:=Blk.fresh w6 3 (row 64 (iv .i64 fun _=>0))
  have hBo:=hBB.alloc hBB.size (.cells (row 64 (iv .i64 fun _=>0)) 3)
  have hwl:w.heap.size≤w6.heap.size:=hBB.size
  clear ho64 hbb hBB
  go_wp2_with (with_reducible refine wpl_mk rfl 152 _ _ rfl (.int .i64 64) (.int .i64 64) rfl rfl _ _ (mk64 _) ?_)
  generalize w6.alloc (.cells (row 64 (iv .i64 fun _=>0)) 3)=w7 at*
  generalize w6.heap.size=go at*
  have Hcb:=hid hcb
  clear hcb
  generalize Value.bool (decide ((n:Int)<16))=vb at*
  generalize Value.int .i64 (n:Int)=vn at*
  clear Hn hn hlt
  go_loopw [18] (fun vi wr=> ∃n:Nat,n≤64∧vi= .int .i64 n∧Blk wr go 3 (row 64 (iv .i64 (bitL 64 (up ip 64 y n))))∧Blk wr gb 3 curb∧Below w.heap.size w wr) (fun vi _=>64-(intOf vi).toNat)
  case atStart=>exact⟨0,by omega,rfl,by rw[iv_ext (g:=fun _=>0) (fun j _=>up_zero y j)];exact hbo,hbb1,hBo⟩
  case round=>
   clear hbo hbb1 hBo
   rename_i n0
   obtain⟨n,hn,rfl,hbo,hbb,hB⟩:=hrel
   by_cases hlt:n<64
   ·have hp:=ip_range n hlt
    have C1:Hid (∀W,Only go wr W→W.cell? ⟨gb,n,none⟩=some (.int .i64 ((bitL 64 y n:Nat):Int))):=hid (fun W hW=>((hW.blk hbb (by omega)).cell n).trans (Hcb.out n hlt))
    go_wp2_with fail
    refine wp_region_held_drew (S:=fun W=>Only go wr W) (by kernel_rfl) (Only.refl _ _).drew (fun hS0=>?_)
    refine ztk (i:=0) (v:= .slice (some ⟨go,0,none⟩) 64 64) rfl (fun _ _=>exec_move _ rfl _ rfl) hS0 ?_
    (try simp only[Act.put,zza,zzb,zzc,zzd,zze,zzf])
    refine ztk (i:=1) (v:= .int .i64 (n:Int)) rfl (fun _ _=>exec_move _ rfl _ rfl) hS0 ?_
    (try simp only[Act.put,zza,zzb,zzc,zzd,zze,zzf])
    refine ztk (i:=4) (v:= .slice (some ⟨gb,0,none⟩) 64 capb) rfl (fun _ _=>exec_move _ rfl _ rfl) hS0 ?_
    (try simp only[Act.put,zza,zzb,zzc,zzd,zze,zzf])
    refine ztk (i:=5) (v:= .int .i64 (n:Int)) rfl (fun _ _=>exec_move _ rfl _ rfl) hS0 ?_
    (try simp only[Act.put,zza,zzb,zzc,zzd,zze,zzf])
    refine ztk (i:=6) (v:= .pointer (some ⟨gb,n,none⟩)) rfl (fun _ _=>exec_sl01 152 _ _ rfl gb 64 capb rfl .i64 _ rfl n rfl 3 Tryz.underlying152 hlt iI) hS0 ?_
    (try simp only[Act.put,zza,zzb,zzc,zzd,zze,zzf])
    refine ztk (i:=7) (v:= .int .i64 ((bitL 64 y n:Nat):Int)) rfl (fun W hW=>exec_ld 3 _ rfl _ rfl .i64 Tryz.underlying3 _ (C1.out W hW)) hS0 ?_
    (try simp only[Act.put,zza,zzb,zzc,zzd,zze,zzf])
    refine wpAnyH_ready (rs:=[2]) (by kernel_rfl) (by simp) (AllReadyH.cons rfl (fun K hK=>?_) AllReadyH.nil)
    (try simp only[Act.put,zza,zzb,zzc,zzd,zze,zzf])
    refine Eq.mpr (if_pos (by rfl)) ?_
    go_simp
    refine(rplace_any _ 64 ip (by decide+kernel) n hlt (by omega) _).mono ?_
    rintro e wx ⟨rfl,q,rfl⟩
    refine hK.out _ _ (show Only go wr _ from hS0) (fun hS1=>?_)
    (try simp only[Act.put,zza,zzb,zzc,zzd,zze,zzf])
    clear hK K
    refine ztk (i:=3) (v:= .int .i64 (((ip n:Nat):Int)-1)) rfl (fun _ _=>exec_arith .sub (.inr (.inl rfl)) _ _ _ _ rfl ((ip n:Nat):Int) 1 rfl rfl _ rfl (by omega) (by omega)) hS1 ?_
    (try simp only[Act.put,zza,zzb,zzc,zzd,zze,zzf])
    refine ztk (i:=8) (v:= .pointer (some ⟨go,ip n-1,none⟩)) rfl (fun _ _=>exec_sl01 152 _ _ rfl go 64 64 rfl .i64 _ rfl (ip n-1) (by omega) 3 Tryz.underlying152 (by omega) iI) hS1 ?_
    (try simp only[Act.put,zza,zzb,zzc,zzd,zze,zzf])
    refine wpAnyH_ready (rs:=[9]) (by kernel_rfl) (by simp) (AllReadyH.cons rfl (fun K hK=>?_) AllReadyH.nil)
    (try simp only[Act.put,zza,zzb,zzc,zzd,zze,zzf])
    refine Eq.mpr (if_pos (by rfl)) ?_
    have hbx:Blk (wr.drew.drewN q) go 3 (row 64 (iv .i64 (bitL 64 (up ip 64 y n)))):=hbo
    have hip:ip n-1<64:=by omega
    refine wp_st 3 _ _ rfl ⟨go,ip n-1,none⟩ rfl .i64 ((bitL 64 y n:Nat):Int) rfl iI _ (hbx.vali (ip n-1) hip) (hbx.free _) ?_
    (try simp only[Act.put,zza,zzb,zzc,zzd,zze,zzf])
    refine hK.out _ _ (hS1.setCell _ _) (fun hS2=>?_)
    (try simp only[Act.put,zza,zzb,zzc,zzd,zze,zzf])
    clear hK K
    refine wpAnyH_done (by kernel_rfl) ?_ _
    have hb2:=hbx.puti (ip n-1) (bitL 64 y n)
    rw[iv_ext (fun j hj=>up_step y n j hlt hj)] at hb2
    have hb3:=hS2.blk hbb (by omega)
    have hB2:=hB.trans (hS2.below (B:=w.heap.size) (by omega))
    clear hS0 hS1 hS2 hbx hbo hbb hB
    generalize (wr.drew.drewN q).setCell ⟨go,ip n-1,none⟩ (.int .i64 ((bitL 64 y n:Nat):Int))=wz at*
    go_wp2_with fail
    exact⟨⟨n+1,by omega,val_int (by omega),hb2,hb3,hB2⟩,by simp[intOf];omega⟩
   go_wp2_with fail
   have hlo:Lst wr 3 (some ⟨go,0,none⟩) 64 (iv .i64 (bitL 64 (up ip 64 y 64))):=by
    have hn64:n=64:=by omega
    rw[hn64] at hbo;exact hbo.lst
   refine(bytes_N _ 64 _ (fun _=>bitL_lt _ _ _) _ hlo).mono ?_
   rintro e w9 ⟨A9,c9,rfl,hc9,hL9,hB9,hN9⟩
   have hL9b:Lst w9 5 A9 8 (iv .u8 (des f b false)):=hL9.ext (fun i hi=>by unfold iv;rw[Hy.out i,← b2_end _ i hi])
   go_wp2_with fail
   go_ret
   exact⟨A9,c9,rfl,hc9,hL9b,hB.trans (hB9.mono hB.size),fun ad h=>Nat.le_trans hB.size (hN9 ad h)⟩
set_option linter.unusedSimpArgs false in
set_option maxRecDepth 100000 in
set_option maxHeartbeats 8000000 in
theorem rblock_bwd (A1 A2:Option Addr) (c1 c2:Nat) (f b:Nat→Nat) (hf:By8 f) (hb:By8 b) (w:World) (hR1:Reads w w.heap.size A1 8 f) (hR2:Reads w w.heap.size A2 8 b):
  Calls Tryz.prog 116 #[.slice A1 8 c1, .slice A2 8 c2, .bool true] w fun e w'=> ∃A' c',e= .returned (.slice A' 8 c')∧8≤c'∧Lst w' 5 A' 8 (iv .u8 (des f b true))∧Below w.heap.size w w'∧(∀ad,A'=some ad→w.heap.size≤ad.block):=by
 have Hf:=hid hf
 have Hb:=hid hb
 clear hf hb
 go_enter Tryz.func116,Tryz.ntmps116
 go_wp2_with fail
 refine(keys_any A1 c1 f Hf.out _ hR1).mono ?_
 rintro e w1 ⟨Ak,ck,V,rfl,hLk,hKk,hB1⟩
 obtain⟨ak,rfl,hak⟩:=hLk.some
 have hR3:=(hR2.below hB1).more hB1.size
 clear hR1 hR2
 go_wp2_with fail
 refine(bits_any A2 8 c2 b (by omega) (by omega) Hb.out _ hR3).mono ?_
 rintro e w2 ⟨A3,c3,rfl,hc3,hL3,hB2⟩
 have hL3b:Lst w2 3 A3 64 (iv .i64 (bitL 64 (num b 8))):=hL3.ext (fun i hi=>ivx (bitL_bits Hb.out i hi))
 clear hL3 hR3
 go_wp2_with fail
 refine(permute_any _ 64 ip (by decide+kernel) A3 64 c3 _ (by omega) (by omega) ip_range _ hL3b).mono ?_
 rintro e w3 ⟨A4,c4,rfl,hc4,hL4,hB3⟩
 have hL4b:Lst w3 3 A4 64 (iv .i64 (bitL 64 (pk ip 64 (num b 8) 64))):=hL4.ext (fun i hi=>ivx (bitL_pk ip 64 _ 64 i hi (ip_range i hi)))
 have hLk3:=(hLk.below hB2 (Nat.le_refl _)).below hB3 (Nat.le_refl _)
 have hKk3:=(hKk.below hB2).below hB3
 have hB4:=(hB1.trans (hB2.mono hB1.size))
 have hB5:=hB4.trans (hB3.mono hB4.size)
 have hak3:ak.block<w3.heap.size:=by have:=hB2.size;have:=hB3.size;omega
 clear hL3b hL4 hLk hKk hB1 hB2 hB3 hB4 hc3 hak
 have hP:pk ip 64 (num b 8) 64<18446744073709551616:=pk_lt ip 64 (num b 8) 64
 obtain⟨B,HBe⟩: ∃B,Hid (pk ip 64 (num b 8) 64=B):=⟨_,hid rfl⟩
 rw[HBe.out] at hL4b hP
 obtain⟨Bk,HBk⟩: ∃Bk,Hid (pk pc1 64 (num f 8) 56=Bk):=⟨_,hid rfl⟩
 rw[HBk.out] at hKk3
 obtain⟨K,HK⟩: ∃K:Nat→Nat,Hid (∀i,i<16→K i=rkOf Bk (15-i)):=⟨fun i=>rkOf Bk (15-i),hid (fun _ _=>rfl)⟩
 have Hdes:Hid (∀i,des f b true i=byt (fin (fe K (B/4294967296) (B%4294967296) 16)) i):=hid (fun i=>by
  show byt (blk (kk f true) (num b 8)) i=_
  rw[blk_ext _ (fun j hj=>(show kk f true j=K j by rw[HK.out j hj,← HBk.out];rfl))]
  unfold blk
  rw[HBe.out])
 obtain⟨a4,rfl,ha4⟩:=hL4b.some
 have t1:(32:Int)≤(c4:Int):=by omega
 have t2: ¬c4=32:=by omega
 have t3:(64:Int)≤(c4:Int):=by omega
 have hLl:Lst w3 3 (some a4) 32 (iv .i64 (bitL 32 (fe K (B/4294967296) (B%4294967296) 0).1)):=(hL4b.less (by omega)).ext (fun i hi=>ivx (half_left B i hi))
 have hLr:Lst w3 3 (some ⟨a4.block,a4.off+32,none⟩) 32 (iv .i64 (bitL 32 (fe K (B/4294967296) (B%4294967296) 0).2)):=(hL4b.cut 32 (by omega)).ext (fun i hi=>ivx (half_right B i hi))
 have HF:=hid (fun i=>fe_lt K (l:=B/4294967296) (r:=B%4294967296) (by omega) (by omega) i)
 clear hL4b
 go_wp2_with fail
 go_loopw [9,10,11] (fun vl vr vn wr=> ∃(n:Nat) (al:Addr) (cl:Nat) (ar:Addr) (cr:Nat),n≤16∧32≤cl∧32≤cr∧vl= .slice (some al) 32 cl∧vr= .slice (some ar) 32 cr∧vn= .int .i64 n∧Lst wr 3 (some al) 32 (iv .i64 (bitL 32 (fe K (B/4294967296) (B%4294967296) n).1))∧Lst wr 3 (some ar) 32 (iv .i64 (bitL 32 (fe K (B/4294967296) (B%4294967296) n).2))∧Lst wr 152 (some ak) 16 V∧Kys wr Bk 16 V∧Below w.heap.size w wr) (fun _ _ vn _=>16-(intOf vn).toNat)
 case atStart=>exact⟨0,a4,c4,⟨a4.block,a4.off+32,none⟩,c4-32,by omega,by omega,by omega,rfl,rfl,rfl,hLl,hLr,hLk3,hKk3,hB5⟩
 case round=>
  clear hLl hLr hLk3 hKk3 hB5 hak3 ha4
  obtain⟨n,al,cl,ar,cr,hn,hcl,hcr,rfl,rfl,rfl,hLl,hLr,hLk,hKk,hB⟩:=hrel
  rename World=>wo
  by_cases hlt:n<16
  ·obtain⟨An,cn,hV1,hcn,hLn⟩:=hKk n hlt
   obtain⟨Am,cm,hV2,hcm,hLm⟩:=hKk (15-n) (by omega)
   have KC1:Hid (wo.cell? (ak.add n)=some (.slice An 48 cn)):=hid ((hLk.at n hlt).trans (by rw[hV1]))
   have KC2:Hid (wo.cell? (ak.add (15-n))=some (.slice Am 48 cm)):=hid ((hLk.at (15-n) (by omega)).trans (by rw[hV2]))
   obtain⟨hxl,hxr⟩:=HF.out n
   have H1:Hid ((fe K (B/4294967296) (B%4294967296) (n+1)).1=(fe K (B/4294967296) (B%4294967296) n).2):=hid rfl
   have H2:Hid ((fe K (B/4294967296) (B%4294967296) (n+1)).2=(fe K (B/4294967296) (B%4294967296) n).1 ^^^ ff (fe K (B/4294967296) (B%4294967296) n).2 (K n)):=hid rfl
   have HKn:=hid (HK.out n hlt)
   generalize (fe K (B/4294967296) (B%4294967296) n).1=xl at*
   generalize (fe K (B/4294967296) (B%4294967296) n).2=xr at*
   go_wp2_with (first
    | (with_reducible refine wpl_sl1 rfl 188 _ _ rfl ak 16 ck rfl .i64 _ rfl n rfl 152 Tryz.underlying188 hlt iSI2 ?_)
    | (with_reducible refine wpl_lds rfl 152 _ rfl _ rfl 3 Tryz.underlying152 _ KC1.out ?_)
    | (with_reducible refine wpl_sl1 rfl 188 _ _ rfl ak 16 ck rfl .i64 _ rfl (15-n) (by omega) 152 Tryz.underlying188 (by omega) iSI2 ?_)
    | (with_reducible refine wpl_lds rfl 152 _ rfl _ rfl 3 Tryz.underlying152 _ KC2.out ?_))
   refine(mix_any (some ar) Am cr cm (bitL 32 xr) (bitL 48 (rkOf Bk (15-n))) (fun _ _=>bitL_lt _ _ _) (fun _ _=>bitL_lt _ _ _) _ hLr hLm).mono ?_
   rintro e w6 ⟨Af,cf,rfl,hcf,hLf0,hB6⟩
   have hLf:Lst w6 3 Af 32 (iv .i64 (bitL 32 (ff xr (K n)))):=hLf0.ext (fun i hi=>ivx ((mix_bitL xr _ i hxr hi).trans (by rw[HKn.out])))
   have hLl6:=hLl.below hB6 (Nat.le_refl _)
   have hLr6:=hLr.below hB6 (Nat.le_refl _)
   have hLk6:=hLk.below hB6 (Nat.le_refl _)
   have hKk6:=hKk.below hB6
   have hB7:=hB.trans (hB6.mono hB.size)
   clear hLf0 hLl hLr hLk hKk hB hB6 KC1 KC2 hLn hLm hV1 hV2
   obtain⟨af,rfl,haf⟩:=hLf.some
   generalize ff xr (K n)=xf at*
   have HLl6:=hid hLl6
   have HLf:=hid hLf
   go_wp2_with fail
   generalize Value.bool (decide ((n:Int)<16))=vb at*
   go_loopw [14,15] (fun vx vq wr=> ∃q:Nat,q≤32∧OwnV wr w6.heap.size 3 vx q (iv .i64 (bitL 32 (xl ^^^ xf)))∧vq= .int .i64 q∧Below w6.heap.size w6 wr) (fun _ vq _=>32-(intOf vq).toNat)
   case atStart=>exact⟨0,by omega,OwnV.nil _ _ _ _,rfl,Below.refl _ _⟩
   case round=>
    obtain⟨q,hq,ho6,rfl,hB6⟩:=hrel
    by_cases hlt2:q<32
    ·have C1:Hid (∀W,Below w6.heap.size wr W→W.cell? (al.add q)=some (.int .i64 ((bitL 32 xl q:Nat):Int))):=hid (fun W hW=>(HLl6.out.below (hB6.trans hW) (Nat.le_refl _)).at q hlt2)
     have C2:Hid (∀W,Below w6.heap.size wr W→W.cell? (af.add q)=some (.int .i64 ((bitL 32 xf q:Nat):Int))):=hid (fun W hW=>(HLf.out.below (hB6.trans hW) (Nat.le_refl _)).at q hlt2)
     have HX:Hid (bits .xor .i64 ((bitL 32 xl q:Nat):Int) ((bitL 32 xf q:Nat):Int)=((bitL 32 (xl ^^^ xf) q:Nat):Int)):=hid (by
      have p1:=bitL_lt 32 xl q
      have p2:=bitL_lt 32 xf q
      rw[i64_xor_nat _ _ (by omega) (by omega),bitL_xor])
     go_wp2_with fail
     refine wp_region_held_drew (S:=fun W=>Below w6.heap.size wr W) (by kernel_rfl) (Below.refl _ _).drew (fun hS0=>?_)
     refine ztk (i:=0) (v:=u14) rfl (fun _ _=>exec_move _ rfl _ rfl) hS0 ?_
     (try simp only[Act.put,zza,zzb,zzc,zzd,zze,zzf])
     refine ztk (i:=1) (v:= .slice (some al) 32 cl) rfl (fun _ _=>exec_move _ rfl _ rfl) hS0 ?_
     (try simp only[Act.put,zza,zzb,zzc,zzd,zze,zzf])
     refine ztk (i:=2) (v:= .int .i64 (q:Int)) rfl (fun _ _=>exec_move _ rfl _ rfl) hS0 ?_
     (try simp only[Act.put,zza,zzb,zzc,zzd,zze,zzf])
     refine ztk (i:=3) (v:= .pointer (some (al.add q))) rfl (fun _ _=>exec_sl1 152 _ _ rfl al 32 cl rfl .i64 _ rfl q rfl 3 Tryz.underlying152 hlt2 iI) hS0 ?_
     (try simp only[Act.put,zza,zzb,zzc,zzd,zze,zzf])
     refine ztk (i:=4) (v:= .int .i64 ((bitL 32 xl q:Nat):Int)) rfl (fun W hW=>exec_ld 3 _ rfl _ rfl .i64 Tryz.underlying3 _ (C1.out W hW)) hS0 ?_
     (try simp only[Act.put,zza,zzb,zzc,zzd,zze,zzf])
     refine ztk (i:=5) (v:= .slice (some af) 32 cf) rfl (fun _ _=>exec_move _ rfl _ rfl) hS0 ?_
     (try simp only[Act.put,zza,zzb,zzc,zzd,zze,zzf])
     refine ztk (i:=6) (v:= .int .i64 (q:Int)) rfl (fun _ _=>exec_move _ rfl _ rfl) hS0 ?_
     (try simp only[Act.put,zza,zzb,zzc,zzd,zze,zzf])
     refine ztk (i:=7) (v:= .pointer (some (af.add q))) rfl (fun _ _=>exec_sl1 152 _ _ rfl af 32 cf rfl .i64 _ rfl q rfl 3 Tryz.underlying152 hlt2 iI) hS0 ?_
     (try simp only[Act.put,zza,zzb,zzc,zzd,zze,zzf])
     refine ztk (i:=8) (v:= .int .i64 ((bitL 32 xf q:Nat):Int)) rfl (fun W hW=>exec_ld 3 _ rfl _ rfl .i64 Tryz.underlying3 _ (C2.out W hW)) hS0 ?_
     (try simp only[Act.put,zza,zzb,zzc,zzd,zze,zzf])
     refine ztk (i:=9) (v:= .int .i64 ((bitL 32 (xl ^^^ xf) q:Nat):Int)) rfl (fun _ _=>exec_xor _ _ _ _ rfl _ _ rfl rfl _ HX.out) hS0 ?_
     (try simp only[Act.put,zza,zzb,zzc,zzd,zze,zzf])
     refine wpAnyH_ready (rs:=[10]) (by kernel_rfl) (by simp) (AllReadyH.cons rfl (fun K hK=>?_) AllReadyH.nil)
     (try simp only[Act.put,zza,zzb,zzc,zzd,zze,zzf])
     refine Eq.mpr (if_pos (by rfl)) ?_
     refine wp_bs 152 _ rfl (.int .i64 ((bitL 32 (xl ^^^ xf) q:Nat):Int)) rfl #[.int .i64 ((bitL 32 (xl ^^^ xf) q:Nat):Int)] 3 (bs1 _ _) ?_
     (try simp only[Act.put,zza,zzb,zzc,zzd,zze,zzf])
     refine hK.out _ _ (hS0.alloc (Nat.le_trans hB6.size hS0.size) _) (fun hS1=>?_)
     (try simp only[Act.put,zza,zzb,zzc,zzd,zze,zzf])
     clear hK K
     refine wpAnyH_ready (rs:=[11]) (by kernel_rfl) (by simp) (AllReadyH.cons rfl (fun K hK=>?_) AllReadyH.nil)
     (try simp only[Act.put,zza,zzb,zzc,zzd,zze,zzf])
     refine Eq.mpr (if_pos (by rfl)) ?_
     have ho7:OwnV wr.drew w6.heap.size 3 u14 q (iv .i64 (bitL 32 (xl ^^^ xf))):=ho6
     have hnew:=new_one wr.drew (.int .i64 ((bitL 32 (xl ^^^ xf) q:Nat):Int)) 3
     refine wp_appV _ _ 152 rfl w6.heap.size 3 (.int .i64 0) 8 Tryz.underlying152 infoI rfl _ q _ rfl (ho7.alloc _) ⟨wr.heap.size,0,none⟩ 1 1 (fun _=> .int .i64 ((bitL 32 (xl ^^^ xf) q:Nat):Int)) hnew (fun _=>rfl) rfl (by omega) (by omega) (Nat.le_trans hB6.size hS1.size) ?_
     intro v' w1 ho1 hB1 _
     (try simp only[Act.put,zza,zzb,zzc,zzd,zze,zzf])
     refine hK.out _ _ (hS1.trans hB1) (fun hS2=>?_)
     (try simp only[Act.put,zza,zzb,zzc,zzd,zze,zzf])
     clear hK K
     refine ztk (i:=12) (v:=v') rfl (fun _ _=>exec_assign _ rfl _ rfl) hS2 ?_
     (try simp only[Act.put,zza,zzb,zzc,zzd,zze,zzf])
     refine wpAnyH_done (by kernel_rfl) ?_ _
     have ho2:=own_step ho1 rfl
     have hB2:=hB6.trans hS2
     clear ho1 hB1 hS0 hS1 hS2 ho6 ho7 hB6
     go_wp2_with fail
     exact⟨⟨q+1,by omega,ho2,val_int (by omega),hB2⟩,by simp[intOf];omega⟩
    have hq32:OwnV wr w6.heap.size 3 u14 32 (iv .i64 (bitL 32 (xl ^^^ xf))):=by
     have hq':q=32:=by omega
     rw[hq'] at ho6;exact ho6
    obtain⟨An',cn',rfl,hcn',hLn'⟩:=hq32.lst (by omega)
    obtain⟨an,rfl,han⟩:=hLn'.some
    have hLr8:=hLr6.below hB6 (Nat.le_refl _)
    have hLk8:=hLk6.below hB6 (Nat.le_refl _)
    have hKk8:=hKk6.below hB6
    have hB8:=hB7.trans (hB6.mono hB7.size)
    clear ho6 hB6 hq32
    go_wp2_with fail
    exact⟨⟨n+1,ar,cr,an,cn',by omega,hcr,hcn',rfl,rfl,val_int (by omega),by rw[H1.out];exact hLr8,by rw[H2.out];exact hLn',hLk8,hKk8,hB8⟩,by simp[intOf];omega⟩
  have Hn:Hid (n=16):=hid (by omega)
  have Hy:Hid (∀i,des f b true i=byt (up ip 64 ((fe K (B/4294967296) (B%4294967296) n).2*2^32+(fe K (B/4294967296) (B%4294967296) n).1) 64) i):=hid (fun i=>by rw[Hdes.out i,Hn.out];rfl)
  obtain⟨hxl,hxr⟩:=HF.out n
  clear Hdes hKk hLk
  generalize (fe K (B/4294967296) (B%4294967296) n).1=xl at*
  generalize (fe K (B/4294967296) (B%4294967296) n).2=xr at*
  go_wp2_with (at_builtin;refine wpl_appV rfl _ _ 152 rfl wo.heap.size 3 (.int .i64 0) 8 Tryz.underlying152 infoI rfl _ 0 (iv .i64 fun _=>0) rfl (OwnV.empty wo wo.heap.size 3 _ (Nat.le_refl _)) ar 32 cr (iv .i64 (bitL 32 xr)) (fun i hi=>(hLr.alloc _).at i hi) (fun _=>rfl) rfl (by omega) (by omega) (by simp) ?_)
  intro v5 w5 ho5 hB5 _
  have hBx:=((Below.refl wo.heap.size wo).alloc (Nat.le_refl _) (.cells #[] 3)).trans hB5
  have hLl5:=hLl.below hBx (Nat.le_refl _)
  clear hB5
  go_wp2_with (at_builtin;refine wpl_appV rfl _ _ 152 rfl wo.heap.size 3 (.int .i64 0) 8 Tryz.underlying152 infoI rfl _ (0+32) _ rfl ho5 al 32 cl (iv .i64 (bitL 32 xl)) (fun i hi=>hLl5.at i hi) (fun _=>rfl) rfl (by omega) (by omega) hBx.size ?_)
  intro v6 w6 ho6 hB6 _
  have hBy:=hBx.trans hB6
  have hBB:=hB.trans (hBy.mono hB.size)
  have ho64:OwnV w6 wo.heap.size 3 v6 64 (iv .i64 (bitL 64 (xr*2^32+xl))):=ho6.ext (fun i hi=>(join64 xr xl i hi).trans (ivx (half_join xr xl i hxl hi)))
  clear ho5 ho6 hB6 hBx hBy hLl5 hLl hLr hB
  generalize xr*2^32+xl=y at*
  rcases ho64.form with⟨_,h0⟩ | ⟨gb,capb,curb,rfl,_,hgb,hcapb,hbb,hcb⟩
  ·omega
  have hbb1:=hbb.alloc (.cells (row 64 (iv .i64 fun _=>0)) 3)
  have hbo:=Blk.fresh w6 3 (row 64 (iv .i64 fun _=>0))
  have hBo:=hBB.alloc hBB.size (.cells (row 64 (iv .i64 fun _=>0)) 3)
  have hwl:w.heap.size≤w6.heap.size:=hBB.size
  clear ho64 hbb hBB
  go_wp2_with (with_reducible refine wpl_mk rfl 152 _ _ rfl (.int .i64 64) (.int .i64 64) rfl rfl _ _ (mk64 _) ?_)
  generalize w6.alloc (.cells (row 64 (iv .i64 fun _=>0)) 3)=w7 at*
  generalize w6.heap.size=go at*
  have Hcb:=hid hcb
  clear hcb
  generalize Value.bool (decide ((n:Int)<16))=vb at*
  generalize Value.int .i64 (n:Int)=vn at*
  clear Hn hn hlt
  go_loopw [18] (fun vi wr=> ∃n:Nat,n≤64∧vi= .int .i64 n∧Blk wr go 3 (row 64 (iv .i64 (bitL 64 (up ip 64 y n))))∧Blk wr gb 3 curb∧Below w.heap.size w wr) (fun vi _=>64-(intOf vi).toNat)
  case atStart=>exact⟨0,by omega,rfl,by rw[iv_ext (g:=fun _=>0) (fun j _=>up_zero y j)];exact hbo,hbb1,hBo⟩
  case round=>
   clear hbo hbb1 hBo
   rename_i n0
   obtain⟨n,hn,rfl,hbo,hbb,hB⟩:=hrel
   by_cases hlt:n<64
   ·have hp:=ip_range n hlt
    have C1:Hid (∀W,Only go wr W→W.cell? ⟨gb,n,none⟩=some (.int .i64 ((bitL 64 y n:Nat):Int))):=hid (fun W hW=>((hW.blk hbb (by omega)).cell n).trans (Hcb.out n hlt))
    go_wp2_with fail
    refine wp_region_held_drew (S:=fun W=>Only go wr W) (by kernel_rfl) (Only.refl _ _).drew (fun hS0=>?_)
    refine ztk (i:=0) (v:= .slice (some ⟨go,0,none⟩) 64 64) rfl (fun _ _=>exec_move _ rfl _ rfl) hS0 ?_
    (try simp only[Act.put,zza,zzb,zzc,zzd,zze,zzf])
    refine ztk (i:=1) (v:= .int .i64 (n:Int)) rfl (fun _ _=>exec_move _ rfl _ rfl) hS0 ?_
    (try simp only[Act.put,zza,zzb,zzc,zzd,zze,zzf])
    refine ztk (i:=4) (v:= .slice (some ⟨gb,0,none⟩) 64 capb) rfl (fun _ _=>exec_move _ rfl _ rfl) hS0 ?_
    (try simp only[Act.put,zza,zzb,zzc,zzd,zze,zzf])
    refine ztk (i:=5) (v:= .int .i64 (n:Int)) rfl (fun _ _=>exec_move _ rfl _ rfl) hS0 ?_
    (try simp only[Act.put,zza,zzb,zzc,zzd,zze,zzf])
    refine ztk (i:=6) (v:= .pointer (some ⟨gb,n,none⟩)) rfl (fun _ _=>exec_sl01 152 _ _ rfl gb 64 capb rfl .i64 _ rfl n rfl 3 Tryz.underlying152 hlt iI) hS0 ?_
    (try simp only[Act.put,zza,zzb,zzc,zzd,zze,zzf])
    refine ztk (i:=7) (v:= .int .i64 ((bitL 64 y n:Nat):Int)) rfl (fun W hW=>exec_ld 3 _ rfl _ rfl .i64 Tryz.underlying3 _ (C1.out W hW)) hS0 ?_
    (try simp only[Act.put,zza,zzb,zzc,zzd,zze,zzf])
    refine wpAnyH_ready (rs:=[2]) (by kernel_rfl) (by simp) (AllReadyH.cons rfl (fun K hK=>?_) AllReadyH.nil)
    (try simp only[Act.put,zza,zzb,zzc,zzd,zze,zzf])
    refine Eq.mpr (if_pos (by rfl)) ?_
    go_simp
    refine(rplace_any _ 64 ip (by decide+kernel) n hlt (by omega) _).mono ?_
    rintro e wx ⟨rfl,q,rfl⟩
    refine hK.out _ _ (show Only go wr _ from hS0) (fun hS1=>?_)
    (try simp only[Act.put,zza,zzb,zzc,zzd,zze,zzf])
    clear hK K
    refine ztk (i:=3) (v:= .int .i64 (((ip n:Nat):Int)-1)) rfl (fun _ _=>exec_arith .sub (.inr (.inl rfl)) _ _ _ _ rfl ((ip n:Nat):Int) 1 rfl rfl _ rfl (by omega) (by omega)) hS1 ?_
    (try simp only[Act.put,zza,zzb,zzc,zzd,zze,zzf])
    refine ztk (i:=8) (v:= .pointer (some ⟨go,ip n-1,none⟩)) rfl (fun _ _=>exec_sl01 152 _ _ rfl go 64 64 rfl .i64 _ rfl (ip n-1) (by omega) 3 Tryz.underlying152 (by omega) iI) hS1 ?_
    (try simp only[Act.put,zza,zzb,zzc,zzd,zze,zzf])
    refine wpAnyH_ready (rs:=[9]) (by kernel_rfl) (by simp) (AllReadyH.cons rfl (fun K hK=>?_) AllReadyH.nil)
    (try simp only[Act.put,zza,zzb,zzc,zzd,zze,zzf])
    refine Eq.mpr (if_pos (by rfl)) ?_
    have hbx:Blk (wr.drew.drewN q) go 3 (row 64 (iv .i64 (bitL 64 (up ip 64 y n)))):=hbo
    have hip:ip n-1<64:=by omega
    refine wp_st 3 _ _ rfl ⟨go,ip n-1,none⟩ rfl .i64 ((bitL 64 y n:Nat):Int) rfl iI _ (hbx.vali (ip n-1) hip) (hbx.free _) ?_
    (try simp only[Act.put,zza,zzb,zzc,zzd,zze,zzf])
    refine hK.out _ _ (hS1.setCell _ _) (fun hS2=>?_)
    (try simp only[Act.put,zza,zzb,zzc,zzd,zze,zzf])
    clear hK K
    refine wpAnyH_done (by kernel_rfl) ?_ _
    have hb2:=hbx.puti (ip n-1) (bitL 64 y n)
    rw[iv_ext (fun j hj=>up_step y n j hlt hj)] at hb2
    have hb3:=hS2.blk hbb (by omega)
    have hB2:=hB.trans (hS2.below (B:=w.heap.size) (by omega))
    clear hS0 hS1 hS2 hbx hbo hbb hB
    generalize (wr.drew.drewN q).setCell ⟨go,ip n-1,none⟩ (.int .i64 ((bitL 64 y n:Nat):Int))=wz at*
    go_wp2_with fail
    exact⟨⟨n+1,by omega,val_int (by omega),hb2,hb3,hB2⟩,by simp[intOf];omega⟩
   go_wp2_with fail
   have hlo:Lst wr 3 (some ⟨go,0,none⟩) 64 (iv .i64 (bitL 64 (up ip 64 y 64))):=by
    have hn64:n=64:=by omega
    rw[hn64] at hbo;exact hbo.lst
   refine(bytes_N _ 64 _ (fun _=>bitL_lt _ _ _) _ hlo).mono ?_
   rintro e w9 ⟨A9,c9,rfl,hc9,hL9,hB9,hN9⟩
   have hL9b:Lst w9 5 A9 8 (iv .u8 (des f b true)):=hL9.ext (fun i hi=>by unfold iv;rw[Hy.out i,← b2_end _ i hi])
   go_wp2_with fail
   go_ret
   exact⟨A9,c9,rfl,hc9,hL9b,hB.trans (hB9.mono hB.size),fun ad h=>Nat.le_trans hB.size (hN9 ad h)⟩
theorem rblock_N (A1 A2:Option Addr) (c1 c2:Nat) (f b:Nat→Nat) (back:Bool) (hf:By8 f) (hb:By8 b) (w:World) (hR1:Reads w w.heap.size A1 8 f) (hR2:Reads w w.heap.size A2 8 b):
  Calls Tryz.prog 116 #[.slice A1 8 c1, .slice A2 8 c2, .bool back] w fun e w'=> ∃A' c',e= .returned (.slice A' 8 c')∧8≤c'∧Lst w' 5 A' 8 (iv .u8 (des f b back))∧Below w.heap.size w w'∧(∀ad,A'=some ad→w.heap.size≤ad.block):=by
 cases back
 ·exact rblock_fwd A1 A2 c1 c2 f b hf hb w hR1 hR2
 exact rblock_bwd A1 A2 c1 c2 f b hf hb w hR1 hR2
theorem rblock_any (A1 A2:Option Addr) (c1 c2:Nat) (f b:Nat→Nat) (back:Bool) (hf:By8 f) (hb:By8 b) (w:World) (hR1:Reads w w.heap.size A1 8 f) (hR2:Reads w w.heap.size A2 8 b):
  Calls Tryz.prog 116 #[.slice A1 8 c1, .slice A2 8 c2, .bool back] w fun e w'=> ∃A' c',e= .returned (.slice A' 8 c')∧8≤c'∧Lst w' 5 A' 8 (iv .u8 (des f b back))∧Below w.heap.size w w':=
 (rblock_N A1 A2 c1 c2 f b back hf hb w hR1 hR2).mono fun _ _ ⟨A',c',h1,h2,h3,h4,_⟩=>⟨A',c',h1,h2,h3,h4⟩
end Go.Proofs.YtlmacfmfmjhidaaGreatDoor.Des
namespace Go.Proofs.YtlmacfmfmjhidaaGreatDoor.Des
open Go.ChangeShapes Go.WideShapes Go.ChangeAt Go.RowKit Mem
theorem Reads_off {w:World}{B n:Nat}{ad:Addr}{f:Nat→Nat} (h:Reads w B (some ad) n f) (k m:Nat) (hkm:(k+1)+m≤n):Reads w B (some ⟨ad.block,ad.off+(k+1),none⟩) m (fun i=>f ((k+1)+i)):=fun hm=>by
 obtain⟨a,he,hb,hc⟩:=h (by omega)
 injection he with he
 subst he
 exact⟨_,rfl,hb,fun i hi=>by rw[add_off,add_add];exact hc _ (by omega)⟩
theorem rtriple8 (A:Option Addr) (c:Nat) (A2:Option Addr) (c2:Nat) (f b:Nat→Nat) (back:Bool) (hf:By8 f) (hb:By8 b) (w:World) (hR1:Reads w w.heap.size A 8 f) (hR2:Reads w w.heap.size A2 8 b):
  Calls Tryz.prog 92 #[.slice A 8 c, .slice A2 8 c2, .bool back] w fun e w'=> ∃A' c',e= .returned (.slice A' 8 c')∧8≤c'∧Lst w' 5 A' 8 (iv .u8 (tdes 8 f b back))∧Below w.heap.size w w'∧(∀ad,A'=some ad→w.heap.size≤ad.block):=by
 have Hf:=hid hf
 have Hb:=hid hb
 clear hf hb
 go_enter Tryz.func92,Tryz.ntmps92
 go_wp2_with fail
 refine(rblock_N A A2 c c2 f b back Hf.out Hb.out _ hR1 hR2).mono ?_
 rintro e w1 ⟨A',c',rfl,hc',hL',hB',hN'⟩
 go_wp2_with fail
 go_ret
 exact⟨A',c',rfl,hc',by rw[tdes_one (k:=f) (fun j _ i _=>by unfold tkey;rw[if_pos rfl]) Hb.out];exact hL',hB',hN'⟩
set_option maxRecDepth 100000 in
theorem rtriple16false (A:Option Addr) (c:Nat) (hc:16≤c) (A2:Option Addr) (c2:Nat) (f b:Nat→Nat) (hf: ∀i,i<16→f i<256) (hb:By8 b) (w:World) (hR1:Reads w w.heap.size A 16 f) (hR2:Reads w w.heap.size A2 8 b):
  Calls Tryz.prog 92 #[.slice A 16 c, .slice A2 8 c2, .bool false] w fun e w'=> ∃A' c',e= .returned (.slice A' 8 c')∧8≤c'∧Lst w' 5 A' 8 (iv .u8 (tdes 16 f b false))∧Below w.heap.size w w'∧(∀ad,A'=some ad→w.heap.size≤ad.block):=by
 have Hb:=hid hb
 have hRx:=hR1
 obtain⟨ad,rfl,had,hcell⟩:=hR1 (by omega)
 have HRk0:=hid (hRx.less (show 8≤16 by omega))
 have HRk1:=hid (Reads_off hRx 7 8 (by omega))
 have Hb0:Hid (By8 f):=hid (fun i hi=>hf i (by omega))
 have Hb1:Hid (By8 fun i=>f (7+1+i)):=hid (fun i hi=>hf _ (by omega))
 have Hres:Hid (des f (des (fun i=>f (7+1+i)) (des f b false) true) false=tdes 16 f b false):=hid (by
  unfold tdes
  rw[des_ext (k:=f) (k':=tkey 16 f (if false=true then 2 else 0)) (b:=b) (b':=b) (fun i hi=>by simp only[tkey];simp;try(congr 1;omega)) (fun _ _=>rfl),des_ext (k:=(fun i=>f (7+1+i))) (k':=tkey 16 f 1) (fun i hi=>by simp only[tkey];simp;try(congr 1;omega)) (fun _ _=>rfl),des_ext (k:=f) (k':=tkey 16 f (if false=true then 0 else 2)) (fun i hi=>by simp only[tkey];simp;try(congr 1;omega)) (fun _ _=>rfl)]
  rfl)
 have t8:(8:Int)≤(c:Int):=by omega
 have t16:(16:Int)≤(c:Int):=by omega
 have t24: ¬c=8:=by omega
 clear hf hb hcell hRx
 go_enter Tryz.func92,Tryz.ntmps92
 go_wp2_with fail
 refine(rblock_any (some ad) A2 _ c2 f b false Hb0.out Hb.out _ HRk0.out hR2).mono ?_
 rintro e w1 ⟨A3,c3,rfl,hc3,hL3,hB3⟩
 have hRm:=(HRk1.out.below hB3).more hB3.size
 have hRl:=(HRk0.out.below hB3).more hB3.size
 go_wp2_with fail
 refine(rblock_any (some ⟨ad.block,ad.off+8,none⟩) A3 _ c3 (fun i=>f (7+1+i)) _ true Hb1.out (des_by _ _ _) _ hRm (Lst_reads hL3)).mono ?_
 rintro e w2 ⟨A4,c4,rfl,hc4,hL4,hB4⟩
 have hRl2:=(hRl.below hB4).more hB4.size
 have hB5:=hB3.trans (hB4.mono hB3.size)
 go_wp2_with fail
 refine(rblock_N (some ad) A4 _ c4 f _ false Hb0.out (des_by _ _ _) _ hRl2 (Lst_reads hL4)).mono ?_
 rintro e w3 ⟨A5,c5,rfl,hc5,hL5,hB6,hN6⟩
 go_wp2_with fail
 go_ret
 exact⟨A5,c5,rfl,hc5,by rw[← Hres.out];exact hL5,hB5.trans (hB6.mono hB5.size),fun ad h=>Nat.le_trans hB5.size (hN6 ad h)⟩
set_option maxRecDepth 100000 in
theorem rtriple16true (A:Option Addr) (c:Nat) (hc:16≤c) (A2:Option Addr) (c2:Nat) (f b:Nat→Nat) (hf: ∀i,i<16→f i<256) (hb:By8 b) (w:World) (hR1:Reads w w.heap.size A 16 f) (hR2:Reads w w.heap.size A2 8 b):
  Calls Tryz.prog 92 #[.slice A 16 c, .slice A2 8 c2, .bool true] w fun e w'=> ∃A' c',e= .returned (.slice A' 8 c')∧8≤c'∧Lst w' 5 A' 8 (iv .u8 (tdes 16 f b true))∧Below w.heap.size w w'∧(∀ad,A'=some ad→w.heap.size≤ad.block):=by
 have Hb:=hid hb
 have hRx:=hR1
 obtain⟨ad,rfl,had,hcell⟩:=hR1 (by omega)
 have HRk0:=hid (hRx.less (show 8≤16 by omega))
 have HRk1:=hid (Reads_off hRx 7 8 (by omega))
 have Hb0:Hid (By8 f):=hid (fun i hi=>hf i (by omega))
 have Hb1:Hid (By8 fun i=>f (7+1+i)):=hid (fun i hi=>hf _ (by omega))
 have Hres:Hid (des f (des (fun i=>f (7+1+i)) (des f b true) false) true=tdes 16 f b true):=hid (by
  unfold tdes
  rw[des_ext (k:=f) (k':=tkey 16 f (if true=true then 2 else 0)) (b:=b) (b':=b) (fun i hi=>by simp only[tkey];simp;try(congr 1;omega)) (fun _ _=>rfl),des_ext (k:=(fun i=>f (7+1+i))) (k':=tkey 16 f 1) (fun i hi=>by simp only[tkey];simp;try(congr 1;omega)) (fun _ _=>rfl),des_ext (k:=f) (k':=tkey 16 f (if true=true then 0 else 2)) (fun i hi=>by simp only[tkey];simp;try(congr 1;omega)) (fun _ _=>rfl)]
  rfl)
 have t8:(8:Int)≤(c:Int):=by omega
 have t16:(16:Int)≤(c:Int):=by omega
 have t24: ¬c=8:=by omega
 clear hf hb hcell hRx
 go_enter Tryz.func92,Tryz.ntmps92
 go_wp2_with fail
 refine(rblock_any (some ad) A2 _ c2 f b true Hb0.out Hb.out _ HRk0.out hR2).mono ?_
 rintro e w1 ⟨A3,c3,rfl,hc3,hL3,hB3⟩
 have hRm:=(HRk1.out.below hB3).more hB3.size
 have hRl:=(HRk0.out.below hB3).more hB3.size
 go_wp2_with fail
 refine(rblock_any (some ⟨ad.block,ad.off+8,none⟩) A3 _ c3 (fun i=>f (7+1+i)) _ false Hb1.out (des_by _ _ _) _ hRm (Lst_reads hL3)).mono ?_
 rintro e w2 ⟨A4,c4,rfl,hc4,hL4,hB4⟩
 have hRl2:=(hRl.below hB4).more hB4.size
 have hB5:=hB3.trans (hB4.mono hB3.size)
 go_wp2_with fail
 refine(rblock_N (some ad) A4 _ c4 f _ true Hb0.out (des_by _ _ _) _ hRl2 (Lst_reads hL4)).mono ?_
 rintro e w3 ⟨A5,c5,rfl,hc5,hL5,hB6,hN6⟩
 go_wp2_with fail
 go_ret
 exact⟨A5,c5,rfl,hc5,by rw[← Hres.out];exact hL5,hB5.trans (hB6.mono hB5.size),fun ad h=>Nat.le_trans hB5.size (hN6 ad h)⟩
set_option maxRecDepth 100000 in
theorem rtriple24false (A:Option Addr) (c:Nat) (hc:24≤c) (A2:Option Addr) (c2:Nat) (f b:Nat→Nat) (hf: ∀i,i<24→f i<256) (hb:By8 b) (w:World) (hR1:Reads w w.heap.size A 24 f) (hR2:Reads w w.heap.size A2 8 b):
  Calls Tryz.prog 92 #[.slice A 24 c, .slice A2 8 c2, .bool false] w fun e w'=> ∃A' c',e= .returned (.slice A' 8 c')∧8≤c'∧Lst w' 5 A' 8 (iv .u8 (tdes 24 f b false))∧Below w.heap.size w w'∧(∀ad,A'=some ad→w.heap.size≤ad.block):=by
 have Hb:=hid hb
 have hRx:=hR1
 obtain⟨ad,rfl,had,hcell⟩:=hR1 (by omega)
 have HRk0:=hid (hRx.less (show 8≤24 by omega))
 have HRk1:=hid (Reads_off hRx 7 8 (by omega))
 have HRk2:=hid (Reads_off hRx 15 8 (by omega))
 have Hb0:Hid (By8 f):=hid (fun i hi=>hf i (by omega))
 have Hb1:Hid (By8 fun i=>f (7+1+i)):=hid (fun i hi=>hf _ (by omega))
 have Hb2:Hid (By8 fun i=>f (15+1+i)):=hid (fun i hi=>hf _ (by omega))
 have Hres:Hid (des (fun i=>f (15+1+i)) (des (fun i=>f (7+1+i)) (des f b false) true) false=tdes 24 f b false):=hid (by
  unfold tdes
  rw[des_ext (k:=f) (k':=tkey 24 f (if false=true then 2 else 0)) (b:=b) (b':=b) (fun i hi=>by simp only[tkey];simp;try(congr 1;omega)) (fun _ _=>rfl),des_ext (k:=(fun i=>f (7+1+i))) (k':=tkey 24 f 1) (fun i hi=>by simp only[tkey];simp;try(congr 1;omega)) (fun _ _=>rfl),des_ext (k:=(fun i=>f (15+1+i))) (k':=tkey 24 f (if false=true then 0 else 2)) (fun i hi=>by simp only[tkey];simp;try(congr 1;omega)) (fun _ _=>rfl)]
  rfl)
 have t8:(8:Int)≤(c:Int):=by omega
 have t16:(16:Int)≤(c:Int):=by omega
 have t24: ¬c=8:=by omega
 have t24b:(24:Int)≤(c:Int):=by omega
 have t16b: ¬c=16:=by omega
 clear hf hb hcell hRx
 go_enter Tryz.func92,Tryz.ntmps92
 go_wp2_with fail
 refine(rblock_any (some ad) A2 _ c2 f b false Hb0.out Hb.out _ HRk0.out hR2).mono ?_
 rintro e w1 ⟨A3,c3,rfl,hc3,hL3,hB3⟩
 have hRm:=(HRk1.out.below hB3).more hB3.size
 have hRl:=(HRk2.out.below hB3).more hB3.size
 go_wp2_with fail
 refine(rblock_any (some ⟨ad.block,ad.off+8,none⟩) A3 _ c3 (fun i=>f (7+1+i)) _ true Hb1.out (des_by _ _ _) _ hRm (Lst_reads hL3)).mono ?_
 rintro e w2 ⟨A4,c4,rfl,hc4,hL4,hB4⟩
 have hRl2:=(hRl.below hB4).more hB4.size
 have hB5:=hB3.trans (hB4.mono hB3.size)
 go_wp2_with fail
 refine(rblock_N (some ⟨ad.block,ad.off+16,none⟩) A4 _ c4 (fun i=>f (15+1+i)) _ false Hb2.out (des_by _ _ _) _ hRl2 (Lst_reads hL4)).mono ?_
 rintro e w3 ⟨A5,c5,rfl,hc5,hL5,hB6,hN6⟩
 go_wp2_with fail
 go_ret
 exact⟨A5,c5,rfl,hc5,by rw[← Hres.out];exact hL5,hB5.trans (hB6.mono hB5.size),fun ad h=>Nat.le_trans hB5.size (hN6 ad h)⟩
set_option maxRecDepth 100000 in
theorem rtriple24true (A:Option Addr) (c:Nat) (hc:24≤c) (A2:Option Addr) (c2:Nat) (f b:Nat→Nat) (hf: ∀i,i<24→f i<256) (hb:By8 b) (w:World) (hR1:Reads w w.heap.size A 24 f) (hR2:Reads w w.heap.size A2 8 b):
  Calls Tryz.prog 92 #[.slice A 24 c, .slice A2 8 c2, .bool true] w fun e w'=> ∃A' c',e= .returned (.slice A' 8 c')∧8≤c'∧Lst w' 5 A' 8 (iv .u8 (tdes 24 f b true))∧Below w.heap.size w w'∧(∀ad,A'=some ad→w.heap.size≤ad.block):=by
 have Hb:=hid hb
 have hRx:=hR1
 obtain⟨ad,rfl,had,hcell⟩:=hR1 (by omega)
 have HRk0:=hid (hRx.less (show 8≤24 by omega))
 have HRk1:=hid (Reads_off hRx 7 8 (by omega))
 have HRk2:=hid (Reads_off hRx 15 8 (by omega))
 have Hb0:Hid (By8 f):=hid (fun i hi=>hf i (by omega))
 have Hb1:Hid (By8 fun i=>f (7+1+i)):=hid (fun i hi=>hf _ (by omega))
 have Hb2:Hid (By8 fun i=>f (15+1+i)):=hid (fun i hi=>hf _ (by omega))
 have Hres:Hid (des f (des (fun i=>f (7+1+i)) (des (fun i=>f (15+1+i)) b true) false) true=tdes 24 f b true):=hid (by
  unfold tdes
  rw[des_ext (k:=(fun i=>f (15+1+i))) (k':=tkey 24 f (if true=true then 2 else 0)) (b:=b) (b':=b) (fun i hi=>by simp only[tkey];simp;try(congr 1;omega)) (fun _ _=>rfl),des_ext (k:=(fun i=>f (7+1+i))) (k':=tkey 24 f 1) (fun i hi=>by simp only[tkey];simp;try(congr 1;omega)) (fun _ _=>rfl),des_ext (k:=f) (k':=tkey 24 f (if true=true then 0 else 2)) (fun i hi=>by simp only[tkey];simp;try(congr 1;omega)) (fun _ _=>rfl)]
  rfl)
 have t8:(8:Int)≤(c:Int):=by omega
 have t16:(16:Int)≤(c:Int):=by omega
 have t24: ¬c=8:=by omega
 have t24b:(24:Int)≤(c:Int):=by omega
 have t16b: ¬c=16:=by omega
 clear hf hb hcell hRx
 go_enter Tryz.func92,Tryz.ntmps92
 go_wp2_with fail
 refine(rblock_any (some ⟨ad.block,ad.off+16,none⟩) A2 _ c2 (fun i=>f (15+1+i)) b true Hb2.out Hb.out _ HRk2.out hR2).mono ?_
 rintro e w1 ⟨A3,c3,rfl,hc3,hL3,hB3⟩
 have hRm:=(HRk1.out.below hB3).more hB3.size
 have hRl:=(HRk0.out.below hB3).more hB3.size
 go_wp2_with fail
 refine(rblock_any (some ⟨ad.block,ad.off+8,none⟩) A3 _ c3 (fun i=>f (7+1+i)) _ false Hb1.out (des_by _ _ _) _ hRm (Lst_reads hL3)).mono ?_
 rintro e w2 ⟨A4,c4,rfl,hc4,hL4,hB4⟩
 have hRl2:=(hRl.below hB4).more hB4.size
 have hB5:=hB3.trans (hB4.mono hB3.size)
 go_wp2_with fail
 refine(rblock_N (some ad) A4 _ c4 f _ true Hb0.out (des_by _ _ _) _ hRl2 (Lst_reads hL4)).mono ?_
 rintro e w3 ⟨A5,c5,rfl,hc5,hL5,hB6,hN6⟩
 go_wp2_with fail
 go_ret
 exact⟨A5,c5,rfl,hc5,by rw[← Hres.out];exact hL5,hB5.trans (hB6.mono hB5.size),fun ad h=>Nat.le_trans hB5.size (hN6 ad h)⟩
theorem rtriple_N (A:Option Addr) (L c:Nat) (hL:IsTKey L) (hc:L≤c) (A2:Option Addr) (c2:Nat) (f b:Nat→Nat) (back:Bool) (hf: ∀i,i<L→f i<256) (hb:By8 b) (w:World) (hR1:Reads w w.heap.size A L f) (hR2:Reads w w.heap.size A2 8 b):
  Calls Tryz.prog 92 #[.slice A L c, .slice A2 8 c2, .bool back] w fun e w'=> ∃A' c',e= .returned (.slice A' 8 c')∧8≤c'∧Lst w' 5 A' 8 (iv .u8 (tdes L f b back))∧Below w.heap.size w w'∧(∀ad,A'=some ad→w.heap.size≤ad.block):=by
 rcases hL with rfl | rfl | rfl
 ·exact rtriple8 A c A2 c2 f b back hf hb w hR1 hR2
 ·cases back
  ·exact rtriple16false A c hc A2 c2 f b hf hb w hR1 hR2
  exact rtriple16true A c hc A2 c2 f b hf hb w hR1 hR2
 cases back
 ·exact rtriple24false A c hc A2 c2 f b hf hb w hR1 hR2
 exact rtriple24true A c hc A2 c2 f b hf hb w hR1 hR2
end Go.Proofs.YtlmacfmfmjhidaaGreatDoor.Des
