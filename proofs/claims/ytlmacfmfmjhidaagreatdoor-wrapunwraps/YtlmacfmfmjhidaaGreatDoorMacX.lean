/-
 MacMath Mac1 Mac2
-/
import Derived.Test.YtlmacfmfmjhidaaGreatDoorModeX
import Derived.Deep.RegionWith
namespace Go.Proofs.YtlmacfmfmjhidaaGreatDoor.Mc
open Mem Bk Md Go.ChangeShapes Go.WideShapes Go.ChangeAt Go.RowKit
def padF (L:Nat) (f:Nat→Nat):Nat→Nat:=fun i=>if i<L then f i else if i=L then 128 else 0
theorem padF_lt {L:Nat}{f:Nat→Nat} (hf: ∀i,i<L→f i<256) (i:Nat):padF L f i<256:=by
 unfold padF
 split
 ·exact hf i (by assumption)
 split<;>omega
def padN (L n:Nat):Nat:=(L/n+1)*n
theorem padN_gt {L n:Nat} (hn:0<n):L<padN L n:=by
 unfold padN
 have:=Nat.div_add_mod L n
 have h2:=Nat.mod_lt L hn
 rw[Nat.add_mul,Nat.one_mul,Nat.mul_comm]
 omega
theorem padN_le {L n:Nat}:padN L n≤L+n:=by
 unfold padN
 have:=Nat.div_mul_le_self L n
 rw[Nat.add_mul,Nat.one_mul]
 omega
def sh (n:Nat) (f:Nat→Nat):Nat→Nat:=fun i=>(f i*2%256) ||| (if i+1<n then f (i+1)/128 else 0)
def en (n:Nat):Nat:=if n=8 then 27 else 135
def dbl (n:Nat) (f:Nat→Nat):Nat→Nat:=fun i=>if f 0/128=1∧i+1=n then sh n f i ^^^ en n else sh n f i
theorem or_by: ∀a,a<256→∀b,b<2→(a*2%256) ||| b<256:=by decide+kernel
theorem sh_lt {n:Nat}{f:Nat→Nat} (hf: ∀i,i<n→f i<256): ∀i,i<n→sh n f i<256:=fun i hi=>by
 unfold sh
 split
 ·have:=hf (i+1) (by omega)
  exact or_by _ (hf i hi) _ (by omega)
 exact or_by _ (hf i hi) _ (by omega)
theorem en_lt (n:Nat):en n<256:=by unfold en;split<;>omega
theorem dbl_lt {n:Nat}{f:Nat→Nat} (hf: ∀i,i<n→f i<256): ∀i,i<n→dbl n f i<256:=fun i hi=>by
 unfold dbl
 split
 ·exact Nat.xor_lt_two_pow (n:=8) (sh_lt hf i hi) (en_lt n)
 exact sh_lt hf i hi
end Go.Proofs.YtlmacfmfmjhidaaGreatDoor.Mc
namespace Go.Proofs.YtlmacfmfmjhidaaGreatDoor.Mc
open Mem Bk Md Go.ChangeShapes Go.WideShapes Go.ChangeAt Go.RowKit
section
variable {P:Program}{o:Oper}{a:Act}{w:World}
theorem exec_quoN (t:TypeId) (x y:Operand) (rt:TypeId) (ho:o.op= .binOp .quo t x y rt) (p q r:Int) (hx:a.eval x= .int .i64 p) (hy:a.eval y= .int .i64 q) (h:0≤p∧0<q∧p/q=r∧0≤r∧r≤100000):(execOp a.eval o).run P w= .ok (.value (.int .i64 r)) w:=by
 obtain⟨hp,hq,hr,hr0,hr1⟩:=h
 have hm:p.tdiv q=r:=by rw[Int.tdiv_eq_ediv_of_nonneg hp,hr]
 have hw:IntKind.i64.wrap r=r:=wrap_i64 r r rfl (by clear hm hr;omega) (by clear hm hr;omega)
 have hq0: ¬q=0:=by clear hm hr;omega
 unfold execOp
 simp[ho,hx,hy,eqGuard,binOp,Op.intDiv,hm,hq0,hw]
theorem exec_remN (t:TypeId) (x y:Operand) (rt:TypeId) (ho:o.op= .binOp .rem t x y rt) (p q r:Int) (hx:a.eval x= .int .i64 p) (hy:a.eval y= .int .i64 q) (h:0≤p∧0<q∧p%q=r):(execOp a.eval o).run P w= .ok (.value (.int .i64 r)) w:=by
 obtain⟨hp,hq,hr⟩:=h
 have hm:p.tmod q=r:=by rw[Int.tmod_eq_emod_of_nonneg hp,hr]
 have hq0: ¬q=0:=by clear hm hr;omega
 unfold execOp
 simp[ho,hx,hy,eqGuard,binOp,Op.intDiv,hm,hq0]
theorem exec_mulN (t:TypeId) (x y:Operand) (rt:TypeId) (ho:o.op= .binOp .mul t x y rt) (p q r:Int) (hx:a.eval x= .int .i64 p) (hy:a.eval y= .int .i64 q) (h:p*q=r∧0≤r∧r≤100000):(execOp a.eval o).run P w= .ok (.value (.int .i64 r)) w:=
 exec_arith .mul (.inr (.inr rfl)) t x y rt ho p q hx hy r h.1 (by have:=h.2;omega) (by have:=h.2;omega)
end
theorem quo_n {a n r:Nat} (hn:0<n) (h:r=a/n) (hr:r≤100000):(0:Int)≤(a:Int)∧(0:Int)< (n:Int)∧(a:Int)/(n:Int)=(r:Int)∧(0:Int)≤(r:Int)∧(r:Int)≤100000:=
 ⟨Int.natCast_nonneg _,Int.natCast_pos.2 hn,by rw[h];exact(Int.natCast_ediv a n).symm,Int.natCast_nonneg _,Int.ofNat_le.2 hr⟩
theorem mul_n {a n r:Nat} (h:r=(a+1)*n) (hr:r≤100000):((a:Int)+1)*(n:Int)=(r:Int)∧(0:Int)≤(r:Int)∧(r:Int)≤100000:=
 ⟨by rw[h];exact(Int.natCast_mul (a+1) n).symm,Int.natCast_nonneg _,Int.ofNat_le.2 hr⟩
theorem rem_n {u N K:Nat} (hN:0<N) (h:K=u%N):(0:Int)≤(u:Int)∧(0:Int)< (N:Int)∧(u:Int)%(N:Int)=(K:Int):=
 ⟨Int.natCast_nonneg _,Int.natCast_pos.2 hN,by rw[h];exact(Int.natCast_emod u N).symm⟩
set_option maxRecDepth 100000 in
set_option maxHeartbeats 1000000 in
theorem pad_any (A:Option Addr) (L c:Nat) (f:Nat→Nat) (n M:Nat) (w:World) (hL:L≤1000) (hn:1≤n) (hn':n≤64) (hM:M=padN L n) (hA:A=none→L=0∧c=0) (hR:Reads w w.heap.size A L f):
  Calls Tryz.prog 133 #[.slice A L c, .int .i64 (n:Int)] w fun e w'=>e= .returned (.slice (some ⟨w.heap.size,0,none⟩) M M)∧Blk w' w.heap.size 5 (row M (b8 (padF L f)))∧Below w.heap.size w w':=by
 have h1I: ¬(n:Int)<1:=by omega
 have h2I: ¬(n:Int)>64:=by omega
 obtain⟨q,hq⟩: ∃q,q=L/n:=⟨_,rfl⟩
 have hqL:q≤L:=by rw[hq];exact Nat.div_le_self _ _
 have hLM:L<M:=by rw[hM];exact padN_gt hn
 have hML:M≤L+n:=by rw[hM];exact padN_le
 have hM':M=(q+1)*n:=by rw[hM,hq];rfl
 have HF1:=hid (quo_n (a:=L) hn hq (by omega))
 have HF2:=hid (mul_n hM' (by omega))
 have hMs:M≤2000:=by omega
 have hB0:Below w.heap.size w (w.alloc (.cells (row M (b8 fun _=>0)) 5)):=(Below.refl _ _).alloc (Nat.le_refl _) _
 have HR0:=hid (hR.below hB0)
 have hb0:=Blk.fresh w 5 (row M (b8 fun _=>0))
 have HB0:=hid hB0
 clear hM hM' hq hR hB0
 rcases Nat.eq_zero_or_pos L with hz | hp
 ·subst hz
  go_enter Tryz.func133,Tryz.ntmps133
  go_wp2_with (first
   | (with_reducible refine wpl_val rfl _ (exec_quoN _ _ _ _ rfl _ _ _ rfl rfl HF1.out) ?_)
   | (with_reducible refine wpl_val rfl _ (exec_mulN _ _ _ _ rfl _ _ _ rfl rfl HF2.out) ?_)
   | (with_reducible refine wpl_make rfl 22 5 _ _ rfl Tryz.underlying22 info8 _ _ _ _ rfl rfl M rfl rfl (by omega) ?_)
   | (with_reducible refine wpList_copy_nothing rfl _ _ 22 22 rfl 5 Tryz.underlying22 i8q _ _ _ _ _ _ rfl rfl (Nat.zero_min _) ?_)
   | (with_reducible refine wpl_slb rfl 22 _ _ rfl w.heap.size M M rfl .i64 _ rfl 0 rfl 5 Tryz.underlying22 hLM i8q ?_)
   | (with_reducible refine wpl_st rfl 5 _ _ rfl _ rfl .u8 _ rfl i8q _ (hb0.val 0 hLM) (hb0.free 0) ?_))
  go_ret
  have e:(row M (b8 fun _=>0)).setIfInBounds 0 (Value.int IntKind.u8 128)=row M (b8 (padF 0 f)):=by
   rw[row_set]
   refine row_ext fun i hi=>?_
   unfold upd padF b8
   by_cases h1:i=0
   ·subst h1;simp
   simp[h1]
  rw[e]
  exact⟨rfl,Blk.fresh _ _ _,(Below.refl _ _).alloc (Nat.le_refl _) _⟩
 have hb1:Blk ((w.alloc (.cells (row M (b8 fun _=>0)) 5)).setRow w.heap.size (row M (b8 fun i=>if i<L then f i else 0))) w.heap.size 5 (row M (b8 fun i=>if i<L then f i else 0)):=hb0.setRow _
 have hB1:Below w.heap.size w ((w.alloc (.cells (row M (b8 fun _=>0)) 5)).setRow w.heap.size (row M (b8 fun i=>if i<L then f i else 0))):=below_setRow' HB0.out (Nat.le_refl _) _
 go_enter Tryz.func133,Tryz.ntmps133
 go_wp2_with (first
  | (with_reducible refine wpl_val rfl _ (exec_quoN _ _ _ _ rfl _ _ _ rfl rfl HF1.out) ?_)
  | (with_reducible refine wpl_val rfl _ (exec_mulN _ _ _ _ rfl _ _ _ rfl rfl HF2.out) ?_)
  | (with_reducible refine wpl_make rfl 22 5 _ _ rfl Tryz.underlying22 info8 _ _ _ _ rfl rfl M rfl rfl (by omega) ?_)
  | (with_reducible refine wpl_copy rfl _ _ 22 22 rfl 5 Tryz.underlying22 i8q w.heap.size M M A L c rfl rfl 5 _ f hb0 _ HR0.out hp (Nat.le_of_lt hLM) ?_)
  | (with_reducible refine wpl_slb rfl 22 _ _ rfl w.heap.size M M rfl .i64 _ rfl L rfl 5 Tryz.underlying22 hLM i8q ?_)
  | (with_reducible refine wpl_st rfl 5 _ _ rfl _ rfl .u8 _ rfl i8q _ (hb1.val L hLM) (hb1.free L) ?_))
 go_ret
 refine⟨rfl,?_,hB1.setCell (by simp) _⟩
 have h:=hb1.put L 128
 have e:row M (b8 (upd (fun i=>if i<L then f i else 0) L 128))=row M (b8 (padF L f)):=row_b8_ext fun i hi=>by
  unfold upd padF
  by_cases h1:i=L
  ·subst h1;simp
  simp[h1]
 rw[e] at h
 exact h
set_option maxRecDepth 100000 in
theorem endOf_any (n:Nat) (w:World):Calls Tryz.prog 134 #[.int .i64 (n:Int)] w fun e w'=>e= .returned (.int .u8 ((en n:Nat):Int))∧w=w':=by
 by_cases h:n=8
 ·have he:((n:Int) == 8)=true:=by simp;omega
  have hn:en n=27:=by unfold en;rw[if_pos h]
  rw[hn]
  clear h hn
  go_enter Tryz.func134,Tryz.ntmps134
  go_wp2_with fail
  go_ret
  exact⟨rfl,rfl⟩
 have he:((n:Int) == 8)=false:=by simp;omega
 have hn:en n=135:=by unfold en;rw[if_neg h]
 rw[hn]
 clear h hn
 go_enter Tryz.func134,Tryz.ntmps134
 go_wp2_with fail
 go_ret
 exact⟨rfl,rfl⟩
theorem endOf_still (n:Nat) (w:World):Calls Tryz.prog 134 #[.int .i64 (n:Int)] w fun e w'=>e= .returned (.int .u8 ((en n:Nat):Int))∧w'=w:=(endOf_any n w).mono fun _ _ ⟨h1,h2⟩=>⟨h1,h2.symm⟩
theorem shl1 (x b:Nat) (hb:b≤1):bits .or .u8 ((x:Int)*2%256) (b:Int)=(((x*2%256) ||| b:Nat):Int):=by
 have e:(x:Int)*2%256=((x*2%256:Nat):Int):=by omega
 rw[e,u8_or_nat _ _ (by omega) (by omega)]
set_option maxRecDepth 100000 in
set_option maxHeartbeats 1000000 in
theorem doubled_any (ad:Addr) (n c:Nat) (f:Nat→Nat) (w:World) (hn:1≤n) (hn':n≤1000) (hf: ∀i,i<n→f i<256) (hR:Reads w w.heap.size (some ad) n f):
  Calls Tryz.prog 110 #[.slice (some ad) n c] w fun e w'=>e= .returned (.slice (some ⟨w.heap.size,0,none⟩) n n)∧Blk w' w.heap.size 5 (row n (b8 (dbl n f)))∧Below w.heap.size w w':=by
 obtain⟨ad',h',hbl,hcs⟩:=hR hn
 cases h'
 have Hcs:=hid hcs
 have Hf:=hid hf
 clear hcs hf hR
 go_enter Tryz.func110,Tryz.ntmps110
 go_wp2_with (with_reducible refine wpl_make rfl 22 5 _ _ rfl Tryz.underlying22 info8 _ _ _ _ rfl rfl n rfl rfl (by omega) ?_)
 go_loopw [4,5] (fun o i wr=> ∃(k b:Nat) (z:Int) (m:Nat→Nat),k≤n∧z=(k:Int)-1∧i= .int .i64 z∧o= .int .u8 (b:Int)∧b≤1∧Hid (b=if k<n then f k/128 else 0)∧Hid (∀j,j<n→m j=if k≤j then sh n f j else 0)∧Blk wr w.heap.size 5 (row n (b8 m))∧Below w.heap.size w wr) (fun _ i _=>(intOf i+1).toNat)
 case atStart=>exact⟨n,0,_,fun _=>0,Nat.le_refl _,rfl,rfl,rfl,by omega,hid (by simp),hid (fun j hj=>by rw[if_neg (by omega)]),Blk.fresh _ _ _,(Below.refl _ _).alloc (Nat.le_refl _) _⟩
 case round=>
  obtain⟨k,b,z,m,hk,hz,rfl,rfl,hb1,Hb,HM,hb,hB⟩:=hrel
  rcases Nat.eq_zero_or_pos k with h0 | hp
  ·subst h0
   obtain rfl:z= -1:=by omega
   have hM: ∀j,j<n→m j=sh n f j:=fun j hj=>by rw[HM.out j hj,if_pos (Nat.zero_le _)]
   have hb0:b=f 0/128:=by rw[Hb.out,if_pos (by omega)]
   clear hz Hb HM
   by_cases h1:b=1
   ·have hl:n-1<n:=by omega
    have hnI:((n:Int)-1)=((n-1:Nat):Int):=by omega
    have hr:row n (b8 (upd m (n-1) (m (n-1) ^^^ en n)))=row n (b8 (dbl n f)):=row_b8_ext fun i hi=>by
     unfold upd dbl
     by_cases h2:i=n-1
     ·subst h2
      rw[if_pos rfl,if_pos ⟨by rw[← hb0];exact h1,by omega⟩,hM _ hi]
     rw[if_neg h2,if_neg (by omega),hM _ hi]
    have Hr:=hid hr
    have hml:m (n-1)<256:=by rw[hM _ hl];exact sh_lt Hf.out _ hl
    have hb1I:((b:Int) == 1)=true:=by simp;omega
    have Hh1:=hid h1
    clear hr h1 hb0 hb1
    go_wp2_with fail
    refine wp_region_still_tail 11 (by kernel_rfl) (by kernel_rfl) ?_
    simp only[List.take_succ_cons,List.take_zero,List.drop_succ_cons,List.drop_zero]
    change wpStill _ _ wr.drew (fun a'=>wpList _ _ _ _ a' wr.drew) _ _
    have hw:IntKind.i64.wrap ((n:Int)-1)=((n-1:Nat):Int):=wrap_i64 _ _ hnI (by omega) (by omega)
    have hb1:Blk wr.drew w.heap.size 5 (row n (b8 m)):=hb
    have hB1:=hB.drew
    clear hb hB hnI hM
    generalize wr.drew=w2 at*
    have hv1:=hb1.val (n-1) hl
    have hv2:=hb1.free (n-1)
    generalize n-1=q at*
    repeat (first
     | (with_reducible refine wps_sl rfl 22 _ _ rfl _ n n rfl .i64 _ rfl q rfl 5 Tryz.underlying22 hl 1 i8q ?_;rw[Nat.mul_one,add_zero_off])
     | (with_reducible refine wps_ld rfl 5 _ rfl _ rfl .u8 Tryz.underlying5 _ hv1 ?_)
     | still_step
     | still_call (endOf_still n _))
    refine wpStill_nil ?_
    go_wp2_with (with_reducible refine wpl_st rfl 5 _ _ rfl _ rfl .u8 _ rfl i8q _ hv1 hv2 ?_)
    go_ret
    rw[u8_xor_nat _ _ hml (en_lt n)]
    exact⟨rfl,Hr.out▸hb1.put q _,hB1.setCell (by simp) _⟩
   have hb1I:((b:Int) == 1)=false:=by simp;omega
   have hr:row n (b8 m)=row n (b8 (dbl n f)):=row_b8_ext fun i hi=>by
    unfold dbl
    rw[if_neg (fun h=>h1 (hb0.trans h.1)),hM _ hi]
   rw[hr] at hb
   clear hr hb0 h1
   go_wp2_with fail
   go_ret
   exact⟨rfl,hb,hB⟩
  obtain⟨j,rfl⟩: ∃j,k=j+1:=⟨k-1,by omega⟩
  obtain rfl:z=(j:Int):=by omega
  have hj:j<n:=by omega
  have hc:wr.cell? (ad.add j)=some (.int .u8 ((f j:Nat):Int)):=(hB.cell (p:=ad.add j) (by rw[add_block];exact hbl)).trans (Hcs.out j hj)
  have hfj:=Hf.out j hj
  have hv1:=hb.val j hj
  have hv2:=hb.free j
  have hc2:(wr.setCell ⟨w.heap.size,j,none⟩ (.int .u8 (bits .or .u8 ((f j:Int)*2%256) (b:Int)))).cell? (ad.add j)=some (.int .u8 ((f j:Nat):Int)):=by
   exact((hB.setCell (by simp) _).cell (p:=ad.add j) (by rw[add_block];exact hbl)).trans (Hcs.out j hj)
  clear hz
  go_wp2_with (first
   | (with_reducible refine wpl_sl1 rfl 22 _ _ rfl ad n c rfl .i64 _ rfl j rfl 5 Tryz.underlying22 hj i8q ?_)
   | (with_reducible refine wpl_slb rfl 22 _ _ rfl w.heap.size n n rfl .i64 _ rfl j rfl 5 Tryz.underlying22 hj i8q ?_)
   | (with_reducible refine wpl_ld rfl 5 _ rfl _ rfl .u8 Tryz.underlying5 _ hc ?_)
   | (with_reducible refine wpl_ld rfl 5 _ rfl _ rfl .u8 Tryz.underlying5 _ hc2 ?_)
   | (with_reducible refine wpl_st rfl 5 _ _ rfl _ rfl .u8 _ rfl i8q _ hv1 hv2 ?_))
  have Hc:Hid (f j/128≤1):=hid (by omega)
  rw[shl1 _ _ hb1]
  refine⟨⟨j,f j/128,_,upd m j ((f j*2%256) ||| b),by omega,rfl,rfl,by simp,Hc.out,hid (by rw[if_pos hj]),hid (fun q hq=>?_),hb.put j _,hB.setCell (by simp) _⟩,by simp[intOf]⟩
  by_cases hqj:q=j
  ·subst hqj
   rw[upd_same,if_pos (Nat.le_refl _),Hb.out]
   rfl
  rw[upd_other _ _ _ _ hqj,HM.out q hq]
  by_cases h1:j+1≤q
  ·rw[if_pos h1,if_pos (by omega)]
  rw[if_neg h1,if_neg (by omega)]
end Go.Proofs.YtlmacfmfmjhidaaGreatDoor.Mc
namespace Go.Proofs.YtlmacfmfmjhidaaGreatDoor.Mc
open Mem Bk Md Go.ChangeShapes Go.WideShapes Go.ChangeAt Go.RowKit
theorem own_less {w:World}{base e n m c:Nat}{A:Option Addr}{f:Nat→Nat} (h:Mem.Own w base e 1 (.slice A n c) n f) (hA:A≠none) (hm:m≤n):Mem.Own w base e 1 (.slice A m c) m f:=by
 obtain⟨h1,h2 | ⟨k,c',cur,hv,hbk,hblk,hnc,hcm,hsz,hcs⟩⟩:=h
 ·obtain⟨hv,-⟩:=h2
  injection hv with h3
  exact absurd h3 hA
 injection hv with h3 h4 h5
 subst h3 h5
 refine⟨by simp, .inr ⟨k,c,cur,rfl,hbk,hblk,Nat.le_trans hm hnc,hcm,hsz,?_⟩⟩
 have:=congrArg (List.take m) hcs
 simp only[Nat.mul_one] at this ⊢
 rw[List.take_take,Nat.min_eq_left hm,← List.map_take,List.take_range,Nat.min_eq_left hm] at this
 exact this
theorem own_at {w:World}{base e n:Nat}{v:Value}{f:Nat→Nat} (ho:Mem.Own w base e 1 v n f) (hn:0<n): ∃g c,v= .slice (some ⟨g,0,none⟩) n c∧n≤c:=by
 rcases ho.form with⟨_,h⟩ | ⟨g,c,cur,h,_,_,hc,_⟩
 ·omega
 exact⟨g,c,h,hc⟩
def wh (n L:Nat):Prop:=L≠0∧L%n=0
instance (n L:Nat):Decidable (wh n L):=by unfold wh;infer_instance
def mtN (n L:Nat):Nat:=if wh n L then L else padN L n
def mtF (n L:Nat) (t k1:Nat→Nat):Nat→Nat:=
 if wh n L then cat (L-n) t (xr (fun i=>t (L-n+i)) k1) else cat (padN L n-n) (padF L t) (xr (fun i=>padF L t (padN L n-n+i)) (dbl n k1))
set_option maxRecDepth 100000 in
set_option maxHeartbeats 1000000 in
theorem turn_whole (A:Option Addr) (L c:Nat) (t:Nat→Nat) (gk n:Nat) (k1:Nat→Nat) (w:World) (hL:L≤1000) (hn:n=8∨n=16) (hw:wh n L) (hA:A=none→L=0∧c=0) (ht: ∀i,i<L→t i<256) (hk: ∀i,i<n→k1 i<256) (hR:Reads w w.heap.size A L t) (hK:Reads w w.heap.size (some ⟨gk,0,none⟩) n k1):
  Calls Tryz.prog 109 #[.slice A L c, .slice (some ⟨gk,0,none⟩) n n] w fun e w'=> ∃v,e= .returned (.tuple #[v, .nilIface])∧Mem.Own w' w.heap.size 5 1 v L (cat (L-n) t (xr (fun i=>t (L-n+i)) k1))∧Below w.heap.size w w':=by
 obtain⟨hw1,hw2⟩:=hw
 have hnL:n≤L:=by rcases hn with rfl | rfl<;>omega
 have hn0:0<n:=by omega
 have hn16:n≤16:=by omega
 have he1:((L:Int) == 0)=false:=by simp;omega
 have HF:=hid (rem_n (u:=L) hn0 hw2.symm)
 have HR:=hid hR
 have HK:=hid hK
 have HA:=hid hA
 have Ht:=hid ht
 have Hk:=hid hk
 have hL5:L≤100000:=by omega
 have hrI:Hid (((L:Int)%(n:Int) != 0)=false):=hid (by rw[HF.out.2.2];rfl)
 have hL0:0<L:=by omega
 have hD:L-(L-n)=n:=by omega
 have hDL:L-n≤L:=by omega
 have hne: ∀c1,L≤c1→¬c1=L-n:=fun c1 h=>by omega
 have hDL2:L-n+n=L:=by omega
 have hsm:L-n+n≤1000000:=by omega
 clear hR hK hA ht hk hw2 hw1 hn
 go_enter Tryz.func109,Tryz.ntmps109
 go_wp2_with (go_at_call 74;refine(clone_any A L c t _ hL5 HA.out HR.out).mono ?_;rintro e w1 ⟨v,rfl,ho,hB1⟩;obtain⟨g1,c1,rfl,hc1⟩:=own_at ho hL0;have hrJ:=hrI.out;have hne1:=hne c1 hc1;have Ho:=hid ho;have HB1:=hid hB1;clear ho hB1)
 have HX:=hid (Ho.out.reads.cut (k:=L-n) (cap:=c1) hDL hc1)
 rw[if_neg hne1,hD] at HX
 simp only[Option.map_some,add_zero_off] at HX
 have HK1:=hid ((HK.out.below HB1.out).more HB1.out.size)
 refine(xor_any _ _ n _ n (fun i=>t (L-n+i)) k1 _ (Nat.le_trans hnL hL5) (fun i hi=>Ht.out _ (by omega)) Hk.out HX.out HK1.out).mono ?_
 rintro e w2 ⟨rfl,hb2,hB2⟩
 have Ho2:=hid (own_less (Ho.out.below hB2 (Nat.le_refl _)) (by simp) hDL)
 have HR2:=hid (Blk.reads hb2)
 have HB2:=hid (HB1.out.trans (hB2.mono HB1.out.size))
 clear hb2 hB2 Ho HB1 HK HK1 HX HR
 go_wp2_with (at_builtin; (refine wpl_app_gen rfl _ _ 22 rfl w.heap.size 5 (.int .u8 0) Tryz.underlying22 info_u8 rfl _ (L-n) _ rfl Ho2.out (some ⟨w1.heap.size,0,none⟩) n n _ _ HR2.out (fun h=>by cases h) rfl hsm HB2.out.size ?_))
 intro v3 w3 ho3 hB3
 try rw[hDL2] at ho3
 obtain⟨A3,c3,rfl,hc3,-,-⟩:=ho3.slice'
 clear Ho2 HR2
 go_wp2_with fail
 go_ret2
 exact⟨_,rfl,ho3,HB2.out.trans hB3⟩
theorem own_row {w:World}{base g n:Nat}{e:TypeId}{f:Nat→Nat} (h:Blk w g e (row n (b8 f))) (hb:base≤g) (hn:n≤100000):Mem.Own w base e 1 (.slice (some ⟨g,0,none⟩) n n) n f:=by
 refine⟨by simp, .inr ⟨g,n,row n (b8 f),rfl,hb,h,Nat.le_refl _,Nat.le_trans hn (by decide),by rw[row_size,Nat.mul_one],?_⟩⟩
 apply List.ext_getElem?
 intro i
 by_cases hi:i<n
 ·rw[List.getElem?_take_of_lt (by omega),Array.getElem?_toList,row_get _ _ _ hi]
  simp[hi]
 rw[List.getElem?_eq_none (by simp[row_size];omega),List.getElem?_eq_none (by simp;omega)]
set_option maxRecDepth 100000 in
set_option maxHeartbeats 1000000 in
theorem turn_none (A:Option Addr) (L c:Nat) (t:Nat→Nat) (gk n M:Nat) (k1:Nat→Nat) (w:World) (hL:L≤1000) (hn:n=8∨n=16) (hw:L=0) (hM:M=padN L n) (hA:A=none→L=0∧c=0) (ht: ∀i,i<L→t i<256) (hk: ∀i,i<n→k1 i<256) (hR:Reads w w.heap.size A L t) (hK:Reads w w.heap.size (some ⟨gk,0,none⟩) n k1):
  Calls Tryz.prog 109 #[.slice A L c, .slice (some ⟨gk,0,none⟩) n n] w fun e w'=> ∃v,e= .returned (.tuple #[v, .nilIface])∧Mem.Own w' w.heap.size 5 1 v M (cat (M-n) (padF L t) (xr (fun i=>padF L t (M-n+i)) (dbl n k1)))∧Below w.heap.size w w':=by
 have hn0:0<n:=by omega
 have hn16:n≤64:=by omega
 have hnM:n≤M:=by rw[hM];unfold padN;exact Nat.le_mul_of_pos_left _ (Nat.succ_pos _)
 have hMs:M≤1100:=by rw[hM];exact Nat.le_trans padN_le (by omega)
 have he1:((L:Int) == 0)=true:=by simp;omega
 have HM:=hid hM
 have HR:=hid hR
 have HK:=hid hK
 have HA:=hid hA
 have Ht:=hid ht
 have Hk:=hid hk
 have hL5:L≤100000:=by omega
 have hn5:n≤100000:=by omega
 have hM5:M≤100000:=by omega
 have hn10:n≤1000:=by omega
 have hD:M-(M-n)=n:=by omega
 have hDM:M-n≤M:=by omega
 have hne1: ¬M=M-n:=by omega
 have hDM2:M-n+n=M:=by omega
 have hsm:M-n+n≤1000000:=by omega
 clear hR hK hA ht hk hw hn hM
 go_enter Tryz.func109,Tryz.ntmps109
 go_wp2_with (go_at_call 74;refine(clone_any A L c t _ hL5 HA.out HR.out).mono ?_;rintro e w1 ⟨v,rfl,ho,hB1⟩;obtain⟨A1,c1,rfl,-⟩:=ho.slice';have HB1:=hid hB1;have HR1:=hid ((HR.out.below hB1).more hB1.size);have HK1:=hid ((HK.out.below hB1).more hB1.size);clear ho hB1 HR HK)
 refine(pad_any A L c t n M _ hL hn0 hn16 HM.out HA.out HR1.out).mono ?_
 rintro e w2 ⟨rfl,hb2,hB2⟩
 have HK2:=hid ((HK1.out.below hB2).more hB2.size)
 have HP2:=hid hb2
 have HB2:=hid (HB1.out.trans (hB2.mono HB1.out.size))
 have hlo:Hid (w.heap.size≤w1.heap.size):=hid HB1.out.size
 clear hb2 hB2 HK1 HB1 HR1
 go_wp2_with fail
 refine(doubled_any ⟨gk,0,none⟩ n n k1 _ hn0 hn10 Hk.out HK2.out).mono ?_
 rintro e w3 ⟨rfl,hb3,hB3⟩
 have HP3:=hid (HP2.out.below hB3 HP2.out.lt)
 have HD3:=hid (Blk.reads hb3)
 have HB3:=hid (HB2.out.trans (hB3.mono HB2.out.size))
 clear hb3 hB3 HP2 HB2 HK2
 go_wp2_with fail
 have HX:=hid ((Blk.reads HP3.out).cut (k:=M-n) (cap:=M) hDM (Nat.le_refl _))
 rw[if_neg hne1,hD] at HX
 simp only[Option.map_some,add_zero_off] at HX
 refine(xor_any _ _ n _ n (fun i=>padF L t (M-n+i)) (dbl n k1) _ hn5 (fun i _=>padF_lt Ht.out _) (dbl_lt Hk.out) HX.out HD3.out).mono ?_
 rintro e w4 ⟨rfl,hb4,hB4⟩
 have Ho2:=hid (own_less (own_row (base:=w.heap.size) (HP3.out.below hB4 HP3.out.lt) hlo.out hM5) (by simp) hDM)
 have HR2:=hid (Blk.reads hb4)
 have HB4:=hid (HB3.out.trans (hB4.mono HB3.out.size))
 clear hb4 hB4 HP3 HB3 HX HD3
 go_wp2_with (at_builtin; (refine wpl_app_gen rfl _ _ 22 rfl w.heap.size 5 (.int .u8 0) Tryz.underlying22 info_u8 rfl _ (M-n) _ rfl Ho2.out (some ⟨w3.heap.size,0,none⟩) n n _ _ HR2.out (fun h=>by cases h) rfl hsm HB4.out.size ?_))
 intro v5 w5 ho5 hB5
 try rw[hDM2] at ho5
 obtain⟨A5,c5,rfl,hc5,-,-⟩:=ho5.slice'
 clear Ho2 HR2
 go_wp2_with fail
 go_ret2
 exact⟨_,rfl,ho5,HB4.out.trans hB5⟩
set_option maxRecDepth 100000 in
set_option maxHeartbeats 1000000 in
theorem turn_part (A:Option Addr) (L c:Nat) (t:Nat→Nat) (gk n M:Nat) (k1:Nat→Nat) (w:World) (hL:L≤1000) (hn:n=8∨n=16) (hw:L≠0∧L%n≠0) (hM:M=padN L n) (hA:A=none→L=0∧c=0) (ht: ∀i,i<L→t i<256) (hk: ∀i,i<n→k1 i<256) (hR:Reads w w.heap.size A L t) (hK:Reads w w.heap.size (some ⟨gk,0,none⟩) n k1):
  Calls Tryz.prog 109 #[.slice A L c, .slice (some ⟨gk,0,none⟩) n n] w fun e w'=> ∃v,e= .returned (.tuple #[v, .nilIface])∧Mem.Own w' w.heap.size 5 1 v M (cat (M-n) (padF L t) (xr (fun i=>padF L t (M-n+i)) (dbl n k1)))∧Below w.heap.size w w':=by
 have hn0:0<n:=by omega
 have hn16:n≤64:=by omega
 have hnM:n≤M:=by rw[hM];unfold padN;exact Nat.le_mul_of_pos_left _ (Nat.succ_pos _)
 have hMs:M≤1100:=by rw[hM];exact Nat.le_trans padN_le (by omega)
 have he1:((L:Int) == 0)=false:=by simp;omega
 have hrI:Hid (((L:Int)%(n:Int) != 0)=true):=hid (by rw[(rem_n (u:=L) hn0 rfl).2.2,bne_iff_ne];exact fun h=>hw.2 (Int.natCast_eq_zero.1 h))
 have HM:=hid hM
 have HR:=hid hR
 have HK:=hid hK
 have HA:=hid hA
 have Ht:=hid ht
 have Hk:=hid hk
 have hL5:L≤100000:=by omega
 have hn5:n≤100000:=by omega
 have hM5:M≤100000:=by omega
 have hn10:n≤1000:=by omega
 have hD:M-(M-n)=n:=by omega
 have hDM:M-n≤M:=by omega
 have hne1: ¬M=M-n:=by omega
 have hDM2:M-n+n=M:=by omega
 have hsm:M-n+n≤1000000:=by omega
 clear hR hK hA ht hk hw hn hM
 go_enter Tryz.func109,Tryz.ntmps109
 go_wp2_with (go_at_call 74;refine(clone_any A L c t _ hL5 HA.out HR.out).mono ?_;rintro e w1 ⟨v,rfl,ho,hB1⟩;obtain⟨A1,c1,rfl,-⟩:=ho.slice';have hrJ:=hrI.out;have HB1:=hid hB1;have HR1:=hid ((HR.out.below hB1).more hB1.size);have HK1:=hid ((HK.out.below hB1).more hB1.size);clear ho hB1 HR HK)
 refine(pad_any A L c t n M _ hL hn0 hn16 HM.out HA.out HR1.out).mono ?_
 rintro e w2 ⟨rfl,hb2,hB2⟩
 have HK2:=hid ((HK1.out.below hB2).more hB2.size)
 have HP2:=hid hb2
 have HB2:=hid (HB1.out.trans (hB2.mono HB1.out.size))
 have hlo:Hid (w.heap.size≤w1.heap.size):=hid HB1.out.size
 clear hb2 hB2 HK1 HB1 HR1
 go_wp2_with fail
 refine(doubled_any ⟨gk,0,none⟩ n n k1 _ hn0 hn10 Hk.out HK2.out).mono ?_
 rintro e w3 ⟨rfl,hb3,hB3⟩
 have HP3:=hid (HP2.out.below hB3 HP2.out.lt)
 have HD3:=hid (Blk.reads hb3)
 have HB3:=hid (HB2.out.trans (hB3.mono HB2.out.size))
 clear hb3 hB3 HP2 HB2 HK2
 go_wp2_with fail
 have HX:=hid ((Blk.reads HP3.out).cut (k:=M-n) (cap:=M) hDM (Nat.le_refl _))
 rw[if_neg hne1,hD] at HX
 simp only[Option.map_some,add_zero_off] at HX
 refine(xor_any _ _ n _ n (fun i=>padF L t (M-n+i)) (dbl n k1) _ hn5 (fun i _=>padF_lt Ht.out _) (dbl_lt Hk.out) HX.out HD3.out).mono ?_
 rintro e w4 ⟨rfl,hb4,hB4⟩
 have Ho2:=hid (own_less (own_row (base:=w.heap.size) (HP3.out.below hB4 HP3.out.lt) hlo.out hM5) (by simp) hDM)
 have HR2:=hid (Blk.reads hb4)
 have HB4:=hid (HB3.out.trans (hB4.mono HB3.out.size))
 clear hb4 hB4 HP3 HB3 HX HD3
 go_wp2_with (at_builtin; (refine wpl_app_gen rfl _ _ 22 rfl w.heap.size 5 (.int .u8 0) Tryz.underlying22 info_u8 rfl _ (M-n) _ rfl Ho2.out (some ⟨w3.heap.size,0,none⟩) n n _ _ HR2.out (fun h=>by cases h) rfl hsm HB4.out.size ?_))
 intro v5 w5 ho5 hB5
 try rw[hDM2] at ho5
 obtain⟨A5,c5,rfl,hc5,-,-⟩:=ho5.slice'
 clear Ho2 HR2
 go_wp2_with fail
 go_ret2
 exact⟨_,rfl,ho5,HB4.out.trans hB5⟩
theorem turn_any (A:Option Addr) (L c:Nat) (t:Nat→Nat) (gk n:Nat) (k1:Nat→Nat) (w:World) (hL:L≤1000) (hn:n=8∨n=16) (hA:A=none→L=0∧c=0) (ht: ∀i,i<L→t i<256) (hk: ∀i,i<n→k1 i<256) (hR:Reads w w.heap.size A L t) (hK:Reads w w.heap.size (some ⟨gk,0,none⟩) n k1):
  Calls Tryz.prog 109 #[.slice A L c, .slice (some ⟨gk,0,none⟩) n n] w fun e w'=> ∃v,e= .returned (.tuple #[v, .nilIface])∧Mem.Own w' w.heap.size 5 1 v (mtN n L) (mtF n L t k1)∧Below w.heap.size w w':=by
 by_cases h:wh n L
 ·unfold mtN mtF
  rw[if_pos h,if_pos h]
  exact turn_whole A L c t gk n k1 w hL hn h hA ht hk hR hK
 unfold mtN mtF
 rw[if_neg h,if_neg h]
 rcases Nat.eq_zero_or_pos L with h0 | h0
 ·exact turn_none A L c t gk n _ k1 w hL hn h0 rfl hA ht hk hR hK
 exact turn_part A L c t gk n _ k1 w hL hn ⟨by omega,fun h1=>h ⟨by omega,h1⟩⟩ rfl hA ht hk hR hK
def mtB (n L:Nat):Nat:=if wh n L then L/n else L/n+1
theorem mtN_eq {n L:Nat}:mtN n L=mtB n L*n:=by
 unfold mtN mtB padN
 split
 ·next h=>exact(Nat.div_mul_cancel (Nat.dvd_of_mod_eq_zero h.2)).symm
 rfl
theorem mtB_pos {n L:Nat}:0<mtB n L:=by
 unfold mtB
 split
 ·next h=>
  obtain⟨h1,h2⟩:=h
  rcases Nat.eq_zero_or_pos (L/n) with h3 | h3
  ·have:=Nat.div_add_mod L n
   rw[h3,h2] at this
   omega
  exact h3
 exact Nat.succ_pos _
theorem mtN_le {n L:Nat}:mtN n L≤L+n:=by
 unfold mtN
 split
 ·omega
 exact padN_le
theorem mtF_lt {n L:Nat}{t k1:Nat→Nat} (ht: ∀i,i<L→t i<256) (hk: ∀i,i<n→k1 i<256): ∀i,i<mtN n L→mtF n L t k1 i<256:=fun i hi=>by
 unfold mtN at hi
 unfold mtF
 by_cases h:wh n L
 ·rw[if_pos h] at hi ⊢
  have hnL:n≤L:=Nat.le_of_dvd (by have:=h.1;omega) (Nat.dvd_of_mod_eq_zero h.2)
  unfold cat
  split
  ·exact ht _ hi
  exact xr_lt (ht _ (by omega)) (hk _ (by omega))
 rw[if_neg h] at hi ⊢
 have hnL:n≤padN L n:=by unfold padN;exact Nat.le_mul_of_pos_left _ (Nat.succ_pos _)
 unfold cat
 split
 ·exact padF_lt ht _
 exact xr_lt (padF_lt ht _) (dbl_lt hk _ (by omega))
def zf:Nat→Nat:=fun _=>0
theorem zf_lt (n:Nat): ∀i,i<n→zf i<256:=fun _ _=>by unfold zf;omega
set_option maxRecDepth 100000 in
theorem msizeOf_any (w:World) (p:Pl) (k gc base L:Nat) (key:Nat→Nat) (h:CiAt w p k gc base L key):
  Calls Tryz.prog 107 #[.pointer (some ⟨gc,0,none⟩)] w fun e w'=>e= .returned (.int .i64 (sz k:Int))∧w=w':=by
 have H:=hid h
 clear h
 go_enter Tryz.func107,Tryz.ntmps107
 go_wp2_with (go_at_call 55;refine(size_any _ p k gc _ _ _ H.out).mono ?_;rintro e w' ⟨rfl,rfl⟩)
 go_ret
 exact⟨rfl,rfl⟩
set_option maxRecDepth 100000 in
set_option maxHeartbeats 1000000 in
theorem last_any (w:World) (p:Pl) (k gc base L:Nat) (key:Nat→Nat) (A:Option Addr) (N M c:Nat) (x:Nat→Nat) (hk3:k≠3) (h:CiAt w p k gc base L key) (hM:M=N*sz k) (hN0:0<N) (hN:M≤100000) (hc:M≤c) (hA:A=none→M=0) (hx: ∀i,i<M→x i<256) (hR:Reads w w.heap.size A M x):
  Calls Tryz.prog 111 #[.pointer (some ⟨gc,0,none⟩), .slice A M c] w fun e w'=> ∃g d c',e= .returned (.tuple #[.slice (some ⟨g,d,none⟩) (sz k) c', .nilIface])∧sz k≤c'∧Reads w' w'.heap.size (some ⟨g,d,none⟩) (sz k) (ah k L key zf x N)∧Below w.heap.size w w':=by
 have H:=hid h
 have HM:=hid hM
 have HR:=hid hR
 have HA:=hid hA
 have Hx:=hid hx
 have hsz:=sz_or k
 have hsp:=sz_pos k
 have hsM:sz k≤M:=by rw[hM];exact Nat.le_mul_of_pos_left _ hN0
 have hs16:sz k≤16:=by omega
 obtain⟨J,hJ⟩: ∃J,N=J+1:=⟨N-1,by omega⟩
 have hMJ:Hid (M-sz k=J*sz k):=hid (by rw[hM,hJ,Nat.succ_mul,Nat.add_sub_cancel])
 have HJ:=hid hJ
 have hD:M-(M-sz k)=sz k:=by omega
 have hDM:M-sz k≤M:=by omega
 have hne: ∀c1,M≤c1→¬c1=M-sz k:=fun c1 h=>by omega
 have hcc: ∀c1,M≤c1→sz k≤c1-(M-sz k):=fun c1 h=>by omega
 have hM0:0<M:=by omega
 have hB0:Below w.heap.size w (w.alloc (.cells (row (sz k) (b8 fun _=>0)) 5)):=(Below.refl _ _).alloc (Nat.le_refl _) _
 have HZ:=hid (Blk.fresh w 5 (row (sz k) (b8 fun _=>0)))
 have HB0:=hid hB0
 have H0:=hid (h.keep hB0)
 have HR0:=hid ((hR.below hB0).more hB0.size)
 clear h hM hR hA hx hJ hB0
 go_enter Tryz.func111,Tryz.ntmps111
 go_wp2_with (first
  | (go_at_call 55;refine(size_any _ p k gc _ _ _ H.out).mono ?_;rintro e w' ⟨rfl,rfl⟩)
  | (with_reducible refine wpl_make rfl 22 5 _ _ rfl Tryz.underlying22 info8 _ _ _ _ rfl rfl (sz k) rfl rfl (by omega) ?_))
 refine(chained_any _ p k gc _ L key ⟨w.heap.size,0,none⟩ _ zf A N M c false x hk3 H0.out HM.out hN hc HA.out Hx.out HR0.out HZ.out.lt (fun i hi=>by rw[add_zero_off];exact HZ.out.val i hi) (zf_lt _)).mono ?_
 rintro e w1 ⟨v,rfl,ho,hB1⟩
 obtain⟨g1,c1,rfl,hc1⟩:=own_at ho hM0
 have hne1:=hne c1 hc1
 have hcc1:=hcc c1 hc1
 have HX:=hid (ho.reads.cut (k:=M-sz k) (cap:=c1) hDM hc1)
 rw[if_neg hne1,hD] at HX
 simp only[Option.map_some,add_zero_off] at HX
 have HX1:Hid (Reads w1 w1.heap.size (some ⟨g1,M-sz k,none⟩) (sz k) (ah k L key zf x N)):=hid (HX.out.ext (by rw[hMJ.out,HJ.out];exact forth_blk (N:=J+1) (j:=J) (Nat.lt_succ_self J)))
 have HB1:=hid (HB0.out.trans (hB1.mono HB0.out.size))
 have H1:=hid (H0.out.keep hB1)
 clear ho hB1 HX HZ HB0 HR0 HR H H0 hne hcc
 go_wp2_with (go_at_call 55;refine(size_any _ p k gc _ _ _ H1.out).mono ?_;rintro e w' ⟨rfl,rfl⟩)
 go_ret2
 exact⟨g1,M-sz k,_,rfl,hcc1,HX1.out,HB1.out⟩
def cmacF (k Lk:Nat) (key:Nat→Nat) (L:Nat) (t:Nat→Nat):Nat→Nat:=ah k Lk key zf (mtF (sz k) L t (dbl (sz k) (tc k Lk key false zf))) (mtB (sz k) L)
set_option maxRecDepth 100000 in
set_option maxHeartbeats 1000000 in
theorem cmac_any (w:World) (p:Pl) (k gc base Lk:Nat) (key:Nat→Nat) (A:Option Addr) (L c:Nat) (t:Nat→Nat) (n:Nat) (hk3:k≠3) (h:CiAt w p k gc base Lk key) (hL:L≤1000) (hn:1≤n) (hn':n≤sz k) (hA:A=none→L=0∧c=0) (ht: ∀i,i<L→t i<256) (hR:Reads w w.heap.size A L t):
  Calls Tryz.prog 83 #[.pointer (some ⟨gc,0,none⟩), .slice A L c, .int .i64 (n:Int)] w fun e w'=> ∃v,e= .returned (.tuple #[v, .nilIface])∧Mem.Own w' w.heap.size 5 1 v n (cmacF k Lk key L t)∧Below w.heap.size w w':=by
 have hfit:=Md.CiAt.fits h
 have hkey:=h.1
 have hsz:=sz_or k
 have hsp:=sz_pos k
 have hs16:sz k≤16:=by omega
 have hn1I: ¬(n:Int)<1:=by omega
 have hn2I: ¬(n:Int)>(sz k:Int):=by omega
 have hl: ∀i,i<sz k→tc k Lk key false zf i<256:=tc_lt hk3 hfit hkey (zf_lt _)
 have Hl:=hid hl
 have Hd:=hid (dbl_lt hl)
 have HMN:=hid (mtN_eq (n:=sz k) (L:=L))
 have HMB:=hid (mtB_pos (n:=sz k) (L:=L))
 have hMle:=mtN_le (n:=sz k) (L:=L)
 have HF:=hid (mtF_lt (n:=sz k) ht (dbl_lt hl))
 have hM0:0<mtN (sz k) L:=by rw[HMN.out];exact Nat.mul_pos HMB.out hsp
 have HM0:=hid hM0
 have hMs:mtN (sz k) L≤100000:=by omega
 have hB0:Below w.heap.size w (w.alloc (.cells (row (sz k) (b8 fun _=>0)) 5)):=(Below.refl _ _).alloc (Nat.le_refl _) _
 have HZ:=hid (Blk.fresh w 5 (row (sz k) (b8 fun _=>0)))
 have H:=hid h
 have H0:=hid (h.keep hB0)
 have HR0:=hid ((hR.below hB0).more hB0.size)
 have HB0:=hid hB0
 have HA:=hid hA
 have Ht:=hid ht
 clear h hB0 hR hA ht hl hkey hfit hM0
 go_enter Tryz.func83,Tryz.ntmps83
 go_wp2_with (first
  | (go_at_call 107;refine(msizeOf_any _ p k gc _ _ _ H.out).mono ?_;rintro e w' ⟨rfl,rfl⟩)
  | (with_reducible refine wpl_make rfl 22 5 _ _ rfl Tryz.underlying22 info8 _ _ _ _ rfl rfl (sz k) rfl rfl (by omega) ?_))
 refine(do12 _ p k gc _ Lk key ⟨w.heap.size,0,none⟩ (sz k) false zf hk3 H0.out HZ.out.lt (fun i hi=>by rw[add_zero_off];exact HZ.out.val i hi) (zf_lt _)).mono ?_
 rintro e w1 ⟨g1,rfl,hb1,hg1,hB1⟩
 have HR1:=hid ((HR0.out.below hB1).more hB1.size)
 have H1:=hid (H0.out.keep hB1)
 have HB1:=hid (HB0.out.trans (hB1.mono HB0.out.size))
 have HX1:=hid (Blk.reads hb1)
 clear HR0 H0 hB1 HB0 hb1 HZ H
 go_wp2_with fail
 refine(doubled_any ⟨g1,0,none⟩ (sz k) (sz k) _ _ hsp (by omega) Hl.out HX1.out).mono ?_
 rintro e w2 ⟨rfl,hb2,hB2⟩
 have HR2:=hid ((HR1.out.below hB2).more hB2.size)
 have H2:=hid (H1.out.keep hB2)
 have HB2:=hid (HB1.out.trans (hB2.mono HB1.out.size))
 have HX2:=hid (Blk.reads hb2)
 clear HR1 H1 hB2 HB1 hb2 HX1
 go_wp2_with fail
 refine(turn_any A L c t w1.heap.size (sz k) _ _ hL hsz HA.out Ht.out Hd.out HR2.out HX2.out).mono ?_
 rintro e w3 ⟨v3,rfl,ho3,hB3⟩
 obtain⟨A3,c3,rfl,hc3,hA3,-⟩:=ho3.slice'
 have H3:=hid (H2.out.keep hB3)
 have HB3:=hid (HB2.out.trans (hB3.mono HB2.out.size))
 have HX3:=hid ho3.reads
 have HA3:=hid hA3
 clear HR2 H2 hB3 HB2 ho3 HX2 hA3
 go_wp2_with fail
 refine(last_any _ p k gc _ Lk key A3 (mtB (sz k) L) (mtN (sz k) L) c3 _ hk3 H3.out HMN.out HMB.out hMs hc3 (fun h=>(HA3.out h).1) HF.out HX3.out).mono ?_
 rintro e w4 ⟨g4,d4,c4,rfl,hc4,hR4,hB4⟩
 have HX4:=hid (hR4.less hn')
 have HB4:=hid (HB3.out.trans (hB4.mono HB3.out.size))
 have hnc:n≤c4:=Nat.le_trans hn' hc4
 clear H3 hB4 HB3 HX3 hR4
 go_wp2_with fail
 refine(clone_any _ n c4 _ _ (by omega) (fun h=>by cases h) HX4.out).mono ?_
 rintro e w5 ⟨v5,rfl,ho5,hB5⟩
 have HB5:=hid (HB4.out.trans (hB5.mono HB4.out.size))
 obtain⟨A5,c5,rfl,hc5,-,-⟩:=ho5.slice'
 go_wp2_with fail
 go_ret2
 exact⟨_,rfl,own_base ho5 HB4.out.size,HB5.out⟩
theorem cmac_lt {k Lk L:Nat}{key t:Nat→Nat} (hf:fits k Lk) (hk3:k≠3) (hk: ∀i,i<Lk→key i<256) (ht: ∀i,i<L→t i<256): ∀i,i<sz k→cmacF k Lk key L t i<256:=by
 have hl: ∀i,i<sz k→tc k Lk key false zf i<256:=tc_lt hk3 hf hk (zf_lt _)
 have hF:=mtF_lt (n:=sz k) ht (dbl_lt hl)
 rw[mtN_eq] at hF
 exact ah_lt (N:=mtB (sz k) L) hf hk3 hk (zf_lt _) hF _ (Nat.le_refl _)
end Go.Proofs.YtlmacfmfmjhidaaGreatDoor.Mc
