/-
 Mode1 Mode2 Mode3 Mode4 Mode5
-/
import Derived.Test.YtlmacfmfmjhidaaGreatDoorLaw05
import Derived.Test.YtlmacfmfmjhidaaGreatDoorTurn
import Derived.RangeFuncNested
import Derived.RangeFuncBound
import Derived.RangeFuncCalls
import Derived.RangeFuncLeaves
import Derived.RangeFuncBox
import Derived.Shelf.Abstract
import Derived.Shelf.RegionOpen
import Derived.WalkKit
import Derived.OwnWalkIn
import Derived.TacticsInMore
import Derived.LoopNIn
import Derived.LoopIn
import Derived.Maps.AppendAt
namespace Go.Proofs.YtlmacfmfmjhidaaGreatDoor.Md
open Mem Bk Go.ChangeShapes Go.WideShapes Go.ChangeAt Go.RowKit
def xr (f g:Nat→Nat):Nat→Nat:=fun i=>f i ^^^ g i
theorem xr_lt {f g:Nat→Nat}{i:Nat} (hf:f i<256) (hg:g i<256):xr f g i<256:=Nat.xor_lt_two_pow (n:=8) hf hg
theorem info8:(Tryz.prog.info? 5).map (fun i=>(i.zero,i.size,i.bytes))=some (some (.int .u8 0),1,1):=by kernel_rfl
set_option maxRecDepth 100000 in
set_option maxHeartbeats 1000000 in
theorem xor_any (A A':Option Addr) (n c c':Nat) (f g:Nat→Nat) (w:World) (hn:n≤100000) (hf: ∀i,i<n→f i<256) (hg: ∀i,i<n→g i<256) (hR:Reads w w.heap.size A n f) (hR':Reads w w.heap.size A' n g):
  Calls Tryz.prog 114 #[.slice A n c, .slice A' n c'] w fun e w'=>e= .returned (.tuple #[.slice (some ⟨w.heap.size,0,none⟩) n n, .nilIface])∧Blk w' w.heap.size 5 (row n (b8 (xr f g)))∧Below w.heap.size w w':=by
 have HR:=hid hR
 have HR':=hid hR'
 have Hf:=hid hf
 have Hg:=hid hg
 clear hR hR' hf hg
 go_enter Tryz.func114,Tryz.ntmps114
 go_wp2_with (with_reducible refine wpl_make rfl 22 5 _ _ rfl Tryz.underlying22 info8 _ _ _ _ rfl rfl n rfl rfl (by omega) ?_)
 go_loopw [7,19] (fun _ i wr=> ∃(k:Nat) (m:Nat→Nat),k≤n∧i= .int .i64 k∧Hid (∀j,m j=if j<k then xr f g j else 0)∧Blk wr w.heap.size 5 (row n (b8 m))∧Below w.heap.size w wr) (fun _ i _=>n-(intOf i).toNat)
 case atStart=>exact⟨0,fun _=>0,by omega,rfl,hid (by simp),Blk.fresh _ _ _,(Below.refl _ _).alloc (Nat.le_refl _) _⟩
 case round=>
  obtain⟨k,m,hk,rfl,HM,hb,hB⟩:=hrel
  by_cases hlt:k<n
  ·have hfk:=Hf.out k hlt
   have hgk:=Hg.out k hlt
   obtain⟨ad,rfl,hbl,hcs⟩:=HR.out (by omega)
   obtain⟨ad',rfl,hbl',hcs'⟩:=HR'.out (by omega)
   have hc:=(hB.cell (p:=ad.add k) (by rw[add_block];exact hbl)).trans (hcs k hlt)
   have hc':=(hB.cell (p:=ad'.add k) (by rw[add_block];exact hbl')).trans (hcs' k hlt)
   clear hcs hcs'
   go_wp2_with fail
   refine wp_region_still_tail 12 (by kernel_rfl) (by kernel_rfl) ?_
   simp only[List.take_succ_cons,List.take_zero,List.drop_succ_cons,List.drop_zero]
   change wpStill _ _ wr.drew (fun a'=>wpList _ _ _ _ a' wr.drew) _ _
   have hd:wr.drew.cell? (ad.add (k*1))=some (.int .u8 ((f k:Nat):Int)):=by rw[Nat.mul_one];exact hc
   have hd':wr.drew.cell? (ad'.add (k*1))=some (.int .u8 ((g k:Nat):Int)):=by rw[Nat.mul_one];exact hc'
   have hb1:Blk wr.drew w.heap.size 5 (row n (b8 m)):=hb
   have hB1:=hB.drew
   clear hc hc' hb hB
   generalize wr.drew=w2 at*
   have hv1:=hb1.val k hlt
   have hv2:=hb1.free k
   repeat (first
    | (with_reducible refine wps_sl rfl 22 _ _ rfl ad n c rfl .i64 _ rfl k rfl 5 Tryz.underlying22 hlt 1 i8q ?_)
    | (with_reducible refine wps_sl rfl 22 _ _ rfl ad' n c' rfl .i64 _ rfl k rfl 5 Tryz.underlying22 hlt 1 i8q ?_)
    | (with_reducible refine wps_sl rfl 22 _ _ rfl _ n n rfl .i64 _ rfl k rfl 5 Tryz.underlying22 hlt 1 i8q ?_)
    | (with_reducible refine wps_ld rfl 5 _ rfl _ rfl .u8 Tryz.underlying5 _ hd ?_)
    | (with_reducible refine wps_ld rfl 5 _ rfl _ rfl .u8 Tryz.underlying5 _ hd' ?_)
    | still_step)
   refine wpStill_nil ?_
   rw[Nat.mul_one,add_zero_off]
   go_wp2_with (with_reducible refine wpl_st rfl 5 _ _ rfl _ rfl .u8 _ rfl i8q _ hv1 hv2 ?_)
   go_round
   case rel=>
    rw[u8_xor_nat _ _ hfk hgk]
    exact⟨k+1,upd m k (xr f g k),by omega,val_int (by omega),hid (fill_step (F:=xr f g) (f:=fun _=>0) HM.out),hb1.put k _,hB1.setCell (by simp) _⟩
   case measure=>simp[intOf];omega
  go_wp2_with fail
  go_ret2
  have hm:row n (b8 m)=row n (b8 (xr f g)):=row_b8_ext (fill_end (f:=fun _=>0) HM.out (by omega))
  exact⟨rfl,hm▸hb,hB⟩
set_option maxRecDepth 100000 in
theorem sizeOf_any (w:World) (p:Pl) (k gc base L:Nat) (key:Nat→Nat) (h:CiAt w p k gc base L key):
  Calls Tryz.prog 84 #[.pointer (some ⟨gc,0,none⟩)] w fun e w'=>e= .returned (.int .i64 (sz k:Int))∧w=w':=by
 have H:=hid h
 clear h
 go_enter Tryz.func84,Tryz.ntmps84
 go_wp2_with (go_at_call 55;refine(size_any w p k gc base L key H.out).mono ?_;rintro e w1 ⟨rfl,rfl⟩)
 go_ret
 exact⟨rfl,rfl⟩
set_option maxRecDepth 100000 in
theorem whole_any (A:Option Addr) (n c m:Nat) (hm:m=8∨m=16) (hn:n≤100000) (w:World):
  Calls Tryz.prog 85 #[.slice A n c, .int .i64 (m:Int)] w fun e w'=>e= .returned (.bool (decide (n%m=0)))∧w=w':=by
 go_enter Tryz.func85,Tryz.ntmps85
 rcases hm with rfl | rfl
 ·by_cases h:n%8=0
  ·have h1:(n:Int)%8=0:=by omega
   go_wp2_with fail
   go_ret
   simp[h,h1]
  have h1: ¬(n:Int)%8=0:=by omega
  go_wp2_with fail
  go_ret
  simp[h,h1]
 by_cases h:n%16=0
 ·have h1:(n:Int)%16=0:=by omega
  go_wp2_with fail
  go_ret
  simp[h,h1]
 have h1: ¬(n:Int)%16=0:=by omega
 go_wp2_with fail
 go_ret
 simp[h,h1]
def tc (k L:Nat) (key:Nat→Nat) (bk:Bool) (x:Nat→Nat):Nat→Nat:=
 if k=1 then(if bk then Aes.dec (Aes.words L key) (Aes.rnd L) x else Aes.enc (Aes.words L key) (Aes.rnd L) x) else Des.tdes L key x bk
set_option maxRecDepth 100000 in
set_option maxHeartbeats 1000000 in
theorem do12 (w:World) (p:Pl) (k gc base L:Nat) (key:Nat→Nat) (ad:Addr) (c:Nat) (bk:Bool) (x:Nat→Nat) (hk3:k≠3) (h:CiAt w p k gc base L key) (had:ad.block<w.heap.size) (hc: ∀i,i<sz k→w.cell? (ad.add i)=some (.int .u8 ((x i:Nat):Int))) (hx: ∀i,i<sz k→x i<256):
  Calls Tryz.prog 108 #[.pointer (some ⟨gc,0,none⟩), .slice (some ad) (sz k) c, .bool bk] w fun e w'=> ∃g,e= .returned (.tuple #[.slice (some ⟨g,0,none⟩) (sz k) (sz k), .nilIface])∧Blk w' g (tyOf k) (row (sz k) (b8 (tc k L key bk x)))∧w.heap.size≤g∧Below w.heap.size w w':=by
 obtain⟨h0,⟨rfl,h2,kb,v,h3,h4,h5⟩ | ⟨rfl,h2,kb,v,h3,h4,h5⟩ | ⟨rfl,h2,kb,v,h3,h4,h5⟩⟩:=h
 ·have hc0:w.cell? ⟨gc,0,none⟩=some (.int .i64 16):=h3.cell 0
  have hc1:w.cell? ⟨gc,1,none⟩=some (.func (.func 122) #[] #[.pointer (some ⟨kb,0,none⟩)]):=h3.cell 1
  obtain⟨A,ck,rfl,hck,-,-⟩:=h5.slice'
  generalize hy:tc 1 L key bk x=y
  have HT:=hid (aes_turn bk ad c kb A L ck key x w h2 h0 hx h4 h5.reads had hc y (by rw[← hy,tc,if_pos rfl]))
  clear h0 h2 h3 h4 h5 hc hx hy
  have hfn:=func_nil
  change Calls Tryz.prog 108 #[.pointer (some ⟨gc,0,none⟩), .slice (some ad) 16 c, .bool bk] w _
  go_enter Tryz.func108,Tryz.ntmps108
  go_wp2_with fail
  refine HT.out.mono ?_
  rintro e w1 ⟨g,rfl,hbg,hgs,hB⟩
  go_wp2_with fail
  go_ret2
  exact⟨g,rfl,hbg,hgs,hB⟩
 ·have hc0:w.cell? ⟨gc,0,none⟩=some (.int .i64 8):=h3.cell 0
  have hc1:w.cell? ⟨gc,1,none⟩=some (.func (.func 125) #[] #[.pointer (some ⟨kb,0,none⟩)]):=h3.cell 1
  obtain⟨A,ck,rfl,hck,-,-⟩:=h5.slice'
  generalize hy:tc 2 L key bk x=y
  have HT:=hid (tdes_turn bk ad c kb A L ck key x w h2 hck h0 hx h4 h5.reads had hc y (by rw[← hy,tc,if_neg (by omega)]))
  clear h0 h2 h3 h4 h5 hc hx hy
  have hfn:=func_nil
  change Calls Tryz.prog 108 #[.pointer (some ⟨gc,0,none⟩), .slice (some ad) 8 c, .bool bk] w _
  go_enter Tryz.func108,Tryz.ntmps108
  go_wp2_with fail
  refine HT.out.mono ?_
  rintro e w1 ⟨g,rfl,hbg,hgs,hB⟩
  go_wp2_with fail
  go_ret2
  exact⟨g,rfl,hbg,hgs,hB⟩
 exact absurd rfl hk3
end Go.Proofs.YtlmacfmfmjhidaaGreatDoor.Md
namespace Go.Proofs.YtlmacfmfmjhidaaGreatDoor.Md
open Mem Bk Go.ChangeShapes Go.WideShapes Go.ChangeAt Go.RowKit Go.Shelf
attribute [local go_sem] Oper.semAt_some
def KpL (T:List Nat) (W W':World):Prop:= ∀g∈T,W'.heap[g]? =W.heap[g]?
theorem kpL_t {T:List Nat}{A B C:World} (h:KpL T A B) (k:KpL T B C):KpL T A C:=fun g hg=>(k g hg).trans (h g hg)
theorem KpL.refl (T:List Nat) (W:World):KpL T W W:=fun _ _=>rfl
theorem kpL_b {T:List Nat}{w:World} (hT: ∀g∈T,g<w.heap.size) (W:World) (l:Nat) (o o':Obj) (hl:w.heap.size≤l) (h:W.heap[l]? =some o) (_:o.isCells=false) (_:o.isWalk=false):KpL T W (W.putObj l o'):=fun g hg=>by
 have hlt:=(Array.getElem?_eq_some_iff.1 h).1
 have:=hT g hg
 exact(grownBy_putObj' W l o').block g (by omega) (by intro e;cases e;omega)
def ixs (N:Nat):Nat→List {j:Nat//j<N}
 | 0=>[]
 | k+1=>ixs N k++(if h:k<N then [⟨k,h⟩] else [])
theorem ixs_len {N:Nat}: ∀k,k≤N→(ixs N k).length=k
 | 0,_=>rfl
 | k+1,h=>by
  have h1:=ixs_len (N:=N) k (by omega)
  simp[ixs,h1,show k<N by omega]
theorem ixs_succ {N k:Nat} (h:k<N):ixs N (k+1)=ixs N k++ [⟨k,h⟩]:=by simp[ixs,h]
def chv (ad:Addr) (n j:Nat):Value:= .slice (some (ad.add (j*n))) n n
set_option maxRecDepth 100000 in
set_option maxHeartbeats 2000000 in
theorem chunk1_in (F:Fence) (fu:Nat) (h7:F.fn 135) (hro:F.round=none) (hfu:1≤fu) (l Bs Bn n N M c:Nat) (ad:Addr) (T:List Nat) (hn:n=8∨n=16) (hM:Hid (M=N*n)) (hN:M≤100000) (hc:M≤c) (hBs:Bs∈T) (hBn:Bn∈T) (J Jx:List {j:Nat//j<N}→World→Prop) (hJd: ∀s W,J s W→J s W.drew)
  (hY: ∀pre x W,J pre W→pre.length<N→YieldAt F (fu-1) Tryz.prog l #[chv ad n x.1] W fun e W'=>
   (e= .returned (.bool true)∧J (pre++ [x]) W'∧KpL T W W')∨(e= .returned (.bool false)∧Jx (pre++ [x]) W'))
  (W:World) (hbs:Blk W Bs 22 #[.slice (some ad) M c]) (hbn:Blk W Bn 3 #[.int .i64 (n:Int)]) (h0:J [] W):
  CallsIn F fu Tryz.prog 135 #[.func (.yield l) #[] #[], .pointer (some ⟨Bs,0,none⟩), .pointer (some ⟨Bn,0,none⟩)] W fun e W'=>(∃v,e= .returned v)∧
   ((∃ys,ys=ixs N N∧J ys W')∨(∃pre,(∃k,k≤N∧pre=ixs N k)∧Jx pre W')):=by
 refine callsIn_of_wp Tryz.func135 rfl h7 ?_ hro
 simp only[Tryz.ntmps135,List.size_toArray,List.length_cons,List.length_nil,Nat.reduceAdd,Nat.reduceSub,Array.replicate_succ,Array.replicate_zero,List.push_toArray,List.append_toArray,List.nil_append,List.cons_append]
 gi_wp2
 gi_loopw [4] (fun i wr=> ∃k q:Nat,k≤N∧Hid (q=k*n)∧i= .int .i64 (q:Int)∧J (ixs N k) wr∧Blk wr Bs 22 #[.slice (some ad) M c]∧Blk wr Bn 3 #[.int .i64 (n:Int)])
  (fun i _=>M-(intOf i).toNat)
 case atStart=>exact⟨0,0,Nat.zero_le _,hid (by simp),rfl,h0,hbs,hbn⟩
 case round=>
  obtain⟨k,q,hk,hq,rfl,hJs,hs,hnn⟩:=hrel
  have hcs:wr.cell? ⟨Bs,0,none⟩=some (.slice (some ad) M c):=hs.cell 0
  have hcn:wr.cell? ⟨Bn,0,none⟩=some (.int .i64 (n:Int)):=hnn.cell 0
  by_cases hlt:k<N
  ·have hmul:(k+1)*n≤N*n:=Nat.mul_le_mul_right n hlt
   rw[Nat.succ_mul,← hq.out,← hM.out] at hmul
   obtain⟨fn,tmps,assign,body,hy,hR⟩:=hY _ ⟨k,hlt⟩ wr.drew (hJd _ _ hJs) (by rw[ixs_len _ hk];exact hlt)
   rw[chv,← hq.out] at hy
   have hqM:q<M:=by omega
   have hge: ¬M-q<n:=by omega
   gi_wp2
   gi_region
   all_goals gi_wp2
   all_goals
    refine hR.mono ?_
    rintro e W3 (⟨rfl,hJ3,hk3⟩ | ⟨rfl,hJx3⟩)
    ·have hs3:Blk W3 Bs 22 #[.slice (some ad) M c]:=(hk3 Bs hBs).trans hs
     have hn3:Blk W3 Bn 3 #[.int .i64 (n:Int)]:=(hk3 Bn hBn).trans hnn
     have hcn3:W3.cell? ⟨Bn,0,none⟩=some (.int .i64 (n:Int)):=hn3.cell 0
     gi_wp2
     go_roundw
     case rel=>exact⟨k+1,q+n,by omega,hid (by rw[Nat.succ_mul,← hq.out]),by simp,by rw[ixs_succ hlt];exact hJ3,hs3,hn3⟩
     case measure=>simp[intOf];omega
    gi_wp2
    refine bodyPost_ret (results_none rfl _ _ _) rfl ?_
    exact⟨⟨_,rfl⟩, .inr ⟨_,⟨k+1,by omega,(ixs_succ hlt).symm⟩,hJx3⟩⟩
  obtain rfl:k=N:=by omega
  have hqM:q=M:=by rw[hq.out,hM.out]
  subst hqM
  gi_wp2
  go_end0
  exact⟨⟨_,rfl⟩, .inl ⟨_,rfl,hJs⟩⟩
set_option maxRecDepth 100000 in
set_option maxHeartbeats 2000000 in
theorem chunk1_nil (F:Fence) (fu:Nat) (h7:F.fn 135) (hro:F.round=none) (l Bs Bn c N:Nat) (J:List {j:Nat//j<N}→World→Prop) (W:World) (hbs:Blk W Bs 22 #[.slice none 0 c]) (h0:J [] W):
  CallsIn F fu Tryz.prog 135 #[.func (.yield l) #[] #[], .pointer (some ⟨Bs,0,none⟩), .pointer (some ⟨Bn,0,none⟩)] W fun e W'=>(∃v,e= .returned v)∧J [] W':=by
 refine callsIn_of_wp Tryz.func135 rfl h7 ?_ hro
 simp only[Tryz.ntmps135,List.size_toArray,List.length_cons,List.length_nil,Nat.reduceAdd,Nat.reduceSub,Array.replicate_succ,Array.replicate_zero,List.push_toArray,List.append_toArray,List.nil_append,List.cons_append]
 have hcs:W.cell? ⟨Bs,0,none⟩=some (.slice none 0 c):=hbs.cell 0
 gi_wp2
 gi_loopw [4] (fun i wr=>i= .int .i64 0∧J [] wr∧wr.cell? ⟨Bs,0,none⟩=some (.slice none 0 c)) (fun _ _=>0)
 case atStart=>exact⟨rfl,h0,hcs⟩
 case round=>
  obtain⟨rfl,hJs,hc1⟩:=hrel
  gi_wp2
  go_end0
  exact⟨⟨_,rfl⟩,hJs⟩
theorem grown_drew (W:World):W.grownBy W.drew none:=⟨rfl,rfl,rfl,Nat.le_refl _,fun _ _ _=>rfl⟩
theorem chunk_stops (F:Fence) (fu:Nat) (h7:F.fn 135) (hro:F.round=none) (hfu:1≤fu) (Bs Bn n N M c:Nat) (A:Option Addr) (T:List Nat) (hn:n=8∨n=16) (hM:M=N*n) (hN:M≤100000) (hc:M≤c) (hA:A=none→M=0) (hBs:Bs∈T) (hBn:Bn∈T) (w:World)
  (hbs:Blk w Bs 22 #[.slice A M c]) (hbn:Blk w Bn 3 #[.int .i64 (n:Int)]):
  SeqStopsK F fu Tryz.prog 135 #[.pointer (some ⟨Bs,0,none⟩), .pointer (some ⟨Bn,0,none⟩)] (fun x: {j:Nat//j<N}=>#[chv (A.getD default) n x.1]) (KpL T) (fun ys=>ys=ixs N N) (fun pre=> ∃k,k≤N∧pre=ixs N k) N w:=fun l J Jx W hW hJ _ hY h0=>by
 have hs1:=hbs.below hW hbs.lt
 have hn1:=hbn.below hW hbn.lt
 rcases A with _ | ad
 ·have h0':M=0:=hA rfl
  subst h0'
  obtain rfl:N=0:=by rcases hn with rfl | rfl<;>omega
  exact(chunk1_nil F fu h7 hro l Bs Bn c 0 J W hs1 h0).mono fun e W' ⟨he,hj⟩=>⟨he, .inl ⟨_,rfl,hj⟩⟩
 exact chunk1_in F fu h7 hro hfu l Bs Bn n N M c ad T hn (hid hM) hN hc hBs hBn J Jx (fun s W hs=>hJ s W _ none hs (grown_drew W) (fun r e=>by cases e)) hY W hs1 hn1 h0
set_option maxRecDepth 100000 in
theorem chunk_any (A:Option Addr) (M c n:Nat) (hn:n=8∨n=16) (w:World):
  Calls Tryz.prog 112 #[.slice A M c, .int .i64 (n:Int)] w fun e w'=>e= .returned (.func (.func 135) #[] #[.pointer (some ⟨w.heap.size,0,none⟩), .pointer (some ⟨w.heap.size+1,0,none⟩)])∧w'=(w.alloc (.cells #[.slice A M c] 22)).alloc (.cells #[.int .i64 (n:Int)] 3):=by
 go_enter Tryz.func112,Tryz.ntmps112
 go_wp2_with fail
 go_ret
 exact⟨rfl,rfl⟩
end Go.Proofs.YtlmacfmfmjhidaaGreatDoor.Md
namespace Go.Proofs.YtlmacfmfmjhidaaGreatDoor.Md
open Mem Bk Go.ChangeShapes Go.WideShapes Go.ChangeAt Go.RowKit Go.Shelf
attribute [local go_sem] Oper.semAt_some
theorem wpi_app {F:Fence}{nF:Nat}{P:Program}{ops:Array Oper}{rest:List Oper}{o:Oper}{a:Act}{w:World}{Q:Exit→Act→World→Prop} (hgd:o.guard=none) (p q:Operand) (t:TypeId) (ho:o.op= .call {callee:= .builtin .append,args:=#[p,q],argTypes:=#[t,t]}) (base:Nat) (e:TypeId) (ht:P.underlying t=some (.slice e))
  (hinfo:(P.info? e).map (fun i=>(i.zero,i.size,i.bytes))=some (some (.int .u8 0),1,1)) (v:Value) (n:Nat) (f:Nat→Nat) (hp:a.eval p=v) (hown:Mem.Own w base e 1 v n f)
  (m c g:Nat) (y:Nat→Nat) (t':TypeId) (hg:Blk w g t' (row m (b8 y))) (hq:a.eval q= .slice (some ⟨g,0,none⟩) m c) (hm:0<m) (hn:n+m≤1000000) (hbase:base≤w.heap.size)
  (h: ∀g' c' w',Mem.Own w' base e 1 (.slice (some ⟨g',0,none⟩) (n+m) c') (n+m) (cat n f y)→w.grownBy w' v.ownBlock→wpListIn F nF P ops Q rest (a.put o.dst (.slice (some ⟨g',0,none⟩) (n+m) c')) w'):wpListIn F nF P ops Q (o::rest) a w:=by
 obtain⟨i,hi,hz0,hz1,hz2⟩:=info_parts hinfo
 refine wpListIn_append_own w hgd p q t ho base e i (.int .u8 0) 1 1 ht hi hz0 hz1 hz2 rfl (by decide) v n _ hp hown ⟨g,0,none⟩ m c ((List.range m).map (b8 y)) hq (by simp) ?_ ?_ ?_ ?_ hbase ?_
 ·intro j u hu
  by_cases hj:j<m
  ·simp[hj] at hu
   subst hu
   rw[add_zero_off,hg.cell,row_get _ _ _ hj]
  rw[List.getElem?_eq_none (by simp;omega)] at hu;cases hu
 ·intro u hu
  simp only[List.mem_map] at hu
  obtain⟨i,_,rfl⟩:=hu
  rfl
 ·unfold maxLen;omega
 ·omega
 intro v' w' h1 h2 _
 obtain⟨m',rfl⟩: ∃m',m=m'+1:=⟨m-1,by omega⟩
 obtain⟨g',c',rfl⟩:=ownsRow_succ (k:=n+m') h1
 refine h g' c' w' ?_ h2
 unfold Mem.Own
 have:=cat_list n (m'+1) f y
 rw[Nat.mul_one] at h1
 rw[this] at h1
 rw[Nat.mul_one]
 exact h1
def Dep {σ:Type} (B:Nat) (Inv:σ→World→Prop):Prop:=
 ∀s W W',Inv s W→Below B W W'→(∀g t cs,Blk W g t cs→(t=150∨t=174)→Blk W' g t cs)→Inv s W'
def run {σ:Type} (st:σ→(Nat→Nat)→(Nat→Nat)×σ) (n:Nat) (xb:Nat→Nat→Nat) (s0:σ) (l:List Nat):σ×(Nat→Nat)×Nat:=
 l.foldl (fun r j=>((st r.1 (xb j)).2,cat r.2.2 r.2.1 (st r.1 (xb j)).1,r.2.2+n)) (s0,(fun _=>0),0)
theorem run_snoc {σ:Type} (st:σ→(Nat→Nat)→(Nat→Nat)×σ) (n:Nat) (xb:Nat→Nat→Nat) (s0:σ) (l:List Nat) (j:Nat):
  run st n xb s0 (l++ [j])=((st (run st n xb s0 l).1 (xb j)).2,cat (run st n xb s0 l).2.2 (run st n xb s0 l).2.1 (st (run st n xb s0 l).1 (xb j)).1,(run st n xb s0 l).2.2+n):=by
 unfold run;rw[List.foldl_append];rfl
theorem run_len {σ:Type} (st:σ→(Nat→Nat)→(Nat→Nat)×σ) (n:Nat) (xb:Nat→Nat→Nat) (s0:σ) (l:List Nat):(run st n xb s0 l).2.2=l.length*n:=by
 generalize hk:l.length=k
 induction k generalizing l with
 | zero=>rw[List.length_eq_zero_iff.1 hk];simp[run]
 | succ k ih=>
  obtain⟨l',j,rfl⟩: ∃l' j,l=l'++ [j]:=by
   rcases List.eq_nil_or_concat l with rfl | ⟨l',j,rfl⟩
   ·simp at hk
   exact⟨l',j,by simp⟩
  rw[run_snoc,ih l' (by simpa using hk),Nat.succ_mul]
theorem make0 (M:Nat) (hM:M≤100000) (w:World):(Instr.makeSlice 22 (.int .i64 0) (.int .i64 (M:Int))).run Tryz.prog w= .ok (.slice (some ⟨w.heap.size,0,none⟩) 0 M) (w.alloc (.cells (row M (b8 fun _=>0)) 5)):=by
 obtain⟨i,hi,hz0,hz1,hz2⟩:=info_parts info8
 have hr:=run_make (P:=Tryz.prog) w 22 5 i (.int .u8 0) Tryz.underlying22 hi hz0 .i64 .i64 0 M (by omega) (by omega) (by rw[hz2];omega) (by omega)
 simp only[Int.toNat_natCast,Int.toNat_zero,hz1,Nat.mul_one] at hr
 rw[← made_b8]
 exact hr
theorem blk_fresh {w:World}{k:Nat} (hk:w.heap.size=k) (t:TypeId) (cs:Array Value):Blk (w.alloc (.cells cs t)) k t cs:=hk▸Blk.fresh w t cs
theorem blk_nonc {W W':World}{row:Option Nat}{B g:Nat}{t:TypeId}{cs:Array Value} (h:Blk W g t cs) (hg:W.grownBy W' row) (hr: ∀r,row=some r→B≤r∧∃o:Obj,W.heap[r]? =some o∧o.isCells=false):Blk W' g t cs:=
 h.grown hg fun e=>by
  obtain⟨_,o,ho,hc⟩:=hr g e.symm
  rw[h.out] at ho
  cases ho
  cases hc
theorem own_blks {w w':World}{base e n:Nat}{v:Value}{f:Nat→Nat} (ho:Mem.Own w base e 1 v n f) (h: ∀g cs,Blk w g e cs→Blk w' g e cs):Mem.Own w' base e 1 v n f:=by
 obtain⟨h1,h2 | ⟨k,c,cur,rfl,hbk,hblk,hnc,hcm,hsz,hcs⟩⟩:=ho
 ·exact⟨h1, .inl h2⟩
 exact⟨h1, .inr ⟨k,c,cur,rfl,hbk,h _ _ hblk,hnc,hcm,hsz,hcs⟩⟩
theorem keptS_grown {S:List Nat}{a W W':World}{row:Option Nat} (h:KeptS S a W) (hg:W.grownBy W' row) (hr: ∀r,row=some r→a.heap.size≤r):KeptS S a W':=
 ⟨hg.os.trans h.os,hg.tape.trans h.tape,hg.output.trans h.output,Nat.le_trans h.size hg.size,fun k hk hs=>(hg.block k (Nat.lt_of_lt_of_le hk h.size) (fun e=>by have:=hr k e.symm;omega)).trans (h.block k hk hs)⟩
theorem below_grown {B:Nat}{W W':World}{row:Option Nat} (hB:B≤W.heap.size) (hg:W.grownBy W' row) (hr: ∀r,row=some r→B≤r):Below B W W':=(Below.refl B W).grown hg hB hr
theorem ne_own {W:World}{base e n k:Nat}{t:TypeId}{v:Value}{f:Nat→Nat}{cs:Array Value} (ho:Mem.Own W base e 1 v n f) (hb:Blk W k t cs) (ht:t≠e):some k≠v.ownBlock:=by
 rcases ho.form with⟨rfl,-⟩ | ⟨g,c,cur,rfl,-,-,-,hbg,-,-⟩
 ·simp[Value.ownBlock]
 intro he
 have:k=g:=by simpa [Value.ownBlock] using he
 subst this
 have:=hb.out.symm.trans hbg.out
 simp at this
 exact ht this.2
theorem own_ge {W:World}{base e n r:Nat}{v:Value}{f:Nat→Nat} (ho:Mem.Own W base e 1 v n f) (h:v.ownBlock=some r):base≤r∧∃cs,Blk W r e cs:=by
 rcases ho.form with⟨rfl,-⟩ | ⟨g,c,cur,rfl,hb,-,-,hbg,-,-⟩
 ·simp[Value.ownBlock] at h
 have:g=r:=by simpa [Value.ownBlock] using h
 subst this
 exact⟨hb,cur,hbg⟩
theorem own_keptS {S:List Nat}{W W':World}{base e n:Nat}{v:Value}{f:Nat→Nat} (ho:Mem.Own W base e 1 v n f) (h:KeptS S W W') (hS: ∀g∈S,g<base):Mem.Own W' base e 1 v n f:=by
 obtain⟨h1,h2 | ⟨k,c,cur,rfl,hbk,hblk,hnc,hcm,hsz,hcs⟩⟩:=ho
 ·exact⟨h1, .inl h2⟩
 exact⟨h1, .inr ⟨k,c,cur,rfl,hbk,KeptS.blk h hblk (fun e=>by have:=hS k e;omega),hnc,hcm,hsz,hcs⟩⟩
theorem ixs_map {N:Nat}: ∀k,k≤N→(ixs N k).map (·.1)=List.range k
 | 0,_=>rfl
 | k+1,h=>by
  have h1:=ixs_map (N:=N) k (by omega)
  simp[ixs,h1,show k<N by omega,List.range_succ]
def EI {σ:Type} (Inv:σ→World→Prop) (st:σ→(Nat→Nat)→(Nat→Nat)×σ) (S:List Nat) (fv tv:Value) (n N:Nat) (x:Nat→Nat) (s0:σ) (w:World) (pre:List {j:Nat//j<N}) (W:World):Prop:=
 (∃v,Blk W (w.heap.size+1+1+1+1+1) 22 #[v]∧Mem.Own W w.heap.size 5 1 v (pre.length*n) (run st n (fun j i=>x (j*n+i)) s0 (pre.map (·.1))).2.1)∧
 (Blk W (w.heap.size+1) 132 #[fv]∧Blk W (w.heap.size+1+1) 22 #[.slice none 0 0]∧Blk W (w.heap.size+1+1+1) 27 #[.nilIface]∧Blk W (w.heap.size+1+1+1+1+1+1) 22 #[tv]∧Blk W (w.heap.size+1+1+1+1+1+1+1) 3 #[.int .i64 (n:Int)]∧w.heap.size+8≤W.heap.size)∧
 Inv (run st n (fun j i=>x (j*n+i)) s0 (pre.map (·.1))).1 W∧KeptS S w W
theorem EI.own {σ:Type}{Inv:σ→World→Prop}{st:σ→(Nat→Nat)→(Nat→Nat)×σ}{S:List Nat}{fv tv:Value}{n N:Nat}{x:Nat→Nat}{s0:σ}{w:World} (hdep:Dep w.heap.size Inv){B:Nat} (hB:w.heap.size≤B):OwnFrom B (EI Inv st S fv tv n N x s0 w):=by
 rintro pre W W' row ⟨⟨v,h1,h2⟩,⟨h3,h4,h5,h8,h9,h10⟩,h6,h7⟩ hg hr
 have hr': ∀r,row=some r→w.heap.size≤r:=fun r e=>Nat.le_trans hB (hr r e).1
 exact⟨⟨v,blk_nonc h1 hg hr,own_blks h2 fun g cs hb=>blk_nonc hb hg hr⟩,⟨blk_nonc h3 hg hr,blk_nonc h4 hg hr,blk_nonc h5 hg hr,blk_nonc h8 hg hr,blk_nonc h9 hg hr,Nat.le_trans h10 hg.size⟩,hdep _ W W' h6 (below_grown h7.size hg hr') (fun g t cs hb _=>blk_nonc hb hg hr),keptS_grown h7 hg hr'⟩
set_option maxRecDepth 100000 in
set_option maxHeartbeats 2000000 in
theorem each_any {σ:Type} (Inv:σ→World→Prop) (st:σ→(Nat→Nat)→(Nat→Nat)×σ) (S:List Nat) (ff:Nat) (lb:Array Value) (n N M c:Nat) (A:Option Addr) (x:Nat→Nat) (s0:σ) (w:World)
  (hn:n=8∨n=16) (hM:M=N*n) (hN:M≤100000) (hc:M≤c) (hA:A=none→M=0) (hx: ∀i,i<M→x i<256) (hR:Reads w w.heap.size A M x) (hAS: ∀ad,A=some ad→0<M→ad.block∉S) (hS: ∀g∈S,g<w.heap.size)
  (hdep:Dep w.heap.size Inv) (h0:Inv s0 w) (hen: ∀args w,(callFunc ff args).run Tryz.prog w= .ok (.enter ff args) w)
  (hstep: ∀s W ad y,Inv s W→w.heap.size≤W.heap.size→ad.block<w.heap.size→ad.block∉S→(∀i,i<n→W.cell? (ad.add i)=some (.int .u8 ((y i:Nat):Int)))→(∀i,i<n→y i<256)→
   Calls Tryz.prog ff (#[.slice (some ad) n n]++lb) W fun e W'=>KeptS S W W'∧Inv (st s y).2 W'∧∃g t,e= .returned (.tuple #[.slice (some ⟨g,0,none⟩) n n, .nilIface])∧Blk W' g t (row n (b8 (st s y).1))):
  Calls Tryz.prog 86 #[.slice A M c, .int .i64 (n:Int), .func (.func ff) #[] lb] w fun e w'=>KeptS S w w'∧∃v,e= .returned (.tuple #[v, .nilIface])∧Mem.Own w' w.heap.size 5 1 v M (run st n (fun j i=>x (j*n+i)) s0 (List.range N)).2.1∧Inv (run st n (fun j i=>x (j*n+i)) s0 (List.range N)).1 w':=by
 refine(callsIn_wide (n:=3)).1 ?_
 refine callsIn_of_wp_marks Tryz.func86 rfl trivial ?_ rfl
 simp only[Tryz.ntmps86,List.size_toArray,List.length_cons,List.length_nil,Nat.reduceAdd,Nat.reduceSub,Array.replicate_succ,Array.replicate_zero,List.push_toArray,List.append_toArray,List.nil_append,List.cons_append]
 have hmk:=make0 M hN
 have HM:=hid hM
 clear hM
 gi_wp2_with (refine⟨trivial,?_⟩;gi_at_call 112;refine(callsIn_wide.2 (chunk_any _ _ _ _ hn _)).mono ?_;rintro e w' ⟨rfl,rfl⟩)
 have hB0:Below w.heap.size w ((((((((w.alloc (.cells #[.int .i64 (n:Int)] 3)).alloc (.cells #[.func (.func ff) #[] lb] 132)).alloc (.cells #[.slice none 0 0] 22)).alloc (.cells #[.nilIface] 27)).alloc (.cells (row M (b8 fun _=>0)) 5)).alloc (.cells #[.slice (some ⟨w.heap.size+1+1+1+1,0,none⟩) 0 M] 22)).alloc (.cells #[.slice A M c] 22)).alloc (.cells #[.int .i64 (n:Int)] 3)):=
  (((((((((Below.refl _ w).alloc (Nat.le_refl _) _).alloc (by simp<;>omega) _).alloc (by simp<;>omega) _).alloc (by simp<;>omega) _).alloc (by simp<;>omega) _).alloc (by simp<;>omega) _).alloc (by simp<;>omega) _).alloc (by simp<;>omega) _)
 have hz:((((((((w.alloc (.cells #[.int .i64 (n:Int)] 3)).alloc (.cells #[.func (.func ff) #[] lb] 132)).alloc (.cells #[.slice none 0 0] 22)).alloc (.cells #[.nilIface] 27)).alloc (.cells (row M (b8 fun _=>0)) 5)).alloc (.cells #[.slice (some ⟨w.heap.size+1+1+1+1,0,none⟩) 0 M] 22)).alloc (.cells #[.slice A M c] 22)).alloc (.cells #[.int .i64 (n:Int)] 3)).heap.size=w.heap.size+8:=by simp
 generalize hW0:((((((((w.alloc (.cells #[.int .i64 (n:Int)] 3)).alloc (.cells #[.func (.func ff) #[] lb] 132)).alloc (.cells #[.slice none 0 0] 22)).alloc (.cells #[.nilIface] 27)).alloc (.cells (row M (b8 fun _=>0)) 5)).alloc (.cells #[.slice (some ⟨w.heap.size+1+1+1+1,0,none⟩) 0 M] 22)).alloc (.cells #[.slice A M c] 22)).alloc (.cells #[.int .i64 (n:Int)] 3))=W0 at hB0 hz ⊢
 have b1:Blk W0 (w.heap.size+1) 132 #[.func (.func ff) #[] lb]:=by rw[← hW0];repeat (first | exact blk_fresh (by simp) _ _ | apply Blk.alloc)
 have b2:Blk W0 (w.heap.size+1+1) 22 #[.slice none 0 0]:=by rw[← hW0];repeat (first | exact blk_fresh (by simp) _ _ | apply Blk.alloc)
 have b3:Blk W0 (w.heap.size+1+1+1) 27 #[.nilIface]:=by rw[← hW0];repeat (first | exact blk_fresh (by simp) _ _ | apply Blk.alloc)
 have b4:Blk W0 (w.heap.size+1+1+1+1) 5 (row M (b8 fun _=>0)):=by rw[← hW0];repeat (first | exact blk_fresh (by simp) _ _ | apply Blk.alloc)
 have b5:Blk W0 (w.heap.size+1+1+1+1+1) 22 #[.slice (some ⟨w.heap.size+1+1+1+1,0,none⟩) 0 M]:=by rw[← hW0];repeat (first | exact blk_fresh (by simp) _ _ | apply Blk.alloc)
 have b6:Blk W0 (w.heap.size+1+1+1+1+1+1) 22 #[.slice A M c]:=by rw[← hW0];repeat (first | exact blk_fresh (by simp) _ _ | apply Blk.alloc)
 have b7:Blk W0 (w.heap.size+1+1+1+1+1+1+1) 3 #[.int .i64 (n:Int)]:=by rw[← hW0];repeat (first | exact blk_fresh (by simp) _ _ | apply Blk.alloc)
 have hown0:Mem.Own W0 w.heap.size 5 1 (.slice (some ⟨w.heap.size+1+1+1+1,0,none⟩) 0 M) 0 (fun _=>0):=⟨by simp, .inr ⟨_,_,_,rfl,by omega,b4,by omega,by unfold maxLen;omega,by simp[row_size],by simp⟩⟩
 clear hW0
 refine wpIn_rangeFunc_ownG rfl (by omega) (gf:=135) (lb:=#[.pointer (some ⟨w.heap.size+1+1+1+1+1+1,0,none⟩), .pointer (some ⟨w.heap.size+1+1+1+1+1+1+1,0,none⟩)]) rfl trivial (enters_of Tryz.func135 (by kernel_rfl) rfl)
  (chunk_stops Fence.wide _ trivial rfl (by omega) _ _ n N M c A [w.heap.size+1+1+1+1+1+1,w.heap.size+1+1+1+1+1+1+1] hn HM.out hN hc hA (by simp) (by simp) W0 b6 b7) kpL_t (kpL_b (by simp[hz])) (Below.refl _ _) (fun _=>rfl)
  (EI Inv st S (.func (.func ff) #[] lb) (.slice A M c) n N x s0 w) (fun _ _ _=>False) (EI.own hdep (by omega)) (fun _ _ _ _ _ hs _ _=>hs)
  ⟨⟨_,b5,by simpa [run] using hown0⟩,⟨b1,b2,b3,b6,b7,by omega⟩,hdep _ _ _ h0 hB0 (fun g t cs hb _=>hb.below hB0 hb.lt),KeptS.of S hB0⟩
  (fun j=>{tmps:=#[.slice A M c, .int .i64 (n:Int), .func (.func ff) #[] lb,undef, .pointer (some ⟨w.heap.size,0,none⟩), .pointer (some ⟨w.heap.size+1,0,none⟩), .pointer (some ⟨w.heap.size+1+1,0,none⟩), .pointer (some ⟨w.heap.size+1+1+1,0,none⟩), .pointer (some ⟨w.heap.size+1+1+1+1+1,0,none⟩),chv (A.getD default) n j.1,undef,undef, .slice A M c, .int .i64 (M:Int), .slice (some ⟨w.heap.size+1+1+1+1,0,none⟩) 0 M, .slice A M c, .int .i64 (n:Int), .func (.func 135) #[] #[.pointer (some ⟨w.heap.size+1+1+1+1+1+1,0,none⟩), .pointer (some ⟨w.heap.size+1+1+1+1+1+1+1,0,none⟩)],chv (A.getD default) n j.1,undef,undef,undef,undef,undef,undef,undef,undef,undef,undef,undef,undef,undef,undef,undef,undef,undef,undef,undef,undef],defers:=[]}) ?assign ?body ?done ?stop
 case assign=>
  intro l x W K hK
  gi_wp2
  exact hK
 case body=>
  rintro l pre j W ⟨⟨v,h1,h2⟩,⟨h3,h4,h5,h8,h9,h10⟩,h6,h7⟩ hlt
  have hj:=j.2
  have hn0:0<n:=by omega
  have hjM:(j.1+1)*n≤M:=by rw[HM.out];exact Nat.mul_le_mul_right n hj
  rw[Nat.succ_mul] at hjM
  have hpM:(pre.length+1)*n≤M:=by rw[HM.out];exact Nat.mul_le_mul_right n hlt
  rw[Nat.succ_mul] at hpM
  obtain⟨ad,rfl,had,hcell⟩:=hR (by omega)
  have hadS:=hAS ad rfl (by omega)
  have hcw:=keptS_cells hcell h7 had hadS
  have hc1:W.cell? ⟨w.heap.size+1,0,none⟩=some (.func (.func ff) #[] lb):=h3.cell 0
  have HST:=hid (hstep (run st n (fun j i=>x (j*n+i)) s0 (pre.map (·.1))).1 W (ad.add (j.1*n)) (fun i=>x (j.1*n+i)) h6 (by omega) (by rw[add_block];exact had) (by rw[add_block];exact hadS) (fun i hi=>by rw[add_add];exact hcw _ (by omega)) (fun i hi=>hx _ (by omega)))
  have hrl:=run_len st n (fun j i=>x (j*n+i)) s0 (pre.map (·.1))
  have hrs:=run_snoc st n (fun j i=>x (j*n+i)) s0 (pre.map (·.1)) j.1
  rw[List.length_map] at hrl
  generalize hru:run st n (fun j i=>x (j*n+i)) s0 (pre.map (·.1))=ru at*
  clear hstep hcw hcell hR hx
  gi_wp2
  refine⟨trivial,(CallsIn.inRound l (callsIn_wide.2 HST.out)).mono ?_⟩
  rintro e W1 ⟨hK1,hI1,g,t,rfl,hg⟩
  have hnS: ∀k,w.heap.size≤k→k∉S:=fun k hk e=>by have:=hS k e;omega
  have k1:=KeptS.blk hK1 h1 (hnS _ (by omega))
  have k2:=own_keptS h2 hK1 hS
  have hc5:W1.cell? ⟨w.heap.size+1+1+1+1+1,0,none⟩=some v:=k1.cell 0
  gi_wp2_with (gi_at_builtin;refine wpi_app rfl _ _ 22 rfl w.heap.size 5 Tryz.underlying22 info8 v (pre.length*n) _ rfl k2 n n g _ t hg rfl hn0 (by omega) (by have:=hK1.size;omega) ?_;intro g' c' W2 hown2 hgrow;have q1:=k1.grown hgrow (ne_own k2 k1 (by decide));have hc6:W2.cell? ⟨w.heap.size+1+1+1+1+1,0,none⟩=some v:=q1.cell 0;have hf6:=q1.free 0)
  have hs1:=hK1.size
  have hgr:W2.grownBy (W2.setCell ⟨w.heap.size+1+1+1+1+1,0,none⟩ (.slice (some ⟨g',0,none⟩) (pre.length*n+n) c')) (some (w.heap.size+1+1+1+1+1)):=grownBy_setCell' _ _ _
  have hown3: ∀r,v.ownBlock=some r→w.heap.size≤r:=fun r e=>(own_ge k2 e).1
  have car1: ∀k t cs,Blk W1 k t cs→t≠5→k≠w.heap.size+1+1+1+1+1→Blk (W2.setCell ⟨w.heap.size+1+1+1+1+1,0,none⟩ (.slice (some ⟨g',0,none⟩) (pre.length*n+n) c')) k t cs:=fun k t cs hb ht hk=>
   (hb.grown hgrow (ne_own k2 hb ht)).other _ _ hk
  have car: ∀k t cs,Blk W k t cs→w.heap.size≤k→t≠5→k≠w.heap.size+1+1+1+1+1→Blk (W2.setCell ⟨w.heap.size+1+1+1+1+1,0,none⟩ (.slice (some ⟨g',0,none⟩) (pre.length*n+n) c')) k t cs:=fun k t cs hb hw ht hk=>
   car1 k t cs (KeptS.blk hK1 hb (hnS _ hw)) ht hk
  have e3:=car _ _ _ h3 (by omega) (by decide) (by omega)
  have e4:=car _ _ _ h4 (by omega) (by decide) (by omega)
  have e5:=car _ _ _ h5 (by omega) (by decide) (by omega)
  have e8:=car _ _ _ h8 (by omega) (by decide) (by omega)
  have e9:=car _ _ _ h9 (by omega) (by decide) (by omega)
  have hKF:KeepsFrom W0.heap.size W (W2.setCell ⟨w.heap.size+1+1+1+1+1,0,none⟩ (.slice (some ⟨g',0,none⟩) (pre.length*n+n) c')):=by
   refine(KeepsFrom.trans (Y:=W1) ⟨hK1.size,fun k o hB hk _=>(hK1.block k (Array.getElem?_eq_some_iff.1 hk).1 (hnS _ (by omega))).trans hk⟩ ?_).trans ((KeepsOthers.setCell _ _ _).from _)
   refine⟨hgrow.size,fun k o hB hk ho=>(hgrow.block k (Array.getElem?_eq_some_iff.1 hk).1 fun e=>?_).trans hk⟩
   obtain⟨-,cs,hcs⟩:=own_ge k2 e.symm
   rw[hcs.out] at hk
   cases hk
   cases ho
  refine⟨hKF,?_,?_⟩
  ·intro q hq
   simp only[List.mem_cons,List.not_mem_nil,or_false] at hq
   rcases hq with rfl | rfl
   ·exact e8.out.trans h8.out.symm
   exact e9.out.trans h9.out.symm
  have hlen:(pre++ [j]).length*n=pre.length*n+n:=by simp[Nat.succ_mul]
  unfold EI
  rw[hlen,List.map_append,List.map_cons,List.map_nil,hrs,hrl]
  refine⟨⟨_,q1.setCell 0 _,own_blks hown2 fun b cs hb=>hb.other _ _ ?_⟩,⟨e3,e4,e5,e8,e9,by have:=hKF.size;omega⟩,?_,?_⟩
  ·intro e
   have e':b=w.heap.size+1+1+1+1+1:=e
   subst e'
   have:=hb.out.symm.trans q1.out
   simp at this
  ·refine hdep _ W1 _ hI1 ?_ fun b t cs hb ht=>?_
   ·exact(below_grown (by omega) hgrow hown3).trans (below_grown (by have:=hgrow.size;omega) hgr fun r e=>by cases e;omega)
   by_cases hk:b=w.heap.size+1+1+1+1+1
   ·subst hk
    have:=hb.out.symm.trans k1.out
    simp at this
    rcases ht with rfl | rfl<;>exact absurd this.2 (by decide)
   exact car1 b t cs hb (by rcases ht with rfl | rfl<;>decide) hk
  exact keptS_grown (keptS_grown (h7.trans hK1) hgrow hown3) hgr fun r e=>by cases e;omega
 case done=>
  rintro D ys W hD rfl ⟨⟨v,h1,h2⟩,⟨h3,h4,h5,h8,h9,h10⟩,h6,h7⟩ hK
  rw[ixs_map N (Nat.le_refl _)] at h2 h6
  rw[ixs_len N (Nat.le_refl _),← HM.out] at h2
  have hc5:W.cell? ⟨w.heap.size+1+1+1+1+1,0,none⟩=some v:=h1.cell 0
  have hc2:W.cell? ⟨w.heap.size+1+1,0,none⟩=some (.slice none 0 0):=h4.cell 0
  have hf2:=h4.free 0
  obtain⟨Av,cv,rfl,hcv⟩:=h2.slice
  have m2:Blk (W.setCell ⟨w.heap.size+1+1,0,none⟩ (.slice Av M cv)) (w.heap.size+1+1) 22 #[.slice Av M cv]:=h4.setCell 0 (.slice Av M cv)
  have m3:=h5.other ⟨w.heap.size+1+1,0,none⟩ (.slice Av M cv) (by simp)
  have hc3:(W.setCell ⟨w.heap.size+1+1,0,none⟩ (.slice Av M cv)).cell? ⟨w.heap.size+1+1+1,0,none⟩=some .nilIface:=m3.cell 0
  have hf3:=m3.free 0
  gi_wp2
  have hK1:=(KeepsOthers.setCell W ⟨w.heap.size+1+1,0,none⟩ (.slice Av M cv)).same D _ hK rfl
  have hK2:=(KeepsOthers.setCell (W.setCell ⟨w.heap.size+1+1,0,none⟩ (.slice Av M cv)) ⟨w.heap.size+1+1+1,0,none⟩ .nilIface).same D _ hK1 rfl
  have g1:W.grownBy (W.setCell ⟨w.heap.size+1+1,0,none⟩ (.slice Av M cv)) (some (w.heap.size+1+1)):=grownBy_setCell' _ _ _
  have g2:(W.setCell ⟨w.heap.size+1+1,0,none⟩ (.slice Av M cv)).grownBy ((W.setCell ⟨w.heap.size+1+1,0,none⟩ (.slice Av M cv)).setCell ⟨w.heap.size+1+1+1,0,none⟩ .nilIface) (some (w.heap.size+1+1+1)):=grownBy_setCell' _ _ _
  refine⟨by simp, .inl ⟨_,_,rfl,run_takeDeferred hK2,?_⟩⟩
  have n2:Blk ((W.setCell ⟨w.heap.size+1+1,0,none⟩ (.slice Av M cv)).setCell ⟨w.heap.size+1+1+1,0,none⟩ .nilIface) (w.heap.size+1+1) 22 #[.slice Av M cv]:=m2.other _ _ (by simp)
  have n3:Blk ((W.setCell ⟨w.heap.size+1+1,0,none⟩ (.slice Av M cv)).setCell ⟨w.heap.size+1+1+1,0,none⟩ .nilIface) (w.heap.size+1+1+1) 27 #[.nilIface]:=m3.setCell 0 _
  have g3:=grownBy_putObj' ((W.setCell ⟨w.heap.size+1+1,0,none⟩ (.slice Av M cv)).setCell ⟨w.heap.size+1+1+1,0,none⟩ .nilIface) D (.deferred none)
  have hr3: ∀r,some D=some r→W0.heap.size≤r∧∃o:Obj,((W.setCell ⟨w.heap.size+1+1,0,none⟩ (.slice Av M cv)).setCell ⟨w.heap.size+1+1+1,0,none⟩ .nilIface).heap[r]? =some o∧o.isCells=false:=fun r e=>by cases e;exact⟨hD,_,hK2,rfl⟩
  have o2:=blk_nonc n2 g3 hr3
  have o3:=blk_nonc n3 g3 hr3
  have oc2:=o2.cell 0
  have oc3:=o3.cell 0
  have all3: ∀b t cs,Blk W b t cs→(t=150∨t=174∨t=5)→Blk (((W.setCell ⟨w.heap.size+1+1,0,none⟩ (.slice Av M cv)).setCell ⟨w.heap.size+1+1+1,0,none⟩ .nilIface).putObj D (.deferred none)) b t cs:=by
   intro b t cs hb ht
   refine blk_nonc ((hb.other _ _ ?_).other _ _ ?_) g3 hr3
   ·intro e
    have e':b=w.heap.size+1+1:=e
    subst e'
    have:=hb.out.symm.trans h4.out
    simp at this
    rcases ht with rfl | rfl | rfl<;>exact absurd this.2 (by decide)
   intro e
   have e':b=w.heap.size+1+1+1:=e
   subst e'
   have:=hb.out.symm.trans h5.out
   simp at this
   rcases ht with rfl | rfl | rfl<;>exact absurd this.2 (by decide)
  have hsz2:=g1.size
  have hsz3:=g2.size
  refine⟨.tuple #[.slice Av M cv, .nilIface],?_,keptS_grown (keptS_grown (keptS_grown h7 g1 fun r e=>by cases e;omega) g2 fun r e=>by cases e;omega) g3 (fun r e=>by cases e;omega), .slice Av M cv,rfl,own_blks h2 (fun b cs hb=>all3 b _ cs hb (.inr (.inr rfl))),hdep _ W _ h6 ?_ (fun b t cs hb ht=>all3 b t cs hb (by rcases ht with h | h;exact .inl h;exact .inr (.inl h)))⟩
  ·simp[results,Tryz.f86,go_sem,oc2,oc3]
  exact((below_grown (by omega) g1 fun r e=>by cases e;omega).trans (below_grown (by omega) g2 fun r e=>by cases e;omega)).trans (below_grown (by omega) g3 fun r e=>by cases e;omega)
 case stop=>
  rintro D c pre W _ _ h _
  exact h.elim
end Go.Proofs.YtlmacfmfmjhidaaGreatDoor.Md
namespace Go.Proofs.YtlmacfmfmjhidaaGreatDoor.Md
open Mem Bk Go.ChangeShapes Go.WideShapes Go.ChangeAt Go.RowKit
theorem tc_lt {k L:Nat}{key:Nat→Nat}{bk:Bool}{x:Nat→Nat} (hk3:k≠3) (hf:fits k L) (hk: ∀i,i<L→key i<256) (hx: ∀i,i<sz k→x i<256): ∀i,i<sz k→tc k L key bk x i<256:=by
 rcases hf with⟨rfl,hL⟩ | ⟨rfl,hL⟩ | ⟨rfl,hL⟩
 ·unfold tc
  rw[if_pos rfl]
  cases bk
  ·exact Aes.enc_by (ws_lt L hk) (ws_le L) hx
  exact Aes.dec_by (ws_lt L hk) (ws_le L) hx
 ·unfold tc
  rw[if_neg (by omega)]
  exact Des.tdes_by _ _ _ _
 exact absurd rfl hk3
theorem own_base {w:World}{base base' e n:Nat}{v:Value}{f:Nat→Nat} (ho:Mem.Own w base e 1 v n f) (h:base'≤base):Mem.Own w base' e 1 v n f:=by
 obtain⟨h1,h2 | ⟨k,c,cur,rfl,hbk,hblk,hnc,hcm,hsz,hcs⟩⟩:=ho
 ·exact⟨h1, .inl h2⟩
 exact⟨h1, .inr ⟨k,c,cur,rfl,by omega,hblk,hnc,hcm,hsz,hcs⟩⟩
theorem sz_or (k:Nat):sz k=8∨sz k=16:=by unfold sz;split<;>simp
theorem CiAt.fits {w:World}{p:Pl}{k gc base L:Nat}{key:Nat→Nat} (h:CiAt w p k gc base L key):Bk.fits k L:=by
 obtain⟨_,⟨h1,h2,_⟩ | ⟨h1,h2,_⟩ | ⟨h1,h2,_⟩⟩:=h
 ·exact .inl ⟨h1,h2⟩
 ·exact .inr (.inl ⟨h1,h2⟩)
 exact .inr (.inr ⟨h1,h2⟩)
def AhAt (B gA n:Nat) (s:Nat→Nat) (W:World):Prop:=
 ∃ad c,Blk W gA 22 #[.slice (some ad) n c]∧(∀i,i<n→s i<256)∧((ad.block<B∧ad.block≠gA∧∀i,i<n→W.cell? (ad.add i)=some (.int .u8 ((s i:Nat):Int)))∨(∃g t,ad=⟨g,0,none⟩∧(t=150∨t=174)∧Blk W g t (row n (b8 s))))
theorem AhAt.keep {B gA n:Nat}{s:Nat→Nat}{W W':World} (h:AhAt B gA n s W) (hg:gA<B) (hB:Below B W W') (ha: ∀g t cs,Blk W g t cs→(t=150∨t=174)→Blk W' g t cs):AhAt B gA n s W':=by
 obtain⟨ad,c,h1,h2,⟨h3,h4,h5⟩ | ⟨g,t,rfl,h3,h4⟩⟩:=h
 ·exact⟨ad,c,h1.below hB hg,h2, .inl ⟨h3,h4,fun i hi=>(hB.cell (p:=ad.add i) (by rw[add_block];exact h3)).trans (h5 i hi)⟩⟩
 exact⟨_,c,h1.below hB hg,h2, .inr ⟨g,t,rfl,h3,ha _ _ _ h4 h3⟩⟩
theorem AhAt.reads {B gA n:Nat}{s:Nat→Nat}{W:World} (h:AhAt B gA n s W) (hB:B≤W.heap.size): ∃ad c,Blk W gA 22 #[.slice (some ad) n c]∧(∀i,i<n→s i<256)∧Reads W W.heap.size (some ad) n s:=by
 obtain⟨ad,c,h1,h2,⟨h3,h4,h5⟩ | ⟨g,t,rfl,h3,h4⟩⟩:=h
 ·exact⟨ad,c,h1,h2,fun _=>⟨ad,rfl,by omega,h5⟩⟩
 exact⟨_,c,h1,h2,h4.reads⟩
theorem tyOf_or (k:Nat):tyOf k=150∨tyOf k=174:=by unfold tyOf;split<;>simp
theorem xr_by {n:Nat}{f g:Nat→Nat} (hf: ∀i,i<n→f i<256) (hg: ∀i,i<n→g i<256): ∀i,i<n→xr f g i<256:=fun i hi=>xr_lt (hf i hi) (hg i hi)
set_option maxRecDepth 100000 in
set_option maxHeartbeats 1000000 in
theorem ch_any (W:World) (p:Pl) (k gc base L:Nat) (key:Nat→Nat) (ad:Addr) (c kc gA B:Nat) (s y:Nat→Nat) (hk3:k≠3) (h:CiAt W p k gc base L key) (hkc:Blk W kc 49 #[.pointer (some ⟨gc,0,none⟩)]) (hA:AhAt B gA (sz k) s W) (hB:B≤W.heap.size) (had:ad.block<W.heap.size) (hc: ∀i,i<sz k→W.cell? (ad.add i)=some (.int .u8 ((y i:Nat):Int))) (hy: ∀i,i<sz k→y i<256):
  Calls Tryz.prog 115 #[.slice (some ad) (sz k) c, .pointer (some ⟨gA,0,none⟩), .pointer (some ⟨kc,0,none⟩)] W fun e w'=>KeptS [gA] W w'∧AhAt B gA (sz k) (tc k L key false (xr y s)) w'∧∃g,e= .returned (.tuple #[.slice (some ⟨g,0,none⟩) (sz k) (sz k), .nilIface])∧Blk w' g (tyOf k) (row (sz k) (b8 (tc k L key false (xr y s)))):=by
 obtain⟨ad0,c0,hb0,hs,hR0⟩:=hA.reads hB
 have hszk:sz k≤100000:=by rcases sz_or k with h | h<;>omega
 have HX:=hid (xor_any (some ad) (some ad0) (sz k) c c0 y s W hszk hy hs (fun _=>⟨ad,rfl,had,hc⟩) hR0)
 have hc1:W.cell? ⟨gA,0,none⟩=some (.slice (some ad0) (sz k) c0):=hb0.cell 0
 have HI:=hid h
 have Hk:=hid hkc
 have hbt:=tc_lt (bk:=false) hk3 (CiAt.fits h) h.1 (xr_by hy hs)
 have HY:=hid (xr_by hy hs)
 clear h hkc hA hR0 hc hy hs
 go_enter Tryz.func115,Tryz.ntmps115
 go_wp2_with (first
  | (go_at_call 114;refine HX.out.mono ?_;rintro e w1 ⟨rfl,hx1,hB1⟩;have hk1:=(Hk.out.below hB1 Hk.out.lt).cell 0;have hs1:=hB1.size;have hk1:w1.cell? ⟨kc,0,none⟩=some (.pointer (some ⟨gc,0,none⟩)):=hk1;have HD:=hid (do12 w1 p k gc base L key ⟨W.heap.size,0,none⟩ (sz k) false (xr y s) hk3 (HI.out.keep hB1) hx1.lt (fun i hi=>by rw[add_zero_off];exact hx1.val i hi) HY.out))
  | (go_at_call 108;refine HD.out.mono ?_;rintro e w2 ⟨g,rfl,hbg,hgs,hB2⟩;have hbA:=(hb0.below hB1 hb0.lt).below hB2 (by have:=hb0.lt;omega);have hcA:w2.cell? ⟨gA,0,none⟩=some (.slice (some ad0) (sz k) c0):=hbA.cell 0;have hfA:=hbA.free 0;have hbA2:Blk (w2.setCell ⟨gA,0,none⟩ (.slice (some ⟨g,0,none⟩) (sz k) (sz k))) gA 22 #[.slice (some ⟨g,0,none⟩) (sz k) (sz k)]:=hbA.setCell 0 _;have hcA2:(w2.setCell ⟨gA,0,none⟩ (.slice (some ⟨g,0,none⟩) (sz k) (sz k))).cell? ⟨gA,0,none⟩=some (.slice (some ⟨g,0,none⟩) (sz k) (sz k)):=hbA2.cell 0))
 go_ret2
 have hgA:=hb0.lt
 have hbg2:=hbg.other ⟨gA,0,none⟩ (.slice (some ⟨g,0,none⟩) (sz k) (sz k)) (by show g≠gA;omega)
 refine⟨(KeptS.trans (KeptS.of _ hB1) (KeptS.of _ hB2)).trans ⟨rfl,rfl,rfl,(grownBy_setCell' w2 gA _).size,fun q hq hn=>(grownBy_setCell' w2 gA _).block q hq (fun e=>hn (by cases e;simp))⟩,?_,g,rfl,hbg2⟩
 exact⟨_,_,hbA2,hbt, .inr ⟨g,_,rfl,tyOf_or k,hbg2⟩⟩
set_option maxRecDepth 100000 in
set_option maxHeartbeats 1000000 in
theorem un_any (W:World) (p:Pl) (k gc base L:Nat) (key:Nat→Nat) (ad:Addr) (c kc gA B:Nat) (s y:Nat→Nat) (hk3:k≠3) (h:CiAt W p k gc base L key) (hkc:Blk W kc 49 #[.pointer (some ⟨gc,0,none⟩)]) (hA:AhAt B gA (sz k) s W) (hB:B≤W.heap.size) (had:ad.block<B) (hadA:ad.block≠gA) (hc: ∀i,i<sz k→W.cell? (ad.add i)=some (.int .u8 ((y i:Nat):Int))) (hy: ∀i,i<sz k→y i<256):
  Calls Tryz.prog 113 #[.slice (some ad) (sz k) c, .pointer (some ⟨kc,0,none⟩), .pointer (some ⟨gA,0,none⟩)] W fun e w'=>KeptS [gA] W w'∧AhAt B gA (sz k) y w'∧∃g,e= .returned (.tuple #[.slice (some ⟨g,0,none⟩) (sz k) (sz k), .nilIface])∧Blk w' g 5 (row (sz k) (b8 (xr (tc k L key true y) s))):=by
 obtain⟨ad0,c0,hb0,hs,hR0⟩:=hA.reads hB
 have hszk:sz k≤100000:=by rcases sz_or k with h | h<;>omega
 have HD:=hid (do12 W p k gc base L key ad c true y hk3 h (by omega) hc hy)
 have hk1:W.cell? ⟨kc,0,none⟩=some (.pointer (some ⟨gc,0,none⟩)):=hkc.cell 0
 have hbt:=tc_lt (bk:=true) hk3 (CiAt.fits h) h.1 hy
 have Hc:=hid hc
 have Hy:=hid hy
 have HR:=hid hR0
 clear h hkc hA hR0 hc hy
 go_enter Tryz.func113,Tryz.ntmps113
 go_wp2_with (first
  | (go_at_call 108;refine HD.out.mono ?_;rintro e w1 ⟨g,rfl,hbg,hgs,hB1⟩;have hb1:=hb0.below hB1 hb0.lt;have hs1:=hB1.size;have hc1:w1.cell? ⟨gA,0,none⟩=some (.slice (some ad0) (sz k) c0):=hb1.cell 0;have HX:=hid (xor_any (some ⟨g,0,none⟩) (some ad0) (sz k) (sz k) c0 (tc k L key true y) s w1 hszk hbt hs hbg.reads ((HR.out.below hB1).more hs1)))
  | (go_at_call 114;refine HX.out.mono ?_;rintro e w2 ⟨rfl,hx2,hB2⟩;have hbA:=hb1.below hB2 hb1.lt;have hcA:w2.cell? ⟨gA,0,none⟩=some (.slice (some ad0) (sz k) c0):=hbA.cell 0;have hfA:=hbA.free 0))
 go_ret2
 have hgA:=hb0.lt
 have hbA2:Blk (w2.setCell ⟨gA,0,none⟩ (.slice (some ad) (sz k) c)) gA 22 #[.slice (some ad) (sz k) c]:=hbA.setCell 0 _
 have hx3:=hx2.other ⟨gA,0,none⟩ (.slice (some ad) (sz k) c) (by show w1.heap.size≠gA;omega)
 refine⟨(KeptS.trans (KeptS.of _ hB1) (KeptS.of _ hB2)).trans ⟨rfl,rfl,rfl,(grownBy_setCell' w2 gA _).size,fun q hq hn=>(grownBy_setCell' w2 gA _).block q hq (fun e=>hn (by cases e;simp))⟩,?_,_,rfl,hx3⟩
 refine⟨_,_,hbA2,Hy.out, .inl ⟨had,hadA,fun i hi=>?_⟩⟩
 have e1:(w2.setCell ⟨gA,0,none⟩ (.slice (some ad) (sz k) c)).cell? (ad.add i)=w2.cell? (ad.add i):=by
  unfold World.cell?
  rw[(grownBy_setCell' w2 gA _).block (ad.add i).block (by rw[add_block];have:=hB2.size;omega) (by rw[add_block];intro e;cases e;exact hadA rfl)]
 rw[e1,hB2.cell (p:=ad.add i) (by rw[add_block];omega),hB1.cell (p:=ad.add i) (by rw[add_block];omega)]
 exact Hc.out i hi
set_option maxRecDepth 100000 in
theorem chain_mk (gc:Option Addr) (A:Option Addr) (n c:Nat) (w:World):
  Calls Tryz.prog 88 #[.pointer gc, .slice A n c] w fun e w'=>e= .returned (.func (.func 115) #[] #[.pointer (some ⟨w.heap.size+1,0,none⟩), .pointer (some ⟨w.heap.size,0,none⟩)])∧w'=(w.alloc (.cells #[.pointer gc] 49)).alloc (.cells #[.slice A n c] 22):=by
 go_enter Tryz.func88,Tryz.ntmps88
 go_wp2_with fail
 go_ret
 exact⟨rfl,rfl⟩
set_option maxRecDepth 100000 in
theorem unchain_mk (gc:Option Addr) (A:Option Addr) (n c:Nat) (w:World):
  Calls Tryz.prog 87 #[.pointer gc, .slice A n c] w fun e w'=>e= .returned (.func (.func 113) #[] #[.pointer (some ⟨w.heap.size,0,none⟩), .pointer (some ⟨w.heap.size+1,0,none⟩)])∧w'=(w.alloc (.cells #[.pointer gc] 49)).alloc (.cells #[.slice A n c] 22):=by
 go_enter Tryz.func87,Tryz.ntmps87
 go_wp2_with fail
 go_ret
 exact⟨rfl,rfl⟩
end Go.Proofs.YtlmacfmfmjhidaaGreatDoor.Md
namespace Go.Proofs.YtlmacfmfmjhidaaGreatDoor.Md
open Mem Bk Go.ChangeShapes Go.WideShapes Go.ChangeAt Go.RowKit
def stF (k L:Nat) (key:Nat→Nat):(Nat→Nat)→(Nat→Nat)→(Nat→Nat)×(Nat→Nat):=fun s y=>(tc k L key false (xr y s),tc k L key false (xr y s))
def stB (k L:Nat) (key:Nat→Nat):(Nat→Nat)→(Nat→Nat)→(Nat→Nat)×(Nat→Nat):=fun s y=>(xr (tc k L key true y) s,y)
def stC (k L:Nat) (key:Nat→Nat) (bk:Bool):=if bk then stB k L key else stF k L key
def chainF (k L:Nat) (key:Nat→Nat) (bk:Bool) (s x:Nat→Nat) (N:Nat):Nat→Nat:=(run (stC k L key bk) (sz k) (fun j i=>x (j*sz k+i)) s (List.range N)).2.1
def CInv (w:World) (gc k:Nat) (s:Nat→Nat) (W:World):Prop:=Below w.heap.size w W∧Blk W w.heap.size 49 #[.pointer (some ⟨gc,0,none⟩)]∧AhAt (w.heap.size+2) (w.heap.size+1) (sz k) s W
set_option maxRecDepth 100000 in
set_option maxHeartbeats 1000000 in
theorem chained_any (w:World) (p:Pl) (k gc base L:Nat) (key:Nat→Nat) (ads:Addr) (cs:Nat) (s:Nat→Nat) (A:Option Addr) (N M c:Nat) (bk:Bool) (x:Nat→Nat) (hk3:k≠3) (h:CiAt w p k gc base L key) (hM:M=N*sz k) (hN:M≤100000) (hc:M≤c) (hA:A=none→M=0) (hx: ∀i,i<M→x i<256) (hR:Reads w w.heap.size A M x)
  (has:ads.block<w.heap.size) (hsc: ∀i,i<sz k→w.cell? (ads.add i)=some (.int .u8 ((s i:Nat):Int))) (hs: ∀i,i<sz k→s i<256):
  Calls Tryz.prog 57 #[.pointer (some ⟨gc,0,none⟩), .slice (some ads) (sz k) cs, .slice A M c, .bool bk] w fun e w'=> ∃v,e= .returned (.tuple #[v, .nilIface])∧Mem.Own w' w.heap.size 5 1 v M (chainF k L key bk s x N)∧Below w.heap.size w w':=by
 have hB1:Below w.heap.size w ((w.alloc (.cells #[.pointer (some ⟨gc,0,none⟩)] 49)).alloc (.cells #[.slice (some ads) (sz k) cs] 22)):=((Below.refl _ w).alloc (Nat.le_refl _) _).alloc (by simp) _
 have hkc:Blk ((w.alloc (.cells #[.pointer (some ⟨gc,0,none⟩)] 49)).alloc (.cells #[.slice (some ads) (sz k) cs] 22)) w.heap.size 49 #[.pointer (some ⟨gc,0,none⟩)]:=(Blk.fresh _ _ _).alloc _
 have hkb:Blk ((w.alloc (.cells #[.pointer (some ⟨gc,0,none⟩)] 49)).alloc (.cells #[.slice (some ads) (sz k) cs] 22)) (w.heap.size+1) 22 #[.slice (some ads) (sz k) cs]:=blk_fresh (by simp) _ _
 have hs1:((w.alloc (.cells #[.pointer (some ⟨gc,0,none⟩)] 49)).alloc (.cells #[.slice (some ads) (sz k) cs] 22)).heap.size=w.heap.size+2:=by simp
 have hAh:AhAt (w.heap.size+2) (w.heap.size+1) (sz k) s ((w.alloc (.cells #[.pointer (some ⟨gc,0,none⟩)] 49)).alloc (.cells #[.slice (some ads) (sz k) cs] 22)):=
  ⟨ads,cs,hkb,hs, .inl ⟨by omega,by omega,fun i hi=>(hB1.cell (p:=ads.add i) (by rw[add_block];exact has)).trans (hsc i hi)⟩⟩
 have hAS: ∀ad,A=some ad→0<M→ad.block∉ [w.heap.size+1]:=fun ad e h0=>by
  obtain⟨ad',e',hb,-⟩:=hR h0
  rw[e] at e'
  cases e'
  simp
  omega
 have hdep:Dep (w.heap.size+2) (CInv w gc k):=
  fun _ W W' hW hB ha=>⟨hW.1.trans (hB.mono (by omega)),hW.2.1.below hB (by omega),hW.2.2.keep (by omega) hB ha⟩
 have HC:=hid h
 have HM:M%sz k=0:=by rw[hM];exact Nat.mul_mod_left _ _
 have hHM:decide (M%sz k=0)=true:=decide_eq_true HM
 have hen1: ∀args w,(callFunc 115 args).run Tryz.prog w= .ok (.enter 115 args) w:=enters_of Tryz.func115 (by kernel_rfl) rfl
 have hen2: ∀args w,(callFunc 113 args).run Tryz.prog w= .ok (.enter 113 args) w:=enters_of Tryz.func113 (by kernel_rfl) rfl
 cases bk
 ·have HE:=hid (each_any (CInv w gc k) (stC k L key false) [w.heap.size+1] 115 #[.pointer (some ⟨w.heap.size+1,0,none⟩), .pointer (some ⟨w.heap.size,0,none⟩)] (sz k) N M c A x s ((w.alloc (.cells #[.pointer (some ⟨gc,0,none⟩)] 49)).alloc (.cells #[.slice (some ads) (sz k) cs] 22))
   (sz_or k) hM hN hc hA hx ((hR.below hB1).more (by omega)) hAS (by simp) (by rw[hs1];exact hdep) ⟨hB1,hkc,hAh⟩ hen1
   (fun s W ad y hW hws had hadS hcl hy=>by
    rw[show #[Value.slice (some ad) (sz k) (sz k)]++ #[.pointer (some ⟨w.heap.size+1,0,none⟩), .pointer (some ⟨w.heap.size,0,none⟩)]=#[.slice (some ad) (sz k) (sz k), .pointer (some ⟨w.heap.size+1,0,none⟩), .pointer (some ⟨w.heap.size,0,none⟩)] by simp]
    refine(ch_any W p k gc base L key ad (sz k) _ _ (w.heap.size+2) s y hk3 (h.keep hW.1) hW.2.1 hW.2.2 (by omega) (by omega) hcl hy).mono ?_
    rintro e W' ⟨hK,hA',g,rfl,hbg⟩
    exact⟨hK,⟨hW.1.trans (hK.below (by simp) hW.1.size),hK.blk hW.2.1 (by simp),hA'⟩,g,_,rfl,hbg⟩))
  clear h hM hx hR hkc hkb HM hAh hAS hdep hsc hs hen1 hen2
  go_enter Tryz.func57,Tryz.ntmps57
  go_wp2_with (first
   | (go_at_call 84;refine(sizeOf_any _ p k gc base L key HC.out).mono ?_;rintro e w1 ⟨rfl,rfl⟩)
   | (go_at_call 85;refine(whole_any A M c (sz k) (sz_or k) hN _).mono ?_;rintro e w1 ⟨rfl,rfl⟩;rw[hHM])
   | (go_at_call 88;refine(chain_mk _ _ _ _ _).mono ?_;rintro e w1 ⟨rfl,rfl⟩)
   | (go_at_call 86;refine HE.out.mono ?_;rintro e w1 ⟨hK,v,rfl,ho,-⟩))
  go_ret2
  exact⟨v,rfl,own_base ho (by omega),hB1.trans ((hK.below (B:=w.heap.size) (by simp) (by omega)))⟩
 have HE:=hid (each_any (CInv w gc k) (stC k L key true) [w.heap.size+1] 113 #[.pointer (some ⟨w.heap.size,0,none⟩), .pointer (some ⟨w.heap.size+1,0,none⟩)] (sz k) N M c A x s ((w.alloc (.cells #[.pointer (some ⟨gc,0,none⟩)] 49)).alloc (.cells #[.slice (some ads) (sz k) cs] 22))
  (sz_or k) hM hN hc hA hx ((hR.below hB1).more (by omega)) hAS (by simp) (by rw[hs1];exact hdep) ⟨hB1,hkc,hAh⟩ hen2
  (fun s W ad y hW hws had hadS hcl hy=>by
   rw[show #[Value.slice (some ad) (sz k) (sz k)]++ #[.pointer (some ⟨w.heap.size,0,none⟩), .pointer (some ⟨w.heap.size+1,0,none⟩)]=#[.slice (some ad) (sz k) (sz k), .pointer (some ⟨w.heap.size,0,none⟩), .pointer (some ⟨w.heap.size+1,0,none⟩)] by simp]
   refine(un_any W p k gc base L key ad (sz k) _ _ (w.heap.size+2) s y hk3 (h.keep hW.1) hW.2.1 hW.2.2 (by omega) (by omega) (by simpa using hadS) hcl hy).mono ?_
   rintro e W' ⟨hK,hA',g,rfl,hbg⟩
   exact⟨hK,⟨hW.1.trans (hK.below (by simp) hW.1.size),hK.blk hW.2.1 (by simp),hA'⟩,g,_,rfl,hbg⟩))
 clear h hM hx hR hkc hkb HM hAh hAS hdep hsc hs hen1 hen2
 go_enter Tryz.func57,Tryz.ntmps57
 go_wp2_with (first
  | (go_at_call 84;refine(sizeOf_any _ p k gc base L key HC.out).mono ?_;rintro e w1 ⟨rfl,rfl⟩)
  | (go_at_call 85;refine(whole_any A M c (sz k) (sz_or k) hN _).mono ?_;rintro e w1 ⟨rfl,rfl⟩;rw[hHM])
  | (go_at_call 87;refine(unchain_mk _ _ _ _ _).mono ?_;rintro e w1 ⟨rfl,rfl⟩)
  | (go_at_call 86;refine HE.out.mono ?_;rintro e w1 ⟨hK,v,rfl,ho,-⟩))
 go_ret2
 exact⟨v,rfl,own_base ho (by omega),hB1.trans ((hK.below (B:=w.heap.size) (by simp) (by omega)))⟩
theorem run_at {σ:Type} (st:σ→(Nat→Nat)→(Nat→Nat)×σ) (n:Nat) (hn:0<n) (xb:Nat→Nat→Nat) (s0:σ): ∀N i,i<N*n→(run st n xb s0 (List.range N)).2.1 i=(st (run st n xb s0 (List.range (i/n))).1 (xb (i/n))).1 (i%n):=by
 intro N
 induction N with
 | zero=>intro i hi;omega
 | succ N ih=>
  intro i hi
  rw[List.range_succ,run_snoc,run_len]
  simp only[List.length_range]
  unfold cat
  by_cases h:i<N*n
  ·rw[if_pos h,ih i h]
  rw[if_neg h]
  rw[Nat.succ_mul] at hi
  have h1:i/n=N:=by
   rw[Nat.div_eq_iff hn]
   constructor
   ·omega
   omega
  have h2:i%n=i-N*n:=by
   have:=Nat.div_add_mod i n
   rw[h1,Nat.mul_comm] at this
   omega
  rw[h1,h2]
theorem run_next {σ:Type} (st:σ→(Nat→Nat)→(Nat→Nat)×σ) (n:Nat) (xb:Nat→Nat→Nat) (s0:σ) (j:Nat):(run st n xb s0 (List.range (j+1))).1=(st (run st n xb s0 (List.range j)).1 (xb j)).2:=by
 rw[List.range_succ,run_snoc]
def Eqn (n:Nat) (f g:Nat→Nat):Prop:= ∀i,i<n→f i=g i
theorem Eqn.refl (n:Nat) (f:Nat→Nat):Eqn n f f:=fun _ _=>rfl
theorem Eqn.symm {n:Nat}{f g:Nat→Nat} (h:Eqn n f g):Eqn n g f:=fun i hi=>(h i hi).symm
theorem Eqn.trans {n:Nat}{f g e:Nat→Nat} (h:Eqn n f g) (h':Eqn n g e):Eqn n f e:=fun i hi=>(h i hi).trans (h' i hi)
theorem xr_ext {n:Nat}{f g f' g':Nat→Nat} (h:Eqn n f f') (h':Eqn n g g'):Eqn n (xr f g) (xr f' g'):=fun i hi=>by unfold xr;rw[h i hi,h' i hi]
theorem xr_xr (n:Nat) (f g:Nat→Nat):Eqn n (xr (xr f g) g) f:=fun i _=>by
 unfold xr
 rw[Nat.xor_assoc,Nat.xor_self,Nat.xor_zero]
section
variable {k L:Nat}{key:Nat→Nat}{bk:Bool}{x y s:Nat→Nat}
theorem tc_ext (hf:fits k L) (hk3:k≠3) (h:Eqn (sz k) x y):Eqn (sz k) (tc k L key bk x) (tc k L key bk y):=by
 rcases hf with⟨rfl,hL⟩ | ⟨rfl,hL⟩ | ⟨rfl,hL⟩
 ·unfold tc
  rw[if_pos rfl,if_pos rfl]
  cases bk
  ·exact Aes.encTo_ext (n:=Aes.wsz L) (fun _ _=>rfl) (ws_le L) h (Aes.rnd L) (Nat.le_refl _)
  exact Aes.dec_ext h
 ·unfold tc
  rw[if_neg (by omega),if_neg (by omega),tdes_ext h]
  exact Eqn.refl _ _
 exact absurd rfl hk3
theorem tc_back (hf:fits k L) (hk3:k≠3) (hk: ∀i,i<L→key i<256) (hx: ∀i,i<sz k→x i<256):Eqn (sz k) (tc k L key (!bk) (tc k L key bk x)) x:=by
 rcases hf with⟨rfl,hL⟩ | ⟨rfl,hL⟩ | ⟨rfl,hL⟩
 ·unfold tc
  simp only[if_true]
  cases bk
  ·exact Aes.dec_enc (ws_lt L hk) (ws_le L) hx
  exact Aes.enc_dec (ws_lt L hk) (ws_le L) hx
 ·unfold tc
  simp only[show¬(2:Nat)=1 by omega,if_false]
  exact fun i hi=>Des.tdes_back L key x hx bk i hi
 exact absurd rfl hk3
theorem sz_pos (k:Nat):0<sz k:=by rcases sz_or k with h | h<;>omega
theorem part_lt {N i:Nat} (hi:i<N*sz k):i/sz k<N∧i%sz k<sz k∧i/sz k*sz k+i%sz k=i:=
 ⟨Nat.div_lt_of_lt_mul (by rw[Nat.mul_comm];exact hi),Nat.mod_lt _ (sz_pos k),by rw[Nat.mul_comm];exact Nat.div_add_mod i (sz k)⟩
theorem in_lt {N j r:Nat} (hj:j<N) (hr:r<sz k):j*sz k+r<N*sz k:=by
 have:=Nat.mul_le_mul_right (sz k) (show j+1≤N from hj)
 rw[Nat.succ_mul] at this
 omega
theorem in_at {j r:Nat} (hr:r<sz k):(j*sz k+r)/sz k=j∧(j*sz k+r)%sz k=r:=by
 constructor
 ·rw[Nat.add_comm,Nat.add_mul_div_right _ _ (sz_pos k),Nat.div_eq_of_lt hr,Nat.zero_add]
 rw[Nat.add_comm,Nat.add_mul_mod_self_right,Nat.mod_eq_of_lt hr]
def bl (k:Nat) (x:Nat→Nat):Nat→Nat→Nat:=fun j i=>x (j*sz k+i)
theorem bl_lt {N j:Nat} (hx: ∀i,i<N*sz k→x i<256) (hj:j<N): ∀i,i<sz k→bl k x j i<256:=fun _ hi=>hx _ (in_lt hj hi)
def ah (k L:Nat) (key s x:Nat→Nat) (j:Nat):Nat→Nat:=(run (stC k L key false) (sz k) (bl k x) s (List.range j)).1
theorem ah_next (j:Nat):ah k L key s x (j+1)=tc k L key false (xr (bl k x j) (ah k L key s x j)):=by
 unfold ah
 rw[run_next]
 rfl
theorem ah_lt (hf:fits k L) (hk3:k≠3) (hk: ∀i,i<L→key i<256) (hs: ∀i,i<sz k→s i<256){N:Nat} (hx: ∀i,i<N*sz k→x i<256): ∀j,j≤N→∀i,i<sz k→ah k L key s x j i<256
 | 0,_=>hs
 | j+1,h=>by
  rw[ah_next]
  exact tc_lt hk3 hf hk (xr_by (bl_lt hx h) (ah_lt hf hk3 hk hs hx j (by omega)))
theorem forth_at {N i:Nat} (hi:i<N*sz k):chainF k L key false s x N i=ah k L key s x (i/sz k+1) (i%sz k):=by
 rw[ah_next]
 exact run_at (stC k L key false) _ (sz_pos k) (bl k x) s N i hi
theorem forth_blk {N j:Nat} (hj:j<N):Eqn (sz k) (bl k (chainF k L key false s x N) j) (ah k L key s x (j+1)):=fun r hr=>by
 show chainF k L key false s x N (j*sz k+r)=_
 rw[forth_at (in_lt hj hr),(in_at hr).1,(in_at hr).2]
def bh (k:Nat) (s x:Nat→Nat):Nat→Nat→Nat
 | 0=>s
 | j+1=>bl k x j
theorem bh_run: ∀j,(run (stC k L key true) (sz k) (bl k x) s (List.range j)).1=bh k s x j
 | 0=>rfl
 | j+1=>by rw[run_next];rfl
theorem back_at {N i:Nat} (hi:i<N*sz k):chainF k L key true s x N i=xr (tc k L key true (bl k x (i/sz k))) (bh k s x (i/sz k)) (i%sz k):=by
 have h:=run_at (stC k L key true) _ (sz_pos k) (bl k x) s N i hi
 rw[bh_run] at h
 exact h
theorem back_blk {N j:Nat} (hj:j<N):Eqn (sz k) (bl k (chainF k L key true s x N) j) (xr (tc k L key true (bl k x j)) (bh k s x j)):=fun r hr=>by
 show chainF k L key true s x N (j*sz k+r)=_
 rw[back_at (in_lt hj hr),(in_at hr).1,(in_at hr).2]
theorem bh_lt {N:Nat} (hs: ∀i,i<sz k→s i<256) (hx: ∀i,i<N*sz k→x i<256): ∀j,j<N+1→∀i,i<sz k→bh k s x j i<256
 | 0,_=>hs
 | j+1,h=>bl_lt hx (by omega)
theorem chain_lt {N:Nat} (hf:fits k L) (hk3:k≠3) (hk: ∀i,i<L→key i<256) (hs: ∀i,i<sz k→s i<256) (hx: ∀i,i<N*sz k→x i<256): ∀i,i<N*sz k→chainF k L key bk s x N i<256:=fun i hi=>by
 obtain⟨h1,h2,h3⟩:=part_lt hi
 cases bk
 ·rw[forth_at hi]
  exact ah_lt hf hk3 hk hs hx _ h1 _ h2
 rw[back_at hi]
 exact xr_by (tc_lt hk3 hf hk (bl_lt hx h1)) (bh_lt hs hx _ (by omega)) _ h2
theorem chain_back {N:Nat} (hf:fits k L) (hk3:k≠3) (hk: ∀i,i<L→key i<256) (hs: ∀i,i<sz k→s i<256) (hx: ∀i,i<N*sz k→x i<256): ∀i,i<N*sz k→chainF k L key (!bk) s (chainF k L key bk s x N) N i=x i:=fun i hi=>by
 obtain⟨h1,h2,h3⟩:=part_lt hi
 cases bk
 ·show chainF k L key true s (chainF k L key false s x N) N i=x i
  have hb: ∀j,j<N→Eqn (sz k) (bh k s (chainF k L key false s x N) j) (ah k L key s x j):=fun j hj=>by
   cases j with
   | zero=>exact Eqn.refl _ _
   | succ j=>exact forth_blk (by omega)
  rw[back_at hi,xr_ext ((tc_ext hf hk3 (forth_blk h1)).trans (by rw[ah_next];exact tc_back hf hk3 hk (xr_by (bl_lt hx h1) (ah_lt hf hk3 hk hs hx _ (by omega))))) (hb _ h1) _ h2,xr_xr (sz k) _ _ _ h2]
  show x _=x _
  rw[h3]
 show chainF k L key false s (chainF k L key true s x N) N i=x i
 have ha: ∀j,j≤N→Eqn (sz k) (ah k L key s (chainF k L key true s x N) j) (bh k s x j):=by
  intro j
  induction j with
  | zero=>intro _;exact Eqn.refl _ _
  | succ j ih=>
   intro hj
   rw[ah_next]
   refine(tc_ext hf hk3 ((xr_ext (back_blk hj) (ih (by omega))).trans (xr_xr _ _ _))).trans ?_
   exact tc_back (bk:=true) hf hk3 hk (bl_lt hx hj)
 rw[forth_at hi,ha _ h1 _ h2]
 show x _=x _
 rw[h3]
end
end Go.Proofs.YtlmacfmfmjhidaaGreatDoor.Md
