/-
 RefRows RefHit RefKeep BookOut
-/
import Derived.Test.YtlmacfmfmjhidaaGreatDoorLaw05
import Derived.Test.YtlmacfmfmjhidaaGreatDoorTurn
import Derived.Test.YtlmacfmfmjhidaaGreatDoorDraw
namespace Go.Proofs.YtlmacfmfmjhidaaGreatDoor.Bk
open Mem Go.ChangeShapes Go.WideShapes Go.ChangeAt Go.RowKit
structure RowC (w:World) (B:Nat) (Lk:Nat) (r:Rw) (c:Nat→Value):Prop where
 key: ∃A cp,∃f:Nat→Nat,c 0= .slice A Lk cp∧Reads w B A Lk f∧(∀i,i<Lk→f i<256)∧r.k=strF Lk f
 inn: ∃A cp,c 1= .slice A 16 cp∧16≤cp∧Reads w B A 16 r.x
 out: ∃A cp,c 2= .slice A 16 cp∧16≤cp∧Reads w B A 16 r.y
theorem RowC.below {w w':World}{B Lk:Nat}{r:Rw}{c:Nat→Value} (h:RowC w B Lk r c) (hb:Below B w w'):RowC w' B Lk r c:=by
 obtain⟨⟨A,cp,f,h1,h2,h3,h4⟩,⟨A1,c1,h5,h6,h7⟩,⟨A2,c2,h8,h9,h10⟩⟩:=h
 exact⟨⟨A,cp,f,h1,h2.below hb,h3,h4⟩,⟨A1,c1,h5,h6,h7.below hb⟩,⟨A2,c2,h8,h9,h10.below hb⟩⟩
theorem RowC.more {w:World}{B B' Lk:Nat}{r:Rw}{c:Nat→Value} (h:RowC w B Lk r c) (hb:B≤B'):RowC w B' Lk r c:=by
 obtain⟨⟨A,cp,f,h1,h2,h3,h4⟩,⟨A1,c1,h5,h6,h7⟩,⟨A2,c2,h8,h9,h10⟩⟩:=h
 exact⟨⟨A,cp,f,h1,h2.more hb,h3,h4⟩,⟨A1,c1,h5,h6,h7.more hb⟩,⟨A2,c2,h8,h9,h10.more hb⟩⟩
def RowsAt (w:World) (B:Nat) (A:Option Addr) (Lk:Nat) (R:List Rw):Prop:=
 ∀i,∀hi:i<R.length,∃ad,A=some ad∧ad.block<B∧∃c:Nat→Value,(∀j,j<3→w.cell? ((ad.add (i*3)).add j)=some (c j))∧RowC w B Lk R[i] c
theorem RowsAt.below {w w':World}{B Lk:Nat}{A:Option Addr}{R:List Rw} (h:RowsAt w B A Lk R) (hb:Below B w w'):RowsAt w' B A Lk R:=fun i hi=>by
 obtain⟨ad,h1,h2,c,h3,h4⟩:=h i hi
 exact⟨ad,h1,h2,c,fun j hj=>(hb.cell (by rw[add_block,add_block];exact h2)).trans (h3 j hj),h4.below hb⟩
theorem RowsAt.more {w:World}{B B' Lk:Nat}{A:Option Addr}{R:List Rw} (h:RowsAt w B A Lk R) (hb:B≤B'):RowsAt w B' A Lk R:=fun i hi=>by
 obtain⟨ad,h1,h2,c,h3,h4⟩:=h i hi
 exact⟨ad,h1,Nat.lt_of_lt_of_le h2 hb,c,h3,h4.more hb⟩
section
variable {P:Program}{o:Oper}{a:Act}{w:World}
theorem exec_loadSt (ty:TypeId) (x:Operand) (ho:o.op= .load ty x) (p:Addr) (hx:a.eval x= .pointer (some p)) (n:Nat) (c:Nat→Value) (hc: ∀i,i<n→w.cell? (p.add i)=some (c i))
  (fs:Array Field) (hu:P.underlying ty=some (.struct fs)) (hi:(P.info? ty).map (·.size)=some n):(execOp a.eval o).run P w= .ok (.value (.agg (row n c))) w:=by
 have h:=run_loadCells (P:=P) w p n c hc
 have e1:((List.range n).map c).toArray=row n c:=by
  apply row_of (by simp)
  intro i hi
  simp[hi]
 rw[e1] at h
 unfold execOp
 simp[ho,hx,Instr.loadAt,Instr.sureAddr,loadVar,isAgg,run_underlying hu,run_size hi,h]
end
end Go.Proofs.YtlmacfmfmjhidaaGreatDoor.Bk
namespace Go.Proofs.YtlmacfmfmjhidaaGreatDoor.Bk
open Mem Go.ChangeShapes Go.WideShapes Go.ChangeAt Go.RowKit
theorem wpl_store_newS {P:Program}{ops:Array Oper}{rest:List Oper}{o:Oper}{a:Act}{Q:Exit→Act→World→Prop} (hgd:o.guard=none) (ty:TypeId) (x y:Operand) (ho:o.op= .store ty x y) (v:World) (old:Array Value) (n:Nat) (c:Nat→Value) (hc:(row n c).all (·.oneCell')=true) (hx:a.eval x= .pointer (some ⟨v.heap.size,0,none⟩)) (hy:a.eval y= .agg (row n c))
  (t:TypeId) (hi:(P.info? ty).map (·.size)=some n) (hold:old.size=n)
  (h:wpList P ops Q rest (a.put o.dst undef) (v.alloc (.cells (row n c) t))):wpList P ops Q (o::rest) a (v.alloc (.cells old t)):=by
 refine wpl_store hgd ty x y ho v.heap.size _ hx hy t old (Blk.fresh _ _ _) (by rw[row_size];exact hi) (by rw[row_size];exact hold) hc ?_
 rwa[World.setRow_alloc_new]
def bookC (S T:Value):Nat→Value:=fun i=>if i=0 then S else T
theorem row2 (S T:Value):row 2 (bookC S T)=#[S,T]:=by
 apply Eq.symm
 apply row_of rfl
 intro i hi
 match i,hi with
 | 0,_=>rfl
 | 1,_=>rfl
theorem zRB2:(Tryz.prog.info? 72).map (·.zero)=some (some (.agg (row 2 (bookC (.slice none 0 0) (.slice none 0 0))))):=by kernel_rfl
theorem iRB:(Tryz.prog.info? 72).map (·.size)=some 2:=by kernel_rfl
theorem iRB' (f:Nat→Value):(Tryz.prog.info? 72).map (·.size)=some (row 2 f).size:=by rw[row_size];exact iRB
theorem one2 (A A':Option Addr) (n c n' c':Nat):(row 2 (bookC (.slice A n c) (.slice A' n' c'))).all (·.oneCell')=true:=by rw[row2];simp[Value.oneCell']
theorem ret_row3 {P:Program}{fn:Func}{p q q2:Tmp}{ty:TypeId}{R:Ending→World→Prop}{a:Act}{w:World} (h:fn.results=#[.cell p ty, .tmp q, .tmp q2]) (hd:a.defers=[]) (g:Nat) (hp:a.tmps.getD p undef= .pointer (some ⟨g,0,none⟩)) (v:Value) (hq:a.tmps.getD q undef=v) (v2:Value) (hq2:a.tmps.getD q2 undef=v2)
  (t:TypeId) (n:Nat) (c:Nat→Value) (hg:Blk w g t (row n c)) (fs:Array Field) (hu:P.underlying ty=some (.struct fs)) (hi:(P.info? ty).map (·.size)=some n) (hR:R (.returned (.tuple #[.agg (row n c),v,v2])) w):bodyPost P fn R .ret a w:=by
 refine bodyPost_ret ?_ hd hR
 have hl:=run_loadVar_row (P:=P) w g t ty (row n c) (0,0) _ hg hu rfl (by rw[row_size];exact hi)
 have hp':a.tmps[p]?.getD undef= .pointer (some ⟨g,0,none⟩):=by simpa using hp
 have hq':a.tmps[q]?.getD undef=v:=by simpa using hq
 have hq2':a.tmps[q2]?.getD undef=v2:=by simpa using hq2
 simp[results,h,hp',hq',hq2',asAddr,hl]
def ReadsP (w:World) (P:Nat→Prop) (A:Option Addr) (n:Nat) (f:Nat→Nat):Prop:=
 0<n→∃ad,A=some ad∧P ad.block∧∀i,i<n→w.cell? (ad.add i)=some (.int .u8 ((f i:Nat):Int))
section
variable {w w':World}{P P':Nat→Prop}{n:Nat}{A:Option Addr}{f:Nat→Nat}
theorem ReadsP.more {B:Nat} (h:ReadsP w P A n f) (hP: ∀g,P g→g<B):Reads w B A n f:=fun hn=>by
 obtain⟨ad,e,hb,hc⟩:=h hn
 exact⟨ad,e,hP _ hb,hc⟩
theorem ReadsP.moreP (h:ReadsP w P A n f) (hP: ∀g,P g→P' g):ReadsP w P' A n f:=fun hn=>by
 obtain⟨ad,e,hb,hc⟩:=h hn
 exact⟨ad,e,hP _ hb,hc⟩
theorem ReadsP.keep (h:ReadsP w P A n f) (hk: ∀g,P g→w'.heap[g]? =w.heap[g]?):ReadsP w' P A n f:=fun hn=>by
 obtain⟨ad,e,hb,hc⟩:=h hn
 exact⟨ad,e,hb,fun i hi=>(World.cell?_of_block (w:=w) (hk _ (by rw[add_block];exact hb))).trans (hc i hi)⟩
theorem ReadsP.ext {g:Nat→Nat} (h:ReadsP w P A n f) (hfg: ∀i,i<n→f i=g i):ReadsP w P A n g:=fun hn=>by
 obtain⟨ad,e,hb,hc⟩:=h hn
 exact⟨ad,e,hb,fun i hi=>by rw[← hfg i hi];exact hc i hi⟩
theorem ReadsP.less {m:Nat} (h:ReadsP w P A n f) (hm:m≤n):ReadsP w P A m f:=fun hn=>by
 obtain⟨ad,e,hb,hc⟩:=h (by omega)
 exact⟨ad,e,hb,fun i hi=>hc i (by omega)⟩
end
structure RowCP (w:World) (P:Nat→Prop) (Lk:Nat) (r:Rw) (c:Nat→Value):Prop where
 key: ∃A cp,∃f:Nat→Nat,c 0= .slice A Lk cp∧ReadsP w P A Lk f∧(∀i,i<Lk→f i<256)∧r.k=strF Lk f
 inn: ∃A cp,c 1= .slice A 16 cp∧16≤cp∧ReadsP w P A 16 r.x
 out: ∃A cp,c 2= .slice A 16 cp∧16≤cp∧ReadsP w P A 16 r.y
def RowsAtP (w:World) (P:Nat→Prop) (A:Option Addr) (Lk:Nat) (R:List Rw):Prop:=
 ∀i,∀hi:i<R.length,∃ad,A=some ad∧P ad.block∧∃c:Nat→Value,(∀j,j<3→w.cell? ((ad.add (i*3)).add j)=some (c j))∧RowCP w P Lk R[i] c
section
variable {w w':World}{P P':Nat→Prop}{Lk:Nat}{r:Rw}{c:Nat→Value}{A:Option Addr}{R:List Rw}
theorem RowCP.more {B:Nat} (h:RowCP w P Lk r c) (hP: ∀g,P g→g<B):RowC w B Lk r c:=by
 obtain⟨⟨A,cp,f,h1,h2,h3,h4⟩,⟨A1,c1,h5,h6,h7⟩,⟨A2,c2,h8,h9,h10⟩⟩:=h
 exact⟨⟨A,cp,f,h1,h2.more hP,h3,h4⟩,⟨A1,c1,h5,h6,h7.more hP⟩,⟨A2,c2,h8,h9,h10.more hP⟩⟩
theorem RowCP.moreP (h:RowCP w P Lk r c) (hP: ∀g,P g→P' g):RowCP w P' Lk r c:=by
 obtain⟨⟨A,cp,f,h1,h2,h3,h4⟩,⟨A1,c1,h5,h6,h7⟩,⟨A2,c2,h8,h9,h10⟩⟩:=h
 exact⟨⟨A,cp,f,h1,h2.moreP hP,h3,h4⟩,⟨A1,c1,h5,h6,h7.moreP hP⟩,⟨A2,c2,h8,h9,h10.moreP hP⟩⟩
theorem RowCP.keep (h:RowCP w P Lk r c) (hk: ∀g,P g→w'.heap[g]? =w.heap[g]?):RowCP w' P Lk r c:=by
 obtain⟨⟨A,cp,f,h1,h2,h3,h4⟩,⟨A1,c1,h5,h6,h7⟩,⟨A2,c2,h8,h9,h10⟩⟩:=h
 exact⟨⟨A,cp,f,h1,h2.keep hk,h3,h4⟩,⟨A1,c1,h5,h6,h7.keep hk⟩,⟨A2,c2,h8,h9,h10.keep hk⟩⟩
theorem RowsAtP.more {B:Nat} (h:RowsAtP w P A Lk R) (hP: ∀g,P g→g<B):RowsAt w B A Lk R:=fun i hi=>by
 obtain⟨ad,h1,h2,c,h3,h4⟩:=h i hi
 exact⟨ad,h1,hP _ h2,c,h3,h4.more hP⟩
theorem RowsAtP.moreP (h:RowsAtP w P A Lk R) (hP: ∀g,P g→P' g):RowsAtP w P' A Lk R:=fun i hi=>by
 obtain⟨ad,h1,h2,c,h3,h4⟩:=h i hi
 exact⟨ad,h1,hP _ h2,c,h3,h4.moreP hP⟩
theorem RowsAtP.keep (h:RowsAtP w P A Lk R) (hk: ∀g,P g→w'.heap[g]? =w.heap[g]?):RowsAtP w' P A Lk R:=fun i hi=>by
 obtain⟨ad,h1,h2,c,h3,h4⟩:=h i hi
 exact⟨ad,h1,h2,c,fun j hj=>(World.cell?_of_block (w:=w) (hk _ (by rw[add_block,add_block];exact h2))).trans (h3 j hj),h4.keep hk⟩
end
structure Agree (B0:Nat→Prop) (w w' W:World):Prop where
 os:W.os=w'.os
 tape:W.tape=w'.tape
 output:W.output=w'.output
 size:w'.heap.size≤W.heap.size
 block: ∀g,g<w'.heap.size→(B0 g∨w.heap.size≤g)→W.heap[g]? =w'.heap[g]?
theorem Agree.at {B0:Nat→Prop}{w w' W:World} (h:Agree B0 w w' W) (hB0: ∀g,B0 g→g<w.heap.size) (hB:Below w.heap.size w w'): ∀g,B0 g→W.heap[g]? =w.heap[g]? :=fun g hg=>
 (h.block g (by have:=hB.size;have:=hB0 g hg;omega) (.inl hg)).trans (hB.block g (hB0 g hg))
theorem Agree.refl (B0:Nat→Prop) (w w':World):Agree B0 w w' w':=⟨rfl,rfl,rfl,Nat.le_refl _,fun _ _ _=>rfl⟩
theorem Agree.reads {B0:Nat→Prop}{n:Nat}{w w' W:World}{A:Option Addr}{f:Nat→Nat} (h:Agree B0 w w' W) (hB0: ∀g,B0 g→g<w.heap.size) (hB:Below w.heap.size w w') (hr:ReadsP w B0 A n f):Reads W W.heap.size A n f:=
 (hr.keep (h.at hB0 hB)).more (fun g hg=>by have:=hB0 g hg;have:=hB.size;have:=h.size;omega)
theorem Agree.rows {B0:Nat→Prop}{Lk:Nat}{w w' W:World}{A:Option Addr}{R:List Rw} (h:Agree B0 w w' W) (hB0: ∀g,B0 g→g<w.heap.size) (hB:Below w.heap.size w w') (hr:RowsAtP w B0 A Lk R):RowsAt W W.heap.size A Lk R:=
 (hr.keep (h.at hB0 hB)).more (fun g hg=>by have:=hB0 g hg;have:=hB.size;have:=h.size;omega)
end Go.Proofs.YtlmacfmfmjhidaaGreatDoor.Bk
namespace Go.Proofs.YtlmacfmfmjhidaaGreatDoor.Bk
open Mem Go.ChangeShapes Go.WideShapes Go.ChangeAt Go.RowKit
theorem keptS_row {S:List Nat}{a w:World} (h:KeptS S a w){g:Nat} (hg:g∈S) (cs:Array Value):KeptS S a (w.setRow g cs):=
 ⟨h.os,h.tape,h.output,(by simpa using h.size),fun j hj hs=>(setRow_other w g j cs (fun e=>hs (e▸hg))).trans (h.block j hj hs)⟩
theorem cell_in {w:World}{a:Addr}{v:Value} (h:w.cell? a=some v): ∃cs t fz,w.heap[a.block]? =some (.cells cs t fz)∧cs[a.off]? =some v:=by
 unfold World.cell? at h
 split at h
 ·next c t fz e=>
  split at h
  ·cases h
  exact⟨c,t,fz,e,h⟩
 cases h
theorem add_off (a:Addr) (n:Nat):(a.add n).off=a.off+n:=by
 unfold Addr.add
 split
 ·next h=>omega
 rfl
section
variable {w:World}{gm Lk:Nat}{R':List Rw}{A:Option Addr}{n:Nat}{f:Nat→Nat}{S T:Value}
end
end Go.Proofs.YtlmacfmfmjhidaaGreatDoor.Bk
namespace Go.Proofs.YtlmacfmfmjhidaaGreatDoor.Bk
open Mem Go.ChangeShapes Go.WideShapes Go.ChangeAt Go.RowKit
theorem BookAt.byte_out {w:World}{p:Pl}{d:Nat}{R:List Rw} (h:BookAt w p d R){a:Addr}{x:Int} (hc:w.cell? a=some (.int .u8 x)):a.block∉p.S:=fun hm=>by
 obtain⟨cs,t,fz,hb,hv⟩:=cell_in hc
 simp only[Pl.S,List.mem_cons,List.not_mem_nil,or_false] at hm
 rcases hm with hm | hm | hm
 ·rw[hm,h.tape.out] at hb
  cases hb
  obtain⟨A,c,hpv,-⟩:=h.own.slice
  rw[hpv] at hv
  rcases a with⟨b,off,sp⟩
  match off,hv with
  | 0,hv=>simp at hv
  | 1,hv=>simp at hv
  | o+2,hv=>simp at hv
 ·have:=(h.maps false).out
  rw[show p.m false=p.gf from rfl] at this
  rw[hm,this] at hb
  cases hb
 have:=(h.maps true).out
 rw[show p.m true=p.gk from rfl] at this
 rw[hm,this] at hb
 cases hb
section
variable {w w':World}{p:Pl}{d Lk:Nat}{R R':List Rw}{A:Option Addr}{n:Nat}{f:Nat→Nat}
theorem BookAt.reads (h:BookAt w p d R) (hk:KeptS p.S w w') (hr:Reads w w.heap.size A n f):Reads w' w'.heap.size A n f:=fun hn=>by
 obtain⟨ad,e,hb,hc⟩:=hr hn
 have ho:=h.byte_out (hc 0 hn)
 rw[add_block] at ho
 refine⟨ad,e,Nat.lt_of_lt_of_le hb hk.size,fun i hi=>?_⟩
 rw[World.cell?_of_block (w:=w) (by rw[add_block];exact hk.block _ hb ho)]
 exact hc i hi
end
end Go.Proofs.YtlmacfmfmjhidaaGreatDoor.Bk
