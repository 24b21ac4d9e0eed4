/-
 A byte set in the bytes of a string, the string of them; texts one byte longer and one shorter.
-/
import Derived.Test.YtlmacfmfmjhidaaGreatDoorWr13
namespace Go.Proofs.YtlmacfmfmjhidaaGreatDoor.Wr
open Mem Bk Md Mc Hd Dg As Go.ChangeShapes Go.WideShapes Go.ChangeAt Go.RowKit
section
variable {w w':World}{g n c:Nat}{f:Nat→Nat}
theorem Cv.lt (h:Cv w g n c f):g<w.heap.size:=by
 obtain⟨cur,hg,-⟩:=h
 rcases Nat.lt_or_ge g w.heap.size with h' | h'
 ·exact h'
 rw[Array.getElem?_eq_none h'] at hg
 cases hg
theorem Cv.cell (h:Cv w g n c f){i:Nat} (hi:i<n):w.cell? ⟨g,i,none⟩=some (.int .u8 ((f i:Nat):Int)):=by
 obtain⟨cur,hg,-,-,-,hv⟩:=h
 simp[World.cell?,hg,hv i hi]
theorem Cv.free (h:Cv w g n c f){i:Nat} (hi:i<n):w.frozen? ⟨g,i,none⟩=false:=by
 obtain⟨cur,hg,-,hn,-,-⟩:=h
 simp only[World.frozen?,hg,Bool.and_eq_false_iff,decide_eq_false_iff_not]
 left
 simp
 omega
theorem Cv.below (h:Cv w g n c f){B:Nat} (hB:Below B w w') (hg:g<B):Cv w' g n c f:=by
 obtain⟨cur,h1,h2⟩:=h
 exact⟨cur,(hB.block g hg).trans h1,h2⟩
theorem Cv.set (h:Cv w g n c f){i:Nat} (hi:i<n) (v:Nat):Cv (w.setCell ⟨g,i,none⟩ (.int .u8 ((v:Nat):Int))) g n c (upd f i v):=by
 obtain⟨cur,hg,hs,hn,hm,hv⟩:=h
 rw[setCell_eq_setRow w g i cur _ _ _ hg]
 refine⟨_,setRow_heap w g cur _ _ _ hg,by simp[hs],hn,hm,fun j hj=>?_⟩
 rw[Array.getElem?_setIfInBounds]
 unfold upd
 by_cases e:i=j
 ·subst e
  rw[if_pos rfl,if_pos (by omega)]
  simp
 rw[if_neg e,hv j hj,if_neg (fun h=>e h.symm)]
theorem cv_set_below {B i:Nat}{a:World}{u:Value} (h:Cv w g n c f) (hB:Below B a w) (hg:B≤g):Below B a (w.setCell ⟨g,i,none⟩ u):=by
 obtain⟨cur,h1,-⟩:=h
 rw[setCell_eq_setRow w g i cur _ _ u h1]
 exact below_setRow' hB hg _
theorem conv_cv (h:Cv w g n c f) (c':Nat):(convert 22 9 (.slice (some ⟨g,0,none⟩) n c')).run Tryz.prog w= .ok (.string (strF n f)) w:=by
 rw[run_convert_bytes_string w 22 9 5 _ _ _ Tryz.underlying22 Tryz.underlying5 Tryz.underlying9]
 have hl:=run_loadCells (P:=Tryz.prog) w ⟨g,0,none⟩ n (b8 f) (fun j hj=>by rw[add_zero_off];exact h.cell hj)
 rw[run_bytesToString w ⟨g,0,none⟩ n c' ((List.range n).map (fun i=>((f i:Nat):Int))) (by rw[hl,List.map_map];rfl)]
 rfl
theorem exec_strc {o:Oper}{a:Act} (x:Operand) (ho:o.op= .convert 22 9 x) (h:Cv w g n c f) (c':Nat) (hx:a.eval x= .slice (some ⟨g,0,none⟩) n c'):(execOp a.eval o).run Tryz.prog w= .ok (.value (.string (strF n f))) w:=by
 have hr:=conv_cv h c'
 rw[← hx] at hr
 unfold execOp
 simp[ho,hr]
theorem exec_slz {P:Program}{o:Oper}{x:Act} (ty:TypeId) (p ix:Operand) (ho:o.op= .indexAddr ty p ix) (c':Nat) (hx:x.eval p= .slice (some ⟨g,0,none⟩) n c') (k:Nat) (hix:x.eval ix= .int .i64 (k:Int)) (e:TypeId) (hu:P.underlying ty=some (.slice e)) (hk:k<n) (hs:(P.info? e).map (·.size)=some 1):(execOp x.eval o).run P w= .ok (.value (.pointer (some ⟨g,k,none⟩))) w:=by
 have h:=exec_slW (w:=w) ty p ix ho ⟨g,0,none⟩ n c' hx .i64 _ hix k rfl e hu hk hs
 rw[add_zero_off] at h
 exact h
theorem exec_cat0 {P:Program}{o:Oper}{a:Act} (t:TypeId) (x y:Operand) (rt:TypeId) (ho:o.op= .binOp .add t x y rt) (hx:a.eval x= .string (strF n f)) (hy:a.eval y= .string ⟨#[48]⟩) (hn:n+1≤1000000):(execOp a.eval o).run P w= .ok (.value (.string (strF (n+1) (cat n f fun _=>48)))) w:=
 exec_cat t x y rt ho n 1 f (fun _=>48) hx (hy.trans rfl) hn
end
theorem prt_ext {h:Hd}{n:Nat}{F G:Nat→Nat} (p:Prt h n F) (e: ∀i,i<16→G i=F i):Prt h n G:=
 ⟨(e 0 (by omega)).trans p.v,fun i hi=>(e _ (by omega)).trans (p.l i hi),fun i hi=>(e _ (by omega)).trans (p.f i hi),(e 7 (by omega)).trans p.a,(e 8 (by omega)).trans p.k,fun i hi=>(e _ (by omega)).trans (p.g i hi),(e 11 (by omega)).trans p.x,fun i hi=>(e _ (by omega)).trans (p.z i hi)⟩
section
variable {k L:Nat}{W:Nat→Nat}{h:Hd}{L2 L3:Nat}{key fl:Nat→Nat}{M N T:Nat}{tx cd hd:Nat→Nat}
theorem ur_short (d:Wd k L W h L2 L3 key fl M N T tx cd hd):UR L W (T-1) (bkF M T h hd cd) (UO.bad 2 (-1)):=by
 have hs:=d.sizes
 have hT:=d.eT
 have hl:=d.szs.len
 exact .size k (by omega) d.par d.ver d.fk fun hh=>by have:=hh.1;omega
theorem ur_long (d:Wd k L W h L2 L3 key fl M N T tx cd hd):UR L W (T+1) (cat T (bkF M T h hd cd) fun _=>48) (UO.bad 2 (-1)):=by
 have hs:=d.sizes
 have p:Prt h T (cat T (bkF M T h hd cd) fun _=>48):=prt_ext d.prt fun i hi=>by unfold cat;rw[if_pos (by omega)]
 have hl:lnZ (cat T (bkF M T h hd cd) fun _=>48)=(T:Int):=p.len (by omega)
 exact .size k (by omega) (p.par d.two.1 d.two.2 d.w (by omega) (by omega)) (by rw[p.v];exact d.v) d.fk fun hh=>by have:=hh.1;omega
end
end Go.Proofs.YtlmacfmfmjhidaaGreatDoor.Wr
