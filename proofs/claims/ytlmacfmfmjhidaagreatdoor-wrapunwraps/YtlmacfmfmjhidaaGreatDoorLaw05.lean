/-
 What lockboxref02.Same, and book and right of lockboxlaw05 return.
-/
import Derived.Test.YtlmacfmfmjhidaaGreatDoorCiX
namespace Go.Proofs.YtlmacfmfmjhidaaGreatDoor.Bk
open Mem Go.ChangeShapes Go.WideShapes Go.ChangeAt Go.RowKit
theorem i8q:(Tryz.prog.info? 5).map (·.size)=some 1:=by kernel_rfl
set_option maxRecDepth 100000 in
set_option maxHeartbeats 2000000 in
theorem same_any (A A':Option Addr) (n c c':Nat) (f g:Nat→Nat) (w:World) (hn:n≤100000) (hR:Reads w w.heap.size A n f) (hR':Reads w w.heap.size A' n g):
  Calls Tryz.prog 17 #[.slice A n c, .slice A' n c'] w fun e w'=>e= .returned (.bool (eqB n f g))∧Below w.heap.size w w':=by
 have HR:=hid hR
 have HR':=hid hR'
 clear hR hR'
 go_enter Tryz.func17,Tryz.ntmps17
 go_wp2_with fail
 go_loopw [5] (fun i wr=> ∃k:Nat,k≤n∧i= .int .i64 k∧Hid (∀j,j<k→f j=g j)∧Below w.heap.size w wr) (fun i _=>n-(intOf i).toNat)
 case atStart=>exact⟨0,by omega,rfl,hid (fun j hj=>by omega),Below.refl _ _⟩
 case round=>
  obtain⟨k,hk,rfl,hall,hB⟩:=hrel
  by_cases hlt:k<n
  ·obtain⟨ad,rfl,hbl,hcs⟩:=HR.out (by omega)
   obtain⟨ad',rfl,hbl',hcs'⟩:=HR'.out (by omega)
   have hc:=(hB.cell (p:=ad.add k) (by rw[add_block];exact hbl)).trans (hcs k hlt)
   have hc':=(hB.cell (p:=ad'.add k) (by rw[add_block];exact hbl')).trans (hcs' k hlt)
   clear hcs hcs'
   go_wp2_with fail
   refine wp_region_still_lit (by kernel_rfl) (by kernel_rfl) ?_
   change wpStill _ _ wr.drew _ _ _
   have hd:wr.drew.cell? (ad.add (k*1))=some (.int .u8 ((f k:Nat):Int)):=by rw[Nat.mul_one];exact hc
   have hd':wr.drew.cell? (ad'.add (k*1))=some (.int .u8 ((g k:Nat):Int)):=by rw[Nat.mul_one];exact hc'
   clear hc hc'
   generalize wr.drew=w2 at*
   repeat (first
    | (with_reducible refine wps_sl rfl 22 _ _ rfl ad n c rfl .i64 _ rfl k rfl 5 Tryz.underlying22 hlt 1 i8q ?_)
    | (with_reducible refine wps_sl rfl 22 _ _ rfl ad' n c' rfl .i64 _ rfl k rfl 5 Tryz.underlying22 hlt 1 i8q ?_)
    | (with_reducible refine wps_ld rfl 5 _ rfl _ rfl .u8 Tryz.underlying5 _ hd ?_)
    | (with_reducible refine wps_ld rfl 5 _ rfl _ rfl .u8 Tryz.underlying5 _ hd' ?_)
    | still_step)
   refine wpStill_nil ?_
   by_cases he:f k=g k
   ·have heI:((f k:Nat):Int)=((g k:Nat):Int):=by rw[he]
    go_wp2_with fail
    go_round
    case rel=>exact⟨k+1,by omega,val_int (by omega),hid (fun j hj=>by
     rcases Nat.lt_or_ge j k with h | h
     ·exact hall.out j h
     have:j=k:=by omega
     subst this;exact he),hB.drew⟩
    case measure=>simp[intOf];omega
   have heI:((f k:Nat):Int)≠((g k:Nat):Int):=by omega
   go_wp2_with fail
   go_ret
   refine⟨?_,hB.drew⟩
   have:eqB n f g=false:=by
    cases hq:eqB n f g
    ·rfl
    exact absurd (eqB_iff.1 hq k hlt) he
   rw[this]
   rfl
  go_wp2_with fail
  go_ret
  refine⟨?_,hB⟩
  rw[eqB_true (fun i hi=>hall.out i (by omega))]
  rfl
def rk (L:Nat) (key:Nat→Nat):Nat→Nat:=fun i=>if 0<L then key (i%L) else 0
def rn (k:Nat):Nat:=if k=2 then 24 else if k=3 then 4 else 16
theorem info_u8:(Tryz.prog.info? 5).map (fun i=>(i.zero,i.size,i.bytes))=some (some (.int .u8 0),1,1):=by kernel_rfl
theorem Own.put {w:World}{base:Nat}{A:Option Addr}{n c:Nat}{f:Nat→Nat} (h:Own w base 5 1 (.slice A n c) n f){i:Nat} (hi:i<n) (v:Nat):
  ∃g,A=some ⟨g,0,none⟩∧base≤g∧g<w.heap.size∧w.cell? ⟨g,i,none⟩=some (.int .u8 ((f i:Nat):Int))∧w.frozen? ⟨g,i,none⟩=false∧Own (w.setCell ⟨g,i,none⟩ (.int .u8 (v:Int))) base 5 1 (.slice A n c) n (upd f i v):=by
 obtain⟨h1,⟨hv,hn0⟩ | ⟨g,c',cur,hv,hbk,hblk,hnc,hcm,hsz,hcs⟩⟩:=h
 ·omega
 have e1:A=some ⟨g,0,none⟩:=by injection hv
 have e2:c=c':=by injection hv
 subst e1 e2
 have hb:Blk w g 5 cur:=hblk
 have hget: ∀j,j<n→cur[j]? =some (b8 f j):=by
  intro j hj
  have e:=congrArg (fun l:List Value=>l[j]?) hcs
  simp only[List.getElem?_take,Nat.mul_one,hj,if_true,List.getElem?_map,List.getElem?_range,Option.map_some,Array.getElem?_toList] at e
  exact e
 refine⟨g,rfl,hbk,hb.lt,?_,hb.free i,?_⟩
 ·rw[hb.cell,hget i hi];rfl
 refine⟨by simp, .inr ⟨g,c,cur.setIfInBounds i (.int .u8 (v:Int)),rfl,hbk,hb.setCell i _,hnc,hcm,by simpa using hsz,?_⟩⟩
 apply List.ext_getElem?
 intro j
 rw[List.getElem?_take,Nat.mul_one]
 by_cases hj:j<n
 ·rw[if_pos hj,Array.getElem?_toList,Array.getElem?_setIfInBounds]
  simp only[List.getElem?_map,List.getElem?_range hj,Option.map_some]
  have hcz:j<cur.size:=by rw[hsz];omega
  by_cases hij:i=j
  ·subst hij
   rw[if_pos rfl,if_pos hcz]
   unfold b8;rw[upd_same]
  rw[if_neg hij,hget j hj]
  unfold b8;rw[upd_other _ _ _ _ (fun e=>hij e.symm)]
 rw[if_neg hj,List.getElem?_eq_none (by simp;omega)]
end Go.Proofs.YtlmacfmfmjhidaaGreatDoor.Bk
