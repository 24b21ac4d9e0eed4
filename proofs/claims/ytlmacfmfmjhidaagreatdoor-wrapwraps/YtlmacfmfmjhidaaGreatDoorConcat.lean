/-
 What slices.Grow and slices.Concat return of byte slices: contracts over the loaded program.
-/
import Derived.Test.YtlmacfmfmjhidaaGreatDoorMemX
namespace Go.Proofs.YtlmacfmfmjhidaaGreatDoor.Mem
open Go.ChangeShapes Go.WideShapes Go.ChangeAt Go.RowKit
section
variable {P:Program}
theorem run_append_make (w:World) (t u ty e:TypeId) (i:TypeInfo) (z:Value) (ht:P.underlying t=some (.slice e)) (hu:P.underlying u=some (.int .i64)) (hi:P.info? e=some i) (hz:i.zero=some z)
  (hs:i.size=1) (hb:i.bytes=1) (n:Nat) (h0:0<n) (hn:n≤1000000):
  (Builtin.append_ #[t,u] ty #[.slice none 0 0, .int .i64 (n:Int)]).run P w=
   .ok (.slice (some ⟨w.heap.size,0,none⟩) n (grownCap w n 0 e)) (w.drew.alloc (.cells (Builtin.zeroCells z.cells n++Builtin.zeroCells z.cells (grownCap w n 0 e-n)) e)):=by
 have hn0:n≠0:=by omega
 have hw:IntKind.i64.wrap (n:Int)=n:=wrap_i64 _ _ rfl (by omega) (by omega)
 have h63': ¬(9223372036854775807< (n:Int)):=by omega
 have h48': ¬(281474976710656<Builtin.nextslicecap n 0):=by rw[nextslicecap_zero h0];omega
 have hneg: ¬((n:Int)<0):=by omega
 have h48: ¬(281474976710656< (n:Int)):=by omega
 simp[Builtin.append_,run_underlying ht,run_underlying hu,sizeOf,typeInfo,zeroValue,hi,hz,hs,hb,hn0,hw,h63',h48',h48,hneg,asInt,asIntOf,Question.forced,run_firstCells_none,newRow,grownCap]
theorem wpl_app_make {ops:Array Oper}{rest:List Oper}{o:Oper}{a:Act}{w:World}{Q:Exit→Act→World→Prop} (hgd:o.guard=none) (p q:Operand) (t u:TypeId) (ho:o.op= .call {callee:= .builtin .append,args:=#[p,q],argTypes:=#[t,u]}) (e:TypeId) (ht:P.underlying t=some (.slice e)) (hu:P.underlying u=some (.int .i64))
  (hinfo:(P.info? e).map (fun i=>(i.zero,i.size,i.bytes))=some (some (.int .u8 0),1,1)) (hp:a.eval p= .slice none 0 0) (y:Int) (hq:a.eval q= .int .i64 y) (n:Nat) (hy:y=(n:Int)) (h0:0<n) (hn:n≤1000000)
  (h: ∀c w',n≤c→c≤maxLen→w'.heap[w.heap.size]? =some (.cells (row c (b8 fun _=>0)) e (0,0))→Below w.heap.size w w'→wpList P ops Q rest (a.put o.dst (.slice (some ⟨w.heap.size,0,none⟩) n c)) w'):wpList P ops Q (o::rest) a w:=by
 subst hy
 obtain⟨i,hi,hz0,hz1,hz2⟩:=info_parts hinfo
 refine wpList_plain hgd fun _ hK=>?_
 have hr:=run_append_make (P:=P) w t u o.type e i (.int .u8 0) ht hu hi hz0 hz1 hz2 n h0 hn
 have hge:=grownCap_ge w n 0 e
 have hcm:grownCap w n 0 e≤maxLen:=grownCap_le_maxLen w n 0 e (by unfold maxLen;omega)
 have hrow:Builtin.zeroCells (Value.int .u8 0).cells n++Builtin.zeroCells (Value.int .u8 0).cells (grownCap w n 0 e-n)=row (grownCap w n 0 e) (b8 fun _=>0):=by
  apply row_of
  ·simp[Builtin.zeroCells,Value.cells];omega
  intro j hj
  by_cases h1:j<n
  ·rw[Array.getElem?_append_left (by simp[Builtin.zeroCells,Value.cells];exact h1)]
   simp[Builtin.zeroCells,Value.cells,h1,b8,Nat.mod_one]
  rw[Array.getElem?_append_right (by simp[Builtin.zeroCells,Value.cells];omega)]
  have hjn:j-n<grownCap w n 0 e-n:=by omega
  simp[Builtin.zeroCells,Value.cells,b8,Nat.mod_one,hjn]
 rw[hrow] at hr
 unfold Oper.wp execOp
 simp only[ho,resolve,invoke,builtin,Sem.run_bind,Sem.run_pure,Result.andThen_ok,List.map_toArray,List.map_cons,List.map_nil,hp,hq,hr]
 exact hK _ _ (h _ _ hge hcm (heap_alloc_new w.drew _) ((Below.refl _ _).drew.alloc (Nat.le_refl _) _))
theorem wpl_lds {ops:Array Oper}{rest:List Oper}{o:Oper}{a:Act}{w:World}{Q:Exit→Act→World→Prop} (hgd:o.guard=none) (ty:TypeId) (x:Operand) (ho:o.op= .load ty x) (p:Addr) (hx:a.eval x= .pointer (some p)) (e:TypeId) (hu:P.underlying ty=some (.slice e)) (v:Value) (hv:w.cell? p=some v)
  (h:wpList P ops Q rest (a.put o.dst v) w):wpList P ops Q (o::rest) a w:=by
 refine wpList_plain hgd fun _ hK=>?_
 have hr:(Instr.loadAt ty (.pointer (some p))).run P w= .ok v w:=by
  simp[Instr.loadAt,Instr.sureAddr,loadVar,isAgg,Sem.run_bind,run_underlying hu,hv]
 unfold Oper.wp execOp
 simp only[ho,hx,hr,Sem.run_bind,Sem.run_pure,Result.andThen_ok]
 exact hK _ _ h
end
theorem info8c:(Tryz.prog.info? 5).map (fun i=>(i.zero,i.size,i.bytes))=some (some (.int .u8 0),1,1):=by kernel_rfl
theorem iS8:(Tryz.prog.info? 22).map (·.size)=some 1:=by kernel_rfl
set_option maxRecDepth 100000 in
theorem grow_any (n:Nat) (h0:0<n) (hn:n≤1000) (w:World):
  Calls Tryz.prog 81 #[.slice none 0 0, .int .i64 (n:Int)] w fun e w'=> ∃c,e= .returned (.slice (some ⟨w.heap.size,0,none⟩) 0 c)∧n≤c∧Own w' w.heap.size 5 1 (.slice (some ⟨w.heap.size,0,none⟩) 0 c) 0 (fun _=>0)∧Below w.heap.size w w':=by
 go_enter Tryz.func81,Tryz.ntmps81
 go_wp2_with (at_builtin;refine wpl_app_make rfl _ _ 22 3 rfl 5 Tryz.underlying22 Tryz.underlying3 info8c rfl _ rfl n (by omega) h0 (by omega) ?_)
 intro c w1 hc hcm hb hB
 go_wp2_with fail
 go_ret
 exact⟨c,rfl,hc,⟨by simp, .inr ⟨w.heap.size,c,_,rfl,Nat.le_refl _,hb,by omega,hcm,by rw[row_size];omega,by simp⟩⟩,hB⟩
theorem grow_of (z:Int) (n:Nat) (hz:z=(n:Int)) (h0:0<n) (hn:n≤1000) (w:World):
  Calls Tryz.prog 81 #[.slice none 0 0, .int .i64 z] w fun e w'=> ∃c,e= .returned (.slice (some ⟨w.heap.size,0,none⟩) 0 c)∧n≤c∧Own w' w.heap.size 5 1 (.slice (some ⟨w.heap.size,0,none⟩) 0 c) 0 (fun _=>0)∧Below w.heap.size w w':=by
 subst hz;exact grow_any n h0 hn w
def twoLen (L1 L2 k:Nat):Nat:=if k=0 then 0 else if k=1 then L1 else L1+L2
set_option maxRecDepth 100000 in
set_option maxHeartbeats 2000000 in
theorem concat_any (g:Nat) (A1 A2:Option Addr) (L1 L2 c1 c2:Nat) (f1 f2:Nat→Nat) (h1:0<L1) (h2:0<L2) (hL:L1+L2≤1000) (w:World) (hb:Blk w g 22 #[.slice A1 L1 c1, .slice A2 L2 c2]) (hR1:Reads w w.heap.size A1 L1 f1) (hR2:Reads w w.heap.size A2 L2 f2):
  Calls Tryz.prog 52 #[.slice (some ⟨g,0,none⟩) 2 2] w fun e w'=> ∃A c,e= .returned (.slice A (L1+L2) c)∧L1+L2≤c∧Reads w' w'.heap.size A (L1+L2) (cat L1 f1 f2)∧Below w.heap.size w w':=by
 have hc0:w.cell? ⟨g,0,none⟩=some (.slice A1 L1 c1):=hb.cell 0
 have hc1:w.cell? ⟨g,1,none⟩=some (.slice A2 L2 c2):=hb.cell 1
 have hg:=hb.lt
 have HR1:=hid hR1
 have HR2:=hid hR2
 clear hR1 hR2
 go_enter Tryz.func52,Tryz.ntmps52
 go_wp2_with fail
 go_loop [3,11] (fun n i=> ∃k:Nat,k≤2∧n= .int .i64 (twoLen L1 L2 k:Nat)∧i= .int .i64 k) (fun _ i=>2-(intOf i).toNat)
 case atStart=>exact⟨0,by omega,rfl,rfl⟩
 case round=>
  obtain⟨k,hk,rfl,rfl⟩:=hrel
  rcases(show k=0∨k=1∨k=2 by omega) with rfl | rfl | rfl
  ·have et:twoLen L1 L2 0=0:=rfl
   go_wp2_with (first
    | (with_reducible refine wpl_slb rfl 126 _ _ rfl _ _ _ rfl .i64 _ rfl 0 rfl 22 Tryz.underlying126 (by omega) iS8 ?_)
    | (with_reducible refine wpl_lds rfl 22 _ rfl _ rfl 5 Tryz.underlying22 _ hc0 ?_))
   exact⟨⟨1,by omega,rfl,rfl⟩,by simp[intOf]⟩
  ·have et:twoLen L1 L2 1=L1:=rfl
   go_wp2_with (first
    | (with_reducible refine wpl_slb rfl 126 _ _ rfl _ _ _ rfl .i64 _ rfl 1 rfl 22 Tryz.underlying126 (by omega) iS8 ?_)
    | (with_reducible refine wpl_lds rfl 22 _ rfl _ rfl 5 Tryz.underlying22 _ hc1 ?_))
   exact⟨⟨2,by omega,val_int (by show _=((L1+L2:Nat):Int);omega),rfl⟩,by simp[intOf]⟩
  have et:twoLen L1 L2 2=L1+L2:=rfl
  go_wp2_with fail
  refine(grow_of _ (L1+L2) (by omega) (by omega) hL _).mono ?_
  rintro e w1 ⟨c,rfl,hc,ho,hB⟩
  have hR1:=HR1.out.below hB
  have hR2:=HR2.out.below hB
  have hd0:w1.cell? ⟨g,0,none⟩=some (.slice A1 L1 c1):=(hB.cell (p:=⟨g,0,none⟩) hg).trans hc0
  have hd1:w1.cell? ⟨g,1,none⟩=some (.slice A2 L2 c2):=(hB.cell (p:=⟨g,1,none⟩) hg).trans hc1
  have HR1a:Hid (∀wx,Below w.heap.size w wx→Reads wx w.heap.size A1 L1 f1):=hid (fun _ h=>HR1.out.below h)
  have HR2a:Hid (∀wx,Below w.heap.size w wx→Reads wx w.heap.size A2 L2 f2):=hid (fun _ h=>HR2.out.below h)
  have HD0:=hid hc0
  have HD1:=hid hc1
  clear HR1 HR2 hc0 hc1 hb et hd0 hd1 hR1 hR2
  go_wp2_with fail
  go_loopw [6,27] (fun v i wr=> ∃k:Nat,k≤2∧Own wr w.heap.size 5 1 v (twoLen L1 L2 k) (cat L1 f1 f2)∧i= .int .i64 k∧Below w.heap.size w wr) (fun _ i _=>2-(intOf i).toNat)
  case atStart=>exact⟨0,by omega,ho.ext (fun i hi=>by omega),rfl,hB⟩
  case round=>
   clear ho hB
   obtain⟨k,hk,ho,rfl,hB⟩:=hrel
   rcases(show k=0∨k=1∨k=2 by omega) with rfl | rfl | rfl
   ·have hq0:twoLen L1 L2 0+L1≤1000000:=by show 0+L1≤_;omega
    have hRa:=HR1a.out wr hB
    have hda:wr.cell? ⟨g,0,none⟩=some (.slice A1 L1 c1):=(hB.cell (p:=⟨g,0,none⟩) hg).trans HD0.out
    go_wp2_with (first
     | (with_reducible refine wpl_slb rfl 126 _ _ rfl _ _ _ rfl .i64 _ rfl 0 rfl 22 Tryz.underlying126 (by omega) iS8 ?_)
     | (with_reducible refine wpl_lds rfl 22 _ rfl _ rfl 5 Tryz.underlying22 _ hda ?_)
     | (at_builtin;refine wpl_app_src rfl _ _ 22 rfl w.heap.size 5 (.int .u8 0) Tryz.underlying22 info8c rfl _ _ _ rfl ho A1 L1 c1 f1 _ hRa h1 rfl hq0 hB.size ?_))
    intro v2 w2 ho2 hB2
    go_wp2_with fail
    refine⟨⟨1,by omega,?_,rfl,hB.trans (hB2.mono (Nat.le_refl _))⟩,by simp[intOf]⟩
    have:=ho2.ext (g:=cat L1 f1 f2) (fun i hi=>by unfold cat twoLen;simp;unfold twoLen at hi;simp at hi;intro h;omega)
    simpa [twoLen] using this
   ·have hq1:twoLen L1 L2 1+L2≤1000000:=by show L1+L2≤_;omega
    have hRa:=HR2a.out wr hB
    have hda:wr.cell? ⟨g,1,none⟩=some (.slice A2 L2 c2):=(hB.cell (p:=⟨g,1,none⟩) hg).trans HD1.out
    go_wp2_with (first
     | (with_reducible refine wpl_slb rfl 126 _ _ rfl _ _ _ rfl .i64 _ rfl 1 rfl 22 Tryz.underlying126 (by omega) iS8 ?_)
     | (with_reducible refine wpl_lds rfl 22 _ rfl _ rfl 5 Tryz.underlying22 _ hda ?_)
     | (at_builtin;refine wpl_app_src rfl _ _ 22 rfl w.heap.size 5 (.int .u8 0) Tryz.underlying22 info8c rfl _ _ _ rfl ho A2 L2 c2 f2 _ hRa h2 rfl hq1 hB.size ?_))
    intro v2 w2 ho2 hB2
    go_wp2_with fail
    refine⟨⟨2,by omega,?_,rfl,hB.trans (hB2.mono (Nat.le_refl _))⟩,by simp[intOf]⟩
    have:=ho2.ext (g:=cat L1 f1 f2) (fun i hi=>by unfold cat twoLen;simp;intro h;intro h';omega)
    simpa [twoLen] using this
   go_wp2_with fail
   obtain⟨A,c',rfl,hc'⟩:=ho.slice
   go_ret
   exact⟨A,c',rfl,hc',ho.reads,hB⟩
end Go.Proofs.YtlmacfmfmjhidaaGreatDoor.Mem
