/-
 Tape Tape2
-/
import Derived.Test.YtlmacfmfmjhidaaGreatDoorMemX
import Derived.Laws.AppendOwnNone
import Derived.Deep.RegionHeld3
namespace Go.Proofs.YtlmacfmfmjhidaaGreatDoor.Mem
open Go.ChangeShapes Go.WideShapes Go.ChangeAt Go.RowKit
structure Kept (g:Nat) (w w':World):Prop where
 os:w'.os=w.os
 tape:w'.tape=w.tape
 output:w'.output=w.output
 size:w.heap.size≤w'.heap.size
 block: ∀k,k<w.heap.size→k≠g→w'.heap[k]? =w.heap[k]?
theorem Kept.refl (g:Nat) (w:World):Kept g w w:=⟨rfl,rfl,rfl,Nat.le_refl _,fun _ _ _=>rfl⟩
theorem Kept.trans {g:Nat}{a b c:World} (h:Kept g a b) (h':Kept g b c):Kept g a c:=
 ⟨h'.os.trans h.os,h'.tape.trans h.tape,h'.output.trans h.output,Nat.le_trans h.size h'.size,fun k hk hg=>(h'.block k (Nat.lt_of_lt_of_le hk h.size) hg).trans (h.block k hk hg)⟩
theorem Kept.of {g:Nat}{w w':World} (h:Below w.heap.size w w'):Kept g w w':=⟨h.os,h.tape,h.output,h.size,fun k hk _=>h.block k hk⟩
theorem Kept.below {g B:Nat}{w w':World} (h:Kept g w w') (hB:B≤g) (hs:B≤w.heap.size):Below B w w':=⟨h.os,h.tape,h.output,h.size,fun k hk=>h.block k (by omega) (by omega)⟩
theorem Kept.setCell {g:Nat}{w w':World} (h:Kept g w w') (i:Nat) (v:Value):Kept g w (w'.setCell ⟨g,i,none⟩ v):=
 ⟨h.os,h.tape,h.output,(by simpa using h.size),fun k hk hg=>(heap_setCell_other w' ⟨g,i,none⟩ k v hg).trans (h.block k hk hg)⟩
theorem Kept.blk {g k:Nat}{w w':World}{t:TypeId}{cs:Array Value} (h:Kept g w w') (hb:Blk w k t cs) (hk:k≠g):Blk w' k t cs:=(h.block k hb.lt hk).trans hb
theorem Blk.ne {w:World}{g k:Nat}{t e:TypeId}{cs ds:Array Value} (h:Blk w g t cs) (h':Blk w k e ds) (hte:t≠e):k≠g:=by
 rintro rfl
 have:=h.out.symm.trans h'.out
 simp at this
 exact hte this.2
theorem Kept.own {g base:Nat}{w w':World}{t e:TypeId}{cs:Array Value}{v:Value}{n:Nat}{f:Nat→Nat} (h:Kept g w w') (hb:Blk w g t cs) (hte:t≠e) (ho:Own w base e 1 v n f):Own w' base e 1 v n f:=by
 obtain⟨h1,h2 | ⟨k,c,cur,rfl,hbk,hblk,hnc,hcm,hsz,hcs⟩⟩:=ho
 ·exact⟨h1, .inl h2⟩
 exact⟨h1, .inr ⟨k,c,cur,rfl,hbk,h.blk hblk (hb.ne hblk hte),hnc,hcm,hsz,hcs⟩⟩
theorem Own.more {base base':Nat}{w:World}{e:TypeId}{v:Value}{n:Nat}{f:Nat→Nat} (ho:Own w base e 1 v n f) (hB:base'≤base):Own w base' e 1 v n f:=by
 obtain⟨h1,h2 | ⟨k,c,cur,rfl,hbk,hblk⟩⟩:=ho
 ·exact⟨h1, .inl h2⟩
 exact⟨h1, .inr ⟨k,c,cur,rfl,Nat.le_trans hB hbk,hblk⟩⟩
theorem Own.slice' {base:Nat}{w:World}{e:TypeId}{v:Value}{n:Nat}{f:Nat→Nat} (ho:Own w base e 1 v n f): ∃A c,v= .slice A n c∧n≤c∧(A=none→n=0∧c=0)∧(∀ad,A=some ad→∃k,ad=⟨k,0,none⟩):=by
 rcases ho.form with⟨rfl,rfl⟩ | ⟨k,c,cur,rfl,_,_,hnc,_⟩
 ·exact⟨none,0,rfl,Nat.le_refl _,fun _=>⟨rfl,rfl⟩,fun ad h=>by cases h⟩
 exact⟨_,c,rfl,hnc,fun h=>(by cases h),fun ad h=>by cases h;exact⟨k,rfl⟩⟩
theorem wp_app_gen {P:Program}{o:Oper}{a:Act}{w:World}{K:Act→World→Prop}{Q:Exit→Act→World→Prop} (p q:Operand) (t:TypeId) (ho:o.op= .call {callee:= .builtin .append,args:=#[p,q],argTypes:=#[t,t]}) (base:Nat) (e:TypeId) (z:Value) (ht:P.underlying t=some (.slice e))
  (hinfo:(P.info? e).map (fun i=>(i.zero,i.size,i.bytes))=some (some z,1,1)) (hz:z.cells.size=1) (v:Value) (n:Nat) (f:Nat→Nat) (hp:a.eval p=v) (hown:Own w base e 1 v n f)
  (A:Option Addr) (m c:Nat) (g:Nat→Nat) (B:Nat) (hR:Reads w B A m g) (hA:A=none→m=0∧c=0) (hq:a.eval q= .slice A m c) (hn:n+m≤1000000) (hbase:base≤w.heap.size)
  (h: ∀v' w',Own w' base e 1 v' (n+m) (cat n f g)→Below base w w'→K (a.put o.dst v') w'):o.wp P a w K Q:=by
 obtain⟨i,hi,hz0,hz1,hz2⟩:=info_parts hinfo
 rcases A with _ | ad
 ·obtain⟨rfl,rfl⟩:=hA rfl
  have hrun:=run_append_owned_none (P:=P) (w:=w) base t o.type e i 1 ht hi v n _ hown
  unfold Oper.wp
  simp[execOp,ho,resolve,invoke,builtin,hp,hq,hrun,Result.andThen]
  refine h v w (hown.ext fun j hj=>?_) (Below.refl _ _)
  unfold cat;rw[if_pos (by omega)]
 refine wp_append_own w p q t ho base e i z 1 1 ht hi hz0 hz1 hz2 hz (by omega) v n _ hp hown ad m c ((List.range m).map (b8 g)) hq (by simp) ?_ ?_ ?_ ?_ hbase ?_
 ·intro j u hu
  by_cases hj:j<m
  ·obtain⟨ad',e',_,hc⟩:=hR (by omega)
   cases e'
   simp[hj] at hu
   subst hu
   exact hc j hj
  rw[List.getElem?_eq_none (by simp;omega)] at hu;cases hu
 ·intro u hu
  simp only[List.mem_map] at hu
  obtain⟨i,_,rfl⟩:=hu
  rfl
 ·unfold maxLen;omega
 ·omega
 intro v' w' h1 h2 _
 rw[cat_list,← Nat.mul_one m,← Nat.add_mul,Nat.mul_one m,Nat.mul_one n] at h1
 refine h v' w' h1 ?_
 refine(Below.refl base w).grown h2 hbase ?_
 intro k hk
 exact(World.ownsRow.lt hown k hk).1
theorem wpl_app_gen {P:Program}{ops:Array Oper}{rest:List Oper}{o:Oper}{a:Act}{w:World}{Q:Exit→Act→World→Prop} (hgd:o.guard=none) (p q:Operand) (t:TypeId) (ho:o.op= .call {callee:= .builtin .append,args:=#[p,q],argTypes:=#[t,t]}) (base:Nat) (e:TypeId) (z:Value) (ht:P.underlying t=some (.slice e))
  (hinfo:(P.info? e).map (fun i=>(i.zero,i.size,i.bytes))=some (some z,1,1)) (hz:z.cells.size=1) (v:Value) (n:Nat) (f:Nat→Nat) (hp:a.eval p=v) (hown:Own w base e 1 v n f)
  (A:Option Addr) (m c:Nat) (g:Nat→Nat) (B:Nat) (hR:Reads w B A m g) (hA:A=none→m=0∧c=0) (hq:a.eval q= .slice A m c) (hn:n+m≤1000000) (hbase:base≤w.heap.size)
  (h: ∀v' w',Own w' base e 1 v' (n+m) (cat n f g)→Below base w w'→wpList P ops Q rest (a.put o.dst v') w'):wpList P ops Q (o::rest) a w:=
 wpList_plain hgd fun _ hK=>wp_app_gen p q t ho base e z ht hinfo hz v n f hp hown A m c g B hR hA hq hn hbase fun v' w' h1 h2=>hK _ _ (h v' w' h1 h2)
theorem info8t:(Tryz.prog.info? 5).map (fun i=>(i.zero,i.size,i.bytes))=some (some (.int .u8 0),1,1):=by kernel_rfl
set_option maxRecDepth 100000 in
theorem clone_any (A:Option Addr) (n c:Nat) (f:Nat→Nat) (w:World) (hn:n≤100000) (hA:A=none→n=0∧c=0) (hR:Reads w w.heap.size A n f):
  Calls Tryz.prog 74 #[.slice A n c] w fun e w'=> ∃v,e= .returned v∧Own w' w.heap.size 5 1 v n f∧Below w.heap.size w w':=by
 have hz1:=Go.Lib.run_eql_slice_nil (P:=Tryz.prog) w 22 5 none 0 0 0 0 Tryz.underlying22
 have hz2:=fun ad=>Go.Lib.run_eql_slice_nil (P:=Tryz.prog) w 22 5 (some ad) n c 0 0 Tryz.underlying22
 rcases A with _ | ad
 ·obtain⟨rfl,rfl⟩:=hA rfl
  go_enter Tryz.func74,Tryz.ntmps74
  go_wp2
  go_ret
  exact⟨_,rfl,Own.nil _ _ _ _ _,Below.refl _ _⟩
 have HR:=hid hR
 have ho:=Own.empty w w.heap.size 5 f (Nat.le_refl _)
 have hB:Below w.heap.size w (w.alloc (.cells #[] 5)):=(Below.refl _ _).alloc (Nat.le_refl _) _
 have HR2:=hid (hR.below hB)
 clear hR
 go_enter Tryz.func74,Tryz.ntmps74
 go_wp2_with (at_builtin;refine wpl_app_gen rfl _ _ 22 rfl w.heap.size 5 (.int .u8 0) Tryz.underlying22 info8t rfl _ 0 _ rfl ho (some ad) n c f _ HR2.out hA rfl (by omega) (by simp) ?_)
 intro v' w' ho2 hB2
 go_wp2_with fail
 go_ret
 exact⟨v',rfl,ho2.ext (fun i _=>by unfold cat;simp),hB.trans hB2⟩
theorem open_bytes' {H:Type}{enc:TypeId×Value→H}{P:Program}{W:World}{t e:TypeId} (ht:P.underlying t=some (.slice e)) (he:P.underlying e=some (.int .u8)) (hc1:P.cellsOf e=1){v:Value}{d:DataW H}{ps:List MemPlace}{r:Reach}{b0:Nat}
  (hok:Value.okWide P W r b0 t v) (hd:DataW.Trod enc P W 0 (fun _=>true) true t v d ps): ∃A len cap,∃f:Nat→Nat,v= .slice A len cap∧len≤cap∧Reads W W.heap.size A len f∧(∀i,i<len→f i<256)∧(A=none→len=0∧cap=0):=by
 obtain⟨A,len,cap,f,rfl,h1,h2,h3⟩:=open_bytes ht he hc1 hok hd
 refine⟨A,len,cap,f,rfl,h1,h2,h3,?_⟩
 rintro rfl
 obtain⟨fuel,hf⟩:=hd
 rcases open_ints ht he hc1 hf with⟨hcs,_⟩ | ⟨x,l,c,zs,hcs,_,hl,hm,hz,_,hcell,hwz⟩
 ·simp[Value.cells] at hcs
  exact hcs
 simp[Value.cells] at hcs
end Go.Proofs.YtlmacfmfmjhidaaGreatDoor.Mem
namespace Go.Proofs.YtlmacfmfmjhidaaGreatDoor.Mem
open Go.ChangeShapes Go.WideShapes Go.ChangeAt Go.RowKit
end Go.Proofs.YtlmacfmfmjhidaaGreatDoor.Mem
