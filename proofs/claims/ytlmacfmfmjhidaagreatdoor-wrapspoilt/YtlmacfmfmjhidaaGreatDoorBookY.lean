/-
 Book Book2
-/
import Derived.Test.YtlmacfmfmjhidaaGreatDoorBookX
import Derived.Test.YtlmacfmfmjhidaaGreatDoorTapeX
import Derived.Test.YtlmacfmfmjhidaaGreatDoorDesY
import Derived.Test.YtlmacfmfmjhidaaGreatDoorConv
namespace Go.Proofs.YtlmacfmfmjhidaaGreatDoor.Bk
open Mem Go.ChangeShapes Go.WideShapes Go.ChangeAt Go.RowKit
open Des (exec_arr exec_loadR wpl_build)
structure Pl where
 gb:Nat
 gt:Nat
 gf:Nat
 gk:Nat
 base:Nat
 v:Value
 n:Nat
 F:Nat→Nat
def Pl.S (p:Pl):List Nat:=[p.gt,p.gf,p.gk]
def Pl.m (p:Pl) (bk:Bool):Nat:=if bk then p.gk else p.gf
structure BookAt (w:World) (p:Pl) (d:Nat) (L:List Rw):Prop where
 book:Blk w p.gb 211 #[.pointer (some ⟨p.gt,0,none⟩), .map (some p.gf), .map (some p.gk)]
 tape:Blk w p.gt 243 #[p.v, .int .i64 (d:Int)]
 own:Own w p.base 5 1 p.v p.n p.F
 maps: ∀bk,MapAt w (p.m bk) bk L
 ne:p.gf≠p.gk
 inv:Inv p.F p.n L d
 lo:p.base≤p.gb∧∀g∈p.S,p.base≤g
section
variable {w w':World}{p:Pl}{d:Nat}{L:List Rw}
theorem BookAt.keep (h:BookAt w p d L) (hB:Below w.heap.size w w'):BookAt w' p d L:=
 ⟨h.book.below hB h.book.lt,h.tape.below hB h.tape.lt,h.own.below hB (Nat.le_refl _),fun bk=>(hB.block _ (h.maps bk).lt).trans (h.maps bk),h.ne,h.inv,h.lo⟩
theorem BookAt.free (h:BookAt w p d L){g:Nat}{t:TypeId}{cs:Array Value} (hb:Blk w g t cs) (ht:t≠243):g∉p.S:=by
 intro hm
 simp only[Pl.S,List.mem_cons,List.not_mem_nil,or_false] at hm
 rcases hm with rfl | rfl | rfl
 ·exact hb.ne h.tape ht rfl
 ·exact(h.maps false).ne_blk hb rfl
 exact(h.maps true).ne_blk hb rfl
end
theorem z16:(Tryz.prog.info? 150).map (·.zero)=some (some (.agg (row 16 (b8 fun _=>0)))):=by kernel_rfl
theorem i16:(Tryz.prog.info? 150).map (·.size)=some 16:=by kernel_rfl
theorem i16' (f:Nat→Value):(Tryz.prog.info? 150).map (·.size)=some (row 16 f).size:=by rw[row_size];exact i16
section
variable {P:Program}{ops:Array Oper}{rest:List Oper}{o:Oper}{a:Act}{w:World}{Q:Exit→Act→World→Prop}
end
end Go.Proofs.YtlmacfmfmjhidaaGreatDoor.Bk
namespace Go.Proofs.YtlmacfmfmjhidaaGreatDoor.Bk
open Mem Go.ChangeShapes Go.WideShapes Go.ChangeAt Go.RowKit
open Go.ChangeMaps (setBlock)
section
variable {P:Program}{ops:Array Oper}{rest:List Oper}{o:Oper}{a:Act}{w:World}{Q:Exit→Act→World→Prop}
theorem wpl_ldstr (hgd:o.guard=none) (ty:TypeId) (x:Operand) (ho:o.op= .load ty x) (p:Addr) (hx:a.eval x= .pointer (some p)) (hu:P.underlying ty=some .string) (v:Value) (hv:w.cell? p=some v)
  (h:wpList P ops Q rest (a.put o.dst v) w):wpList P ops Q (o::rest) a w:=by
 refine wpList_plain hgd fun _ hK=>?_
 have hr:(Instr.loadAt ty (.pointer (some p))).run P w= .ok v w:=by
  simp[Instr.loadAt,Instr.sureAddr,loadVar,isAgg,Sem.run_bind,run_underlying hu,hv]
 unfold Oper.wp execOp
 simp only[ho,hx,hr,Sem.run_bind,Sem.run_pure,Result.andThen_ok]
 exact hK _ _ h
end
theorem KeptS.setRow {S:List Nat}{a w:World} (h:KeptS S a w){g:Nat} (hg:a.heap.size≤g) (cs:Array Value):KeptS S a (w.setRow g cs):=
 ⟨h.os,h.tape,h.output,(by simpa using h.size),fun j hj hs=>(setRow_other w g j cs (by omega)).trans (h.block j hj hs)⟩
theorem BookAt.setRow {w:World}{p:Pl}{e:Nat}{L:List Rw}{g:Nat}{cs:Array Value} (h:BookAt w p e L) (hb:Blk w g 150 cs) (ds:Array Value):BookAt (w.setRow g ds) p e L:=by
 have hS:=h.free hb (by decide)
 have k:KeptS [g] w (w.setRow g ds):=⟨rfl,rfl,rfl,by simp,fun j _ hs=>setRow_other w g j ds (by simpa using hs)⟩
 refine⟨k.blk h.book (by simpa using hb.ne h.book (by decide)),k.blk h.tape (by simpa using hb.ne h.tape (by decide)),k.own h.own (fun g' cs' hb'=>by simpa using hb.ne hb' (by decide)),fun bk=>k.map (h.maps bk) ?_,h.ne,h.inv,h.lo⟩
 simpa using (h.maps bk).ne_blk hb
end Go.Proofs.YtlmacfmfmjhidaaGreatDoor.Bk
