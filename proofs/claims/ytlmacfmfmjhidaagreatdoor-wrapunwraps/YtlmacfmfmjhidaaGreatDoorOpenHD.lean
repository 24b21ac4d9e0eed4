/-
 A head that came in; what a card asks of the world: the library's tables and errors.errorType.
-/
import Derived.Test.YtlmacfmfmjhidaaGreatDoorHdX
import Derived.Test.YtlmacfmfmjhidaaGreatDoorAsX
import Derived.Lib.SmallJoins
import Derived.Lib.LaidIn
namespace Go.Proofs.YtlmacfmfmjhidaaGreatDoor.Hd
open Mem Go.ChangeShapes Go.WideShapes Go.ChangeAt Go.RowKit
theorem array6 {α:Type}{cs:Array α} (h:cs.size=6): ∃c0 c1 c2 c3 c4 c5,cs=#[c0,c1,c2,c3,c4,c5]:=by
 obtain⟨l⟩:=cs
 match l,h with
 | [c0,c1,c2,c3,c4,c5],_=>exact⟨c0,c1,c2,c3,c4,c5,rfl⟩
theorem cells5:Tryz.prog.cellsOf 5=1:=by kernel_rfl
theorem cells9:Tryz.prog.cellsOf 9=1:=by kernel_rfl
theorem cellsH:Tryz.prog.cellsOf 24=6:=by kernel_rfl
set_option maxRecDepth 100000 in
theorem open_head {H:Type}{enc:TypeId×Value→H}{W:World}{v:Value}{d:DataW H}{ps:List MemPlace}{r:Reach}{b0:Nat}
  (hok:Value.okWide Tryz.prog W r b0 24 v) (hd:DataW.Trod enc Tryz.prog W 0 (fun _=>true) true 24 v d ps): ∃h:Hd,v= .agg (hdC h)∧h.Ok:=by
 obtain⟨cs,rfl,hsz⟩:=okWide_struct Tryz.underlying24 hok
 obtain⟨c0,c1,c2,c3,c4,c5,rfl⟩:=array6 (hsz.trans cellsH)
 obtain⟨fuel,hf⟩:=hd
 obtain⟨xs,n,_,_,hl,hlen,hf⟩:=DataW.trod_struct Tryz.underlying24 hf
 obtain⟨y0,y1,y2,y3,y4,y5,hxs⟩: ∃y0 y1 y2 y3 y4 y5,xs=[y0,y1,y2,y3,y4,y5]:=by
  match xs,hlen with
  | [y0,y1,y2,y3,y4,y5],_=>exact⟨y0,y1,y2,y3,y4,y5,rfl⟩
 subst hxs
 have t0:DataW.trod enc Tryz.prog W 0 (fun _=>true) true n 5 [c0]=some y0:=by simpa [Value.cells,cells5] using hf 0 _ rfl
 have t1:DataW.trod enc Tryz.prog W 0 (fun _=>true) true n 9 [c1]=some y1:=by simpa [Value.cells,cells9] using hf 1 _ rfl
 have t2:DataW.trod enc Tryz.prog W 0 (fun _=>true) true n 5 [c2]=some y2:=by simpa [Value.cells,cells5] using hf 2 _ rfl
 have t3:DataW.trod enc Tryz.prog W 0 (fun _=>true) true n 5 [c3]=some y3:=by simpa [Value.cells,cells5] using hf 3 _ rfl
 have t4:DataW.trod enc Tryz.prog W 0 (fun _=>true) true n 9 [c4]=some y4:=by simpa [Value.cells,cells9] using hf 4 _ rfl
 have t5:DataW.trod enc Tryz.prog W 0 (fun _=>true) true n 5 [c5]=some y5:=by simpa [Value.cells,cells5] using hf 5 _ rfl
 obtain⟨a0,e0,_,w0⟩:=DataW.trod_int Tryz.underlying5 t0
 obtain⟨a1,e1,_,_⟩:=DataW.trod_string Tryz.underlying9 t1
 obtain⟨a2,e2,_,w2⟩:=DataW.trod_int Tryz.underlying5 t2
 obtain⟨a3,e3,_,w3⟩:=DataW.trod_int Tryz.underlying5 t3
 obtain⟨a4,e4,_,_⟩:=DataW.trod_string Tryz.underlying9 t4
 obtain⟨a5,e5,_,w5⟩:=DataW.trod_int Tryz.underlying5 t5
 simp only[List.cons.injEq,and_true] at e0 e1 e2 e3 e4 e5
 subst e0 e1 e2 e3 e4 e5
 obtain⟨n0,h0,rfl⟩:=byte_of w0
 obtain⟨n2,h2,rfl⟩:=byte_of w2
 obtain⟨n3,h3,rfl⟩:=byte_of w3
 obtain⟨n5,h5,rfl⟩:=byte_of w5
 obtain⟨f1,g1,k1⟩:=strF_of a1
 obtain⟨f4,g4,k4⟩:=strF_of a4
 refine⟨⟨n0,a1.size,f1,n2,n3,a4.size,f4,n5⟩,?_,⟨h0,g1,h2,h3,g4,h5⟩⟩
 unfold hdC
 simp only
 rw[← k1,← k4]
end Go.Proofs.YtlmacfmfmjhidaaGreatDoor.Hd
namespace Go.Proofs.YtlmacfmfmjhidaaGreatDoor.CardT
open Go.ChangeShapes Go.WideShapes Go.RowKit
theorem own:ownKnob Tryz.prog.godebug=none:=by kernel_rfl
theorem laidOut:laidOutB Tryz.prog=true:=by kernel_rfl
def laid:List (String×DataW Unit):=[("math/bits.deBruijn32tab",Rows.laid_math_bits_deBruijn32tab),("math/bits.deBruijn64tab",Rows.laid_math_bits_deBruijn64tab),("internal/strconv.uint64pow10",Rows.laid_internal_strconv_uint64pow10),("errors.errorType",Rows.laid_errors_errorType)]
def data:List (String×DataW Unit):=[("math/bits.deBruijn32tab",Rows.laid_math_bits_deBruijn32tab),("math/bits.deBruijn64tab",Rows.laid_math_bits_deBruijn64tab),("internal/strconv.uint64pow10",Rows.laid_internal_strconv_uint64pow10)]
theorem tabIs_at {P:Program}{W:World}{name:String}{k:IntKind}{zs:List Int}{rest:List (String×DataW Unit)}{g:Nat}{t e:TypeId}{n:Nat}{ps:List MemPlace}
  (hg:P.globalNamed name=some g) (hty:(P.globals[g]?).map (·.type)=some t) (ht:P.underlying t=some (.array n e)) (he:P.underlying e=some (.int k)) (hce:P.cellsOf e=1) (hct:P.cellsOf t=n)
  (h:DataW.LaidVars P W ((name,Lib.tabData k zs)::rest) ps):Lib.TabIs P W name k zs:=by
 obtain⟨g',t',cs,fuel,p,q,hg',ht',hvar,hd,_,_⟩:=h
 obtain rfl:=Option.some.inj (hg.symm.trans hg')
 obtain rfl:=Option.some.inj (hty.symm.trans ht')
 unfold Lib.TabIs
 rw[hvar,← Lib.cells_of_tab ht he hce hct hd]
theorem of_laid {W:World} (h:laidMetH Tryz.prog laid W):As.Laid W∧Hd.Tab W:=by
 have h':laidMet Tryz.prog data W∧handlesMet Tryz.prog Card.laid W:=h
 refine⟨Card.handle_of_laid (show laidMet Tryz.prog [] W∧handlesMet Tryz.prog Card.laid W from⟨laidMet_nil _ _,h'.2⟩),?_⟩
 obtain⟨ps,h1,_⟩:=h'.1
 obtain⟨_,_,_,_,_,q1,_,_,_,_,h2,_⟩:=h1
 obtain⟨_,_,_,_,_,q2,_,_,_,_,h3,_⟩:=h2
 exact tabIs_at (g:=1) (t:=215) (e:=181) (n:=20) (by kernel_rfl) (by kernel_rfl) Tryz.underlying215 Tryz.underlying181 (by kernel_rfl) (by kernel_rfl) h3
noncomputable def laidWorld (os:Os):World:=
 let w0:=World.holding Tryz.prog os ⟨#[],#[],[]⟩
 let put (h:Array Obj) (i:Nat) (cs:Array Value):Array Obj:=h.modify i fun
   | .cells _ t frozen=> .cells cs t frozen
   | o=>o
 let t32:List Int:=[0,1,28,2,29,14,24,3,30,22,20,15,25,17,4,8,31,27,13,23,21,19,16,7,26,12,18,6,11,5,10,9]
 let t64:List Int:=[0,1,56,2,57,49,28,3,61,58,42,50,38,29,17,4,62,47,59,36,45,43,51,22,53,39,33,30,24,18,12,5,63,55,48,27,60,41,37,16,46,35,44,21,52,32,23,11,54,26,40,15,34,20,31,10,25,14,19,9,13,8,7,6]
 let h0:=put w0.heap 0 #[.iface 135 (.agg #[.pointer (some ⟨5,27,none⟩)])]
 let h1:=put h0 1 (Lib.pow10Tab.map fun z=>Value.int .u64 z).toArray
 let h3:=put h1 3 (t32.map fun z=>Value.int .u8 z).toArray
 let h4:=put h3 4 (t64.map fun z=>Value.int .u8 z).toArray
 {w0 with heap:=h4}
theorem laidWorld_met (os:Os) (args:Array Value):laidMetH Tryz.prog laid ((laidWorld os).forCall (fun _ _=>0) ⟨#[],args,[]⟩).memory:=
 laidMetH_of_parts ((LaidIn.of_run [3,4,1] 8 (by kernel_rfl) (by kernel_rfl) (by kernel_rfl) (by kernel_rfl)).met) (by kernel_rfl)
end Go.Proofs.YtlmacfmfmjhidaaGreatDoor.CardT
