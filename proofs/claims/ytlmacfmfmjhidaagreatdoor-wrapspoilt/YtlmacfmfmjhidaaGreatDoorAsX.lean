/-
 As OpenCard AsFault AsAt AsFault2
-/
import Derived.Test.YtlmacfmfmjhidaaGreatDoorMemX
import Derived.LaidEql
import Derived.Stop.Asserts
import Derived.RowKitTokens
namespace Go.Proofs.YtlmacfmfmjhidaaGreatDoor.As
open Go.RowKit Go.Extern.Stop Go.Stop Go.Extern Mem
theorem as_nil (t:Value) (w:World):
  Calls Tryz.prog 31 #[.nilIface,t] w fun e w'=>e= .returned (.bool false)∧w=w':=by
 go_enter Tryz.func31,Tryz.ntmps31
 go_wp2
 go_ret
 exact⟨rfl,rfl⟩
theorem valueOfP (t:Addr) (w:World):(ReflectliteValue.unpack (.iface 64 (.pointer (some t)))).run Tryz.prog w
  = .ok (.agg #[.pointer (some ⟨5,64,none⟩), .pointer (some ⟨w.heap.size,0,none⟩), .int .u64 150]) (w.alloc (.cells #[.pointer (some t)] 64)):=by kernel_rfl
theorem typeP (a:Addr) (w:World):(ReflectliteValue.methodAny (ReflectliteValue.valueError "reflectlite.Value.Type" 0) (fun t _ _ _=>ReflectliteType.toType t) #[.agg #[.pointer (some ⟨5,64,none⟩), .pointer (some a), .int .u64 150]]).run Tryz.prog w
  = .ok (.iface 135 (.agg #[.pointer (some ⟨5,64,none⟩)])) w:=by kernel_rfl
theorem methodKind (h:Value) (w:World):(Go.method 371 135 (.agg #[h]) "Kind").run Tryz.prog w= .ok (205,h) w:=by kernel_rfl
theorem kindP (w:World):((ReflectliteType.abiMethod fun t=>(fun a:Nat=>Value.int IntKind.u8 (a:Int))<$>Rtype.kind t) #[.pointer (some ⟨5,64,none⟩)]).run Tryz.prog w= .ok (.int .u8 22) w:=by kernel_rfl
theorem kindE (w:World):((ReflectliteType.abiMethod fun t=>(fun a:Nat=>Value.int IntKind.u8 (a:Int))<$>Rtype.kind t) #[.pointer (some ⟨5,56,none⟩)]).run Tryz.prog w= .ok (.int .u8 2) w:=by kernel_rfl
theorem rlm (z:Sem Value) (f:TypeId→Addr→Nat→Nat→Sem Value) (v:Value):
  ReflectliteValue.method z f #[v]=(do match ← ReflectliteValue.parts v with | none=>z | some (t,a,fl)=>f t a fl (fl%32)):=rfl
theorem partsP (a:Addr) (w:World):(ReflectliteValue.parts (.agg #[.pointer (some ⟨5,64,none⟩), .pointer (some a), .int .u64 150])).run Tryz.prog w= .ok (some (64,a,150)) w:=by kernel_rfl
theorem isNilP (a p:Addr) (W:World) (ha:W.cell? a=some (.pointer (some p))):
  (ReflectliteValue.method (ReflectliteValue.valueError "reflectlite.Value.IsNil" 0) ReflectliteValue.isNil #[.agg #[.pointer (some ⟨5,64,none⟩), .pointer (some a), .int .u64 150]]).run Tryz.prog W= .ok (.bool false) W:=by
 rw[rlm]
 simp only[Sem.run_bind,partsP,Result.andThen]
 simp[ReflectliteValue.isNil,loadVar,isAgg,underlying,Tryz.underlying64,ha,Result.andThen]
theorem methodElem (h:Value) (w:World):(Go.method 371 135 (.agg #[h]) "Elem").run Tryz.prog w= .ok (218, .agg #[h]) w:=by kernel_rfl
theorem methodImplements (h:Value) (w:World):(Go.method 371 135 (.agg #[h]) "Implements").run Tryz.prog w= .ok (219, .agg #[h]) w:=by kernel_rfl
theorem methodAssignableTo (h:Value) (w:World):(Go.method 371 135 (.agg #[h]) "AssignableTo").run Tryz.prog w= .ok (216, .agg #[h]) w:=by kernel_rfl
theorem elemP (w:World):(ReflectliteType.method ReflectliteType.elem #[.agg #[.pointer (some ⟨5,64,none⟩)]]).run Tryz.prog w= .ok (.iface 135 (.agg #[.pointer (some ⟨5,56,none⟩)])) w:=by kernel_rfl
theorem implementsE (w:World):(ReflectliteType.relation "Implements" ReflectliteType.implements_ #[.agg #[.pointer (some ⟨5,56,none⟩)], .iface 135 (.agg #[.pointer (some ⟨5,27,none⟩)])]).run Tryz.prog w= .ok (.bool true) w:=by kernel_rfl
theorem typeOfE (v:Value) (w:World):(ReflectliteType.typeOf #[.iface 56 v]).run Tryz.prog w= .ok (.iface 135 (.agg #[.pointer (some ⟨5,56,none⟩)])) w:=by kernel_rfl
theorem assignableE (w:World):(ReflectliteType.relation "AssignableTo" ReflectliteType.assignableTo #[.agg #[.pointer (some ⟨5,56,none⟩)], .iface 135 (.agg #[.pointer (some ⟨5,56,none⟩)])]).run Tryz.prog w= .ok (.bool true) w:=by kernel_rfl
theorem valueOfE (e:Int) (w:World):(ReflectliteValue.unpack (.iface 56 (.int .i64 e))).run Tryz.prog w
  = .ok (.agg #[.pointer (some ⟨5,56,none⟩), .pointer (some ⟨w.heap.size,0,none⟩), .int .u64 130]) (w.alloc (.cells #[.int .i64 e] 56)):=by kernel_rfl
theorem elemOfP (w:World):(Rtype.elem? 64).run Tryz.prog w= .ok (some 56) w:=by kernel_rfl
theorem mkE (p:Addr) (w:World):(ReflectliteValue.mk 56 p ReflectliteValue.flagAddr).run Tryz.prog w= .ok (.agg #[.pointer (some ⟨5,56,none⟩), .pointer (some p), .int .u64 386]) w:=by kernel_rfl
theorem elemVP (a p:Addr) (W:World) (ha:W.cell? a=some (.pointer (some p))):
  (ReflectliteValue.method (ReflectliteValue.valueError "reflectlite.Value.Elem" 0) ReflectliteValue.elem #[.agg #[.pointer (some ⟨5,64,none⟩), .pointer (some a), .int .u64 150]]).run Tryz.prog W
   = .ok (.agg #[.pointer (some ⟨5,56,none⟩), .pointer (some p), .int .u64 386]) W:=by
 rw[rlm]
 simp only[Sem.run_bind,partsP,Result.andThen]
 simp[ReflectliteValue.elem,loadVar,isAgg,underlying,Tryz.underlying64,ha,Result.andThen,elemOfP,mkE]
theorem partsEa (a:Addr) (w:World):(ReflectliteValue.parts (.agg #[.pointer (some ⟨5,56,none⟩), .pointer (some a), .int .u64 386])).run Tryz.prog w= .ok (some (56,a,386)) w:=by kernel_rfl
theorem partsE (a:Addr) (w:World):(ReflectliteValue.parts (.agg #[.pointer (some ⟨5,56,none⟩), .pointer (some a), .int .u64 130])).run Tryz.prog w= .ok (some (56,a,130)) w:=by kernel_rfl
theorem directE (w:World):(Rtype.directlyAssignable 56 56).run Tryz.prog w= .ok true w:=by kernel_rfl
theorem rls (v x:Value):ReflectliteValue.set #[v,x]=(do
  let (some (dst,a,fl),some (src,b,_)):=(← ReflectliteValue.parts v,← ReflectliteValue.parts x)
   | unsupported (.noEntry "extern/(internal/reflectlite.Value).Set.zeroValue")
  if fl/ReflectliteValue.flagAddr%2 == 0 then unsupported (.noEntry "extern/(internal/reflectlite.Value).Set.unaddressable")
  let val ← loadVar src b
  if ← Rtype.directlyAssignable dst src then storeVar dst a val
  else if ← Rtype.implements dst src then
   if(← Rtype.kind src) == 20 then
    match val with
    | .nilIface=>unsupported (.noEntry "extern/reflectlite: a nil value of one interface type handed on as a value of another")
    | _=>storeVar dst a val
   else storeVar dst a (.iface src val)
  else panicString ("reflectlite.Set: value of type " ++(← Rtype.spelt src)++ " is not assignable to type " ++(← Rtype.spelt dst))
  pure (.tuple #[])):=rfl
theorem setE (ta b:Addr) (n:Int) (old:Value) (W:World) (hb:W.cell? b=some (.int .i64 n)) (ht:W.cell? ta=some old) (hf:W.frozen? ta=false):
  (ReflectliteValue.set #[.agg #[.pointer (some ⟨5,56,none⟩), .pointer (some ta), .int .u64 386], .agg #[.pointer (some ⟨5,56,none⟩), .pointer (some b), .int .u64 130]]).run Tryz.prog W
   = .ok (.tuple #[]) (W.setCell ta (.int .i64 n)):=by
 rw[rls]
 simp only[Sem.run_bind,partsEa,partsE,Result.andThen]
 simp[ReflectliteValue.flagAddr,loadVar,isAgg,underlying,Tryz.underlying56,hb,Result.andThen,directE,storeVar,Value.cells,storeCells,Addr.add]
 rw[run_store Tryz.prog W ta _ _ (by rfl)]
 simp[ht,hf]
def Laid (w:World):Prop:=w.cell? ⟨0,0,none⟩=some (.iface 135 (.agg #[.pointer (some ⟨5,27,none⟩)]))
theorem Laid.lt {w:World} (h:Laid w):0<w.heap.size:=by
 rcases Nat.eq_zero_or_pos w.heap.size with h0 | h'
 ·simp[Laid,World.cell?,h0] at h
 exact h'
theorem Laid.below {w w':World} (h:Laid w) (hb:Below w.heap.size w w'):Laid w':=(hb.cell (p:=⟨0,0,none⟩) h.lt).trans h
theorem Laid.drewN {w:World} (h:Laid w) (n:Nat):Laid (w.drewN n):=h
set_option maxHeartbeats 4000000 in
theorem as_hit (n:Int) (t:Addr) (old:Value) (w:World) (hg:Laid w) (ht0:w.cell? t=some old) (hf0:w.frozen? t=false):
  Calls Tryz.prog 31 #[.iface 56 (.int .i64 n), .iface 64 (.pointer (some t))] w fun ev w'=>ev= .returned (.bool true)∧w'=((((w.alloc (.cells #[.pointer (some t)] 64)).alloc (.cells #[.pointer (some ⟨5,64,none⟩), .pointer (some ⟨w.heap.size,0,none⟩), .int .u64 150] 104)).alloc (.cells #[.pointer (some ⟨5,64,none⟩), .pointer (some ⟨w.heap.size,0,none⟩), .int .u64 150] 104)).alloc (.cells #[.int .i64 n] 56)).setCell t (.int .i64 n):=by
 have h6:= @run_callFunc_extern Tryz.prog 59 _ (fun args=>ReflectliteValue.unpack (args.getD 0 (.tuple #[]))) Tryz.func59 (by kernel_rfl) (by kernel_rfl) (by kernel_rfl) (by kernel_rfl)
 have h7:= @run_callFunc_extern Tryz.prog 60 _ (ReflectliteValue.methodAny (ReflectliteValue.valueError "reflectlite.Value.Type" 0) (fun t _ _ _=>ReflectliteType.toType t)) Tryz.func60 (by kernel_rfl) (by kernel_rfl) (by kernel_rfl) (by kernel_rfl)
 have h8:= @run_callFunc_extern Tryz.prog 61 _ (ReflectliteValue.method (ReflectliteValue.valueError "reflectlite.Value.IsNil" 0) ReflectliteValue.isNil) Tryz.func61 (by kernel_rfl) (by kernel_rfl) (by kernel_rfl) (by kernel_rfl)
 have h27:= @run_callFunc_extern Tryz.prog 205 _ (ReflectliteType.abiMethod fun t=>do pure (.int .u8 (← Rtype.kind t))) Tryz.func205 (by kernel_rfl) (by kernel_rfl) (by kernel_rfl) (by kernel_rfl)
 have h37:= @run_callFunc_extern Tryz.prog 218 _ (ReflectliteType.method ReflectliteType.elem) Tryz.func218 (by kernel_rfl) (by kernel_rfl) (by kernel_rfl) (by kernel_rfl)
 have h38:= @run_callFunc_extern Tryz.prog 219 _ (ReflectliteType.relation "Implements" ReflectliteType.implements_) Tryz.func219 (by kernel_rfl) (by kernel_rfl) (by kernel_rfl) (by kernel_rfl)
 have h10:= @run_callFunc_extern Tryz.prog 89 _ ReflectliteType.typeOf Tryz.func89 (by kernel_rfl) (by kernel_rfl) (by kernel_rfl) (by kernel_rfl)
 have h35:= @run_callFunc_extern Tryz.prog 216 _ (ReflectliteType.relation "AssignableTo" ReflectliteType.assignableTo) Tryz.func216 (by kernel_rfl) (by kernel_rfl) (by kernel_rfl) (by kernel_rfl)
 have h11:= @run_callFunc_extern Tryz.prog 90 _ (ReflectliteValue.method (ReflectliteValue.valueError "reflectlite.Value.Elem" 0) ReflectliteValue.elem) Tryz.func90 (by kernel_rfl) (by kernel_rfl) (by kernel_rfl) (by kernel_rfl)
 have h12:= @run_callFunc_extern Tryz.prog 91 _ ReflectliteValue.set Tryz.func91 (by kernel_rfl) (by kernel_rfl) (by kernel_rfl) (by kernel_rfl)
 have tO:=typeOfE
 have mA:=methodAssignableTo
 have a25:=assignableE
 have v25:=valueOfE
 have f6:=valueOfP
 have f7:=typeP
 have mK:=methodKind
 have mE:=methodElem
 have mI:=methodImplements
 have k27:=kindP
 have k25:=kindE
 have e27:=elemP
 have i25:=implementsE
 have n8:=isNilP ⟨w.heap.size,0,none⟩ t ((w.alloc (.cells #[.pointer (some t)] 64)).alloc (.cells #[.pointer (some ⟨5,64,none⟩), .pointer (some ⟨w.heap.size,0,none⟩), .int .u64 150] 104)) (by simp)
 have hlt:=hg.lt
 have hg2:((w.alloc (.cells #[.pointer (some t)] 64)).alloc (.cells #[.pointer (some ⟨5,64,none⟩), .pointer (some ⟨w.heap.size,0,none⟩), .int .u64 150] 104)).cell? ⟨0,0,none⟩=some (.iface 135 (.agg #[.pointer (some ⟨5,27,none⟩)])):=by
  rw[World.cell?_alloc_lt _ _ ⟨0,0,none⟩ (by simp),World.cell?_alloc_lt _ _ ⟨0,0,none⟩ hlt];exact hg
 have htl:t.block<w.heap.size:=by
  rcases Nat.lt_or_ge t.block w.heap.size with h | h
  ·exact h
  simp[World.cell?,Array.getElem?_eq_none h] at ht0
 have el:=elemVP ⟨w.heap.size,0,none⟩ t (((w.alloc (.cells #[.pointer (some t)] 64)).alloc (.cells #[.pointer (some ⟨5,64,none⟩), .pointer (some ⟨w.heap.size,0,none⟩), .int .u64 150] 104)).alloc (.cells #[.pointer (some ⟨5,64,none⟩), .pointer (some ⟨w.heap.size,0,none⟩), .int .u64 150] 104)) (by rw[World.cell?_alloc_lt _ _ ⟨w.heap.size,0,none⟩ (by simp;omega)];simp)
 have st:=setE t ⟨w.heap.size+1+1+1,0,none⟩ n old ((((w.alloc (.cells #[.pointer (some t)] 64)).alloc (.cells #[.pointer (some ⟨5,64,none⟩), .pointer (some ⟨w.heap.size,0,none⟩), .int .u64 150] 104)).alloc (.cells #[.pointer (some ⟨5,64,none⟩), .pointer (some ⟨w.heap.size,0,none⟩), .int .u64 150] 104)).alloc (.cells #[.int .i64 n] 56))
  (by rw[World.cell?_alloc_at _ _ _ _ (by simp)];rfl)
  (by rw[World.cell?_alloc_lt _ _ t (by simp;omega),World.cell?_alloc_lt _ _ t (by simp;omega),World.cell?_alloc_lt _ _ t (by simp;omega),World.cell?_alloc_lt _ _ t htl];exact ht0)
  (by rw[World.frozen?_alloc_old _ _ t (by simp;omega),World.frozen?_alloc_old _ _ t (by simp;omega),World.frozen?_alloc_old _ _ t (by simp;omega),World.frozen?_alloc_old _ _ t (Nat.ne_of_lt htl)];exact hf0)
 clear hg
 go_enter Tryz.func31,Tryz.ntmps31
 go_wp2
 refine wp_loop_rounds 1 ?_
 rw[rounds_succ]
 go_wp2
 go_ret
 exact⟨rfl,rfl⟩
theorem code_nil (w:World):Calls Tryz.prog 9 #[.nilIface] w fun e w'=>e= .returned (.int .i64 0)∧Below w.heap.size w w':=by
 go_enter Tryz.func9,Tryz.ntmps9
 go_wp2
 go_ret
 exact⟨rfl,(Below.refl _ _).alloc (Nat.le_refl _) _⟩
set_option maxHeartbeats 1000000 in
theorem code_hit (n:Int) (w:World) (hg:Laid w):Calls Tryz.prog 9 #[.iface 56 (.int .i64 n)] w fun e w'=>e= .returned (.int .i64 n)∧Below w.heap.size w w':=by
 have hgA:Laid (w.alloc (.cells #[.int .i64 0] 56)):=hg.below ((Below.refl _ _).alloc (Nat.le_refl _) _)
 have HgA:=hid hgA
 clear hg hgA
 go_enter Tryz.func9,Tryz.ntmps9
 go_wp2_with (go_at_call 31;refine(as_hit n _ (.int .i64 0) _ HgA.out (by simp) (by simp)).mono ?_;rintro e w' ⟨rfl,rfl⟩)
 go_ret
 exact⟨rfl,((((((Below.refl w.heap.size w).alloc (Nat.le_refl _) _).alloc (by simp) _).alloc (by simp;omega) _).alloc (by simp;omega) _).alloc (by simp;omega) _)⟩
end Go.Proofs.YtlmacfmfmjhidaaGreatDoor.As
namespace Go.Proofs.YtlmacfmfmjhidaaGreatDoor.Card
open Go.ChangeShapes Go.WideShapes Go.RowKit
theorem own:ownKnob Tryz.prog.godebug=none:=by kernel_rfl
theorem laidOut:laidOutB Tryz.prog=true:=by kernel_rfl
theorem et:Tryz.prog.globalNamed "errors.errorType" =some 0:=by kernel_rfl
theorem rt:(Tryz.prog.cutTypes.find? (·.1 == "internal/reflectlite.rtype")).map (·.2)=some 135:=by kernel_rfl
theorem oneRow:((List.range 271).filter fun t=>Tryz.prog.rowNamed t [101,114,114,111,114])=[27]:=by kernel_rfl
theorem size:Tryz.prog.types.size=271:=by kernel_rfl
def laid:List (String×DataW Unit):=[("errors.errorType",Rows.laid_errors_errorType)]
theorem handle_of_laid {W:World} (h:laidMetH Tryz.prog laid W):As.Laid W:=by
 have h':laidMet Tryz.prog [] W∧handlesMet Tryz.prog laid W:=h
 obtain⟨name,u,ty,e1,e2,e3,e4,e5⟩:=h'.2 _ (List.mem_singleton.2 rfl)
 have en:name=[101,114,114,111,114]:=(Option.some.inj e1).symm
 subst en
 obtain rfl:=Option.some.inj (rt.symm.trans e2)
 have hm:ty∈(List.range 271).filter fun t=>Tryz.prog.rowNamed t [101,114,114,111,114]:=List.mem_filter.2 ⟨List.mem_range.2 (by rw[← size];exact e3),e4⟩
 rw[oneRow] at hm
 obtain rfl:=List.mem_singleton.1 hm
 have hh:typeHandle Tryz.prog 27= .pointer (some ⟨5,27,none⟩):=by kernel_rfl
 rw[hh] at e5
 have:=World.var?_cell et e5 0
 unfold As.Laid
 simpa using this
noncomputable def laidWorld (os:Os):World:=
 let w0:=World.holding Tryz.prog os ⟨#[],#[],[]⟩
 {w0 with heap:=w0.heap.modify 0 fun
   | .cells _ t frozen=> .cells #[.iface 135 (.agg #[.pointer (some ⟨5,27,none⟩)])] t frozen
   | o=>o}
theorem laidWorld_met (os:Os) (args:Array Value):laidMetH Tryz.prog laid ((laidWorld os).forCall (fun _ _=>0) ⟨#[],args,[]⟩).memory:=
 laidMetH_of_parts (laidMet_nil _ _) (by kernel_rfl)
end Go.Proofs.YtlmacfmfmjhidaaGreatDoor.Card
namespace Go.Proofs.YtlmacfmfmjhidaaGreatDoor.As
open Go.RowKit Go.Extern.Stop Go.Stop Go.Extern Mem
theorem typeOfF (v:Value) (w:World):(ReflectliteType.typeOf #[.iface 65 v]).run Tryz.prog w= .ok (.iface 135 (.agg #[.pointer (some ⟨5,65,none⟩)])) w:=by kernel_rfl
theorem assignableFE (w:World):(ReflectliteType.relation "AssignableTo" ReflectliteType.assignableTo #[.agg #[.pointer (some ⟨5,65,none⟩)], .iface 135 (.agg #[.pointer (some ⟨5,56,none⟩)])]).run Tryz.prog w= .ok (.bool false) w:=by kernel_rfl
theorem noAsF (v:Value) (xT:TypeId) (w:World):(Instr.typeAssert (.iface 65 v) xT 140 true).run Tryz.prog w= .ok (.tuple #[.nilIface, .bool false]) w:=run_typeAssert_lacksB Tryz.underlying140 (by kernel_rfl) (by kernel_rfl) v xT w
theorem hasUnF (v:Value) (xT:TypeId) (w:World):(Instr.typeAssert (.iface 65 v) xT 143 true).run Tryz.prog w= .ok (.tuple #[.iface 65 v, .bool true]) w:=run_typeAssert_hasB Tryz.underlying143 (by kernel_rfl) v xT w
theorem methodUnF (v:Value) (w:World):(Go.method 371 65 v "Unwrap").run Tryz.prog w= .ok (210,v) w:=by kernel_rfl
theorem unwrap_any (g:Nat) (v:Value) (w:World) (h:w.cell? ⟨g,1,none⟩=some v):
  Calls Tryz.prog 210 #[.pointer (some ⟨g,0,none⟩)] w fun e w'=>e= .returned v∧w=w':=by
 go_enter Tryz.func210,Tryz.ntmps210
 go_wp2
 go_ret
 exact⟨rfl,rfl⟩
set_option maxHeartbeats 4000000 in
theorem as_fault (n:Int) (g:Nat) (t:Addr) (old:Value) (w:World) (hg:Laid w) (hF:w.cell? ⟨g,1,none⟩=some (.iface 56 (.int .i64 n))) (ht0:w.cell? t=some old) (hf0:w.frozen? t=false):
  Calls Tryz.prog 31 #[.iface 65 (.pointer (some ⟨g,0,none⟩)), .iface 64 (.pointer (some t))] w fun ev w'=>ev= .returned (.bool true)∧w'=((((w.alloc (.cells #[.pointer (some t)] 64)).alloc (.cells #[.pointer (some ⟨5,64,none⟩), .pointer (some ⟨w.heap.size,0,none⟩), .int .u64 150] 104)).alloc (.cells #[.pointer (some ⟨5,64,none⟩), .pointer (some ⟨w.heap.size,0,none⟩), .int .u64 150] 104)).alloc (.cells #[.int .i64 n] 56)).setCell t (.int .i64 n):=by
 have h6:= @run_callFunc_extern Tryz.prog 59 _ (fun args=>ReflectliteValue.unpack (args.getD 0 (.tuple #[]))) Tryz.func59 (by kernel_rfl) (by kernel_rfl) (by kernel_rfl) (by kernel_rfl)
 have h7:= @run_callFunc_extern Tryz.prog 60 _ (ReflectliteValue.methodAny (ReflectliteValue.valueError "reflectlite.Value.Type" 0) (fun t _ _ _=>ReflectliteType.toType t)) Tryz.func60 (by kernel_rfl) (by kernel_rfl) (by kernel_rfl) (by kernel_rfl)
 have h8:= @run_callFunc_extern Tryz.prog 61 _ (ReflectliteValue.method (ReflectliteValue.valueError "reflectlite.Value.IsNil" 0) ReflectliteValue.isNil) Tryz.func61 (by kernel_rfl) (by kernel_rfl) (by kernel_rfl) (by kernel_rfl)
 have h27:= @run_callFunc_extern Tryz.prog 205 _ (ReflectliteType.abiMethod fun t=>do pure (.int .u8 (← Rtype.kind t))) Tryz.func205 (by kernel_rfl) (by kernel_rfl) (by kernel_rfl) (by kernel_rfl)
 have h37:= @run_callFunc_extern Tryz.prog 218 _ (ReflectliteType.method ReflectliteType.elem) Tryz.func218 (by kernel_rfl) (by kernel_rfl) (by kernel_rfl) (by kernel_rfl)
 have h38:= @run_callFunc_extern Tryz.prog 219 _ (ReflectliteType.relation "Implements" ReflectliteType.implements_) Tryz.func219 (by kernel_rfl) (by kernel_rfl) (by kernel_rfl) (by kernel_rfl)
 have h10:= @run_callFunc_extern Tryz.prog 89 _ ReflectliteType.typeOf Tryz.func89 (by kernel_rfl) (by kernel_rfl) (by kernel_rfl) (by kernel_rfl)
 have h35:= @run_callFunc_extern Tryz.prog 216 _ (ReflectliteType.relation "AssignableTo" ReflectliteType.assignableTo) Tryz.func216 (by kernel_rfl) (by kernel_rfl) (by kernel_rfl) (by kernel_rfl)
 have h11:= @run_callFunc_extern Tryz.prog 90 _ (ReflectliteValue.method (ReflectliteValue.valueError "reflectlite.Value.Elem" 0) ReflectliteValue.elem) Tryz.func90 (by kernel_rfl) (by kernel_rfl) (by kernel_rfl) (by kernel_rfl)
 have h12:= @run_callFunc_extern Tryz.prog 91 _ ReflectliteValue.set Tryz.func91 (by kernel_rfl) (by kernel_rfl) (by kernel_rfl) (by kernel_rfl)
 have tO:=typeOfE
 have tF:=typeOfF
 have aF:=assignableFE
 have nF:=noAsF
 have uF:=hasUnF
 have mU:=methodUnF
 have mA:=methodAssignableTo
 have a25:=assignableE
 have v25:=valueOfE
 have f6:=valueOfP
 have f7:=typeP
 have mK:=methodKind
 have mE:=methodElem
 have mI:=methodImplements
 have k27:=kindP
 have k25:=kindE
 have e27:=elemP
 have i25:=implementsE
 have n8:=isNilP ⟨w.heap.size,0,none⟩ t ((w.alloc (.cells #[.pointer (some t)] 64)).alloc (.cells #[.pointer (some ⟨5,64,none⟩), .pointer (some ⟨w.heap.size,0,none⟩), .int .u64 150] 104)) (by simp)
 have hlt:=hg.lt
 have hg2:((w.alloc (.cells #[.pointer (some t)] 64)).alloc (.cells #[.pointer (some ⟨5,64,none⟩), .pointer (some ⟨w.heap.size,0,none⟩), .int .u64 150] 104)).cell? ⟨0,0,none⟩=some (.iface 135 (.agg #[.pointer (some ⟨5,27,none⟩)])):=by
  rw[World.cell?_alloc_lt _ _ ⟨0,0,none⟩ (by simp),World.cell?_alloc_lt _ _ ⟨0,0,none⟩ hlt];exact hg
 have hcl: ∀ {q:Addr}{x:Value},w.cell? q=some x→q.block<w.heap.size:=by
  intro q x hq
  rcases Nat.lt_or_ge q.block w.heap.size with h | h
  ·exact h
  simp[World.cell?,Array.getElem?_eq_none h] at hq
 have htl:t.block<w.heap.size:=hcl ht0
 have hgl:g<w.heap.size:=hcl hF
 have hF3:(((w.alloc (.cells #[.pointer (some t)] 64)).alloc (.cells #[.pointer (some ⟨5,64,none⟩), .pointer (some ⟨w.heap.size,0,none⟩), .int .u64 150] 104)).alloc (.cells #[.pointer (some ⟨5,64,none⟩), .pointer (some ⟨w.heap.size,0,none⟩), .int .u64 150] 104)).cell? ⟨g,1,none⟩=some (.iface 56 (.int .i64 n)):=by
  rw[World.cell?_alloc_lt _ _ ⟨g,1,none⟩ (by simp;omega),World.cell?_alloc_lt _ _ ⟨g,1,none⟩ (by simp;omega),World.cell?_alloc_lt _ _ ⟨g,1,none⟩ hgl];exact hF
 have el:=elemVP ⟨w.heap.size,0,none⟩ t (((w.alloc (.cells #[.pointer (some t)] 64)).alloc (.cells #[.pointer (some ⟨5,64,none⟩), .pointer (some ⟨w.heap.size,0,none⟩), .int .u64 150] 104)).alloc (.cells #[.pointer (some ⟨5,64,none⟩), .pointer (some ⟨w.heap.size,0,none⟩), .int .u64 150] 104)) (by rw[World.cell?_alloc_lt _ _ ⟨w.heap.size,0,none⟩ (by simp;omega)];simp)
 have st:=setE t ⟨w.heap.size+1+1+1,0,none⟩ n old ((((w.alloc (.cells #[.pointer (some t)] 64)).alloc (.cells #[.pointer (some ⟨5,64,none⟩), .pointer (some ⟨w.heap.size,0,none⟩), .int .u64 150] 104)).alloc (.cells #[.pointer (some ⟨5,64,none⟩), .pointer (some ⟨w.heap.size,0,none⟩), .int .u64 150] 104)).alloc (.cells #[.int .i64 n] 56))
  (by rw[World.cell?_alloc_at _ _ _ _ (by simp)];rfl)
  (by rw[World.cell?_alloc_lt _ _ t (by simp;omega),World.cell?_alloc_lt _ _ t (by simp;omega),World.cell?_alloc_lt _ _ t (by simp;omega),World.cell?_alloc_lt _ _ t htl];exact ht0)
  (by rw[World.frozen?_alloc_old _ _ t (by simp;omega),World.frozen?_alloc_old _ _ t (by simp;omega),World.frozen?_alloc_old _ _ t (by simp;omega),World.frozen?_alloc_old _ _ t (Nat.ne_of_lt htl)];exact hf0)
 have HF:=hid hF3
 clear hg hF hF3 hcl
 go_enter Tryz.func31,Tryz.ntmps31
 go_wp2
 refine wp_loop_rounds 2 ?_
 rw[rounds_succ]
 go_wp2_with (go_at_call 210;refine(unwrap_any g _ _ HF.out).mono ?_;rintro e w' ⟨rfl,rfl⟩)
 rw[rounds_succ]
 go_wp2
 go_ret
 exact⟨rfl,rfl⟩
set_option maxHeartbeats 1000000 in
theorem code_fault (n:Int) (g:Nat) (w:World) (hg:Laid w) (hF:w.cell? ⟨g,1,none⟩=some (.iface 56 (.int .i64 n))):Calls Tryz.prog 9 #[.iface 65 (.pointer (some ⟨g,0,none⟩))] w fun e w'=>e= .returned (.int .i64 n)∧Below w.heap.size w w':=by
 have hgA:Laid (w.alloc (.cells #[.int .i64 0] 56)):=hg.below ((Below.refl _ _).alloc (Nat.le_refl _) _)
 have hFA:(w.alloc (.cells #[.int .i64 0] 56)).cell? ⟨g,1,none⟩=some (.iface 56 (.int .i64 n)):=by
  rw[World.cell?_alloc_lt _ _ ⟨g,1,none⟩ (by
   rcases Nat.lt_or_ge g w.heap.size with h | h
   ·exact h
   simp[World.cell?,Array.getElem?_eq_none h] at hF)];exact hF
 have HgA:=hid hgA
 have HFA:=hid hFA
 clear hg hgA hF hFA
 go_enter Tryz.func9,Tryz.ntmps9
 go_wp2_with (go_at_call 31;refine(as_fault n g _ (.int .i64 0) _ HgA.out HFA.out (by simp) (by simp)).mono ?_;rintro e w' ⟨rfl,rfl⟩)
 go_ret
 exact⟨rfl,((((((Below.refl w.heap.size w).alloc (Nat.le_refl _) _).alloc (by simp) _).alloc (by simp;omega) _).alloc (by simp;omega) _).alloc (by simp;omega) _)⟩
end Go.Proofs.YtlmacfmfmjhidaaGreatDoor.As
namespace Go.Proofs.YtlmacfmfmjhidaaGreatDoor.As
open Go.RowKit Go.Extern.Stop Go.Stop Go.Extern Mem
theorem valueOfPF (t:Addr) (w:World):(ReflectliteValue.unpack (.iface 66 (.pointer (some t)))).run Tryz.prog w
  = .ok (.agg #[.pointer (some ⟨5,66,none⟩), .pointer (some ⟨w.heap.size,0,none⟩), .int .u64 150]) (w.alloc (.cells #[.pointer (some t)] 66)):=by kernel_rfl
theorem typePF (a:Addr) (w:World):(ReflectliteValue.methodAny (ReflectliteValue.valueError "reflectlite.Value.Type" 0) (fun t _ _ _=>ReflectliteType.toType t) #[.agg #[.pointer (some ⟨5,66,none⟩), .pointer (some a), .int .u64 150]]).run Tryz.prog w
  = .ok (.iface 135 (.agg #[.pointer (some ⟨5,66,none⟩)])) w:=by kernel_rfl
theorem kindPF (w:World):((ReflectliteType.abiMethod fun t=>(fun a:Nat=>Value.int IntKind.u8 (a:Int))<$>Rtype.kind t) #[.pointer (some ⟨5,66,none⟩)]).run Tryz.prog w= .ok (.int .u8 22) w:=by kernel_rfl
theorem kindEF (w:World):((ReflectliteType.abiMethod fun t=>(fun a:Nat=>Value.int IntKind.u8 (a:Int))<$>Rtype.kind t) #[.pointer (some ⟨5,65,none⟩)]).run Tryz.prog w= .ok (.int .u8 22) w:=by kernel_rfl
theorem partsPF (a:Addr) (w:World):(ReflectliteValue.parts (.agg #[.pointer (some ⟨5,66,none⟩), .pointer (some a), .int .u64 150])).run Tryz.prog w= .ok (some (66,a,150)) w:=by kernel_rfl
theorem isNilPF (a p:Addr) (W:World) (ha:W.cell? a=some (.pointer (some p))):
  (ReflectliteValue.method (ReflectliteValue.valueError "reflectlite.Value.IsNil" 0) ReflectliteValue.isNil #[.agg #[.pointer (some ⟨5,66,none⟩), .pointer (some a), .int .u64 150]]).run Tryz.prog W= .ok (.bool false) W:=by
 rw[rlm]
 simp only[Sem.run_bind,partsPF,Result.andThen]
 simp[ReflectliteValue.isNil,loadVar,isAgg,underlying,Tryz.underlying66,ha,Result.andThen]
theorem elemPF (w:World):(ReflectliteType.method ReflectliteType.elem #[.agg #[.pointer (some ⟨5,66,none⟩)]]).run Tryz.prog w= .ok (.iface 135 (.agg #[.pointer (some ⟨5,65,none⟩)])) w:=by kernel_rfl
theorem implementsEF (w:World):(ReflectliteType.relation "Implements" ReflectliteType.implements_ #[.agg #[.pointer (some ⟨5,65,none⟩)], .iface 135 (.agg #[.pointer (some ⟨5,27,none⟩)])]).run Tryz.prog w= .ok (.bool true) w:=by kernel_rfl
theorem typeOfEF (v:Value) (w:World):(ReflectliteType.typeOf #[.iface 65 v]).run Tryz.prog w= .ok (.iface 135 (.agg #[.pointer (some ⟨5,65,none⟩)])) w:=by kernel_rfl
theorem assignableEF (w:World):(ReflectliteType.relation "AssignableTo" ReflectliteType.assignableTo #[.agg #[.pointer (some ⟨5,65,none⟩)], .iface 135 (.agg #[.pointer (some ⟨5,65,none⟩)])]).run Tryz.prog w= .ok (.bool true) w:=by kernel_rfl
theorem valueOfEF (e:Addr) (w:World):(ReflectliteValue.unpack (.iface 65 (.pointer (some e)))).run Tryz.prog w
  = .ok (.agg #[.pointer (some ⟨5,65,none⟩), .pointer (some ⟨w.heap.size,0,none⟩), .int .u64 150]) (w.alloc (.cells #[.pointer (some e)] 65)):=by kernel_rfl
theorem elemOfPF (w:World):(Rtype.elem? 66).run Tryz.prog w= .ok (some 65) w:=by kernel_rfl
theorem mkEF (p:Addr) (w:World):(ReflectliteValue.mk 65 p ReflectliteValue.flagAddr).run Tryz.prog w= .ok (.agg #[.pointer (some ⟨5,65,none⟩), .pointer (some p), .int .u64 406]) w:=by kernel_rfl
theorem elemVPF (a p:Addr) (W:World) (ha:W.cell? a=some (.pointer (some p))):
  (ReflectliteValue.method (ReflectliteValue.valueError "reflectlite.Value.Elem" 0) ReflectliteValue.elem #[.agg #[.pointer (some ⟨5,66,none⟩), .pointer (some a), .int .u64 150]]).run Tryz.prog W
   = .ok (.agg #[.pointer (some ⟨5,65,none⟩), .pointer (some p), .int .u64 406]) W:=by
 rw[rlm]
 simp only[Sem.run_bind,partsPF,Result.andThen]
 simp[ReflectliteValue.elem,loadVar,isAgg,underlying,Tryz.underlying66,ha,Result.andThen,elemOfPF,mkEF]
theorem partsEaF (a:Addr) (w:World):(ReflectliteValue.parts (.agg #[.pointer (some ⟨5,65,none⟩), .pointer (some a), .int .u64 406])).run Tryz.prog w= .ok (some (65,a,406)) w:=by kernel_rfl
theorem partsEF (a:Addr) (w:World):(ReflectliteValue.parts (.agg #[.pointer (some ⟨5,65,none⟩), .pointer (some a), .int .u64 150])).run Tryz.prog w= .ok (some (65,a,150)) w:=by kernel_rfl
theorem directEF (w:World):(Rtype.directlyAssignable 65 65).run Tryz.prog w= .ok true w:=by kernel_rfl
theorem setEF (ta b:Addr) (n:Addr) (old:Value) (W:World) (hb:W.cell? b=some (.pointer (some n))) (ht:W.cell? ta=some old) (hf:W.frozen? ta=false):
  (ReflectliteValue.set #[.agg #[.pointer (some ⟨5,65,none⟩), .pointer (some ta), .int .u64 406], .agg #[.pointer (some ⟨5,65,none⟩), .pointer (some b), .int .u64 150]]).run Tryz.prog W
   = .ok (.tuple #[]) (W.setCell ta (.pointer (some n))):=by
 rw[rls]
 simp only[Sem.run_bind,partsEaF,partsEF,Result.andThen]
 simp[ReflectliteValue.flagAddr,loadVar,isAgg,underlying,Tryz.underlying65,hb,Result.andThen,directEF,storeVar,Value.cells,storeCells,Addr.add]
 rw[run_store Tryz.prog W ta _ _ (by rfl)]
 simp[ht,hf]
set_option maxHeartbeats 4000000 in
theorem as_hitF (n:Addr) (t:Addr) (old:Value) (w:World) (hg:Laid w) (ht0:w.cell? t=some old) (hf0:w.frozen? t=false):
  Calls Tryz.prog 31 #[.iface 65 (.pointer (some n)), .iface 66 (.pointer (some t))] w fun ev w'=>ev= .returned (.bool true)∧w'=((((w.alloc (.cells #[.pointer (some t)] 66)).alloc (.cells #[.pointer (some ⟨5,66,none⟩), .pointer (some ⟨w.heap.size,0,none⟩), .int .u64 150] 104)).alloc (.cells #[.pointer (some ⟨5,66,none⟩), .pointer (some ⟨w.heap.size,0,none⟩), .int .u64 150] 104)).alloc (.cells #[.pointer (some n)] 65)).setCell t (.pointer (some n)):=by
 have h6:= @run_callFunc_extern Tryz.prog 59 _ (fun args=>ReflectliteValue.unpack (args.getD 0 (.tuple #[]))) Tryz.func59 (by kernel_rfl) (by kernel_rfl) (by kernel_rfl) (by kernel_rfl)
 have h7:= @run_callFunc_extern Tryz.prog 60 _ (ReflectliteValue.methodAny (ReflectliteValue.valueError "reflectlite.Value.Type" 0) (fun t _ _ _=>ReflectliteType.toType t)) Tryz.func60 (by kernel_rfl) (by kernel_rfl) (by kernel_rfl) (by kernel_rfl)
 have h8:= @run_callFunc_extern Tryz.prog 61 _ (ReflectliteValue.method (ReflectliteValue.valueError "reflectlite.Value.IsNil" 0) ReflectliteValue.isNil) Tryz.func61 (by kernel_rfl) (by kernel_rfl) (by kernel_rfl) (by kernel_rfl)
 have h27:= @run_callFunc_extern Tryz.prog 205 _ (ReflectliteType.abiMethod fun t=>do pure (.int .u8 (← Rtype.kind t))) Tryz.func205 (by kernel_rfl) (by kernel_rfl) (by kernel_rfl) (by kernel_rfl)
 have h37:= @run_callFunc_extern Tryz.prog 218 _ (ReflectliteType.method ReflectliteType.elem) Tryz.func218 (by kernel_rfl) (by kernel_rfl) (by kernel_rfl) (by kernel_rfl)
 have h38:= @run_callFunc_extern Tryz.prog 219 _ (ReflectliteType.relation "Implements" ReflectliteType.implements_) Tryz.func219 (by kernel_rfl) (by kernel_rfl) (by kernel_rfl) (by kernel_rfl)
 have h10:= @run_callFunc_extern Tryz.prog 89 _ ReflectliteType.typeOf Tryz.func89 (by kernel_rfl) (by kernel_rfl) (by kernel_rfl) (by kernel_rfl)
 have h35:= @run_callFunc_extern Tryz.prog 216 _ (ReflectliteType.relation "AssignableTo" ReflectliteType.assignableTo) Tryz.func216 (by kernel_rfl) (by kernel_rfl) (by kernel_rfl) (by kernel_rfl)
 have h11:= @run_callFunc_extern Tryz.prog 90 _ (ReflectliteValue.method (ReflectliteValue.valueError "reflectlite.Value.Elem" 0) ReflectliteValue.elem) Tryz.func90 (by kernel_rfl) (by kernel_rfl) (by kernel_rfl) (by kernel_rfl)
 have h12:= @run_callFunc_extern Tryz.prog 91 _ ReflectliteValue.set Tryz.func91 (by kernel_rfl) (by kernel_rfl) (by kernel_rfl) (by kernel_rfl)
 have tO:=typeOfEF
 have mA:=methodAssignableTo
 have a25:=assignableEF
 have v25:=valueOfEF
 have f6:=valueOfPF
 have f7:=typePF
 have mK:=methodKind
 have mE:=methodElem
 have mI:=methodImplements
 have k27:=kindPF
 have k25:=kindEF
 have e27:=elemPF
 have i25:=implementsEF
 have n8:=isNilPF ⟨w.heap.size,0,none⟩ t ((w.alloc (.cells #[.pointer (some t)] 66)).alloc (.cells #[.pointer (some ⟨5,66,none⟩), .pointer (some ⟨w.heap.size,0,none⟩), .int .u64 150] 104)) (by simp)
 have hlt:=hg.lt
 have hg2:((w.alloc (.cells #[.pointer (some t)] 66)).alloc (.cells #[.pointer (some ⟨5,66,none⟩), .pointer (some ⟨w.heap.size,0,none⟩), .int .u64 150] 104)).cell? ⟨0,0,none⟩=some (.iface 135 (.agg #[.pointer (some ⟨5,27,none⟩)])):=by
  rw[World.cell?_alloc_lt _ _ ⟨0,0,none⟩ (by simp),World.cell?_alloc_lt _ _ ⟨0,0,none⟩ hlt];exact hg
 have htl:t.block<w.heap.size:=by
  rcases Nat.lt_or_ge t.block w.heap.size with h | h
  ·exact h
  simp[World.cell?,Array.getElem?_eq_none h] at ht0
 have el:=elemVPF ⟨w.heap.size,0,none⟩ t (((w.alloc (.cells #[.pointer (some t)] 66)).alloc (.cells #[.pointer (some ⟨5,66,none⟩), .pointer (some ⟨w.heap.size,0,none⟩), .int .u64 150] 104)).alloc (.cells #[.pointer (some ⟨5,66,none⟩), .pointer (some ⟨w.heap.size,0,none⟩), .int .u64 150] 104)) (by rw[World.cell?_alloc_lt _ _ ⟨w.heap.size,0,none⟩ (by simp;omega)];simp)
 have st:=setEF t ⟨w.heap.size+1+1+1,0,none⟩ n old ((((w.alloc (.cells #[.pointer (some t)] 66)).alloc (.cells #[.pointer (some ⟨5,66,none⟩), .pointer (some ⟨w.heap.size,0,none⟩), .int .u64 150] 104)).alloc (.cells #[.pointer (some ⟨5,66,none⟩), .pointer (some ⟨w.heap.size,0,none⟩), .int .u64 150] 104)).alloc (.cells #[.pointer (some n)] 65))
  (by rw[World.cell?_alloc_at _ _ _ _ (by simp)];rfl)
  (by rw[World.cell?_alloc_lt _ _ t (by simp;omega),World.cell?_alloc_lt _ _ t (by simp;omega),World.cell?_alloc_lt _ _ t (by simp;omega),World.cell?_alloc_lt _ _ t htl];exact ht0)
  (by rw[World.frozen?_alloc_old _ _ t (by simp;omega),World.frozen?_alloc_old _ _ t (by simp;omega),World.frozen?_alloc_old _ _ t (by simp;omega),World.frozen?_alloc_old _ _ t (Nat.ne_of_lt htl)];exact hf0)
 clear hg
 go_enter Tryz.func31,Tryz.ntmps31
 go_wp2
 refine wp_loop_rounds 1 ?_
 rw[rounds_succ]
 go_wp2
 go_ret
 exact⟨rfl,rfl⟩
set_option maxHeartbeats 1000000 in
theorem at_fault (d:Int) (v:Value) (g:Nat) (w:World) (hg:Laid w) (hF:Blk w g 68 #[.int .i64 d,v]):Calls Tryz.prog 10 #[.iface 65 (.pointer (some ⟨g,0,none⟩))] w fun e w'=>e= .returned (.int .i64 d)∧Below w.heap.size w w':=by
 have hgA:Laid (w.alloc (.cells #[.pointer none] 65)):=hg.below ((Below.refl _ _).alloc (Nat.le_refl _) _)
 have hlt:=hF.lt
 have hc:w.cell? ⟨g,0,none⟩=some (.int .i64 d):=(hF.cell 0).trans rfl
 have HgA:=hid hgA
 clear hg hgA hF
 go_enter Tryz.func10,Tryz.ntmps10
 go_wp2_with (go_at_call 31;refine(as_hitF ⟨g,0,none⟩ _ (.pointer none) _ HgA.out (by simp) (by simp)).mono ?_;rintro e w' ⟨rfl,hw'⟩;have hb:Below w.heap.size w w':=(by rw[hw'];exact(((((Below.refl w.heap.size w).alloc (Nat.le_refl _) _).alloc (by simp) _).alloc (by simp;omega) _).alloc (by simp;omega) _).alloc (by simp;omega) _ |>.setCell (by simp) _);have c1:w'.cell? ⟨w.heap.size,0,none⟩=some (.pointer (some ⟨g,0,none⟩)):=(by rw[hw'];exact(Blk.cell (Blk.setCell (((((Blk.fresh w 65 #[.pointer none]).alloc _).alloc _).alloc _).alloc _) 0 _) 0).trans (by simp));have c2:w'.cell? ⟨g,0,none⟩=some (.int .i64 d):=(hb.cell (p:=⟨g,0,none⟩) hlt).trans hc;clear hw')
 go_ret
 exact⟨rfl,hb⟩
end Go.Proofs.YtlmacfmfmjhidaaGreatDoor.As
namespace Go.Proofs.YtlmacfmfmjhidaaGreatDoor.As
open Go.RowKit Go.Extern.Stop Go.Stop Go.Extern Mem
set_option maxHeartbeats 4000000 in
theorem as_fault2 (n:Int) (f g:Nat) (t:Addr) (old:Value) (w:World) (hg:Laid w) (hF0:w.cell? ⟨f,1,none⟩=some (.iface 65 (.pointer (some ⟨g,0,none⟩)))) (hF:w.cell? ⟨g,1,none⟩=some (.iface 56 (.int .i64 n))) (ht0:w.cell? t=some old) (hf0:w.frozen? t=false):
  Calls Tryz.prog 31 #[.iface 65 (.pointer (some ⟨f,0,none⟩)), .iface 64 (.pointer (some t))] w fun ev w'=>ev= .returned (.bool true)∧w'=((((w.alloc (.cells #[.pointer (some t)] 64)).alloc (.cells #[.pointer (some ⟨5,64,none⟩), .pointer (some ⟨w.heap.size,0,none⟩), .int .u64 150] 104)).alloc (.cells #[.pointer (some ⟨5,64,none⟩), .pointer (some ⟨w.heap.size,0,none⟩), .int .u64 150] 104)).alloc (.cells #[.int .i64 n] 56)).setCell t (.int .i64 n):=by
 have h6:= @run_callFunc_extern Tryz.prog 59 _ (fun args=>ReflectliteValue.unpack (args.getD 0 (.tuple #[]))) Tryz.func59 (by kernel_rfl) (by kernel_rfl) (by kernel_rfl) (by kernel_rfl)
 have h7:= @run_callFunc_extern Tryz.prog 60 _ (ReflectliteValue.methodAny (ReflectliteValue.valueError "reflectlite.Value.Type" 0) (fun t _ _ _=>ReflectliteType.toType t)) Tryz.func60 (by kernel_rfl) (by kernel_rfl) (by kernel_rfl) (by kernel_rfl)
 have h8:= @run_callFunc_extern Tryz.prog 61 _ (ReflectliteValue.method (ReflectliteValue.valueError "reflectlite.Value.IsNil" 0) ReflectliteValue.isNil) Tryz.func61 (by kernel_rfl) (by kernel_rfl) (by kernel_rfl) (by kernel_rfl)
 have h27:= @run_callFunc_extern Tryz.prog 205 _ (ReflectliteType.abiMethod fun t=>do pure (.int .u8 (← Rtype.kind t))) Tryz.func205 (by kernel_rfl) (by kernel_rfl) (by kernel_rfl) (by kernel_rfl)
 have h37:= @run_callFunc_extern Tryz.prog 218 _ (ReflectliteType.method ReflectliteType.elem) Tryz.func218 (by kernel_rfl) (by kernel_rfl) (by kernel_rfl) (by kernel_rfl)
 have h38:= @run_callFunc_extern Tryz.prog 219 _ (ReflectliteType.relation "Implements" ReflectliteType.implements_) Tryz.func219 (by kernel_rfl) (by kernel_rfl) (by kernel_rfl) (by kernel_rfl)
 have h10:= @run_callFunc_extern Tryz.prog 89 _ ReflectliteType.typeOf Tryz.func89 (by kernel_rfl) (by kernel_rfl) (by kernel_rfl) (by kernel_rfl)
 have h35:= @run_callFunc_extern Tryz.prog 216 _ (ReflectliteType.relation "AssignableTo" ReflectliteType.assignableTo) Tryz.func216 (by kernel_rfl) (by kernel_rfl) (by kernel_rfl) (by kernel_rfl)
 have h11:= @run_callFunc_extern Tryz.prog 90 _ (ReflectliteValue.method (ReflectliteValue.valueError "reflectlite.Value.Elem" 0) ReflectliteValue.elem) Tryz.func90 (by kernel_rfl) (by kernel_rfl) (by kernel_rfl) (by kernel_rfl)
 have h12:= @run_callFunc_extern Tryz.prog 91 _ ReflectliteValue.set Tryz.func91 (by kernel_rfl) (by kernel_rfl) (by kernel_rfl) (by kernel_rfl)
 have tO:=typeOfE
 have tF:=typeOfF
 have aF:=assignableFE
 have nF:=noAsF
 have uF:=hasUnF
 have mU:=methodUnF
 have mA:=methodAssignableTo
 have a25:=assignableE
 have v25:=valueOfE
 have f6:=valueOfP
 have f7:=typeP
 have mK:=methodKind
 have mE:=methodElem
 have mI:=methodImplements
 have k27:=kindP
 have k25:=kindE
 have e27:=elemP
 have i25:=implementsE
 have n8:=isNilP ⟨w.heap.size,0,none⟩ t ((w.alloc (.cells #[.pointer (some t)] 64)).alloc (.cells #[.pointer (some ⟨5,64,none⟩), .pointer (some ⟨w.heap.size,0,none⟩), .int .u64 150] 104)) (by simp)
 have hlt:=hg.lt
 have hg2:((w.alloc (.cells #[.pointer (some t)] 64)).alloc (.cells #[.pointer (some ⟨5,64,none⟩), .pointer (some ⟨w.heap.size,0,none⟩), .int .u64 150] 104)).cell? ⟨0,0,none⟩=some (.iface 135 (.agg #[.pointer (some ⟨5,27,none⟩)])):=by
  rw[World.cell?_alloc_lt _ _ ⟨0,0,none⟩ (by simp),World.cell?_alloc_lt _ _ ⟨0,0,none⟩ hlt];exact hg
 have hcl: ∀ {q:Addr}{x:Value},w.cell? q=some x→q.block<w.heap.size:=by
  intro q x hq
  rcases Nat.lt_or_ge q.block w.heap.size with h | h
  ·exact h
  simp[World.cell?,Array.getElem?_eq_none h] at hq
 have htl:t.block<w.heap.size:=hcl ht0
 have hgl:g<w.heap.size:=hcl hF
 have hfl:f<w.heap.size:=hcl hF0
 have hF3:(((w.alloc (.cells #[.pointer (some t)] 64)).alloc (.cells #[.pointer (some ⟨5,64,none⟩), .pointer (some ⟨w.heap.size,0,none⟩), .int .u64 150] 104)).alloc (.cells #[.pointer (some ⟨5,64,none⟩), .pointer (some ⟨w.heap.size,0,none⟩), .int .u64 150] 104)).cell? ⟨g,1,none⟩=some (.iface 56 (.int .i64 n)):=by
  rw[World.cell?_alloc_lt _ _ ⟨g,1,none⟩ (by simp;omega),World.cell?_alloc_lt _ _ ⟨g,1,none⟩ (by simp;omega),World.cell?_alloc_lt _ _ ⟨g,1,none⟩ hgl];exact hF
 have hF03:(((w.alloc (.cells #[.pointer (some t)] 64)).alloc (.cells #[.pointer (some ⟨5,64,none⟩), .pointer (some ⟨w.heap.size,0,none⟩), .int .u64 150] 104)).alloc (.cells #[.pointer (some ⟨5,64,none⟩), .pointer (some ⟨w.heap.size,0,none⟩), .int .u64 150] 104)).cell? ⟨f,1,none⟩=some (.iface 65 (.pointer (some ⟨g,0,none⟩))):=by
  rw[World.cell?_alloc_lt _ _ ⟨f,1,none⟩ (by simp;omega),World.cell?_alloc_lt _ _ ⟨f,1,none⟩ (by simp;omega),World.cell?_alloc_lt _ _ ⟨f,1,none⟩ hfl];exact hF0
 have el:=elemVP ⟨w.heap.size,0,none⟩ t (((w.alloc (.cells #[.pointer (some t)] 64)).alloc (.cells #[.pointer (some ⟨5,64,none⟩), .pointer (some ⟨w.heap.size,0,none⟩), .int .u64 150] 104)).alloc (.cells #[.pointer (some ⟨5,64,none⟩), .pointer (some ⟨w.heap.size,0,none⟩), .int .u64 150] 104)) (by rw[World.cell?_alloc_lt _ _ ⟨w.heap.size,0,none⟩ (by simp;omega)];simp)
 have st:=setE t ⟨w.heap.size+1+1+1,0,none⟩ n old ((((w.alloc (.cells #[.pointer (some t)] 64)).alloc (.cells #[.pointer (some ⟨5,64,none⟩), .pointer (some ⟨w.heap.size,0,none⟩), .int .u64 150] 104)).alloc (.cells #[.pointer (some ⟨5,64,none⟩), .pointer (some ⟨w.heap.size,0,none⟩), .int .u64 150] 104)).alloc (.cells #[.int .i64 n] 56))
  (by rw[World.cell?_alloc_at _ _ _ _ (by simp)];rfl)
  (by rw[World.cell?_alloc_lt _ _ t (by simp;omega),World.cell?_alloc_lt _ _ t (by simp;omega),World.cell?_alloc_lt _ _ t (by simp;omega),World.cell?_alloc_lt _ _ t htl];exact ht0)
  (by rw[World.frozen?_alloc_old _ _ t (by simp;omega),World.frozen?_alloc_old _ _ t (by simp;omega),World.frozen?_alloc_old _ _ t (by simp;omega),World.frozen?_alloc_old _ _ t (Nat.ne_of_lt htl)];exact hf0)
 have HF:=hid hF3
 have HF0:=hid hF03
 clear hg hF hF0 hF3 hF03 hcl
 go_enter Tryz.func31,Tryz.ntmps31
 go_wp2
 refine wp_loop_rounds 3 ?_
 rw[rounds_succ]
 go_wp2_with (go_at_call 210;refine(unwrap_any f _ _ HF0.out).mono ?_;rintro e w' ⟨rfl,rfl⟩)
 rw[rounds_succ]
 go_wp2_with (go_at_call 210;refine(unwrap_any g _ _ HF.out).mono ?_;rintro e w' ⟨rfl,rfl⟩)
 rw[rounds_succ]
 go_wp2
 go_ret
 exact⟨rfl,rfl⟩
set_option maxHeartbeats 1000000 in
theorem code_fault2 (n:Int) (f g:Nat) (w:World) (hg:Laid w) (hF0:w.cell? ⟨f,1,none⟩=some (.iface 65 (.pointer (some ⟨g,0,none⟩)))) (hF:w.cell? ⟨g,1,none⟩=some (.iface 56 (.int .i64 n))):Calls Tryz.prog 9 #[.iface 65 (.pointer (some ⟨f,0,none⟩))] w fun e w'=>e= .returned (.int .i64 n)∧Below w.heap.size w w':=by
 have hgA:Laid (w.alloc (.cells #[.int .i64 0] 56)):=hg.below ((Below.refl _ _).alloc (Nat.le_refl _) _)
 have hFA:(w.alloc (.cells #[.int .i64 0] 56)).cell? ⟨g,1,none⟩=some (.iface 56 (.int .i64 n)):=by
  rw[World.cell?_alloc_lt _ _ ⟨g,1,none⟩ (by
   rcases Nat.lt_or_ge g w.heap.size with h | h
   ·exact h
   simp[World.cell?,Array.getElem?_eq_none h] at hF)];exact hF
 have hFB:(w.alloc (.cells #[.int .i64 0] 56)).cell? ⟨f,1,none⟩=some (.iface 65 (.pointer (some ⟨g,0,none⟩))):=by
  rw[World.cell?_alloc_lt _ _ ⟨f,1,none⟩ (by
   rcases Nat.lt_or_ge f w.heap.size with h | h
   ·exact h
   simp[World.cell?,Array.getElem?_eq_none h] at hF0)];exact hF0
 have HgA:=hid hgA
 have HFA:=hid hFA
 have HFB:=hid hFB
 clear hg hgA hF hF0 hFA hFB
 go_enter Tryz.func9,Tryz.ntmps9
 go_wp2_with (go_at_call 31;refine(as_fault2 n f g _ (.int .i64 0) _ HgA.out HFB.out HFA.out (by simp) (by simp)).mono ?_;rintro e w' ⟨rfl,rfl⟩)
 go_ret
 exact⟨rfl,((((((Below.refl w.heap.size w).alloc (Nat.le_refl _) _).alloc (by simp) _).alloc (by simp;omega) _).alloc (by simp;omega) _).alloc (by simp;omega) _)⟩
end Go.Proofs.YtlmacfmfmjhidaaGreatDoor.As
