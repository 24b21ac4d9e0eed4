/-
 errors.As at a target of type **api.Fault of an error that is an Errno: none; api.At of an Errno and of nil.
-/
import Derived.Test.YtlmacfmfmjhidaaGreatDoorAsX
namespace Go.Proofs.YtlmacfmfmjhidaaGreatDoor.As
open Go.RowKit Go.Extern.Stop Go.Stop Go.Extern Mem
theorem assignableNF (w:World):(ReflectliteType.relation "AssignableTo" ReflectliteType.assignableTo #[.agg #[.pointer (some ⟨5,56,none⟩)], .iface 135 (.agg #[.pointer (some ⟨5,65,none⟩)])]).run Tryz.prog w= .ok (.bool false) w:=by kernel_rfl
theorem noAsN (v:Value) (xT:TypeId) (w:World):(Instr.typeAssert (.iface 56 v) xT 140 true).run Tryz.prog w= .ok (.tuple #[.nilIface, .bool false]) w:=run_typeAssert_lacksB Tryz.underlying140 (by kernel_rfl) (by kernel_rfl) v xT w
theorem noUnN (v:Value) (xT:TypeId) (w:World):(Instr.typeAssert (.iface 56 v) xT 143 true).run Tryz.prog w= .ok (.tuple #[.nilIface, .bool false]) w:=run_typeAssert_lacksB Tryz.underlying143 (by kernel_rfl) (by kernel_rfl) v xT w
theorem noUsN (v:Value) (xT:TypeId) (w:World):(Instr.typeAssert (.iface 56 v) xT 145 true).run Tryz.prog w= .ok (.tuple #[.nilIface, .bool false]) w:=run_typeAssert_lacksB Tryz.underlying145 (by kernel_rfl) (by kernel_rfl) v xT w
set_option maxHeartbeats 4000000 in
theorem as_missN (n:Int) (t:Addr) (old:Value) (w:World) (hg:Laid w) (ht0:w.cell? t=some old):
  Calls Tryz.prog 31 #[.iface 56 (.int .i64 n), .iface 66 (.pointer (some t))] w fun ev w'=>ev= .returned (.bool false)∧Below w.heap.size w w':=by
 have h6:= @run_callFunc_extern Tryz.prog 59 _ (fun args=>ReflectliteValue.unpack (args.getD 0 (.tuple #[]))) Tryz.func59 (by kernel_rfl) (by kernel_rfl) (by kernel_rfl) (by kernel_rfl)
 have h7:= @run_callFunc_extern Tryz.prog 60 _ (ReflectliteValue.methodAny (ReflectliteValue.valueError "reflectlite.Value.Type" 0) (fun t _ _ _=>ReflectliteType.toType t)) Tryz.func60 (by kernel_rfl) (by kernel_rfl) (by kernel_rfl) (by kernel_rfl)
 have h8:= @run_callFunc_extern Tryz.prog 61 _ (ReflectliteValue.method (ReflectliteValue.valueError "reflectlite.Value.IsNil" 0) ReflectliteValue.isNil) Tryz.func61 (by kernel_rfl) (by kernel_rfl) (by kernel_rfl) (by kernel_rfl)
 have h27:= @run_callFunc_extern Tryz.prog 205 _ (ReflectliteType.abiMethod fun t=>do pure (.int .u8 (← Rtype.kind t))) Tryz.func205 (by kernel_rfl) (by kernel_rfl) (by kernel_rfl) (by kernel_rfl)
 have h37:= @run_callFunc_extern Tryz.prog 218 _ (ReflectliteType.method ReflectliteType.elem) Tryz.func218 (by kernel_rfl) (by kernel_rfl) (by kernel_rfl) (by kernel_rfl)
 have h38:= @run_callFunc_extern Tryz.prog 219 _ (ReflectliteType.relation "Implements" ReflectliteType.implements_) Tryz.func219 (by kernel_rfl) (by kernel_rfl) (by kernel_rfl) (by kernel_rfl)
 have h10:= @run_callFunc_extern Tryz.prog 89 _ ReflectliteType.typeOf Tryz.func89 (by kernel_rfl) (by kernel_rfl) (by kernel_rfl) (by kernel_rfl)
 have h35:= @run_callFunc_extern Tryz.prog 216 _ (ReflectliteType.relation "AssignableTo" ReflectliteType.assignableTo) Tryz.func216 (by kernel_rfl) (by kernel_rfl) (by kernel_rfl) (by kernel_rfl)
 have h11:= @run_callFunc_extern Tryz.prog 90 _ (ReflectliteValue.method (ReflectliteValue.valueError "reflectlite.Value.Elem" 0) ReflectliteValue.elem) Tryz.func90 (by kernel_rfl) (by kernel_rfl) (by kernel_rfl) (by kernel_rfl)
 have h12:= @run_callFunc_extern Tryz.prog 91 _ ReflectliteValue.set Tryz.func91 (by kernel_rfl) (by kernel_rfl) (by kernel_rfl) (by kernel_rfl)
 have tO:=typeOfE
 have mA:=methodAssignableTo
 have aN:=assignableNF
 have nF:=noAsN
 have uF:=noUnN
 have sF:=noUsN
 have f6:=valueOfPF
 have f7:=typePF
 have mK:=methodKind
 have mE:=methodElem
 have mI:=methodImplements
 have k27:=kindPF
 have k25:=kindEF
 have e27:=elemPF
 have i25:=implementsEF
 have n8:=isNilPF ⟨w.heap.size,0,none⟩ t ((w.alloc (.cells #[.pointer (some t)] 66)).alloc (.cells #[.pointer (some ⟨5,66,none⟩), .pointer (some ⟨w.heap.size,0,none⟩), .int .u64 150] 104)) (by simp)
 have hlt:=hg.lt
 have hg2:((w.alloc (.cells #[.pointer (some t)] 66)).alloc (.cells #[.pointer (some ⟨5,66,none⟩), .pointer (some ⟨w.heap.size,0,none⟩), .int .u64 150] 104)).cell? ⟨0,0,none⟩=some (.iface 135 (.agg #[.pointer (some ⟨5,27,none⟩)])):=by
  rw[World.cell?_alloc_lt _ _ ⟨0,0,none⟩ (by simp),World.cell?_alloc_lt _ _ ⟨0,0,none⟩ hlt];exact hg
 have htl:t.block<w.heap.size:=by
  rcases Nat.lt_or_ge t.block w.heap.size with h | h
  ·exact h
  simp[World.cell?,Array.getElem?_eq_none h] at ht0
 clear hg
 go_enter Tryz.func31,Tryz.ntmps31
 go_wp2
 refine wp_loop_rounds 1 ?_
 rw[rounds_succ]
 go_wp2
 go_ret
 exact⟨rfl,((((Below.refl w.heap.size w).alloc (Nat.le_refl _) _).alloc (by simp) _).alloc (by simp;omega) _)⟩
theorem at_nil (w:World):Calls Tryz.prog 10 #[.nilIface] w fun e w'=>e= .returned (.int .i64 (-1))∧Below w.heap.size w w':=by
 go_enter Tryz.func10,Tryz.ntmps10
 go_wp2
 go_ret
 exact⟨rfl,(Below.refl _ _).alloc (Nat.le_refl _) _⟩
set_option maxHeartbeats 1000000 in
theorem at_errno (n:Int) (w:World) (hg:Laid w):Calls Tryz.prog 10 #[.iface 56 (.int .i64 n)] w fun e w'=>e= .returned (.int .i64 (-1))∧Below w.heap.size w w':=by
 have hgA:Laid (w.alloc (.cells #[.pointer none] 65)):=hg.below ((Below.refl _ _).alloc (Nat.le_refl _) _)
 have HgA:=hid hgA
 have HB:=hid ((Below.refl w.heap.size w).alloc (Nat.le_refl _) (.cells #[.pointer none] 65))
 clear hg hgA
 go_enter Tryz.func10,Tryz.ntmps10
 go_wp2_with (go_at_call 31;refine(as_missN n _ (.pointer none) _ HgA.out (by simp)).mono ?_;rintro e w' ⟨rfl,hB1⟩)
 go_ret
 exact⟨rfl,HB.out.trans (hB1.mono HB.out.size)⟩
end Go.Proofs.YtlmacfmfmjhidaaGreatDoor.As
