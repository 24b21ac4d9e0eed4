/-
 errors.As over an error that is wrapped in two Faults: api.Code of it.
-/
import Derived.Test.YtlmnoapoofmmnaaGreatDoorAsX
namespace Go.Proofs.YtlmnoapoofmmnaaGreatDoor.As
open Go.RowKit Go.Extern.Stop Go.Stop Go.Extern Mem
set_option maxHeartbeats 4000000 in
theorem as_fault2 (n : Int) (f g : Nat) (t : Addr) (old : Value) (w : World) (hg : Laid w) (hF0 : w.cell? ⟨f, 1, none⟩ = some (.iface 66 (.pointer (some ⟨g, 0, none⟩)))) (hF : w.cell? ⟨g, 1, none⟩ = some (.iface 56 (.int .i64 n))) (ht0 : w.cell? t = some old) (hf0 : w.frozen? t = false) :
  Calls Tryz.prog 29 #[.iface 66 (.pointer (some ⟨f, 0, none⟩)), .iface 63 (.pointer (some t))] w fun ev w' => ev = .returned (.bool true) ∧ w' = ((((w.alloc (.cells #[.pointer (some t)] 63)).alloc (.cells #[.pointer (some ⟨1, 63, none⟩), .pointer (some ⟨w.heap.size, 0, none⟩), .int .u64 150] 92)).alloc (.cells #[.pointer (some ⟨1, 63, none⟩), .pointer (some ⟨w.heap.size, 0, none⟩), .int .u64 150] 92)).alloc (.cells #[.int .i64 n] 56)).setCell t (.int .i64 n) := by
 have h6 := @run_callFunc_extern Tryz.prog 49 _ (fun args => ReflectliteValue.unpack (args.getD 0 (.tuple #[]))) Tryz.func49 (by kernel_rfl) (by kernel_rfl) (by kernel_rfl) (by kernel_rfl)
 have h7 := @run_callFunc_extern Tryz.prog 50 _ (ReflectliteValue.methodAny (ReflectliteValue.valueError "reflectlite.Value.Type" 0) (fun t _ _ _ => ReflectliteType.toType t)) Tryz.func50 (by kernel_rfl) (by kernel_rfl) (by kernel_rfl) (by kernel_rfl)
 have h8 := @run_callFunc_extern Tryz.prog 51 _ (ReflectliteValue.method (ReflectliteValue.valueError "reflectlite.Value.IsNil" 0) ReflectliteValue.isNil) Tryz.func51 (by kernel_rfl) (by kernel_rfl) (by kernel_rfl) (by kernel_rfl)
 have h27 := @run_callFunc_extern Tryz.prog 142 _ (ReflectliteType.abiMethod fun t => do pure (.int .u8 (← Rtype.kind t))) Tryz.func142 (by kernel_rfl) (by kernel_rfl) (by kernel_rfl) (by kernel_rfl)
 have h37 := @run_callFunc_extern Tryz.prog 155 _ (ReflectliteType.method ReflectliteType.elem) Tryz.func155 (by kernel_rfl) (by kernel_rfl) (by kernel_rfl) (by kernel_rfl)
 have h38 := @run_callFunc_extern Tryz.prog 156 _ (ReflectliteType.relation "Implements" ReflectliteType.implements_) Tryz.func156 (by kernel_rfl) (by kernel_rfl) (by kernel_rfl) (by kernel_rfl)
 have h10 := @run_callFunc_extern Tryz.prog 65 _ ReflectliteType.typeOf Tryz.func65 (by kernel_rfl) (by kernel_rfl) (by kernel_rfl) (by kernel_rfl)
 have h35 := @run_callFunc_extern Tryz.prog 153 _ (ReflectliteType.relation "AssignableTo" ReflectliteType.assignableTo) Tryz.func153 (by kernel_rfl) (by kernel_rfl) (by kernel_rfl) (by kernel_rfl)
 have h11 := @run_callFunc_extern Tryz.prog 66 _ (ReflectliteValue.method (ReflectliteValue.valueError "reflectlite.Value.Elem" 0) ReflectliteValue.elem) Tryz.func66 (by kernel_rfl) (by kernel_rfl) (by kernel_rfl) (by kernel_rfl)
 have h12 := @run_callFunc_extern Tryz.prog 67 _ ReflectliteValue.set Tryz.func67 (by kernel_rfl) (by kernel_rfl) (by kernel_rfl) (by kernel_rfl)
 have tO := typeOfE
 have tF := typeOfF
 have aF := assignableFE
 have nF := noAsF
 have uF := hasUnF
 have mU := methodUnF
 have mA := methodAssignableTo
 have a25 := assignableE
 have v25 := valueOfE
 have f6 := valueOfP
 have f7 := typeP
 have mK := methodKind
 have mE := methodElem
 have mI := methodImplements
 have k27 := kindP
 have k25 := kindE
 have e27 := elemP
 have i25 := implementsE
 have n8 := isNilP ⟨w.heap.size, 0, none⟩ t ((w.alloc (.cells #[.pointer (some t)] 63)).alloc (.cells #[.pointer (some ⟨1, 63, none⟩), .pointer (some ⟨w.heap.size, 0, none⟩), .int .u64 150] 92)) (by simp)
 have hlt := hg.lt
 have hg2 : ((w.alloc (.cells #[.pointer (some t)] 63)).alloc (.cells #[.pointer (some ⟨1, 63, none⟩), .pointer (some ⟨w.heap.size, 0, none⟩), .int .u64 150] 92)).cell? ⟨0, 0, none⟩ = some (.iface 114 (.agg #[.pointer (some ⟨1, 29, none⟩)])) := by
  rw [World.cell?_alloc_lt _ _ ⟨0, 0, none⟩ (by simp), World.cell?_alloc_lt _ _ ⟨0, 0, none⟩ hlt]; exact hg
 have hcl : ∀ {q : Addr} {x : Value}, w.cell? q = some x → q.block < w.heap.size := by
  intro q x hq
  rcases Nat.lt_or_ge q.block w.heap.size with h | h
  ·exact h
  simp [World.cell?, Array.getElem?_eq_none h] at hq
 have htl : t.block < w.heap.size := hcl ht0
 have hgl : g < w.heap.size := hcl hF
 have hfl : f < w.heap.size := hcl hF0
 have hF3 : (((w.alloc (.cells #[.pointer (some t)] 63)).alloc (.cells #[.pointer (some ⟨1, 63, none⟩), .pointer (some ⟨w.heap.size, 0, none⟩), .int .u64 150] 92)).alloc (.cells #[.pointer (some ⟨1, 63, none⟩), .pointer (some ⟨w.heap.size, 0, none⟩), .int .u64 150] 92)).cell? ⟨g, 1, none⟩ = some (.iface 56 (.int .i64 n)) := by
  rw [World.cell?_alloc_lt _ _ ⟨g, 1, none⟩ (by simp; omega), World.cell?_alloc_lt _ _ ⟨g, 1, none⟩ (by simp; omega), World.cell?_alloc_lt _ _ ⟨g, 1, none⟩ hgl]; exact hF
 have hF03 : (((w.alloc (.cells #[.pointer (some t)] 63)).alloc (.cells #[.pointer (some ⟨1, 63, none⟩), .pointer (some ⟨w.heap.size, 0, none⟩), .int .u64 150] 92)).alloc (.cells #[.pointer (some ⟨1, 63, none⟩), .pointer (some ⟨w.heap.size, 0, none⟩), .int .u64 150] 92)).cell? ⟨f, 1, none⟩ = some (.iface 66 (.pointer (some ⟨g, 0, none⟩))) := by
  rw [World.cell?_alloc_lt _ _ ⟨f, 1, none⟩ (by simp; omega), World.cell?_alloc_lt _ _ ⟨f, 1, none⟩ (by simp; omega), World.cell?_alloc_lt _ _ ⟨f, 1, none⟩ hfl]; exact hF0
 have el := elemVP ⟨w.heap.size, 0, none⟩ t (((w.alloc (.cells #[.pointer (some t)] 63)).alloc (.cells #[.pointer (some ⟨1, 63, none⟩), .pointer (some ⟨w.heap.size, 0, none⟩), .int .u64 150] 92)).alloc (.cells #[.pointer (some ⟨1, 63, none⟩), .pointer (some ⟨w.heap.size, 0, none⟩), .int .u64 150] 92)) (by rw [World.cell?_alloc_lt _ _ ⟨w.heap.size, 0, none⟩ (by simp; omega)]; simp)
 have st := setE t ⟨w.heap.size + 1 + 1 + 1, 0, none⟩ n old ((((w.alloc (.cells #[.pointer (some t)] 63)).alloc (.cells #[.pointer (some ⟨1, 63, none⟩), .pointer (some ⟨w.heap.size, 0, none⟩), .int .u64 150] 92)).alloc (.cells #[.pointer (some ⟨1, 63, none⟩), .pointer (some ⟨w.heap.size, 0, none⟩), .int .u64 150] 92)).alloc (.cells #[.int .i64 n] 56))
  (by rw [World.cell?_alloc_at _ _ _ _ (by simp)]; rfl)
  (by rw [World.cell?_alloc_lt _ _ t (by simp; omega), World.cell?_alloc_lt _ _ t (by simp; omega), World.cell?_alloc_lt _ _ t (by simp; omega), World.cell?_alloc_lt _ _ t htl]; exact ht0)
  (by rw [World.frozen?_alloc_old _ _ t (by simp; omega), World.frozen?_alloc_old _ _ t (by simp; omega), World.frozen?_alloc_old _ _ t (by simp; omega), World.frozen?_alloc_old _ _ t (Nat.ne_of_lt htl)]; exact hf0)
 have HF := hid hF3
 have HF0 := hid hF03
 clear hg hF hF0 hF3 hF03 hcl
 go_enter Tryz.func29, Tryz.ntmps29
 go_wp2
 refine wp_loop_rounds 3 ?_
 rw [rounds_succ]
 go_wp2_with (go_at_call 148; refine (unwrap_any f _ _ HF0.out).mono ?_; rintro e w' ⟨rfl, rfl⟩)
 rw [rounds_succ]
 go_wp2_with (go_at_call 148; refine (unwrap_any g _ _ HF.out).mono ?_; rintro e w' ⟨rfl, rfl⟩)
 rw [rounds_succ]
 go_wp2
 go_ret
 exact ⟨rfl, rfl⟩
set_option maxHeartbeats 1000000 in
theorem code_fault2 (n : Int) (f g : Nat) (w : World) (hg : Laid w) (hF0 : w.cell? ⟨f, 1, none⟩ = some (.iface 66 (.pointer (some ⟨g, 0, none⟩)))) (hF : w.cell? ⟨g, 1, none⟩ = some (.iface 56 (.int .i64 n))) : Calls Tryz.prog 11 #[.iface 66 (.pointer (some ⟨f, 0, none⟩))] w fun e w' => e = .returned (.int .i64 n) ∧ Below w.heap.size w w' := by
 have hgA : Laid (w.alloc (.cells #[.int .i64 0] 56)) := hg.below ((Below.refl _ _).alloc (Nat.le_refl _) _)
 have hFA : (w.alloc (.cells #[.int .i64 0] 56)).cell? ⟨g, 1, none⟩ = some (.iface 56 (.int .i64 n)) := by
  rw [World.cell?_alloc_lt _ _ ⟨g, 1, none⟩ (by
   rcases Nat.lt_or_ge g w.heap.size with h | h
   ·exact h
   simp [World.cell?, Array.getElem?_eq_none h] at hF)]; exact hF
 have hFB : (w.alloc (.cells #[.int .i64 0] 56)).cell? ⟨f, 1, none⟩ = some (.iface 66 (.pointer (some ⟨g, 0, none⟩))) := by
  rw [World.cell?_alloc_lt _ _ ⟨f, 1, none⟩ (by
   rcases Nat.lt_or_ge f w.heap.size with h | h
   ·exact h
   simp [World.cell?, Array.getElem?_eq_none h] at hF0)]; exact hF0
 have HgA := hid hgA
 have HFA := hid hFA
 have HFB := hid hFB
 clear hg hgA hF hF0 hFA hFB
 go_enter Tryz.func11, Tryz.ntmps11
 go_wp2_with (go_at_call 29; refine (as_fault2 n f g _ (.int .i64 0) _ HgA.out HFB.out HFA.out (by simp) (by simp)).mono ?_; rintro e w' ⟨rfl, rfl⟩)
 go_ret
 exact ⟨rfl, ((((((Below.refl w.heap.size w).alloc (Nat.le_refl _) _).alloc (by simp) _).alloc (by simp; omega) _).alloc (by simp; omega) _).alloc (by simp; omega) _)⟩
end Go.Proofs.YtlmnoapoofmmnaaGreatDoor.As
