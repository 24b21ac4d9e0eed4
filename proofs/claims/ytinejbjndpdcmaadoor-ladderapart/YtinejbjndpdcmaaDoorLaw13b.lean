/-
 The statements of layer 13: arrays compared.
-/
import Derived.Test.YtinejbjndpdcmaaDoorLaw13
namespace Go.Proofs.YtinejbjndpdcmaaDoor.Lad
open Go.ChangeShapes Go.WideShapes Go.ChangeAt Go.RowKit Mem Dk
theorem eqG16 : Tryd.prog.eqGuardType Tryd.prog.depth 27 = false := by kernel_rfl
theorem eqG10 : Tryd.prog.eqGuardType Tryd.prog.depth 28 = false := by kernel_rfl
section
variable {P : Program} {o : Oper} {a : Act} {w : World}
theorem exec_eqL (ty : TypeId) (x y : Operand) (rt : TypeId) (ho : o.op = .binOp .eql ty x y rt) (n : Nat) (f : Nat → Nat) (hx : a.eval x = .agg (row n (b8 f))) (hy : a.eval y = .agg (row n (b8 f))) (e : TypeId)
  (ht : P.underlying ty = some (.array n e)) (he : P.underlying e = some (.int .u8)) (hs : (P.info? e).map (·.size) = some 1) (hm : P.eqGuardType P.depth ty = false) :
  (execOp a.eval o).run P w = .ok (.value (.bool true)) w := by
 rw [← show eqB n f f = true from eqB_true fun _ _ => rfl]; exact exec_eq ty x y rt ho n f f hx hy e ht he hs hm
theorem exec_neL (ty : TypeId) (x y : Operand) (rt : TypeId) (ho : o.op = .binOp .neq ty x y rt) (n : Nat) (f : Nat → Nat) (hx : a.eval x = .agg (row n (b8 f))) (hy : a.eval y = .agg (row n (b8 f))) (e : TypeId)
  (ht : P.underlying ty = some (.array n e)) (he : P.underlying e = some (.int .u8)) (hs : (P.info? e).map (·.size) = some 1) (hm : P.eqGuardType P.depth ty = false) :
  (execOp a.eval o).run P w = .ok (.value (.bool false)) w := by
 have h := run_equalIn_row (P := P) w 9998 ty e n ht he hs f f
 rw [show eqB n f f = true from eqB_true fun _ _ => rfl] at h
 unfold execOp
 simp only [ho, hx, hy, Sem.run_bind, run_eqGuard_agg w .neq ty x y _ _ hm, run_neq_struct, h, Sem.run_pure, Result.andThen_ok]
 rfl
end
end Go.Proofs.YtinejbjndpdcmaaDoor.Lad
