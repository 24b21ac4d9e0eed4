/-
  Strings: a byte out of a string; tables whose places are two decimal digits each.
-/
import Derived.Test.YtdodflnmhgnpeaaGreatDoorMem2
namespace Go.Proofs.YtdodflnmhgnpeaaGreatDoor.Mem
open Go.ChangeShapes Go.WideShapes Go.ChangeAt Go.RowKit
/-- the byte k of a string -/
def byteAt (s : ByteArray) (k : Nat) : Option Nat := (s.data[k]?).map (·.toNat)
theorem byteAt_lt {s : ByteArray} {k b : Nat} (h : byteAt s k = some b) : k < s.size := by
  apply Classical.byContradiction
  intro hn
  unfold byteAt at h
  rw [Array.getElem?_eq_none (by have : s.data.size = s.size := rfl; omega)] at h
  cases h
section
variable {P : Program} {ops : Array Oper} {rest : List Oper} {o : Oper} {a : Act} {w : World}
theorem exec_str (ty : TypeId) (x ix : Operand) (ho : o.op = .index ty x ix) (s : ByteArray) (hx : a.eval x = .string s) (kd : IntKind) (z : Int) (hix : a.eval ix = .int kd z) (k : Nat) (hz : z = (k : Int))
    (hu : P.underlying ty = some .string) (b : Nat) (hb : byteAt s k = some b) : (execOp a.eval o).run P w = .ok (.value (.int .u8 (b : Int))) w := by
  subst hz
  have hk := byteAt_lt hb
  have hr : (Instr.index ty (.string s) (.int kd (k : Int))).run P w = .ok (.int .u8 (b : Int)) w := by
    rw [run_index_string w ty s kd _ hu, dif_pos ⟨by omega, by omega⟩]
    have e : (s[(k : Int).toNat]'(by simpa using hk)).toNat = b := by
      unfold byteAt at hb
      have hk' : k < s.data.size := hk
      rw [Array.getElem?_eq_getElem hk'] at hb
      simp only [Option.map_some, Option.some.injEq] at hb
      exact hb
    rw [e]
  unfold execOp
  simp only [ho, hx, hix, hr, Sem.run_bind, Sem.run_pure, Result.andThen_ok]
theorem wpl_str {Q : Exit → Act → World → Prop} (hgd : o.guard = none) (ty : TypeId) (x ix : Operand) (ho : o.op = .index ty x ix) (s : ByteArray) (hx : a.eval x = .string s) (kd : IntKind) (z : Int) (hix : a.eval ix = .int kd z) (k : Nat) (hz : z = (k : Int))
    (hu : P.underlying ty = some .string) (b : Nat) (hb : byteAt s k = some b) (h : wpList P ops Q rest (a.put o.dst (.int .u8 (b : Int))) w) : wpList P ops Q (o :: rest) a w :=
  wpg_val (by simp [Region.wanted, hgd]) _ (exec_str ty x ix ho s hx kd z hix k hz hu b hb) h
theorem wps_str {Q : Act → Prop} (hgd : o.guard = none) (ty : TypeId) (x ix : Operand) (ho : o.op = .index ty x ix) (s : ByteArray) (hx : a.eval x = .string s) (kd : IntKind) (z : Int) (hix : a.eval ix = .int kd z) (k : Nat) (hz : z = (k : Int))
    (hu : P.underlying ty = some .string) (b : Nat) (hb : byteAt s k = some b) (h : wpStill P ops w Q rest (a.put o.dst (.int .u8 (b : Int)))) : wpStill P ops w Q (o :: rest) a :=
  wps_val hgd _ (exec_str ty x ix ho s hx kd z hix k hz hu b hb) h
end
/-- the string s has n places, the i-th is p i, two decimal digits each -/
def TabS (s : ByteArray) (n : Nat) (p : Nat → Nat) : Prop := s.size = 2 * n ∧ ∀ i, i < n → p i < 100 ∧ byteAt s (2 * i) = some (48 + p i / 10) ∧ byteAt s (2 * i + 1) = some (48 + p i % 10)
instance (s : ByteArray) (n : Nat) (p : Nat → Nat) : Decidable (TabS s n p) := by unfold TabS; infer_instance
end Go.Proofs.YtdodflnmhgnpeaaGreatDoor.Mem
