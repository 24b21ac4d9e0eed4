/-
  Regions that draw their order and hold a call that makes memory: what stands behind them, once.
-/
import Derived.Test.YtlcllolfadlgfaaDoorMem5
import Derived.Test.YtlcllolfadlgfaaDoorMem3
import Derived.Deep.RegionHeld3
namespace Go.Proofs.YtlcllolfadlgfaaDoor.Mem
open Go.ChangeShapes Go.WideShapes Go.ChangeAt Go.RowKit
/-- what stands behind a region is shown once, of whatever world and new block -/
theorem suff {F G : World → Nat → Prop} {R : Prop} (h1 : (∀ W g, F W g → G W g) → R) (h2 : ∀ W g, F W g → G W g) : R := h1 h2
/-- the world as it was at the region's start stays, and block g is new -/
def Past (w2 : World) (t : TypeId) (cs : Array Value) (W : World) (g : Nat) : Prop := Below w2.heap.size w2 W ∧ Blk W g t cs ∧ w2.heap.size ≤ g
/-- a whole array of bytes into the block that was made last, block g -/
theorem wpl_store_newg {P : Program} {ops : Array Oper} {rest : List Oper} {o : Oper} {a : Act} {Q : Exit → Act → World → Prop} (hgd : o.guard = none) (ty : TypeId) (x y : Operand) (ho : o.op = .store ty x y) (v : World) (old : Array Value) (n : Nat) (f : Nat → Nat) (g : Nat) (hg : v.heap.size = g) (hx : a.eval x = .pointer (some ⟨g, 0, none⟩)) (hy : a.eval y = .agg (row n (b8 f)))
    (t : TypeId) (hi : (P.info? ty).map (·.size) = some n) (hold : old.size = n)
    (h : wpList P ops Q rest (a.put o.dst undef) (v.alloc (.cells (row n (b8 f)) t))) : wpList P ops Q (o :: rest) a (v.alloc (.cells old t)) := by
  subst hg; exact wpl_store_new hgd ty x y ho v old n f hx hy t hi hold h
end Go.Proofs.YtlcllolfadlgfaaDoor.Mem
