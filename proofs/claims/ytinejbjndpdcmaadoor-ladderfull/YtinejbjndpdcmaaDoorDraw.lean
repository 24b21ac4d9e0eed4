/-
 Regions that draw their order and hold a call that makes memory: what stands behind them, once.
-/
import Derived.Test.YtinejbjndpdcmaaDoorMemX
import Derived.Deep.RegionHeld3
namespace Go.Proofs.YtinejbjndpdcmaaDoor.Mem
open Go.ChangeShapes Go.WideShapes Go.ChangeAt Go.RowKit
theorem suff {F G : World → Nat → Prop} {R : Prop} (h1 : (∀ W g, F W g → G W g) → R) (h2 : ∀ W g, F W g → G W g) : R := h1 h2
def Past (w2 : World) (t : TypeId) (cs : Array Value) (W : World) (g : Nat) : Prop := Below w2.heap.size w2 W ∧ Blk W g t cs ∧ w2.heap.size ≤ g
theorem ready_one {P : Program} {md : Region.Mode} {ops : Array Oper} {Q : Exit → Act → World → Prop} {S : World → Prop} {fuel : Nat} {listed : Array Bool} {a : Act} {w : World} {i : Nat} {o : Oper} (ho : ops[i]? = some o) (hgd : o.guard = none)
  (h : ∀ K' : Act → World → Prop, Shut (∀ a w, S w → (S w → wpAnyH P md ops Q S fuel (listed.setIfInBounds i true) a w) → K' a w) → o.wp P a w K' Q) : AllReadyH P md ops Q S fuel listed a w [i] :=
 AllReadyH.cons ho (fun K hK => by rw [if_pos (by simp [Region.wanted, hgd])]; exact h K hK) AllReadyH.nil
theorem wp_store_blk {P : Program} {o : Oper} {a : Act} {w : World} {K : Act → World → Prop} {Q : Exit → Act → World → Prop} (ty : TypeId) (x y : Operand) (ho : o.op = .store ty x y) (g : Nat) (cells : Array Value) (hx : a.eval x = .pointer (some ⟨g, 0, none⟩)) (hy : a.eval y = .agg cells)
  (t : TypeId) (old : Array Value) (hg : Blk w g t old) (hi : (P.info? ty).map (·.size) = some cells.size) (hold : old.size = cells.size) (h1 : cells.all (·.oneCell') = true)
  (h : K (a.put o.dst undef) (w.setRow g cells)) : o.wp P a w K Q := wp_store_row ty x y ho g cells hx hy t old hg hi hold h1 h
theorem wpl_store_newg {P : Program} {ops : Array Oper} {rest : List Oper} {o : Oper} {a : Act} {Q : Exit → Act → World → Prop} (hgd : o.guard = none) (ty : TypeId) (x y : Operand) (ho : o.op = .store ty x y) (v : World) (old : Array Value) (n : Nat) (f : Nat → Nat) (g : Nat) (hg : v.heap.size = g) (hx : a.eval x = .pointer (some ⟨g, 0, none⟩)) (hy : a.eval y = .agg (row n (b8 f)))
  (t : TypeId) (hi : (P.info? ty).map (·.size) = some n) (hold : old.size = n)
  (h : wpList P ops Q rest (a.put o.dst undef) (v.alloc (.cells (row n (b8 f)) t))) : wpList P ops Q (o :: rest) a (v.alloc (.cells old t)) := by
 subst hg; exact wpl_store_new hgd ty x y ho v old n f hx hy t hi hold h
end Go.Proofs.YtinejbjndpdcmaaDoor.Mem
