/-
  Memory, more: arrays of integers of whatever kind.
-/
import Derived.Test.YtdodflnmhgnpeaaGreatDoorMem2
namespace Go.Proofs.YtdodflnmhgnpeaaGreatDoor.Mem
open Go.ChangeShapes Go.WideShapes Go.ChangeAt Go.RowKit
/-- integers of a kind as values -/
def iv (k : IntKind) (f : Nat → Nat) : Nat → Value := fun i => .int k ((f i : Nat) : Int)
theorem iv_get (kd : IntKind) (n : Nat) (f : Nat → Nat) (k : Nat) (h : k < n) : (row n (iv kd f))[k]? = some (.int kd ((f k : Nat) : Int)) := row_get n _ k h
theorem upd_iv (kd : IntKind) (f : Nat → Nat) (k v : Nat) : upd (iv kd f) k (.int kd ((v : Nat) : Int)) = iv kd (upd f k v) := by
  funext i; unfold upd iv; by_cases h : i = k <;> simp [h]
theorem iv_ext {kd : IntKind} {n : Nat} {f g : Nat → Nat} (h : ∀ i, i < n → f i = g i) : row n (iv kd f) = row n (iv kd g) :=
  row_ext fun i hi => by unfold iv; rw [h i hi]
theorem one_row {n : Nat} {c : Nat → Value} (hc : ∀ i, (c i).oneCell' = true) : (row n c).all (·.oneCell') = true := by
  rw [Array.all_eq_true_iff_forall_mem]
  intro x hx
  rw [Array.mem_iff_getElem?] at hx
  obtain ⟨i, hi⟩ := hx
  by_cases h : i < n
  · rw [row_get _ _ _ h] at hi; injection hi with hi; subst hi; exact hc i
  · rw [row_none _ _ _ (by omega)] at hi; cases hi
theorem one_iv (kd : IntKind) (n : Nat) (f : Nat → Nat) : (row n (iv kd f)).all (·.oneCell') = true := one_row fun _ => rfl
theorem Blk.puti {w : World} {g : Nat} {t : TypeId} {n : Nat} {kd : IntKind} {m : Nat → Nat} (h : Blk w g t (row n (iv kd m))) (k v : Nat) : Blk (w.setCell ⟨g, k, none⟩ (.int kd ((v : Nat) : Int))) g t (row n (iv kd (upd m k v))) := by
  have := h.setCell k (.int kd ((v : Nat) : Int))
  rwa [row_set, upd_iv] at this
theorem Blk.vali {w : World} {g : Nat} {t : TypeId} {n : Nat} {kd : IntKind} {m : Nat → Nat} (h : Blk w g t (row n (iv kd m))) (k : Nat) (hk : k < n) : w.cell? ⟨g, k, none⟩ = some (.int kd ((m k : Nat) : Int)) :=
  (h.cell k).trans (row_get n _ k hk)
theorem ret_iv {kd : IntKind} {n : Nat} {f g : Nat → Nat} (h : ∀ i, i < n → f i = g i) : Ending.returned (.agg (row n (iv kd f))) = .returned (.agg (row n (iv kd g))) := by rw [iv_ext h]
/-- a whole array into the block that was made last -/
theorem wpl_store_newi {P : Program} {ops : Array Oper} {rest : List Oper} {o : Oper} {a : Act} {Q : Exit → Act → World → Prop} (hgd : o.guard = none) (ty : TypeId) (x y : Operand) (ho : o.op = .store ty x y) (v : World) (old : Array Value) (n : Nat) (c : Nat → Value) (hc : ∀ i, (c i).oneCell' = true) (hx : a.eval x = .pointer (some ⟨v.heap.size, 0, none⟩)) (hy : a.eval y = .agg (row n c))
    (t : TypeId) (hi : (P.info? ty).map (·.size) = some n) (hold : old.size = n)
    (h : wpList P ops Q rest (a.put o.dst undef) (v.alloc (.cells (row n c) t))) : wpList P ops Q (o :: rest) a (v.alloc (.cells old t)) := by
  refine wpl_store hgd ty x y ho v.heap.size _ hx hy t old (Blk.fresh _ _ _) (by rw [row_size]; exact hi) (by rw [row_size]; exact hold) (one_row hc) ?_
  rwa [World.setRow_alloc_new]
theorem Blk.drew {w : World} {g : Nat} {t : TypeId} {cs : Array Value} (h : Blk w g t cs) : Blk w.drew g t cs := h
/-- nothing but block g has changed -/
def Only (g : Nat) (w w' : World) : Prop := w'.os = w.os ∧ w'.tape = w.tape ∧ w'.output = w.output ∧ w'.heap.size = w.heap.size ∧ ∀ h, h ≠ g → w'.heap[h]? = w.heap[h]?
section
variable {g : Nat} {w w' w'' : World}
theorem Only.refl (g : Nat) (w : World) : Only g w w := ⟨rfl, rfl, rfl, rfl, fun _ _ => rfl⟩
theorem Only.below (h : Only g w w') {B : Nat} (hB : B ≤ g) : Below B w w' := ⟨h.1, h.2.1, h.2.2.1, Nat.le_of_eq h.2.2.2.1.symm, fun k hk => h.2.2.2.2 k (by omega)⟩
theorem Only.setCell (h : Only g w w') (i : Nat) (v : Value) : Only g w (w'.setCell ⟨g, i, none⟩ v) :=
  ⟨h.1, h.2.1, h.2.2.1, (by simpa using h.2.2.2.1), fun k hk => (heap_setCell_other w' ⟨g, i, none⟩ k v hk).trans (h.2.2.2.2 k hk)⟩
theorem Only.setRow (h : Only g w w') (cs : Array Value) : Only g w (w'.setRow g cs) :=
  ⟨h.1, h.2.1, h.2.2.1, (by simpa using h.2.2.2.1), fun k hk => (setRow_other w' g k cs hk).trans (h.2.2.2.2 k hk)⟩
theorem Only.drew (h : Only g w w') : Only g w w'.drew := h
theorem Only.blk (h : Only g w w') {k : Nat} {t : TypeId} {cs : Array Value} (hb : Blk w k t cs) (hk : k ≠ g) : Blk w' k t cs := (h.2.2.2.2 k hk).trans hb
end
end Go.Proofs.YtdodflnmhgnpeaaGreatDoor.Mem
