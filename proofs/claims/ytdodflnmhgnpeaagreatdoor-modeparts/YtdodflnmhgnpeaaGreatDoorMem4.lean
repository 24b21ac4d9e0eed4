/-
  Memory, more: append of a byte slice, wherever it lies, to a slice of the call's own.
-/
import Derived.Test.YtdodflnmhgnpeaaGreatDoorMem3
namespace Go.Proofs.YtdodflnmhgnpeaaGreatDoor.Mem
open Go.ChangeShapes Go.WideShapes Go.ChangeAt Go.RowKit
theorem Own.empty (w : World) (base : Nat) (e : TypeId) (f : Nat → Nat) (hb : base ≤ w.heap.size) : Own (w.alloc (.cells #[] e)) base e 1 (.slice (some ⟨w.heap.size, 0, none⟩) 0 0) 0 f :=
  ⟨by simp, .inr ⟨w.heap.size, 0, #[], rfl, hb, heap_alloc_new w _, Nat.le_refl _, by unfold maxLen; omega, by simp, by simp⟩⟩
theorem wpl_app_src {P : Program} {ops : Array Oper} {rest : List Oper} {o : Oper} {a : Act} {w : World} {Q : Exit → Act → World → Prop} (hgd : o.guard = none) (p q : Operand) (t : TypeId) (ho : o.op = .call { callee := .builtin .append, args := #[p, q], argTypes := #[t, t] }) (base : Nat) (e : TypeId) (z : Value) (ht : P.underlying t = some (.slice e))
    (hinfo : (P.info? e).map (fun i => (i.zero, i.size, i.bytes)) = some (some z, 1, 1)) (hz : z.cells.size = 1) (v : Value) (n : Nat) (f : Nat → Nat) (hp : a.eval p = v) (hown : Own w base e 1 v n f)
    (A : Option Addr) (m c : Nat) (g : Nat → Nat) (B : Nat) (hR : Reads w B A m g) (hm : 0 < m) (hq : a.eval q = .slice A m c) (hn : n + m ≤ 1000000) (hbase : base ≤ w.heap.size)
    (h : ∀ v' w', Own w' base e 1 v' (n + m) (cat n f g) → Below base w w' → wpList P ops Q rest (a.put o.dst v') w') : wpList P ops Q (o :: rest) a w := by
  obtain ⟨ad, rfl, _, hc⟩ := hR hm
  obtain ⟨i, hi, hz0, hz1, hz2⟩ := info_parts hinfo
  refine wpList_append_own w hgd p q t ho base e i z 1 1 ht hi hz0 hz1 hz2 hz (by omega) v n _ hp hown ad m c ((List.range m).map (b8 g)) hq (by simp) ?_ ?_ ?_ ?_ hbase ?_
  · intro j u hu
    by_cases hj : j < m
    · simp [hj] at hu
      subst hu
      exact hc j hj
    · rw [List.getElem?_eq_none (by simp; omega)] at hu; cases hu
  · intro u hu
    simp only [List.mem_map] at hu
    obtain ⟨i, _, rfl⟩ := hu
    rfl
  · unfold maxLen; omega
  · omega
  · intro v' w' h1 h2 _
    rw [cat_list, ← Nat.mul_one m, ← Nat.add_mul, Nat.mul_one m, Nat.mul_one n] at h1
    refine h v' w' h1 ?_
    refine (Below.refl base w).grown h2 hbase ?_
    intro k hk
    exact (World.ownsRow.lt hown k hk).1
end Go.Proofs.YtdodflnmhgnpeaaGreatDoor.Mem
