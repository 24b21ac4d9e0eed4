/-
 What slices.Grow and slices.Concat return of byte slices: contracts over the loaded program.
-/
import Derived.Test.YtinejbjndpdcmaaDoorMemX
namespace Go.Proofs.YtinejbjndpdcmaaDoor.Mem
open Go.ChangeShapes Go.WideShapes Go.ChangeAt Go.RowKit
section
variable {P : Program}
theorem run_append_make (w : World) (t u ty e : TypeId) (i : TypeInfo) (z : Value) (ht : P.underlying t = some (.slice e)) (hu : P.underlying u = some (.int .i64)) (hi : P.info? e = some i) (hz : i.zero = some z)
  (hs : i.size = 1) (hb : i.bytes = 1) (n : Nat) (h0 : 0 < n) (hn : n ≤ 1000000) :
  (Builtin.append_ #[t, u] ty #[.slice none 0 0, .int .i64 (n : Int)]).run P w =
   .ok (.slice (some ⟨w.heap.size, 0, none⟩) n (grownCap w n 0 e)) (w.drew.alloc (.cells (Builtin.zeroCells z.cells n ++ Builtin.zeroCells z.cells (grownCap w n 0 e - n)) e)) := by
 have hn0 : n ≠ 0 := by omega
 have hw : IntKind.i64.wrap (n : Int) = n := wrap_i64 _ _ rfl (by omega) (by omega)
 have h63' : ¬ (9223372036854775807 < (n : Int)) := by omega
 have h48' : ¬ (281474976710656 < Builtin.nextslicecap n 0) := by rw [nextslicecap_zero h0]; omega
 have hneg : ¬ ((n : Int) < 0) := by omega
 have h48 : ¬ (281474976710656 < (n : Int)) := by omega
 simp [Builtin.append_, run_underlying ht, run_underlying hu, sizeOf, typeInfo, zeroValue, hi, hz, hs, hb, hn0, hw, h63', h48', h48, hneg, asInt, asIntOf, Question.forced, run_firstCells_none, newRow, grownCap]
theorem wpl_app_make {ops : Array Oper} {rest : List Oper} {o : Oper} {a : Act} {w : World} {Q : Exit → Act → World → Prop} (hgd : o.guard = none) (p q : Operand) (t u : TypeId) (ho : o.op = .call { callee := .builtin .append, args := #[p, q], argTypes := #[t, u] }) (e : TypeId) (ht : P.underlying t = some (.slice e)) (hu : P.underlying u = some (.int .i64))
  (hinfo : (P.info? e).map (fun i => (i.zero, i.size, i.bytes)) = some (some (.int .u8 0), 1, 1)) (hp : a.eval p = .slice none 0 0) (y : Int) (hq : a.eval q = .int .i64 y) (n : Nat) (hy : y = (n : Int)) (h0 : 0 < n) (hn : n ≤ 1000000)
  (h : ∀ c w', n ≤ c → c ≤ maxLen → w'.heap[w.heap.size]? = some (.cells (row c (b8 fun _ => 0)) e (0, 0)) → Below w.heap.size w w' → wpList P ops Q rest (a.put o.dst (.slice (some ⟨w.heap.size, 0, none⟩) n c)) w') : wpList P ops Q (o :: rest) a w := by
 subst hy
 obtain ⟨i, hi, hz0, hz1, hz2⟩ := info_parts hinfo
 refine wpList_plain hgd fun _ hK => ?_
 have hr := run_append_make (P := P) w t u o.type e i (.int .u8 0) ht hu hi hz0 hz1 hz2 n h0 hn
 have hge := grownCap_ge w n 0 e
 have hcm : grownCap w n 0 e ≤ maxLen := grownCap_le_maxLen w n 0 e (by unfold maxLen; omega)
 have hrow : Builtin.zeroCells (Value.int .u8 0).cells n ++ Builtin.zeroCells (Value.int .u8 0).cells (grownCap w n 0 e - n) = row (grownCap w n 0 e) (b8 fun _ => 0) := by
  apply row_of
  ·simp [Builtin.zeroCells, Value.cells]; omega
  intro j hj
  by_cases h1 : j < n
  ·rw [Array.getElem?_append_left (by simp [Builtin.zeroCells, Value.cells]; exact h1)]
   simp [Builtin.zeroCells, Value.cells, h1, b8, Nat.mod_one]
  rw [Array.getElem?_append_right (by simp [Builtin.zeroCells, Value.cells]; omega)]
  have hjn : j - n < grownCap w n 0 e - n := by omega
  simp [Builtin.zeroCells, Value.cells, b8, Nat.mod_one, hjn]
 rw [hrow] at hr
 unfold Oper.wp execOp
 simp only [ho, resolve, invoke, builtin, Sem.run_bind, Sem.run_pure, Result.andThen_ok, List.map_toArray, List.map_cons, List.map_nil, hp, hq, hr]
 exact hK _ _ (h _ _ hge hcm (heap_alloc_new w.drew _) ((Below.refl _ _).drew.alloc (Nat.le_refl _) _))
theorem wpl_lds {ops : Array Oper} {rest : List Oper} {o : Oper} {a : Act} {w : World} {Q : Exit → Act → World → Prop} (hgd : o.guard = none) (ty : TypeId) (x : Operand) (ho : o.op = .load ty x) (p : Addr) (hx : a.eval x = .pointer (some p)) (e : TypeId) (hu : P.underlying ty = some (.slice e)) (v : Value) (hv : w.cell? p = some v)
  (h : wpList P ops Q rest (a.put o.dst v) w) : wpList P ops Q (o :: rest) a w := by
 refine wpList_plain hgd fun _ hK => ?_
 have hr : (Instr.loadAt ty (.pointer (some p))).run P w = .ok v w := by
  simp [Instr.loadAt, Instr.sureAddr, loadVar, isAgg, Sem.run_bind, run_underlying hu, hv]
 unfold Oper.wp execOp
 simp only [ho, hx, hr, Sem.run_bind, Sem.run_pure, Result.andThen_ok]
 exact hK _ _ h
end
theorem info8c : (Tryd.prog.info? 5).map (fun i => (i.zero, i.size, i.bytes)) = some (some (.int .u8 0), 1, 1) := by kernel_rfl
theorem iS8 : (Tryd.prog.info? 58).map (·.size) = some 1 := by kernel_rfl
def twoLen (L1 L2 k : Nat) : Nat := if k = 0 then 0 else if k = 1 then L1 else L1 + L2
end Go.Proofs.YtinejbjndpdcmaaDoor.Mem
