/-
  Memory, more: arrays that lie in the middle of a block (slices of arrays).
-/
import Derived.Test.YtdodflnmhgnpeaaGreatDoorMem2
namespace Go.Proofs.YtdodflnmhgnpeaaGreatDoor.Mem
open Go.ChangeShapes Go.WideShapes Go.ChangeAt Go.RowKit
section
variable {P : Program} {ops : Array Oper} {rest : List Oper} {o : Oper} {a : Act} {w : World}
theorem exec_atO (ty : TypeId) (x ix : Operand) (ho : o.op = .indexAddr ty x ix) (g off : Nat) (hx : a.eval x = .pointer (some ⟨g, off, none⟩)) (kd : IntKind) (z : Int) (hix : a.eval ix = .int kd z) (k : Nat) (hz : z = (k : Int))
    (n : Nat) (e : TypeId) (hu : P.underlying ty = some (.array n e)) (hk : k < n) (hs : (P.info? e).map (·.size) = some 1) : (execOp a.eval o).run P w = .ok (.value (.pointer (some ⟨g, off + k, none⟩))) w := by
  subst hz
  have hr : (Instr.indexAt ty (.pointer (some ⟨g, off, none⟩)) (.int kd (k : Int))).run P w = .ok (.pointer (some ⟨g, off + k, none⟩)) w := by
    simp [Instr.indexAt, Instr.sureAddr, asIntOf, Sem.run_bind, run_underlying hu, run_size hs, show ¬ n ≤ k by omega, Addr.add_mid]
  unfold execOp
  simp only [ho, hx, hix, hr, Sem.run_bind, Sem.run_pure, Result.andThen_ok]
theorem exec_slN (ty : TypeId) (x ix : Operand) (ho : o.op = .indexAddr ty x ix) (g n c : Nat) (hx : a.eval x = .slice (some ⟨g, 0, none⟩) n c) (kd : IntKind) (z : Int) (hix : a.eval ix = .int kd z) (k : Nat) (hz : z = (k : Int))
    (e : TypeId) (hu : P.underlying ty = some (.slice e)) (hk : k < n) (s : Nat) (hs : (P.info? e).map (·.size) = some s) : (execOp a.eval o).run P w = .ok (.value (.pointer (some ⟨g, k * s, none⟩))) w := by
  subst hz
  have hr : (Instr.indexAt ty (.slice (some ⟨g, 0, none⟩) n c) (.int kd (k : Int))).run P w = .ok (.pointer (some ⟨g, k * s, none⟩)) w := by
    simp [Instr.indexAt, asIntOf, Sem.run_bind, run_underlying hu, run_size hs, show ¬ n ≤ k by omega, add_zero_off]
  unfold execOp
  simp only [ho, hx, hix, hr, Sem.run_bind, Sem.run_pure, Result.andThen_ok]
theorem exec_loadO (ty : TypeId) (x : Operand) (ho : o.op = .load ty x) (g off : Nat) (hx : a.eval x = .pointer (some ⟨g, off, none⟩)) (n : Nat) (f : Nat → Nat) (hc : ∀ i, i < n → w.cell? ⟨g, off + i, none⟩ = some (.int .u8 ((f i : Nat) : Int)))
    (e : TypeId) (hu : P.underlying ty = some (.array n e)) (hi : (P.info? ty).map (·.size) = some n) : (execOp a.eval o).run P w = .ok (.value (.agg (row n (b8 f)))) w := by
  have hr : w.rangeAt g off (row n (b8 f)).toList := fun j v hv => by
    simp only [Array.getElem?_toList] at hv
    by_cases hj : j < n
    · rw [row_get _ _ _ hj] at hv; injection hv with hv; subst hv; exact hc j hj
    · rw [row_none _ _ _ (by omega)] at hv; cases hv
  have h := run_loadVar_mid (P := P) w g off ty (row n (b8 f)).toList _ hr hu rfl (by simp [row_size]; simpa using hi)
  unfold execOp
  simp only [ho, hx, Instr.loadAt, Instr.sureAddr, Sem.run_bind, Sem.run_pure, Result.andThen_ok, h, Array.toArray_toList]
theorem wpl_val {Q : Exit → Act → World → Prop} (hgd : o.guard = none) (v : Value) (hr : (execOp a.eval o).run P w = .ok (.value v) w) (h : wpList P ops Q rest (a.put o.dst v) w) : wpList P ops Q (o :: rest) a w :=
  wpg_val (by simp [Region.wanted, hgd]) v hr h
/-- a new block that holds one array: what a slice is built of -/
theorem wpl_bs {Q : Exit → Act → World → Prop} (hgd : o.guard = none) (t : TypeId) (x : Operand) (ho : o.op = .buildSlice t 1 #[(0, x)]) (v : Value) (hx : a.eval x = v) (cs : Array Value) (e : TypeId)
    (hr : (Instr.buildSlice t 1 #[(0, v)]).run P w = .ok (.slice (some ⟨w.heap.size, 0, none⟩) 1 1) (w.alloc (.cells cs e)))
    (h : wpList P ops Q rest (a.put o.dst (.slice (some ⟨w.heap.size, 0, none⟩) 1 1)) (w.alloc (.cells cs e))) : wpList P ops Q (o :: rest) a w := by
  refine wpList_plain hgd fun _ hK => ?_
  unfold Oper.wp execOp
  simp only [ho, List.map_toArray, List.map_cons, List.map_nil, hx, hr, Sem.run_bind, Sem.run_pure, Result.andThen_ok]
  exact hK _ _ h
end
/-- what the elements of a slice of its own read as -/
theorem Own.cells {w : World} {base : Nat} {e : TypeId} {s : Nat} {A : Option Addr} {n c : Nat} {f : Nat → Nat} (h : Own w base e s (.slice A n c) n f) (hn : 0 < n) :
    ∃ g, A = some ⟨g, 0, none⟩ ∧ base ≤ g ∧ g < w.heap.size ∧ ∀ i, i < n * s → w.cell? ⟨g, i, none⟩ = some (.int .u8 ((f i : Nat) : Int)) := by
  rcases h.form with ⟨_, rfl⟩ | ⟨g, c', cur, hv, hb, hlt, _, hbk, _, hc⟩
  · omega
  · have hA : A = some ⟨g, 0, none⟩ := by injection hv
    exact ⟨g, hA, hb, hlt, fun i hi => by rw [hbk.cell, hc i hi]; rfl⟩
section
variable {P : Program} {o : Oper} {a : Act} {w : World}
theorem exec_arith (op : BinOp) (hop : op = .add ∨ op = .sub ∨ op = .mul) (t : TypeId) (x y : Operand) (rt : TypeId) (ho : o.op = .binOp op t x y rt) (p q : Int) (hx : a.eval x = .int .i64 p) (hy : a.eval y = .int .i64 q) (r : Int)
    (hr : (match op with | .add => p + q | .sub => p - q | _ => p * q) = r) (h1 : -9223372036854775808 ≤ r) (h2 : r < 9223372036854775808) : (execOp a.eval o).run P w = .ok (.value (.int .i64 r)) w := by
  have hw : IntKind.i64.wrap r = r := wrap_i64 r r rfl h1 h2
  unfold execOp
  rcases hop with rfl | rfl | rfl <;> (simp only at hr; subst hr; simp only [ho, hx, hy]; simp [eqGuard, binOp, Op.intArith, hw])
theorem exec_sl1 (ty : TypeId) (x ix : Operand) (ho : o.op = .indexAddr ty x ix) (ad : Addr) (n c : Nat) (hx : a.eval x = .slice (some ad) n c) (kd : IntKind) (z : Int) (hix : a.eval ix = .int kd z) (k : Nat) (hz : z = (k : Int))
    (e : TypeId) (hu : P.underlying ty = some (.slice e)) (hk : k < n) (hs : (P.info? e).map (·.size) = some 1) : (execOp a.eval o).run P w = .ok (.value (.pointer (some (ad.add k)))) w := by
  subst hz
  have hr : (Instr.indexAt ty (.slice (some ad) n c) (.int kd (k : Int))).run P w = .ok (.pointer (some (ad.add k))) w := by
    simp [Instr.indexAt, asIntOf, Sem.run_bind, run_underlying hu, run_size hs, show ¬ n ≤ k by omega]
  unfold execOp
  simp only [ho, hx, hix, hr, Sem.run_bind, Sem.run_pure, Result.andThen_ok]
theorem exec_ld (ty : TypeId) (x : Operand) (ho : o.op = .load ty x) (p : Addr) (hx : a.eval x = .pointer (some p)) (kd : IntKind) (hu : P.underlying ty = some (.int kd)) (v : Value) (hv : w.cell? p = some v) : (execOp a.eval o).run P w = .ok (.value v) w := by
  have hr : (Instr.loadAt ty (.pointer (some p))).run P w = .ok v w := by
    simp [Instr.loadAt, Instr.sureAddr, loadVar, isAgg, Sem.run_bind, run_underlying hu, hv]
  unfold execOp
  simp only [ho, hx, hr, Sem.run_bind, Sem.run_pure, Result.andThen_ok]
theorem exec_build4 (ty : TypeId) (p q r s : Operand) (ho : o.op = .build ty #[(0, p), (1, q), (2, r), (3, s)]) (f : Nat → Nat) (x y z u : Int)
    (hp : a.eval p = .int .u8 x) (hq : a.eval q = .int .u8 y) (hr : a.eval r = .int .u8 z) (hs : a.eval s = .int .u8 u)
    (h0 : x = (f 0 : Nat)) (h1 : y = (f 1 : Nat)) (h2 : z = (f 2 : Nat)) (h3 : u = (f 3 : Nat))
    (hb : ∀ x y z u : Int, P.built ty [(0, .int .u8 x), (1, .int .u8 y), (2, .int .u8 z), (3, .int .u8 u)] = some #[.int .u8 x, .int .u8 y, .int .u8 z, .int .u8 u]) : (execOp a.eval o).run P w = .ok (.value (.agg (row 4 (b8 f)))) w := by
  have e := run_build4 hb f x y z u h0 h1 h2 h3 w
  unfold execOp
  simp only [ho, List.map_toArray, List.map_cons, List.map_nil, hp, hq, hr, hs, e, Sem.run_bind, Sem.run_pure, Result.andThen_ok]
/-- a new block that holds one array, at one operation -/
theorem wp_bs {K : Act → World → Prop} {Q : Exit → Act → World → Prop} (t : TypeId) (x : Operand) (ho : o.op = .buildSlice t 1 #[(0, x)]) (v : Value) (hx : a.eval x = v) (cs : Array Value) (e : TypeId)
    (hr : (Instr.buildSlice t 1 #[(0, v)]).run P w = .ok (.slice (some ⟨w.heap.size, 0, none⟩) 1 1) (w.alloc (.cells cs e)))
    (h : K (a.put o.dst (.slice (some ⟨w.heap.size, 0, none⟩) 1 1)) (w.alloc (.cells cs e))) : o.wp P a w K Q := by
  unfold Oper.wp execOp
  simp only [ho, List.map_toArray, List.map_cons, List.map_nil, hx, hr, Sem.run_bind, Sem.run_pure, Result.andThen_ok]
  exact h
/-- append, at one operation -/
theorem wp_app {K : Act → World → Prop} {Q : Exit → Act → World → Prop} (p q : Operand) (t : TypeId) (ho : o.op = .call { callee := .builtin .append, args := #[p, q], argTypes := #[t, t] }) (base : Nat) (e : TypeId) (s : Nat) (z : Value) (ht : P.underlying t = some (.slice e))
    (hinfo : (P.info? e).map (fun i => (i.zero, i.size, i.bytes)) = some (some z, s, s)) (hz : z.cells.size = s) (hs0 : 0 < s) (v : Value) (n : Nat) (f : Nat → Nat) (hp : a.eval p = v) (hown : Own w base e s v n f)
    (m : Nat) (g : Nat → Nat) (cs : Array Value) (hcs : cs = row (m * s) (b8 g)) (hq : a.eval q = .slice (some ⟨w.heap.size, 0, none⟩) m m) (hn : (n + m) * s ≤ 1000000) (hbase : base ≤ w.heap.size)
    (h : ∀ v' w', Own w' base e s v' (n + m) (cat (n * s) f g) → Below base w w' → K (a.put o.dst v') w') : o.wp P a (w.alloc (.cells cs e)) K Q := by
  subst hcs
  obtain ⟨i, hi, hz0, hz1, hz2⟩ := info_parts hinfo
  have hnm : n + m ≤ (n + m) * s := Nat.le_mul_of_pos_right _ hs0
  refine wp_append_own (w.alloc (.cells (row (m * s) (b8 g)) e)) p q t ho base e i z s s ht hi hz0 hz1 hz2 hz hs0 v n _ hp (hown.alloc _) ⟨w.heap.size, 0, none⟩ m m ((List.range (m * s)).map (b8 g)) hq (by simp) ?_ ?_ ?_ ?_ ?_ ?_
  · intro j u hu
    by_cases hj : j < m * s
    · simp [hj] at hu
      subst hu
      rw [add_zero_off, (Blk.fresh w e (row (m * s) (b8 g))).cell, row_get _ _ _ hj]
    · rw [List.getElem?_eq_none (by simp; omega)] at hu; cases hu
  · intro u hu
    simp only [List.mem_map] at hu
    obtain ⟨i, _, rfl⟩ := hu
    rfl
  · unfold maxLen; omega
  · omega
  · simp; omega
  · intro v' w' h1 h2 _
    rw [cat_list, ← Nat.add_mul] at h1
    refine h v' w' h1 ?_
    refine (((Below.refl base w).alloc hbase _).grown h2 (by simp; omega) ?_)
    intro k hk
    exact (World.ownsRow.lt (hown.alloc (.cells (row (m * s) (b8 g)) e)) k hk).1
end
end Go.Proofs.YtdodflnmhgnpeaaGreatDoor.Mem
