/-
  Memory, more: slices that a call appends to; arrays compared; operations under a guard.
-/
import Derived.Test.YtdodflnmhgnpeaaGreatDoorMem
import Derived.Deep.MidRow
import Derived.Deep.RegionHeld3
namespace Go.Proofs.YtdodflnmhgnpeaaGreatDoor.Mem
open Go.ChangeShapes Go.WideShapes Go.ChangeAt Go.RowKit

/-! ### slices of bytes (or of arrays of bytes) that the call itself appends to -/
/-- v, of n elements of s bytes each, owns the bytes f; its block is from 'base' on -/
def Own (w : World) (base : Nat) (e : TypeId) (s : Nat) (v : Value) (n : Nat) (f : Nat → Nat) : Prop := w.ownsRow base e s v n ((List.range (n * s)).map (b8 f))
section
variable {w w' : World} {base : Nat} {e : TypeId} {s : Nat} {v : Value} {n : Nat} {f : Nat → Nat}
theorem Own.nil (w : World) (base : Nat) (e : TypeId) (s : Nat) (f : Nat → Nat) : Own w base e s (.slice none 0 0) 0 f := by
  unfold Own; rw [Nat.zero_mul]; exact World.ownsRow_nil w base e s
theorem Own.alloc (h : Own w base e s v n f) (o : Obj) : Own (w.alloc o) base e s v n f := World.ownsRow.alloc h o
theorem Own.drewN (h : Own w base e s v n f) (k : Nat) : Own (w.drewN k) base e s v n f := h
theorem Own.ext {g : Nat → Nat} (h : Own w base e s v n f) (hfg : ∀ i, i < n * s → f i = g i) : Own w base e s v n g := by
  unfold Own at *
  have : (List.range (n * s)).map (b8 g) = (List.range (n * s)).map (b8 f) := by
    apply List.map_congr_left
    intro i hi
    unfold b8
    rw [hfg i (List.mem_range.1 hi)]
  rw [this]; exact h
/-- its block, if it has one, its cells, and its room -/
theorem Own.form (h : Own w base e s v n f) : (v = .slice none 0 0 ∧ n = 0) ∨ ∃ g c cur, v = .slice (some ⟨g, 0, none⟩) n c ∧ base ≤ g ∧ g < w.heap.size ∧ n ≤ c ∧ Blk w g e cur ∧ cur.size = c * s ∧ ∀ i, i < n * s → cur[i]? = some (b8 f i) := by
  rcases h.2 with ⟨hv, hn⟩ | ⟨g, cap, cur, hv, hb, hg, hnc, _, hs, ht⟩
  · exact .inl ⟨hv, hn⟩
  · refine .inr ⟨g, cap, cur, hv, hb, (show Blk w g e cur from hg).lt, hnc, hg, hs, fun i hi => ?_⟩
    have e1 := congrArg (fun l : List Value => l[i]?) ht
    simp only [List.getElem?_take, hi, if_true, List.getElem?_map, List.getElem?_range, Option.map_some, Array.getElem?_toList] at e1
    exact e1
theorem Own.below {B : Nat} (h : Own w base e s v n f) (hb : Below B w w') (hB : w.heap.size ≤ B) : Own w' base e s v n f := by
  refine ⟨h.1, ?_⟩
  rcases h.2 with h2 | ⟨g, cap, cur, hv, hbg, hg, r⟩
  · exact .inl h2
  · have hlt : g < w.heap.size := (show Blk w g e cur from hg).lt
    exact .inr ⟨g, cap, cur, hv, hbg, (hb.block g (by omega)).trans hg, r⟩
theorem Own.slice (h : Own w base e s v n f) : ∃ A c, v = .slice A n c ∧ n ≤ c := by
  rcases h.form with ⟨rfl, rfl⟩ | ⟨g, c, _, rfl, _, _, hc, _⟩
  · exact ⟨_, _, rfl, Nat.le_refl _⟩
  · exact ⟨_, _, rfl, hc⟩
end
theorem Own.reads {w : World} {base : Nat} {e : TypeId} {A : Option Addr} {n c : Nat} {f : Nat → Nat} (h : Own w base e 1 (.slice A n c) n f) : Reads w w.heap.size A n f := fun hn => by
  rcases h.form with ⟨_, rfl⟩ | ⟨g, c', cur, hv, _, hlt, _, hb, _, hc⟩
  · omega
  · have hA : A = some ⟨g, 0, none⟩ := by injection hv
    subst hA
    exact ⟨_, rfl, hlt, fun i hi => by rw [add_zero_off, hb.cell, hc i (by omega)]; rfl⟩
def cat (m : Nat) (f g : Nat → Nat) : Nat → Nat := fun i => if i < m then f i else g (i - m)
theorem cat_list (a b : Nat) (f g : Nat → Nat) : (List.range a).map (b8 f) ++ (List.range b).map (b8 g) = (List.range (a + b)).map (b8 (cat a f g)) := by
  apply List.ext_getElem?
  intro i
  by_cases h : i < a
  · rw [List.getElem?_append_left (by simp; exact h)]
    simp [h, show i < a + b by omega, b8, cat]
  · rw [List.getElem?_append_right (by simp; omega)]
    by_cases h2 : i < a + b
    · simp [show i - a < b by omega, h2, b8, cat, h]
    · rw [List.getElem?_eq_none (by simp; omega), List.getElem?_eq_none (by simp; omega)]
section
variable {P : Program} {ops : Array Oper} {rest : List Oper} {o : Oper} {a : Act} {w : World} {Q : Exit → Act → World → Prop}
/-- append of m elements that lie in the block that was made last -/
theorem wpl_app (hgd : o.guard = none) (p q : Operand) (t : TypeId) (ho : o.op = .call { callee := .builtin .append, args := #[p, q], argTypes := #[t, t] }) (base : Nat) (e : TypeId) (s : Nat) (z : Value) (ht : P.underlying t = some (.slice e))
    (hinfo : (P.info? e).map (fun i => (i.zero, i.size, i.bytes)) = some (some z, s, s)) (hz : z.cells.size = s) (hs0 : 0 < s) (v : Value) (n : Nat) (f : Nat → Nat) (hp : a.eval p = v) (hown : Own w base e s v n f)
    (m : Nat) (g : Nat → Nat) (cs : Array Value) (hcs : cs = row (m * s) (b8 g)) (hq : a.eval q = .slice (some ⟨w.heap.size, 0, none⟩) m m) (hn : (n + m) * s ≤ 1000000) (hbase : base ≤ w.heap.size)
    (h : ∀ v' w', Own w' base e s v' (n + m) (cat (n * s) f g) → Below base w w' → wpList P ops Q rest (a.put o.dst v') w') : wpList P ops Q (o :: rest) a (w.alloc (.cells cs e)) := by
  subst hcs
  obtain ⟨i, hi, hz0, hz1, hz2⟩ := info_parts hinfo
  have hnm : n + m ≤ (n + m) * s := Nat.le_mul_of_pos_right _ hs0
  refine wpList_append_own (w.alloc (.cells (row (m * s) (b8 g)) e)) hgd p q t ho base e i z s s ht hi hz0 hz1 hz2 hz hs0 v n _ hp (hown.alloc _) ⟨w.heap.size, 0, none⟩ m m ((List.range (m * s)).map (b8 g)) hq (by simp) ?_ ?_ ?_ ?_ ?_ ?_
  · intro j u hu
    by_cases hj : j < m * s
    · simp [hj] at hu
      subst hu
      rw [add_zero_off, (Blk.fresh w e (row (m * s) (b8 g))).cell, row_get _ _ _ hj]
    · rw [List.getElem?_eq_none (by simp; omega)] at hu; cases hu
  · intro u hu
    simp only [List.mem_map] at hu
    obtain ⟨i, _, rfl⟩ := hu
    rfl
  · unfold maxLen; omega
  · omega
  · simp; omega
  · intro v' w' h1 h2 _
    rw [cat_list, ← Nat.add_mul] at h1
    refine h v' w' h1 ?_
    refine (((Below.refl base w).alloc hbase _).grown h2 (by simp; omega) ?_)
    intro k hk
    exact (World.ownsRow.lt (hown.alloc (.cells (row (m * s) (b8 g)) e)) k hk).1
end
theorem Own.setBelow {w : World} {base : Nat} {e : TypeId} {s : Nat} {v : Value} {n : Nat} {f : Nat → Nat} (h : Own w base e s v n f) {p : Addr} (hp : p.block < base) (u : Value) : Own (w.setCell p u) base e s v n f := ownsRow_setCell_below h hp u
theorem Blk.range {w : World} {g : Nat} {t : TypeId} {n : Nat} {c : Nat → Value} (h : Blk w g t (row n c)) : w.rangeAt g 0 (row n c).toList := fun j v hv => by
  rw [Nat.zero_add, h.cell]; simpa using hv
theorem below_setCells {B : Nat} {a : World} (b : Nat) (hb : B ≤ b) : ∀ (vs : List Value) (o : Nat) (w : World), Below B a w → Below B a (w.setCells b o vs)
  | [], _, _, h => h
  | v :: r, o, w, h => by rw [World.setCells]; exact below_setCells b hb r (o + 1) _ (h.setCell (by simpa using hb) v)
/-! what a drawn region keeps: the cells l of block g; all that was there when it began -/
section
variable {w2 W W' : World} {g : Nat} {l : List Value}
theorem keep_start (h : w2.rangeAt g 0 l) : w2.drew.rangeAt g 0 l ∧ Below w2.heap.size w2 w2.drew := ⟨by simpa using h, (Below.refl _ _).drew⟩
theorem keep_alloc (h : W.rangeAt g 0 l ∧ Below w2.heap.size w2 W) (o : Obj) : (W.alloc o).rangeAt g 0 l ∧ Below w2.heap.size w2 (W.alloc o) := ⟨World.rangeAt_alloc h.1 o, h.2.alloc h.2.size o⟩
theorem keep_call (hg : g < w2.heap.size) (h : W.rangeAt g 0 l ∧ Below w2.heap.size w2 W) (hb : Below W.heap.size W W') : W'.rangeAt g 0 l ∧ Below w2.heap.size w2 W' :=
  ⟨fun j v hv => (hb.cell (p := ⟨g, 0 + j, none⟩) (Nat.lt_of_lt_of_le hg h.2.size)).trans (h.1 j v hv), h.2.trans (hb.mono h.2.size)⟩
theorem keep_cells (hg : g < w2.heap.size) (h : W.rangeAt g 0 l ∧ Below w2.heap.size w2 W) {b : Nat} (hb : w2.heap.size ≤ b) (o : Nat) (vs : List Value) : (W.setCells b o vs).rangeAt g 0 l ∧ Below w2.heap.size w2 (W.setCells b o vs) :=
  ⟨World.rangeAt_setCells_apart h.1 b o vs (.inl (by omega)), below_setCells b hb vs o _ h.2⟩
end
/-- a new zero array, at one operation -/
theorem wp_new {P : Program} {o : Oper} {a : Act} {w : World} {K : Act → World → Prop} {Q : Exit → Act → World → Prop} (t : TypeId) (ho : o.op = .alloc t) (cs : Array Value) (hz : (P.info? t).map (·.zero) = some (some (.agg cs)))
    (h : K (a.put o.dst (.pointer (some ⟨w.heap.size, 0, none⟩))) (w.alloc (.cells cs t))) : o.wp P a w K Q := by
  have hz' : (zeroValue t).run P w = .ok (.agg cs) w := by
    cases hq : P.info? t with
    | none => simp [hq] at hz
    | some i => simp [hq] at hz; simp [zeroValue, typeInfo, hq, hz]
  unfold Oper.wp execOp
  simp only [ho, Instr.alloc, Sem.run_bind, hz', Result.andThen_ok]
  exact h
/-- a call of a Go function by its contract, at one operation -/
theorem wp_go {P : Program} {o : Oper} {a : Act} {w : World} {K : Act → World → Prop} {Q : Exit → Act → World → Prop} (f : Nat) (vs : Array Value) (he : (execOp a.eval o).run P w = .ok (.enter f vs) w) (v : World → Value → Prop)
    (hc : Calls P f vs w fun e w' => ∃ x, e = .returned x ∧ v w' x) (h : ∀ w' x, v w' x → K (a.put o.dst x) w') : o.wp P a w K Q := by
  unfold Oper.wp
  simp only [he]
  exact hc.mono fun e w' ⟨x, he, hx⟩ => by subst he; exact h w' x hx
/-! ### arrays of bytes compared -/
def eqB (n : Nat) (f g : Nat → Nat) : Bool := (List.range n).all fun i => f i == g i
theorem eqB_true {n : Nat} {f g : Nat → Nat} (h : ∀ i, i < n → f i = g i) : eqB n f g = true := by
  unfold eqB; rw [List.all_eq_true]; intro i hi; simp [h i (List.mem_range.1 hi)]
theorem eqB_iff {n : Nat} {f g : Nat → Nat} : eqB n f g = true ↔ ∀ i, i < n → f i = g i := by
  refine ⟨fun h i hi => ?_, eqB_true⟩
  unfold eqB at h; rw [List.all_eq_true] at h
  simpa using h i (List.mem_range.2 hi)
theorem run_equalIn_row {P : Program} (w : World) (d : Nat) (t e : TypeId) (n : Nat) (ht : P.underlying t = some (.array n e)) (he : P.underlying e = some (.int .u8)) (hs : (P.info? e).map (·.size) = some 1) (f g : Nat → Nat) :
    (Op.equalIn (d + 2) t (.agg (row n (b8 f))) (.agg (row n (b8 g)))).run P w = .ok (eqB n f g) w := by
  unfold eqB
  rw [List.range_eq_range', Op.equalIn]
  simp only [Sem.run_bind, run_underlying ht, Result.andThen_ok, run_size hs, Std.Legacy.Range.forIn_eq_forIn_range', Std.Legacy.Range.size, Nat.sub_zero, Nat.add_sub_cancel, Nat.div_one]
  have hl : ∀ i ∈ List.range' 0 n 1, i < n := fun i hi => by simpa using (List.mem_range'_1.1 hi).2
  generalize List.range' 0 n 1 = l at hl ⊢
  induction l with
  | nil => simp
  | cons i l ih =>
    have hi : i < n := hl i (by simp)
    have px : (part e (row n (b8 f)) (i * 1)).run P w = .ok (b8 f i) w := by
      simp [part, isAgg, run_underlying he, row_get _ _ _ hi]
    have py : (part e (row n (b8 g)) (i * 1)).run P w = .ok (b8 g i) w := by
      simp [part, isAgg, run_underlying he, row_get _ _ _ hi]
    have pe : (Op.equalIn (d + 1) e (b8 f i) (b8 g i)).run P w = .ok (f i == g i) w := by
      unfold b8
      rw [run_equalIn_int w d e .u8 .u8 _ _ he]
      congr 1
      rw [Bool.eq_iff_iff]
      simp only [beq_iff_eq]
      omega
    simp only [List.forIn_cons, Sem.run_bind, px, py, pe, Result.andThen_ok, List.all_cons]
    cases hb : (f i == g i)
    · simp
    · simp only [Bool.not_true, Bool.false_eq_true, if_false, Sem.run_pure, Result.andThen_ok, Bool.true_and]
      exact ih fun j hj => hl j (by simp [hj])
theorem run_eql_row {P : Program} (w : World) (t e : TypeId) (n : Nat) (ht : P.underlying t = some (.array n e)) (he : P.underlying e = some (.int .u8)) (hs : (P.info? e).map (·.size) = some 1) (f g : Nat → Nat) :
    (binOp .eql t (.agg (row n (b8 f))) (.agg (row n (b8 g)))).run P w = .ok (.bool (eqB n f g)) w := by
  rw [run_eql_struct, run_equalIn_row w 9998 t e n ht he hs f g]
  rfl
/-! ### operations under a guard that says yes -/
section
variable {P : Program} {ops : Array Oper} {rest : List Oper} {o : Oper} {a : Act} {w : World}
theorem wpg_val {Q : Exit → Act → World → Prop} (hw : Region.wanted o (yielded ops a.tmps) = true) (v : Value) (hr : (execOp a.eval o).run P w = .ok (.value v) w) (h : wpList P ops Q rest (a.put o.dst v) w) : wpList P ops Q (o :: rest) a w := by
  refine wpList_step fun K hK => ?_
  rw [if_pos hw]
  unfold Oper.wp
  simp only [hr]
  exact hK _ _ h
theorem wpsg_val {Q : Act → Prop} (hw : Region.wanted o (yielded ops a.tmps) = true) (v : Value) (hr : (execOp a.eval o).run P w = .ok (.value v) w) (h : wpStill P ops w Q rest (a.put o.dst v)) : wpStill P ops w Q (o :: rest) a := by
  refine wpStill_step fun K hK => ?_
  rw [if_pos hw]
  simp only [Oper.still, hr, Oper.stillUpon_value]
  exact hK _ h
theorem exec_load (ty : TypeId) (x : Operand) (ho : o.op = .load ty x) (g : Nat) (hx : a.eval x = .pointer (some ⟨g, 0, none⟩)) (t : TypeId) (n : Nat) (c : Nat → Value) (hg : Blk w g t (row n c)) (e : TypeId) (hu : P.underlying ty = some (.array n e)) (hi : (P.info? ty).map (·.size) = some n) :
    (execOp a.eval o).run P w = .ok (.value (.agg (row n c))) w := by
  unfold execOp
  simp only [ho, hx, Instr.loadAt, Instr.sureAddr, Sem.run_bind, Sem.run_pure, Result.andThen_ok, run_loadVar_row (P := P) w g t ty (row n c) (0, 0) _ hg hu rfl (by rw [row_size]; exact hi)]
theorem exec_eq (ty : TypeId) (x y : Operand) (rt : TypeId) (ho : o.op = .binOp .eql ty x y rt) (n : Nat) (f g : Nat → Nat) (hx : a.eval x = .agg (row n (b8 f))) (hy : a.eval y = .agg (row n (b8 g))) (e : TypeId)
    (ht : P.underlying ty = some (.array n e)) (he : P.underlying e = some (.int .u8)) (hs : (P.info? e).map (·.size) = some 1) (hm : P.eqGuardType P.depth ty = false) :
    (execOp a.eval o).run P w = .ok (.value (.bool (eqB n f g))) w := by
  unfold execOp
  simp only [ho, hx, hy, Sem.run_bind, run_eqGuard_agg w .eql ty x y _ _ hm, run_eql_row w ty e n ht he hs f g, Sem.run_pure, Result.andThen_ok]
theorem exec_move (x : Operand) (ho : o.op = .move x) (v : Value) (hx : a.eval x = v) : (execOp a.eval o).run P w = .ok (.value v) w := by
  subst hx; unfold execOp; simp only [ho]; rfl
theorem exec_assign (x : Operand) (ho : o.op = .assign x) (v : Value) (hx : a.eval x = v) : (execOp a.eval o).run P w = .ok (.value v) w := by
  subst hx; unfold execOp; simp only [ho]; rfl
theorem exec_extract (x : Operand) (i : Nat) (ho : o.op = .extract x i) (vs : Array Value) (hx : a.eval x = .tuple vs) (v : Value) (hv : vs[i]? = some v) : (execOp a.eval o).run P w = .ok (.value v) w := by
  unfold execOp; simp [ho, hx, Instr.extract, hv]
theorem exec_build0 (ty : TypeId) (ho : o.op = .build ty #[]) (cs : Array Value) (hb : P.built ty [] = some cs) : (execOp a.eval o).run P w = .ok (.value (.agg cs)) w := by
  have e := run_build (P := P) w ty #[] cs hb
  unfold execOp
  simp only [ho, List.map_toArray, List.map_nil, e, Sem.run_bind, Sem.run_pure, Result.andThen_ok]
end
/-- where an element of a slice of one-cell elements lies -/
theorem wpl_sl1 {P : Program} {ops : Array Oper} {rest : List Oper} {o : Oper} {a : Act} {w : World} {Q : Exit → Act → World → Prop} (hgd : o.guard = none) (ty : TypeId) (x ix : Operand) (ho : o.op = .indexAddr ty x ix) (ad : Addr) (n c : Nat) (hx : a.eval x = .slice (some ad) n c)
    (kd : IntKind) (z : Int) (hix : a.eval ix = .int kd z) (k : Nat) (hz : z = (k : Int)) (e : TypeId) (hu : P.underlying ty = some (.slice e)) (hk : k < n) (hs : (P.info? e).map (·.size) = some 1)
    (h : wpList P ops Q rest (a.put o.dst (.pointer (some (ad.add k)))) w) : wpList P ops Q (o :: rest) a w := by
  refine wpl_sl hgd ty x ix ho ad n c hx kd z hix k hz e hu hk 1 hs ?_
  rw [Nat.mul_one]
  exact h
end Go.Proofs.YtdodflnmhgnpeaaGreatDoor.Mem
