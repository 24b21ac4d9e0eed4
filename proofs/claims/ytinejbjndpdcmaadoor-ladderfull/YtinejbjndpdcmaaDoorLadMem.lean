/-
 The terminal in memory: its cells, and what loads and stores of parts of it do.
-/
import Derived.Test.YtinejbjndpdcmaaDoorDk2
import Derived.Test.YtinejbjndpdcmaaDoorDraw
import Derived.Test.YtinejbjndpdcmaaDoorDesY
import Derived.Test.YtinejbjndpdcmaaDoorLadMath
import Derived.Laws.CopyRow
namespace Go.Proofs.YtinejbjndpdcmaaDoor.Lad
open Go.ChangeShapes Go.WideShapes Go.ChangeAt Go.RowKit Mem Dk
open Des (exec_loadR)
def gcell (b : Bool) (k : Nat → Nat) : Nat → Value := fun j => if j = 0 then .bool b else .int .u8 ((k (j - 1) : Nat) : Int)
def rcell (f : Nat → Bool) (k : Nat → Nat → Nat) : Nat → Value := fun j => gcell (f (j / 17)) (k (j / 17)) (j % 17)
def lcell (n : Nat → Nat) (c : Nat) (f : Nat → Bool) (k : Nat → Nat → Nat) : Nat → Value := fun j => if j < 10 then b8 n j else if j = 10 then .int .i64 (c : Int) else rcell f k (j - 11)
def LadAt (w : World) (g : Nat) (n : Nat → Nat) (c : Nat) (f : Nat → Bool) (k : Nat → Nat → Nat) : Prop := Blk w g 52 (row 368 (lcell n c f k))
def upd' {α : Type} (f : Nat → α) (p : Nat) (x : α) : Nat → α := fun i => if i = p then x else f i
theorem gcell_one (b : Bool) (k : Nat → Nat) (j : Nat) : (gcell b k j).oneCell' = true := by unfold gcell; split <;> rfl
theorem row_one (n : Nat) (F : Nat → Value) (h : ∀ i, i < n → (F i).oneCell' = true) : (row n F).all (·.oneCell') = true := by
 rw [Array.all_eq_true_iff_forall_mem]
 intro x hx
 rw [Array.mem_iff_getElem?] at hx
 obtain ⟨i, hi⟩ := hx
 by_cases h0 : i < n
 ·rw [row_get _ _ _ h0] at hi; injection hi with hi; subst hi; exact h i h0
 rw [row_none _ _ _ (by omega)] at hi; cases hi
theorem seg_row {n off m : Nat} {F G : Nat → Value} (h : off + m ≤ n) :
  ((row n F).toList.take off ++ (row m G).toList ++ (row n F).toList.drop (off + m)).toArray = row n (fun j => if off ≤ j ∧ j < off + m then G (j - off) else F j) := by
 have hF : (row n F).toList = (List.range n).map F := by
  apply List.ext_getElem?
  intro i
  rw [Array.getElem?_toList]
  by_cases hi : i < n
  ·rw [row_get _ _ _ hi]; simp [hi]
  rw [row_none _ _ _ (by omega), List.getElem?_eq_none (by simp; omega)]
 have hG : (row m G).toList = (List.range m).map G := by
  apply List.ext_getElem?
  intro i
  rw [Array.getElem?_toList]
  by_cases hi : i < m
  ·rw [row_get _ _ _ hi]; simp [hi]
  rw [row_none _ _ _ (by omega), List.getElem?_eq_none (by simp; omega)]
 refine row_of ?_ fun i hi => ?_
 ·simp [hF, hG]; omega
 rw [List.getElem?_toArray, hF, hG, List.getElem?_append, List.getElem?_append]
 simp only [List.length_append, List.length_take, List.length_map, List.length_range, List.getElem?_take, List.getElem?_drop]
 by_cases h1 : i < off
 ·rw [if_pos (by omega), if_pos (by omega), if_pos h1, if_neg (by omega)]; simp [hi]
 by_cases h2 : i < off + m
 ·rw [if_pos (by omega), if_neg (by omega), if_pos (by omega)]
  rw [show min off n = off by omega, List.getElem?_map, List.getElem?_range (by omega)]; rfl
 rw [if_neg (by omega), if_neg (by omega)]
 simp [show off + m + (i - (min off n + m)) = i by omega, hi]
section
variable {P : Program} {o : Oper} {a : Act} {w : World} {K : Act → World → Prop} {Q : Exit → Act → World → Prop} {ops : Array Oper} {rest : List Oper}
theorem run_seg (w : World) (g off : Nat) (t ty : TypeId) (n m : Nat) (F G : Nat → Value) (hg : Blk w g t (row n F)) (hi : (P.info? ty).map (·.size) = some m) (h : off + m ≤ n) (h1 : ∀ i, i < m → (G i).oneCell' = true) :
  (storeVar ty ⟨g, off, none⟩ (.agg (row m G))).run P w = .ok () (w.setRow g (row n (fun j => if off ≤ j ∧ j < off + m then G (j - off) else F j))) := by
 have hst := run_storeCells_at (P := P) g off t (row m G).toList 0 (row n F) w hg (by simp [row_size]; omega) (fun v hv => by
  have := row_one m G h1
  rw [Array.all_eq_true_iff_forall_mem] at this
  exact this v (by simpa using hv))
 simp only [Nat.add_zero, Array.length_toList, row_size] at hst
 rw [seg_row h] at hst
 unfold storeVar
 have hc : (Value.agg (row m G)).cells = row m G := rfl
 cases hq : P.info? ty with
 | none => simp [hq] at hi
 | some i =>
  have his : i.size = m := by simpa [hq] using hi
  simp [hc, sizeOf, typeInfo, hq, his, row_size, hst]
theorem wp_store_seg (ty : TypeId) (x y : Operand) (ho : o.op = .store ty x y) (g off : Nat) (t : TypeId) (n m : Nat) (F G : Nat → Value) (hx : a.eval x = .pointer (some ⟨g, off, none⟩)) (hy : a.eval y = .agg (row m G))
  (hg : Blk w g t (row n F)) (hi : (P.info? ty).map (·.size) = some m) (h : off + m ≤ n) (h1 : ∀ i, i < m → (G i).oneCell' = true)
  (hK : K (a.put o.dst undef) (w.setRow g (row n (fun j => if off ≤ j ∧ j < off + m then G (j - off) else F j)))) : o.wp P a w K Q := by
 unfold Oper.wp execOp
 simp only [ho, hx, hy, Instr.storeAt, Instr.sureAddr, Sem.run_bind, Sem.run_pure, Result.andThen_ok, run_seg w g off t ty n m F G hg hi h h1]
 exact hK
theorem wpl_store_seg (hgd : o.guard = none) (ty : TypeId) (x y : Operand) (ho : o.op = .store ty x y) (g off : Nat) (t : TypeId) (n m : Nat) (F G : Nat → Value) (hx : a.eval x = .pointer (some ⟨g, off, none⟩)) (hy : a.eval y = .agg (row m G))
  (hg : Blk w g t (row n F)) (hi : (P.info? ty).map (·.size) = some m) (h : off + m ≤ n) (h1 : ∀ i, i < m → (G i).oneCell' = true)
  (hK : wpList P ops Q rest (a.put o.dst undef) (w.setRow g (row n (fun j => if off ≤ j ∧ j < off + m then G (j - off) else F j)))) : wpList P ops Q (o :: rest) a w :=
 wpList_plain hgd fun _ hK2 => wp_store_seg ty x y ho g off t n m F G hx hy hg hi h h1 (hK2 _ _ hK)
theorem exec_loadV (ty : TypeId) (x : Operand) (ho : o.op = .load ty x) (p : Addr) (hx : a.eval x = .pointer (some p)) (n : Nat) (F : Nat → Value) (hc : ∀ i, i < n → w.cell? (p.add i) = some (F i))
  (hi : (P.info? ty).map (·.size) = some n) (hu2 : ∃ l e, P.underlying ty = some (.array l e)) : (execOp a.eval o).run P w = .ok (.value (.agg (row n F))) w := by
 obtain ⟨l, e, hu2⟩ := hu2
 have h := run_loadCells (P := P) w p n F hc
 have e1 : ((List.range n).map F).toArray = row n F := by
  apply row_of (by simp)
  intro i hi
  simp [hi]
 rw [e1] at h
 unfold execOp
 simp [ho, hx, Instr.loadAt, Instr.sureAddr, loadVar, isAgg, run_underlying hu2, run_size hi, h]
theorem run_iat (w : World) (ty : TypeId) (b : Addr) (kd : IntKind) (k n : Nat) (e : TypeId) (hu : P.underlying ty = some (.array n e)) (hk : k < n) (sz : Nat) (hs : (P.info? e).map (·.size) = some sz) :
  (Instr.indexAt ty (.pointer (some b)) (.int kd (k : Int))).run P w = .ok (.pointer (some (b.add (k * sz)))) w := by
 simp [Instr.indexAt, Instr.sureAddr, asIntOf, Sem.run_bind, run_underlying hu, run_size hs, show ¬ n ≤ k by omega]
theorem exec_iat (ty : TypeId) (x ix : Operand) (ho : o.op = .indexAddr ty x ix) (b : Addr) (hx : a.eval x = .pointer (some b)) (kd : IntKind) (z : Int) (hix : a.eval ix = .int kd z) (k : Nat) (hz : z = (k : Int))
  (n : Nat) (e : TypeId) (hu : P.underlying ty = some (.array n e)) (hk : k < n) (sz : Nat) (hs : (P.info? e).map (·.size) = some sz) : (execOp a.eval o).run P w = .ok (.value (.pointer (some (b.add (k * sz))))) w := by
 subst hz
 have hr := run_iat (P := P) w ty b kd k n e hu hk sz hs
 unfold execOp
 simp only [ho, hx, hix, hr, Sem.run_bind, Sem.run_pure, Result.andThen_ok]
end
theorem addr_lit (g a b : Nat) : (⟨g, a, none⟩ : Addr).add b = ⟨g, a + b, none⟩ := by unfold Addr.add; split <;> simp_all
theorem zlad : (Tryd.prog.info? 52).map (·.size) = some 368 := by kernel_rfl
theorem ireg : (Tryd.prog.info? 49).map (·.size) = some 17 := by kernel_rfl
theorem iareg : (Tryd.prog.info? 50).map (·.size) = some 357 := by kernel_rfl
theorem iint : (Tryd.prog.info? 3).map (·.size) = some 1 := by kernel_rfl
theorem builtReg (b : Bool) (k : Nat → Nat) : Tryd.prog.built 49 [(0, .bool b), (1, .agg (row 16 (b8 k)))] = some (row 17 (gcell b k)) := by kernel_rfl
theorem builtReg0 : Tryd.prog.built 49 [] = some (row 17 (gcell false fun _ => 0)) := by kernel_rfl
theorem builtLad (n : Nat → Nat) : Tryd.prog.built 52 [(0, .agg (row 10 (b8 n))), (1, .int .i64 1)] = some (row 368 (lcell n 1 (fun _ => false) fun _ _ => 0)) := by kernel_rfl
section
variable {w : World} {g c : Nat} {n : Nat → Nat} {f : Nat → Bool} {k : Nat → Nat → Nat}
theorem LadAt.blk (h : LadAt w g n c f k) : Blk w g 52 (row 368 (lcell n c f k)) := h
theorem LadAt.num (h : LadAt w g n c f k) (i : Nat) (hi : i < 10) : w.cell? ((⟨g, 0, none⟩ : Addr).add i) = some (.int .u8 ((n i : Nat) : Int)) := by
 rw [addr_lit, Nat.zero_add, h.blk.cell, row_get _ _ _ (by omega)]
 simp [lcell, hi, b8]
theorem LadAt.cnt (h : LadAt w g n c f k) : w.cell? ⟨g, 10, none⟩ = some (.int .i64 (c : Int)) := by
 rw [h.blk.cell, row_get _ _ _ (by omega)]
 simp [lcell]
theorem LadAt.regs (h : LadAt w g n c f k) (i : Nat) (hi : i < 357) : w.cell? ((⟨g, 11, none⟩ : Addr).add i) = some (rcell f k i) := by
 rw [addr_lit, h.blk.cell, row_get _ _ _ (by omega)]
 simp only [lcell]
 rw [if_neg (by omega), if_neg (by omega), show 11 + i - 11 = i by omega]
theorem LadAt.key (h : LadAt w g n c f k) (p : Nat) (hp : p < 21) (i : Nat) (hi : i < 16) : w.cell? ((⟨g, 11 + p * 17 + 1, none⟩ : Addr).add i) = some (.int .u8 ((k p i : Nat) : Int)) := by
 have := h.regs (p * 17 + 1 + i) (by omega)
 rw [addr_lit] at this ⊢
 rw [show 11 + p * 17 + 1 + i = 11 + (p * 17 + 1 + i) by omega, this]
 unfold rcell gcell
 rw [show (p * 17 + 1 + i) / 17 = p by omega, show (p * 17 + 1 + i) % 17 = i + 1 by omega]
 simp
theorem lrow_set (p : Nat) (b : Bool) (y : Nat → Nat) : row 368 (fun j => if 11 + p * 17 ≤ j ∧ j < 11 + p * 17 + 17 then gcell b y (j - (11 + p * 17)) else lcell n c f k j) = row 368 (lcell n c (upd' f p b) (upd' k p y)) := by
 refine row_ext fun j hj => ?_
 by_cases h : 11 + p * 17 ≤ j ∧ j < 11 + p * 17 + 17
 ·rw [if_pos h]
  unfold lcell rcell upd'
  rw [if_neg (by omega), if_neg (by omega), show (j - 11) / 17 = p by omega, show (j - 11) % 17 = j - (11 + p * 17) by omega, if_pos rfl, if_pos rfl]
 rw [if_neg h]
 unfold lcell
 by_cases h1 : j < 10
 ·rw [if_pos h1, if_pos h1]
 rw [if_neg h1, if_neg h1]
 by_cases h2 : j = 10
 ·rw [if_pos h2, if_pos h2]
 rw [if_neg h2, if_neg h2]
 unfold rcell upd'
 rw [if_neg (by omega), if_neg (by omega)]
theorem LadAt.set (h : LadAt w g n c f k) (p : Nat) (b : Bool) (y : Nat → Nat) : LadAt (w.setRow g (row 368 (fun j => if 11 + p * 17 ≤ j ∧ j < 11 + p * 17 + 17 then gcell b y (j - (11 + p * 17)) else lcell n c f k j))) g n c (upd' f p b) (upd' k p y) := by
 rw [lrow_set p b y]; exact h.blk.setRow _
theorem LadAt.ext {f' : Nat → Bool} {k' : Nat → Nat → Nat} (h : LadAt w g n c f k) (hf : ∀ i, i < 21 → f i = f' i) (hk : ∀ i, i < 21 → ∀ j, j < 16 → k i j = k' i j) : LadAt w g n c f' k' := by
 unfold LadAt at *
 rw [show row 368 (lcell n c f' k') = row 368 (lcell n c f k) from row_ext fun j hj => ?_]
 ·exact h
 unfold lcell rcell gcell
 by_cases h1 : j < 10
 ·rw [if_pos h1, if_pos h1]
 rw [if_neg h1, if_neg h1]
 by_cases h2 : j = 10
 ·rw [if_pos h2, if_pos h2]
 rw [if_neg h2, if_neg h2]
 by_cases h3 : (j - 11) % 17 = 0
 ·rw [if_pos h3, if_pos h3, hf _ (by omega)]
 rw [if_neg h3, if_neg h3, hk _ (by omega) _ (by omega)]
theorem LadAt.setCnt (h : LadAt w g n c f k) (d : Nat) : LadAt (w.setCell ⟨g, 10, none⟩ (.int .i64 (d : Int))) g n d f k := by
 have := h.blk.setCell 10 (.int .i64 (d : Int))
 unfold LadAt
 rw [row_set] at this
 rw [show row 368 (lcell n d f k) = row 368 (upd (lcell n c f k) 10 (.int .i64 (d : Int))) from row_ext fun j hj => ?_]
 ·exact this
 unfold upd lcell
 by_cases h2 : j = 10
 ·subst h2; simp
 rw [if_neg h2]; simp [h2]
end
end Go.Proofs.YtinejbjndpdcmaaDoor.Lad
