/-
  Memory by whole blocks: a block that is an array of one-cell values, its loads and stores; a byte slice that reads as a function.
-/
import Derived.Test.YtdodflnmhgnpeaaGreatDoorRows
import Derived.WalkKit
import Derived.ProofKit
import Derived.OpenShut
import Derived.Outline
import Derived.WalkLawsBesides
import Derived.Deep.QuietTactic
import Derived.Deep.WholeRow
import Derived.Deep.Draws
import Derived.Deep.OwnRows
import Derived.BigQuiet
import Derived.IntWalk
import Derived.StillTailTactics
import Derived.Laws.CopyOwn
namespace Go.Proofs.YtdodflnmhgnpeaaGreatDoor.Mem
open Go.ChangeShapes Go.WideShapes Go.ChangeAt Go.RowKit

theorem hid {p : Prop} (h : p) : Hid p := h
theorem val_int {k : IntKind} {a b : Int} (h : a = b) : Value.int k a = Value.int k b := by rw [h]
theorem ret_int {k : IntKind} {a b : Int} (h : a = b) : Ending.returned (.int k a) = .returned (.int k b) := by rw [h]

/-- n one-cell values, the i-th is c i -/
def row (n : Nat) (c : Nat → Value) : Array Value := Array.ofFn (n := n) fun i => c i
/-- bytes as values -/
def b8 (f : Nat → Nat) : Nat → Value := fun i => .int .u8 ((f i : Nat) : Int)
def upd {α : Type} (f : Nat → α) (k : Nat) (v : α) : Nat → α := fun i => if i = k then v else f i
theorem row_size (n : Nat) (c : Nat → Value) : (row n c).size = n := by simp [row]
theorem row_get (n : Nat) (c : Nat → Value) (i : Nat) (h : i < n) : (row n c)[i]? = some (c i) := by
  simp [row, h]
theorem row_none (n : Nat) (c : Nat → Value) (i : Nat) (h : n ≤ i) : (row n c)[i]? = none := by
  rw [Array.getElem?_eq_none]; rw [row_size]; exact h
theorem row_ext {n : Nat} {c d : Nat → Value} (h : ∀ i, i < n → c i = d i) : row n c = row n d := by
  apply Array.ext_getElem?
  intro i
  by_cases hi : i < n
  · rw [row_get _ _ _ hi, row_get _ _ _ hi, h i hi]
  · rw [row_none _ _ _ (by omega), row_none _ _ _ (by omega)]
theorem row_of {n : Nat} {c : Nat → Value} {cs : Array Value} (hs : cs.size = n) (h : ∀ i, i < n → cs[i]? = some (c i)) : cs = row n c := by
  apply Array.ext_getElem?
  intro i
  by_cases hi : i < n
  · rw [row_get _ _ _ hi, h i hi]
  · rw [row_none _ _ _ (by omega), Array.getElem?_eq_none (by omega)]
theorem row_set (n : Nat) (c : Nat → Value) (k : Nat) (v : Value) : (row n c).setIfInBounds k v = row n (upd c k v) := by
  apply row_of (by simp [row_size])
  intro i hi
  rw [Array.getElem?_setIfInBounds, row_size, row_get _ _ _ hi]
  unfold upd
  by_cases h : k = i
  · subst h; simp [hi]
  · simp [h, show i ≠ k by omega]
theorem upd_b8 (f : Nat → Nat) (k v : Nat) : upd (b8 f) k (.int .u8 ((v : Nat) : Int)) = b8 (upd f k v) := by
  funext i; unfold upd b8; by_cases h : i = k <;> simp [h]
theorem upd_same {α : Type} (f : Nat → α) (k : Nat) (v : α) : upd f k v k = v := by simp [upd]
theorem upd_other {α : Type} (f : Nat → α) (k : Nat) (v : α) (i : Nat) (h : i ≠ k) : upd f k v i = f i := by simp [upd, h]
theorem row_b8_ext {n : Nat} {f g : Nat → Nat} (h : ∀ i, i < n → f i = g i) : row n (b8 f) = row n (b8 g) :=
  row_ext fun i hi => by unfold b8; rw [h i hi]
theorem row_b8_inj {n : Nat} {f g : Nat → Nat} (h : row n (b8 f) = row n (b8 g)) (i : Nat) (hi : i < n) : f i = g i := by
  have e := congrArg (fun a : Array Value => a[i]?) h
  simp only [row_get _ _ _ hi, b8, Option.some.injEq, Value.int.injEq, true_and] at e
  omega
theorem one_b8 (n : Nat) (f : Nat → Nat) : (row n (b8 f)).all (·.oneCell') = true := by
  rw [Array.all_eq_true_iff_forall_mem]
  intro x hx
  rw [Array.mem_iff_getElem?] at hx
  obtain ⟨i, hi⟩ := hx
  by_cases h : i < n
  · rw [row_get _ _ _ h] at hi; injection hi with hi; subst hi; rfl
  · rw [row_none _ _ _ (by omega)] at hi; cases hi

/-- block g of the world is these cells, none of them frozen -/
def Blk (w : World) (g : Nat) (t : TypeId) (cs : Array Value) : Prop := w.heap[g]? = some (.cells cs t (0, 0))
section
variable {w w' : World} {g : Nat} {t : TypeId} {cs : Array Value}
theorem Blk.out (h : Blk w g t cs) : w.heap[g]? = some (.cells cs t (0, 0)) := h
theorem Blk.lt (h : Blk w g t cs) : g < w.heap.size := by
  apply Classical.byContradiction
  intro hn
  have := h.out
  rw [Array.getElem?_eq_none (by omega)] at this
  cases this
theorem Blk.cell (h : Blk w g t cs) (i : Nat) : w.cell? ⟨g, i, none⟩ = cs[i]? := cell_of_row w g i cs t (0, 0) h
theorem Blk.free (h : Blk w g t cs) (i : Nat) : w.frozen? ⟨g, i, none⟩ = false := frozen_of_row w g i cs t h
theorem Blk.fresh (w : World) (t : TypeId) (cs : Array Value) : Blk (w.alloc (.cells cs t)) w.heap.size t cs := heap_alloc_new w _
theorem Blk.alloc (h : Blk w g t cs) (o : Obj) : Blk (w.alloc o) g t cs := (Below.heap_alloc w o g h.lt).trans h
theorem Blk.drewN (h : Blk w g t cs) (n : Nat) : Blk (w.drewN n) g t cs := h
theorem Blk.setCell (h : Blk w g t cs) (i : Nat) (v : Value) : Blk (w.setCell ⟨g, i, none⟩ v) g t (cs.setIfInBounds i v) := heap_setCell_same w g i cs t v h
theorem Blk.other (h : Blk w g t cs) (a : Addr) (v : Value) (hne : g ≠ a.block) : Blk (w.setCell a v) g t cs := (heap_setCell_other w a g v hne).trans h
theorem Blk.setRow (h : Blk w g t cs) (ds : Array Value) : Blk (w.setRow g ds) g t ds := setRow_heap w g cs ds t _ h
theorem Blk.otherRow (h : Blk w g t cs) (k : Nat) (ds : Array Value) (hne : g ≠ k) : Blk (w.setRow k ds) g t cs := (setRow_other w k g ds hne).trans h
theorem Blk.below {B : Nat} (h : Blk w g t cs) (hb : Below B w w') (hg : g < B) : Blk w' g t cs := (hb.block g hg).trans h
theorem Blk.grown {k : Option Nat} (h : Blk w g t cs) (hb : w.grownBy w' k) (hg : some g ≠ k) : Blk w' g t cs := (hb.block g h.lt hg).trans h
end
theorem below_setRow' {B : Nat} {a w : World} (h : Below B a w) {g : Nat} (hg : B ≤ g) (cs : Array Value) : Below B a (w.setRow g cs) :=
  h.trans ⟨rfl, rfl, rfl, by simp, fun k hk => setRow_other w g k cs (by omega)⟩
theorem below_drewN {B : Nat} {a w : World} (h : Below B a w) (n : Nat) : Below B a (w.drewN n) := ⟨h.os, h.tape, h.output, h.size, h.block⟩

section
variable {P : Program} {ops : Array Oper} {rest : List Oper} {o : Oper} {a : Act} {w : World} {Q : Exit → Act → World → Prop}
/-- a new zero array -/
theorem wpl_alloc (hgd : o.guard = none) (t : TypeId) (ho : o.op = .alloc t) (cs : Array Value) (hz : (P.info? t).map (·.zero) = some (some (.agg cs)))
    (h : wpList P ops Q rest (a.put o.dst (.pointer (some ⟨w.heap.size, 0, none⟩))) (w.alloc (.cells cs t))) : wpList P ops Q (o :: rest) a w := by
  refine wpList_plain hgd fun _ hK => ?_
  have hz' : (zeroValue t).run P w = .ok (.agg cs) w := by
    cases hq : P.info? t with
    | none => simp [hq] at hz
    | some i => simp [hq] at hz; simp [zeroValue, typeInfo, hq, hz]
  unfold Oper.wp execOp
  simp only [ho, Instr.alloc, Sem.run_bind, hz', Result.andThen_ok]
  exact hK _ _ h
/-- a whole array out of its block -/
theorem wpl_load (hgd : o.guard = none) (ty : TypeId) (x : Operand) (ho : o.op = .load ty x) (g : Nat) (hx : a.eval x = .pointer (some ⟨g, 0, none⟩)) (t : TypeId) (cs : Array Value) (hg : Blk w g t cs)
    (n : Nat) (e : TypeId) (hu : P.underlying ty = some (.array n e)) (hi : (P.info? ty).map (·.size) = some cs.size)
    (h : wpList P ops Q rest (a.put o.dst (.agg cs)) w) : wpList P ops Q (o :: rest) a w :=
  wpList_load_row hgd ty x ho g hx t cs (0, 0) _ hg hu rfl hi h
/-- a whole array into its block -/
theorem wpl_store (hgd : o.guard = none) (ty : TypeId) (x y : Operand) (ho : o.op = .store ty x y) (g : Nat) (cells : Array Value) (hx : a.eval x = .pointer (some ⟨g, 0, none⟩)) (hy : a.eval y = .agg cells)
    (t : TypeId) (old : Array Value) (hg : Blk w g t old) (hi : (P.info? ty).map (·.size) = some cells.size) (hold : old.size = cells.size) (h1 : cells.all (·.oneCell') = true)
    (h : wpList P ops Q rest (a.put o.dst undef) (w.setRow g cells)) : wpList P ops Q (o :: rest) a w :=
  wpList_plain hgd fun _ hK => wp_store_row ty x y ho g cells hx hy t old hg hi hold h1 (hK _ _ h)
end

/-- the byte slice at A, of n bytes, reads as f; it lies below block B -/
def Reads (w : World) (B : Nat) (A : Option Addr) (n : Nat) (f : Nat → Nat) : Prop :=
  0 < n → ∃ ad, A = some ad ∧ ad.block < B ∧ ∀ i, i < n → w.cell? (ad.add i) = some (.int .u8 ((f i : Nat) : Int))
theorem add_block (a : Addr) (n : Nat) : (a.add n).block = a.block := by unfold Addr.add; split <;> rfl
theorem add_add (a : Addr) (i j : Nat) : (a.add i).add j = a.add (i + j) := by
  unfold Addr.add
  by_cases hi : i = 0
  · subst hi; simp
  · by_cases hj : j = 0
    · subst hj; simp [hi]
    · simp [hi, hj, Nat.add_assoc]
theorem add_zero_off (g i : Nat) : (⟨g, 0, none⟩ : Addr).add i = ⟨g, i, none⟩ := by unfold Addr.add; split <;> simp_all
section
variable {w w' : World} {B B' n : Nat} {A : Option Addr} {f : Nat → Nat}
theorem Reads.keep (h : Reads w B A n f) (hk : ∀ p : Addr, p.block < B → w'.cell? p = w.cell? p) : Reads w' B A n f := fun hn => by
  obtain ⟨ad, e, hb, hc⟩ := h hn
  exact ⟨ad, e, hb, fun i hi => (hk _ (by rw [add_block]; exact hb)).trans (hc i hi)⟩
theorem Reads.more (h : Reads w B A n f) (hB : B ≤ B') : Reads w B' A n f := fun hn => by
  obtain ⟨ad, e, hb, hc⟩ := h hn
  exact ⟨ad, e, by omega, hc⟩
theorem Reads.below (h : Reads w B A n f) (hb : Below B w w') : Reads w' B A n f := h.keep fun _ hp => hb.cell hp
theorem Reads.drewN (h : Reads w B A n f) (k : Nat) : Reads (w.drewN k) B A n f := h
theorem Reads.ext {g : Nat → Nat} (h : Reads w B A n f) (hfg : ∀ i, i < n → f i = g i) : Reads w B A n g := fun hn => by
  obtain ⟨ad, e, hb, hc⟩ := h hn
  exact ⟨ad, e, hb, fun i hi => by rw [← hfg i hi]; exact hc i hi⟩
theorem Reads.less {m : Nat} (h : Reads w B A n f) (hm : m ≤ n) : Reads w B A m f := fun hn => by
  obtain ⟨ad, e, hb, hc⟩ := h (by omega)
  exact ⟨ad, e, hb, fun i hi => hc i (by omega)⟩
theorem Reads.cut (h : Reads w B A n f) {k cap : Nat} (hk : k ≤ n) (hc : n ≤ cap) :
    Reads w B (if cap = k then A else A.map (·.add k)) (n - k) (fun i => f (k + i)) := fun hn => by
  obtain ⟨ad, rfl, hb, hcell⟩ := h (by omega)
  rw [if_neg (by omega)]
  exact ⟨ad.add k, rfl, by rw [add_block]; exact hb, fun i hi => by rw [add_add]; exact hcell _ (by omega)⟩
end
theorem Blk.reads {w : World} {g : Nat} {t : TypeId} {n : Nat} {f : Nat → Nat} (h : Blk w g t (row n (b8 f))) : Reads w w.heap.size (some ⟨g, 0, none⟩) n f := fun _ =>
  ⟨_, rfl, h.lt, fun i hi => by rw [add_zero_off, h.cell, row_get _ _ _ hi]; rfl⟩
/-- what append has made reads as its cells do -/
theorem own_reads {w : World} {base : Nat} {e : TypeId} {A : Option Addr} {n c : Nat} {f : Nat → Nat} (h : w.ownsRow base e 1 (.slice A n c) n ((List.range n).map (b8 f))) : Reads w w.heap.size A n f := fun hn => by
  rcases h.2 with ⟨_, h0⟩ | ⟨g, cap, cur, hv, _, hg, hnc, _, hs, ht⟩
  · omega
  · have hA : A = some ⟨g, 0, none⟩ := by injection hv
    subst hA
    have hgl : g < w.heap.size := by
      apply Classical.byContradiction
      intro hlt
      rw [Array.getElem?_eq_none (by omega)] at hg
      cases hg
    refine ⟨_, rfl, hgl, fun i hi => ?_⟩
    rw [add_zero_off, cell_of_row w g i cur e _ hg]
    have e1 := congrArg (fun l : List Value => l[i]?) ht
    simp only [List.getElem?_take, Nat.mul_one, hi, if_true, List.getElem?_map, List.getElem?_range, Option.map_some, Array.getElem?_toList] at e1
    exact e1
section
variable {P : Program} {ops : Array Oper} {rest : List Oper} {o : Oper} {a : Act} {w : World} {Q : Exit → Act → World → Prop}
theorem run_size {e : TypeId} {n : Nat} (hs : (P.info? e).map (·.size) = some n) (w : World) : (sizeOf e).run P w = .ok n w := by
  cases hq : P.info? e with
  | none => simp [hq] at hs
  | some i => simp [hq] at hs; simp [sizeOf, typeInfo, hq, hs]
/-- an element of an array that is a value -/
theorem wpl_index (hgd : o.guard = none) (ty : TypeId) (x ix : Operand) (ho : o.op = .index ty x ix) (cs : Array Value) (hx : a.eval x = .agg cs) (kd : IntKind) (z : Int) (hix : a.eval ix = .int kd z) (k : Nat) (hz : z = (k : Int))
    (n : Nat) (e : TypeId) (hu : P.underlying ty = some (.array n e)) (hk : k < n) (kd' : IntKind) (he : P.underlying e = some (.int kd')) (hs : (P.info? e).map (·.size) = some 1) (v : Value) (hv : cs[k]? = some v)
    (h : wpList P ops Q rest (a.put o.dst v) w) : wpList P ops Q (o :: rest) a w := by
  subst hz
  refine wpList_plain hgd fun _ hK => ?_
  have hr : (Instr.index ty (.agg cs) (.int kd (k : Int))).run P w = .ok v w := by
    simp [Instr.index, asIntOf, Sem.run_bind, run_underlying hu, run_size hs, show ¬ n ≤ k by omega, part, isAgg, run_underlying he, hv]
  unfold Oper.wp execOp
  simp only [ho, hx, hix, hr, Sem.run_bind, Sem.run_pure, Result.andThen_ok]
  exact hK _ _ h
/-- where an element of an array lies, the array at the head of a block -/
theorem wpl_at (hgd : o.guard = none) (ty : TypeId) (x ix : Operand) (ho : o.op = .indexAddr ty x ix) (g : Nat) (hx : a.eval x = .pointer (some ⟨g, 0, none⟩)) (kd : IntKind) (z : Int) (hix : a.eval ix = .int kd z) (k : Nat) (hz : z = (k : Int))
    (n : Nat) (e : TypeId) (hu : P.underlying ty = some (.array n e)) (hk : k < n) (hs : (P.info? e).map (·.size) = some 1)
    (h : wpList P ops Q rest (a.put o.dst (.pointer (some ⟨g, k, none⟩))) w) : wpList P ops Q (o :: rest) a w := by
  subst hz
  refine wpList_plain hgd fun _ hK => ?_
  have hr : (Instr.indexAt ty (.pointer (some ⟨g, 0, none⟩)) (.int kd (k : Int))).run P w = .ok (.pointer (some ⟨g, k, none⟩)) w := by
    simp [Instr.indexAt, Instr.sureAddr, asIntOf, Sem.run_bind, run_underlying hu, run_size hs, show ¬ n ≤ k by omega, add_zero_off]
  unfold Oper.wp execOp
  simp only [ho, hx, hix, hr, Sem.run_bind, Sem.run_pure, Result.andThen_ok]
  exact hK _ _ h
/-- where an element of a slice lies -/
theorem wpl_sl (hgd : o.guard = none) (ty : TypeId) (x ix : Operand) (ho : o.op = .indexAddr ty x ix) (ad : Addr) (n c : Nat) (hx : a.eval x = .slice (some ad) n c) (kd : IntKind) (z : Int) (hix : a.eval ix = .int kd z) (k : Nat) (hz : z = (k : Int))
    (e : TypeId) (hu : P.underlying ty = some (.slice e)) (hk : k < n) (sz : Nat) (hs : (P.info? e).map (·.size) = some sz)
    (h : wpList P ops Q rest (a.put o.dst (.pointer (some (ad.add (k * sz))))) w) : wpList P ops Q (o :: rest) a w := by
  subst hz
  refine wpList_plain hgd fun _ hK => ?_
  have hr : (Instr.indexAt ty (.slice (some ad) n c) (.int kd (k : Int))).run P w = .ok (.pointer (some (ad.add (k * sz)))) w := by
    simp [Instr.indexAt, asIntOf, Sem.run_bind, run_underlying hu, run_size hs, show ¬ n ≤ k by omega]
  unfold Oper.wp execOp
  simp only [ho, hx, hix, hr, Sem.run_bind, Sem.run_pure, Result.andThen_ok]
  exact hK _ _ h
/-- an integer out of its cell -/
theorem wpl_ld (hgd : o.guard = none) (ty : TypeId) (x : Operand) (ho : o.op = .load ty x) (p : Addr) (hx : a.eval x = .pointer (some p)) (kd : IntKind) (hu : P.underlying ty = some (.int kd)) (v : Value) (hv : w.cell? p = some v)
    (h : wpList P ops Q rest (a.put o.dst v) w) : wpList P ops Q (o :: rest) a w := by
  refine wpList_plain hgd fun _ hK => ?_
  have hr : (Instr.loadAt ty (.pointer (some p))).run P w = .ok v w := by
    simp [Instr.loadAt, Instr.sureAddr, loadVar, isAgg, Sem.run_bind, run_underlying hu, hv]
  unfold Oper.wp execOp
  simp only [ho, hx, hr, Sem.run_bind, Sem.run_pure, Result.andThen_ok]
  exact hK _ _ h
/-- an integer into its cell -/
theorem wpl_st (hgd : o.guard = none) (ty : TypeId) (x y : Operand) (ho : o.op = .store ty x y) (p : Addr) (hx : a.eval x = .pointer (some p)) (kd : IntKind) (n : Int) (hy : a.eval y = .int kd n)
    (hs : (P.info? ty).map (·.size) = some 1) (old : Value) (hc : w.cell? p = some old) (hf : w.frozen? p = false)
    (h : wpList P ops Q rest (a.put o.dst undef) (w.setCell p (.int kd n))) : wpList P ops Q (o :: rest) a w := by
  refine wpList_plain hgd fun _ hK => ?_
  have hr : (Instr.storeAt ty (.pointer (some p)) (.int kd n)).run P w = .ok () (w.setCell p (.int kd n)) := by
    have h1 : (store p (.int kd n)).run P w = .ok () (w.setCell p (.int kd n)) := by rw [run_store P w p _ _ (by rfl)]; simp [hc, hf]
    have h0 : p.add 0 = p := by simp [Addr.add]
    simp [Instr.storeAt, Instr.sureAddr, storeVar, Value.cells, Sem.run_bind, run_size hs, storeCells, h0, h1]
  unfold Oper.wp execOp
  simp only [ho, hx, hy, Sem.run_bind, hr, Sem.run_pure, Result.andThen_ok]
  exact hK _ _ h
end
/-! ### the same inside a region that draws its order ('wpStill') -/
section
variable {P : Program} {ops : Array Oper} {rest : List Oper} {o : Oper} {a : Act} {w : World} {Q : Act → Prop}
theorem wps_val (hgd : o.guard = none) (v : Value) (hr : (execOp a.eval o).run P w = .ok (.value v) w) (h : wpStill P ops w Q rest (a.put o.dst v)) : wpStill P ops w Q (o :: rest) a := by
  refine wpStill_step fun K hK => ?_
  simp only [Region.wanted, hgd, if_true, Oper.still, hr, Oper.stillUpon_value]
  exact hK _ h
theorem wps_at (hgd : o.guard = none) (ty : TypeId) (x ix : Operand) (ho : o.op = .indexAddr ty x ix) (g : Nat) (hx : a.eval x = .pointer (some ⟨g, 0, none⟩)) (kd : IntKind) (z : Int) (hix : a.eval ix = .int kd z) (k : Nat) (hz : z = (k : Int))
    (n : Nat) (e : TypeId) (hu : P.underlying ty = some (.array n e)) (hk : k < n) (hs : (P.info? e).map (·.size) = some 1)
    (h : wpStill P ops w Q rest (a.put o.dst (.pointer (some ⟨g, k, none⟩)))) : wpStill P ops w Q (o :: rest) a := by
  subst hz
  refine wps_val hgd _ ?_ h
  have hr : (Instr.indexAt ty (.pointer (some ⟨g, 0, none⟩)) (.int kd (k : Int))).run P w = .ok (.pointer (some ⟨g, k, none⟩)) w := by
    simp [Instr.indexAt, Instr.sureAddr, asIntOf, Sem.run_bind, run_underlying hu, run_size hs, show ¬ n ≤ k by omega, add_zero_off]
  unfold execOp
  simp only [ho, hx, hix, hr, Sem.run_bind, Sem.run_pure, Result.andThen_ok]
theorem wps_sl (hgd : o.guard = none) (ty : TypeId) (x ix : Operand) (ho : o.op = .indexAddr ty x ix) (ad : Addr) (n c : Nat) (hx : a.eval x = .slice (some ad) n c) (kd : IntKind) (z : Int) (hix : a.eval ix = .int kd z) (k : Nat) (hz : z = (k : Int))
    (e : TypeId) (hu : P.underlying ty = some (.slice e)) (hk : k < n) (sz : Nat) (hs : (P.info? e).map (·.size) = some sz)
    (h : wpStill P ops w Q rest (a.put o.dst (.pointer (some (ad.add (k * sz)))))) : wpStill P ops w Q (o :: rest) a := by
  subst hz
  refine wps_val hgd _ ?_ h
  have hr : (Instr.indexAt ty (.slice (some ad) n c) (.int kd (k : Int))).run P w = .ok (.pointer (some (ad.add (k * sz)))) w := by
    simp [Instr.indexAt, asIntOf, Sem.run_bind, run_underlying hu, run_size hs, show ¬ n ≤ k by omega]
  unfold execOp
  simp only [ho, hx, hix, hr, Sem.run_bind, Sem.run_pure, Result.andThen_ok]
theorem wps_ld (hgd : o.guard = none) (ty : TypeId) (x : Operand) (ho : o.op = .load ty x) (p : Addr) (hx : a.eval x = .pointer (some p)) (kd : IntKind) (hu : P.underlying ty = some (.int kd)) (v : Value) (hv : w.cell? p = some v)
    (h : wpStill P ops w Q rest (a.put o.dst v)) : wpStill P ops w Q (o :: rest) a := by
  refine wps_val hgd _ ?_ h
  have hr : (Instr.loadAt ty (.pointer (some p))).run P w = .ok v w := by
    simp [Instr.loadAt, Instr.sureAddr, loadVar, isAgg, Sem.run_bind, run_underlying hu, hv]
  unfold execOp
  simp only [ho, hx, hr, Sem.run_bind, Sem.run_pure, Result.andThen_ok]
end
theorem wrap_i64 (x y : Int) (h : x = y) (h1 : -9223372036854775808 ≤ y) (h2 : y < 9223372036854775808) : IntKind.i64.wrap x = y := by
  subst h; exact IntWalk.i64_in _ (by omega)
theorem made_b8 (n : Nat) : madeCells #[Value.int .u8 0] n = row n (b8 fun _ => 0) := by
  apply row_of
  · simp [madeCells]
  · intro i hi
    simp [madeCells, hi, b8, Nat.mod_one]
section
variable {P : Program} {ops : Array Oper} {rest : List Oper} {o : Oper} {a : Act} {w : World} {Q : Exit → Act → World → Prop}
/-- make([]byte, n) -/
theorem wpl_make (hgd : o.guard = none) (t e : TypeId) (l c : Operand) (ho : o.op = .makeSlice t l c) (ht : P.underlying t = some (.slice e)) (hinfo : (P.info? e).map (fun i => (i.zero, i.size, i.bytes)) = some (some (.int .u8 0), 1, 1))
    (kl kc : IntKind) (y z : Int) (hl : a.eval l = .int kl y) (hc : a.eval c = .int kc z) (n : Nat) (hy : y = (n : Int)) (hz : z = (n : Int)) (hn : n ≤ 281474976710656)
    (h : wpList P ops Q rest (a.put o.dst (.slice (some ⟨w.heap.size, 0, none⟩) n n)) (w.alloc (.cells (row n (b8 fun _ => 0)) e))) : wpList P ops Q (o :: rest) a w := by
  subst hy; subst hz
  refine wpList_plain hgd fun _ hK => ?_
  have hr := run_make_row' (P := P) t e (.int .u8 0) 1 ht hinfo rfl kl kc n (by omega) (by omega) w
  rw [made_b8] at hr
  unfold Oper.wp execOp
  simp only [ho, hl, hc, hr, Sem.run_bind, Sem.run_pure, Result.andThen_ok]
  exact hK _ _ h
/-- copy of a byte slice to the head of a block that is not shorter -/
theorem wpl_copy (hgd : o.guard = none) (d s : Operand) (dT sT : TypeId) (ho : o.op = .call { callee := .builtin .copy, args := #[d, s], argTypes := #[dT, sT] }) (e : TypeId) (hu : P.underlying dT = some (.slice e)) (hsz : (P.info? e).map (·.size) = some 1)
    (g n dc : Nat) (A : Option Addr) (m sc : Nat) (hd : a.eval d = .slice (some ⟨g, 0, none⟩) n dc) (hs : a.eval s = .slice A m sc) (t : TypeId) (f k : Nat → Nat) (hg : Blk w g t (row n (b8 f))) (B : Nat) (hk : Reads w B A m k) (hm0 : 0 < m) (hm : m ≤ n)
    (h : wpList P ops Q rest (a.put o.dst (.int .i64 (m : Int))) (w.setRow g (row n (b8 fun i => if i < m then k i else f i)))) : wpList P ops Q (o :: rest) a w := by
  obtain ⟨ad, rfl, _, hc⟩ := hk hm0
  refine wpList_copy_own hgd d s dT sT ho e hu hsz g 0 n dc ad m sc hd hs (row n (b8 f)) t hg ((List.range m).map (b8 k)) (by simp [Nat.min_eq_left hm]) ?_ (by simp [row_size]; exact hm) ?_ ?_
  · intro j v hv
    by_cases hj : j < m
    · simp [hj] at hv; subst hv; exact hc j hj
    · rw [List.getElem?_eq_none (by simp; omega)] at hv; cases hv
  · intro v hv
    simp only [List.mem_map] at hv
    obtain ⟨i, _, rfl⟩ := hv
    rfl
  · have e1 : ((row n (b8 f)).toList.take 0 ++ ((List.range m).map (b8 k) ++ (row n (b8 f)).toList.drop (0 + ((List.range m).map (b8 k)).length))).toArray = row n (b8 fun i => if i < m then k i else f i) := by
      apply row_of
      · simp [row_size]; omega
      · intro i hi
        simp only [List.take_zero, List.nil_append, List.length_map, List.length_range, Nat.zero_add, List.getElem?_toArray]
        by_cases him : i < m
        · rw [List.getElem?_append_left (by simp; exact him)]
          simp [him, b8]
        · rw [List.getElem?_append_right (by simp; omega)]
          simp only [List.length_map, List.length_range, List.getElem?_drop, Array.getElem?_toList]
          rw [show m + (i - m) = i by omega, row_get _ _ _ hi]
          simp [him, b8]
    rw [e1]
    simpa [goInt] using h
end
theorem Blk.put {w : World} {g : Nat} {t : TypeId} {n : Nat} {m : Nat → Nat} (h : Blk w g t (row n (b8 m))) (k v : Nat) : Blk (w.setCell ⟨g, k, none⟩ (.int .u8 ((v : Nat) : Int))) g t (row n (b8 (upd m k v))) := by
  have := h.setCell k (.int .u8 ((v : Nat) : Int))
  rwa [row_set, upd_b8] at this
theorem Blk.val {w : World} {g : Nat} {t : TypeId} {n : Nat} {m : Nat → Nat} (h : Blk w g t (row n (b8 m))) (k : Nat) (hk : k < n) : w.cell? ⟨g, k, none⟩ = some (.int .u8 ((m k : Nat) : Int)) :=
  (h.cell k).trans (row_get n _ k hk)
theorem row_val (n : Nat) (f : Nat → Nat) (k : Nat) (h : k < n) : (row n (b8 f))[k]? = some (.int .u8 ((f k : Nat) : Int)) := row_get n _ k h
theorem fill_step {m F f : Nat → Nat} {k : Nat} (h : ∀ j, m j = if j < k then F j else f j) : ∀ j, upd m k (F k) j = if j < k + 1 then F j else f j := by
  intro j
  by_cases hj : j = k
  · subst hj; simp [upd]
  · rw [upd_other _ _ _ _ hj, h j]
    by_cases h2 : j < k
    · simp [h2, show j < k + 1 by omega]
    · simp [h2, show ¬ j < k + 1 by omega]
theorem fill_end {m F f : Nat → Nat} {k n : Nat} (h : ∀ j, m j = if j < k then F j else f j) (hk : n ≤ k) : ∀ j, j < n → m j = F j := by
  intro j hj
  rw [h j, if_pos (by omega)]
theorem ret_row {P : Program} {fn : Func} {p : Tmp} {ty : TypeId} {R : Ending → World → Prop} {a : Act} {w : World} (h : fn.results = #[.cell p ty]) (hd : a.defers = []) (g : Nat) (hp : a.tmps.getD p undef = .pointer (some ⟨g, 0, none⟩))
    (t : TypeId) (n : Nat) (c : Nat → Value) (hg : Blk w g t (row n c)) (e : TypeId) (hu : P.underlying ty = some (.array n e)) (hi : (P.info? ty).map (·.size) = some n) (hR : R (.returned (.agg (row n c))) w) : bodyPost P fn R .ret a w :=
  bodyPost_ret (results_cell_row h _ _ g t _ (0, 0) _ hp hg hu rfl (by rw [row_size]; exact hi)) hd hR
theorem ret_agg {n : Nat} {f g : Nat → Nat} (h : ∀ i, i < n → f i = g i) : Ending.returned (.agg (row n (b8 f))) = .returned (.agg (row n (b8 g))) := by rw [row_b8_ext h]
theorem row4 (f : Nat → Nat) (a b c d : Int) (ha : a = (f 0 : Nat)) (hb : b = (f 1 : Nat)) (hc : c = (f 2 : Nat)) (hd : d = (f 3 : Nat)) : #[Value.int .u8 a, .int .u8 b, .int .u8 c, .int .u8 d] = row 4 (b8 f) := by
  subst ha; subst hb; subst hc; subst hd
  apply row_of (by rfl)
  intro i hi
  match i, hi with
  | 0, _ => rfl
  | 1, _ => rfl
  | 2, _ => rfl
  | 3, _ => rfl
  | n + 4, h => omega
/-- four bytes made an array -/
theorem run_build4 {P : Program} {ty : TypeId} (hb : ∀ x y z u : Int, P.built ty [(0, .int .u8 x), (1, .int .u8 y), (2, .int .u8 z), (3, .int .u8 u)] = some #[.int .u8 x, .int .u8 y, .int .u8 z, .int .u8 u])
    (f : Nat → Nat) (x y z u : Int) (h0 : x = (f 0 : Nat)) (h1 : y = (f 1 : Nat)) (h2 : z = (f 2 : Nat)) (h3 : u = (f 3 : Nat)) (w : World) :
    (Instr.build ty #[(0, .int .u8 x), (1, .int .u8 y), (2, .int .u8 z), (3, .int .u8 u)]).run P w = .ok (.agg (row 4 (b8 f))) w := by
  rw [← row4 f x y z u h0 h1 h2 h3]
  exact run_build w ty _ _ (hb x y z u)
section
variable {P : Program} {ops : Array Oper} {rest : List Oper} {o : Oper} {a : Act} {w : World}
theorem wpl_build4 {Q : Exit → Act → World → Prop} (hgd : o.guard = none) (ty : TypeId) (p q r s : Operand) (ho : o.op = .build ty #[(0, p), (1, q), (2, r), (3, s)]) (f : Nat → Nat) (x y z u : Int)
    (hp : a.eval p = .int .u8 x) (hq : a.eval q = .int .u8 y) (hr : a.eval r = .int .u8 z) (hs : a.eval s = .int .u8 u)
    (h0 : x = (f 0 : Nat)) (h1 : y = (f 1 : Nat)) (h2 : z = (f 2 : Nat)) (h3 : u = (f 3 : Nat))
    (hb : ∀ x y z u : Int, P.built ty [(0, .int .u8 x), (1, .int .u8 y), (2, .int .u8 z), (3, .int .u8 u)] = some #[.int .u8 x, .int .u8 y, .int .u8 z, .int .u8 u])
    (h : wpList P ops Q rest (a.put o.dst (.agg (row 4 (b8 f)))) w) : wpList P ops Q (o :: rest) a w := by
  refine wpList_plain hgd fun _ hK => ?_
  have e := run_build4 hb f x y z u h0 h1 h2 h3 w
  unfold Oper.wp execOp
  simp only [ho, List.map_toArray, List.map_cons, List.map_nil, hp, hq, hr, hs, e, Sem.run_bind, Sem.run_pure, Result.andThen_ok]
  exact hK _ _ h
theorem wps_build4 {Q : Act → Prop} (hgd : o.guard = none) (ty : TypeId) (p q r s : Operand) (ho : o.op = .build ty #[(0, p), (1, q), (2, r), (3, s)]) (f : Nat → Nat) (x y z u : Int)
    (hp : a.eval p = .int .u8 x) (hq : a.eval q = .int .u8 y) (hr : a.eval r = .int .u8 z) (hs : a.eval s = .int .u8 u)
    (h0 : x = (f 0 : Nat)) (h1 : y = (f 1 : Nat)) (h2 : z = (f 2 : Nat)) (h3 : u = (f 3 : Nat))
    (hb : ∀ x y z u : Int, P.built ty [(0, .int .u8 x), (1, .int .u8 y), (2, .int .u8 z), (3, .int .u8 u)] = some #[.int .u8 x, .int .u8 y, .int .u8 z, .int .u8 u])
    (h : wpStill P ops w Q rest (a.put o.dst (.agg (row 4 (b8 f))))) : wpStill P ops w Q (o :: rest) a := by
  refine wps_val hgd _ ?_ h
  have e := run_build4 hb f x y z u h0 h1 h2 h3 w
  unfold execOp
  simp only [ho, List.map_toArray, List.map_cons, List.map_nil, hp, hq, hr, hs, e, Sem.run_bind, Sem.run_pure, Result.andThen_ok]
/-- a whole array into the block that was made last -/
theorem wpl_store_new {Q : Exit → Act → World → Prop} (hgd : o.guard = none) (ty : TypeId) (x y : Operand) (ho : o.op = .store ty x y) (v : World) (old : Array Value) (n : Nat) (f : Nat → Nat) (hx : a.eval x = .pointer (some ⟨v.heap.size, 0, none⟩)) (hy : a.eval y = .agg (row n (b8 f)))
    (t : TypeId) (hi : (P.info? ty).map (·.size) = some n) (hold : old.size = n)
    (h : wpList P ops Q rest (a.put o.dst undef) (v.alloc (.cells (row n (b8 f)) t))) : wpList P ops Q (o :: rest) a (v.alloc (.cells old t)) := by
  refine wpl_store hgd ty x y ho v.heap.size _ hx hy t old (Blk.fresh _ _ _) (by rw [row_size]; exact hi) (by rw [row_size]; exact hold) (one_b8 _ _) ?_
  rwa [World.setRow_alloc_new]
end
/-- where an element of a slice of one-cell elements lies, the slice at the head of a block -/
theorem wpl_slb {P : Program} {ops : Array Oper} {rest : List Oper} {o : Oper} {a : Act} {w : World} {Q : Exit → Act → World → Prop} (hgd : o.guard = none) (ty : TypeId) (x ix : Operand) (ho : o.op = .indexAddr ty x ix) (g n c : Nat) (hx : a.eval x = .slice (some ⟨g, 0, none⟩) n c)
    (kd : IntKind) (z : Int) (hix : a.eval ix = .int kd z) (k : Nat) (hz : z = (k : Int)) (e : TypeId) (hu : P.underlying ty = some (.slice e)) (hk : k < n) (hs : (P.info? e).map (·.size) = some 1)
    (h : wpList P ops Q rest (a.put o.dst (.pointer (some ⟨g, k, none⟩))) w) : wpList P ops Q (o :: rest) a w := by
  refine wpl_sl hgd ty x ix ho ⟨g, 0, none⟩ n c hx kd z hix k hz e hu hk 1 hs ?_
  rw [Nat.mul_one, add_zero_off]
  exact h
/-- two results: a whole array and a slot -/
theorem ret_row_tmp {P : Program} {fn : Func} {p q : Tmp} {ty : TypeId} {R : Ending → World → Prop} {a : Act} {w : World} (h : fn.results = #[.cell p ty, .tmp q]) (hd : a.defers = []) (g : Nat) (hp : a.tmps.getD p undef = .pointer (some ⟨g, 0, none⟩)) (v : Value) (hq : a.tmps.getD q undef = v)
    (t : TypeId) (n : Nat) (c : Nat → Value) (hg : Blk w g t (row n c)) (e : TypeId) (hu : P.underlying ty = some (.array n e)) (hi : (P.info? ty).map (·.size) = some n) (hR : R (.returned (.tuple #[.agg (row n c), v])) w) : bodyPost P fn R .ret a w := by
  refine bodyPost_ret ?_ hd hR
  have hl := run_loadVar_row (P := P) w g t ty (row n c) (0, 0) _ hg hu rfl (by rw [row_size]; exact hi)
  have hp' : a.tmps[p]?.getD undef = .pointer (some ⟨g, 0, none⟩) := by simpa using hp
  have hq' : a.tmps[q]?.getD undef = v := by simpa using hq
  simp [results, h, hp', hq', asAddr, hl]
/-- the zero array, built -/
theorem wpl_build0 {P : Program} {ops : Array Oper} {rest : List Oper} {o : Oper} {a : Act} {w : World} {Q : Exit → Act → World → Prop} (hgd : o.guard = none) (ty : TypeId) (ho : o.op = .build ty #[]) (cs : Array Value) (hb : P.built ty [] = some cs)
    (h : wpList P ops Q rest (a.put o.dst (.agg cs)) w) : wpList P ops Q (o :: rest) a w := by
  refine wpList_plain hgd fun _ hK => ?_
  have e := run_build (P := P) w ty #[] cs hb
  unfold Oper.wp execOp
  simp only [ho, List.map_toArray, List.map_nil, e, Sem.run_bind, Sem.run_pure, Result.andThen_ok]
  exact hK _ _ h
end Go.Proofs.YtdodflnmhgnpeaaGreatDoor.Mem
