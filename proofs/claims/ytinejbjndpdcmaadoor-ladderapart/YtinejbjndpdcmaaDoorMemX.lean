/-
 Mem Mem2 Mem3 Mem4 Mem5 Open Open2 Strs
-/
import Derived.Test.YtinejbjndpdcmaaDoorRows
import Derived.WalkKit
import Derived.ProofKit
import Derived.OpenShut
import Derived.Outline
import Derived.WalkLawsBesides
import Derived.Deep.QuietTactic
import Derived.Deep.WholeRow
import Derived.Deep.Draws
import Derived.Deep.OwnRows
import Derived.BigQuiet
import Derived.IntWalk
import Derived.StillTailTactics
import Derived.Laws.CopyOwn
import Derived.Deep.MidRow
import Derived.Deep.RegionHeld3
import Derived.ChangeSame
import Derived.ChangeVars
import Derived.JoinedOf
import Derived.RowKit
import Derived.LaidLaws
import Derived.LaidHandle
import Derived.Stop.Joined
import Derived.ChangeOld
import Derived.Below
namespace Go.Proofs.YtinejbjndpdcmaaDoor.Mem
open Go.ChangeShapes Go.WideShapes Go.ChangeAt Go.RowKit
theorem zza {α : Type _} {xs : List α} {i : Nat} (h : i < xs.toArray.size) : xs.toArray[i] = xs[i]'(by simpa using h) := List.getElem_toArray h
theorem zzb {α : Type _} {a : α} {bs : List α} {h : 0 < (a :: bs).length} : (a :: bs)[0] = a := List.getElem_cons_zero _ _ _
theorem zzc {α : Type _} {a : α} {bs : List α} {i : Nat} {h : i + 1 < (a :: bs).length} : (a :: bs)[i + 1] = bs[i]'(by simpa using h) := List.getElem_cons_succ _ _ _ _
theorem zzd {α : Type _} {l : List α} {i : Nat} {a : α} : l.toArray.setIfInBounds i a = (l.set i a).toArray := List.setIfInBounds_toArray _ _ _
theorem zze {α : Type _} {x : α} {xs : List α} {a : α} : (x :: xs).set 0 a = a :: xs := List.set_cons_zero
theorem zzf {α : Type _} {x : α} {xs : List α} {i : Nat} {a : α} : (x :: xs).set (i + 1) a = x :: xs.set i a := List.set_cons_succ
theorem ztk {P : Program} {ops : Array Oper} {Q : Exit → Act → World → Prop} {md : Region.Mode} {S : World → Prop} {i : Nat} {oi : Oper} {v : Value} {fuel : Nat} {l : Array Bool} {a : Act} {w : World} (hi : ops[i]? = some oi)
    (hy : ∀ W, S W → (execOp a.eval oi).run P W = .ok (.value v) W) (hS : S w) (h : wpAnyH P md ops Q S fuel (l.setIfInBounds i true) (a.put oi.dst v) w)
    (hw : Region.wanted oi (yielded ops a.tmps) = true := by rfl) (hs : Region.noSelect ops = true := by kernel_rfl) (hf : Region.free md ops l i = true := by kernel_rfl) (hr : (Region.ready md ops l).contains i = true := by kernel_rfl)
    (hQ : ∀ c a w, Q (.panic c) (a.put oi.dst v) w → Q (.panic c) a w := by exact fun _ _ _ h => h) : wpAnyH P md ops Q S (fuel + 1) l a w :=
  wpAnyH_take hi hs hf hr hQ (Or.inl ⟨hw, hy⟩) hS h
theorem hid {p : Prop} (h : p) : Hid p := h
theorem val_int {k : IntKind} {a b : Int} (h : a = b) : Value.int k a = Value.int k b := by rw [h]
theorem ret_int {k : IntKind} {a b : Int} (h : a = b) : Ending.returned (.int k a) = .returned (.int k b) := by rw [h]
def row (n : Nat) (c : Nat → Value) : Array Value := Array.ofFn (n := n) fun i => c i
def b8 (f : Nat → Nat) : Nat → Value := fun i => .int .u8 ((f i : Nat) : Int)
def upd {α : Type} (f : Nat → α) (k : Nat) (v : α) : Nat → α := fun i => if i = k then v else f i
theorem row_size (n : Nat) (c : Nat → Value) : (row n c).size = n := by simp [row]
theorem row_get (n : Nat) (c : Nat → Value) (i : Nat) (h : i < n) : (row n c)[i]? = some (c i) := by
 simp [row, h]
theorem row_none (n : Nat) (c : Nat → Value) (i : Nat) (h : n ≤ i) : (row n c)[i]? = none := by
 rw [Array.getElem?_eq_none]; rw [row_size]; exact h
theorem row_ext {n : Nat} {c d : Nat → Value} (h : ∀ i, i < n → c i = d i) : row n c = row n d := by
 apply Array.ext_getElem?
 intro i
 by_cases hi : i < n
 ·rw [row_get _ _ _ hi, row_get _ _ _ hi, h i hi]
 rw [row_none _ _ _ (by omega), row_none _ _ _ (by omega)]
theorem row_of {n : Nat} {c : Nat → Value} {cs : Array Value} (hs : cs.size = n) (h : ∀ i, i < n → cs[i]? = some (c i)) : cs = row n c := by
 apply Array.ext_getElem?
 intro i
 by_cases hi : i < n
 ·rw [row_get _ _ _ hi, h i hi]
 rw [row_none _ _ _ (by omega), Array.getElem?_eq_none (by omega)]
theorem row_set (n : Nat) (c : Nat → Value) (k : Nat) (v : Value) : (row n c).setIfInBounds k v = row n (upd c k v) := by
 apply row_of (by simp [row_size])
 intro i hi
 rw [Array.getElem?_setIfInBounds, row_size, row_get _ _ _ hi]
 unfold upd
 by_cases h : k = i
 ·subst h; simp [hi]
 simp [h, show i ≠ k by omega]
theorem upd_b8 (f : Nat → Nat) (k v : Nat) : upd (b8 f) k (.int .u8 ((v : Nat) : Int)) = b8 (upd f k v) := by
 funext i; unfold upd b8; by_cases h : i = k <;> simp [h]
theorem upd_same {α : Type} (f : Nat → α) (k : Nat) (v : α) : upd f k v k = v := by simp [upd]
theorem upd_other {α : Type} (f : Nat → α) (k : Nat) (v : α) (i : Nat) (h : i ≠ k) : upd f k v i = f i := by simp [upd, h]
theorem row_b8_ext {n : Nat} {f g : Nat → Nat} (h : ∀ i, i < n → f i = g i) : row n (b8 f) = row n (b8 g) :=
 row_ext fun i hi => by unfold b8; rw [h i hi]
theorem row_b8_inj {n : Nat} {f g : Nat → Nat} (h : row n (b8 f) = row n (b8 g)) (i : Nat) (hi : i < n) : f i = g i := by
 have e := congrArg (fun a : Array Value => a[i]?) h
 simp only [row_get _ _ _ hi, b8, Option.some.injEq, Value.int.injEq, true_and] at e
 omega
theorem one_b8 (n : Nat) (f : Nat → Nat) : (row n (b8 f)).all (·.oneCell') = true := by
 rw [Array.all_eq_true_iff_forall_mem]
 intro x hx
 rw [Array.mem_iff_getElem?] at hx
 obtain ⟨i, hi⟩ := hx
 by_cases h : i < n
 ·rw [row_get _ _ _ h] at hi; injection hi with hi; subst hi; rfl
 rw [row_none _ _ _ (by omega)] at hi; cases hi
def Blk (w : World) (g : Nat) (t : TypeId) (cs : Array Value) : Prop := w.heap[g]? = some (.cells cs t (0, 0))
section
variable {w w' : World} {g : Nat} {t : TypeId} {cs : Array Value}
theorem Blk.out (h : Blk w g t cs) : w.heap[g]? = some (.cells cs t (0, 0)) := h
theorem Blk.lt (h : Blk w g t cs) : g < w.heap.size := by
 apply Classical.byContradiction
 intro hn
 have := h.out
 rw [Array.getElem?_eq_none (by omega)] at this
 cases this
theorem Blk.cell (h : Blk w g t cs) (i : Nat) : w.cell? ⟨g, i, none⟩ = cs[i]? := cell_of_row w g i cs t (0, 0) h
theorem Blk.free (h : Blk w g t cs) (i : Nat) : w.frozen? ⟨g, i, none⟩ = false := frozen_of_row w g i cs t h
theorem Blk.fresh (w : World) (t : TypeId) (cs : Array Value) : Blk (w.alloc (.cells cs t)) w.heap.size t cs := heap_alloc_new w _
theorem Blk.alloc (h : Blk w g t cs) (o : Obj) : Blk (w.alloc o) g t cs := (Below.heap_alloc w o g h.lt).trans h
theorem Blk.drewN (h : Blk w g t cs) (n : Nat) : Blk (w.drewN n) g t cs := h
theorem Blk.setCell (h : Blk w g t cs) (i : Nat) (v : Value) : Blk (w.setCell ⟨g, i, none⟩ v) g t (cs.setIfInBounds i v) := heap_setCell_same w g i cs t v h
theorem Blk.other (h : Blk w g t cs) (a : Addr) (v : Value) (hne : g ≠ a.block) : Blk (w.setCell a v) g t cs := (heap_setCell_other w a g v hne).trans h
theorem Blk.setRow (h : Blk w g t cs) (ds : Array Value) : Blk (w.setRow g ds) g t ds := setRow_heap w g cs ds t _ h
theorem Blk.otherRow (h : Blk w g t cs) (k : Nat) (ds : Array Value) (hne : g ≠ k) : Blk (w.setRow k ds) g t cs := (setRow_other w k g ds hne).trans h
theorem Blk.below {B : Nat} (h : Blk w g t cs) (hb : Below B w w') (hg : g < B) : Blk w' g t cs := (hb.block g hg).trans h
theorem Blk.grown {k : Option Nat} (h : Blk w g t cs) (hb : w.grownBy w' k) (hg : some g ≠ k) : Blk w' g t cs := (hb.block g h.lt hg).trans h
end
theorem below_setRow' {B : Nat} {a w : World} (h : Below B a w) {g : Nat} (hg : B ≤ g) (cs : Array Value) : Below B a (w.setRow g cs) :=
 h.trans ⟨rfl, rfl, rfl, by simp, fun k hk => setRow_other w g k cs (by omega)⟩
theorem below_drewN {B : Nat} {a w : World} (h : Below B a w) (n : Nat) : Below B a (w.drewN n) := ⟨h.os, h.tape, h.output, h.size, h.block⟩
section
variable {P : Program} {ops : Array Oper} {rest : List Oper} {o : Oper} {a : Act} {w : World} {Q : Exit → Act → World → Prop}
theorem wpl_alloc (hgd : o.guard = none) (t : TypeId) (ho : o.op = .alloc t) (cs : Array Value) (hz : (P.info? t).map (·.zero) = some (some (.agg cs)))
  (h : wpList P ops Q rest (a.put o.dst (.pointer (some ⟨w.heap.size, 0, none⟩))) (w.alloc (.cells cs t))) : wpList P ops Q (o :: rest) a w := by
 refine wpList_plain hgd fun _ hK => ?_
 have hz' : (zeroValue t).run P w = .ok (.agg cs) w := by
  cases hq : P.info? t with
  | none => simp [hq] at hz
  | some i => simp [hq] at hz; simp [zeroValue, typeInfo, hq, hz]
 unfold Oper.wp execOp
 simp only [ho, Instr.alloc, Sem.run_bind, hz', Result.andThen_ok]
 exact hK _ _ h
theorem wpl_load (hgd : o.guard = none) (ty : TypeId) (x : Operand) (ho : o.op = .load ty x) (g : Nat) (hx : a.eval x = .pointer (some ⟨g, 0, none⟩)) (t : TypeId) (cs : Array Value) (hg : Blk w g t cs)
  (n : Nat) (e : TypeId) (hu : P.underlying ty = some (.array n e)) (hi : (P.info? ty).map (·.size) = some cs.size)
  (h : wpList P ops Q rest (a.put o.dst (.agg cs)) w) : wpList P ops Q (o :: rest) a w :=
 wpList_load_row hgd ty x ho g hx t cs (0, 0) _ hg hu rfl hi h
theorem wpl_store (hgd : o.guard = none) (ty : TypeId) (x y : Operand) (ho : o.op = .store ty x y) (g : Nat) (cells : Array Value) (hx : a.eval x = .pointer (some ⟨g, 0, none⟩)) (hy : a.eval y = .agg cells)
  (t : TypeId) (old : Array Value) (hg : Blk w g t old) (hi : (P.info? ty).map (·.size) = some cells.size) (hold : old.size = cells.size) (h1 : cells.all (·.oneCell') = true)
  (h : wpList P ops Q rest (a.put o.dst undef) (w.setRow g cells)) : wpList P ops Q (o :: rest) a w :=
 wpList_plain hgd fun _ hK => wp_store_row ty x y ho g cells hx hy t old hg hi hold h1 (hK _ _ h)
end
def Reads (w : World) (B : Nat) (A : Option Addr) (n : Nat) (f : Nat → Nat) : Prop :=
 0 < n → ∃ ad, A = some ad ∧ ad.block < B ∧ ∀ i, i < n → w.cell? (ad.add i) = some (.int .u8 ((f i : Nat) : Int))
theorem add_block (a : Addr) (n : Nat) : (a.add n).block = a.block := by unfold Addr.add; split <;> rfl
theorem add_add (a : Addr) (i j : Nat) : (a.add i).add j = a.add (i + j) := by
 unfold Addr.add
 by_cases hi : i = 0
 ·subst hi; simp
 by_cases hj : j = 0
 ·subst hj; simp [hi]
 simp [hi, hj, Nat.add_assoc]
theorem add_zero_off (g i : Nat) : (⟨g, 0, none⟩ : Addr).add i = ⟨g, i, none⟩ := by unfold Addr.add; split <;> simp_all
section
variable {w w' : World} {B B' n : Nat} {A : Option Addr} {f : Nat → Nat}
theorem Reads.keep (h : Reads w B A n f) (hk : ∀ p : Addr, p.block < B → w'.cell? p = w.cell? p) : Reads w' B A n f := fun hn => by
 obtain ⟨ad, e, hb, hc⟩ := h hn
 exact ⟨ad, e, hb, fun i hi => (hk _ (by rw [add_block]; exact hb)).trans (hc i hi)⟩
theorem Reads.more (h : Reads w B A n f) (hB : B ≤ B') : Reads w B' A n f := fun hn => by
 obtain ⟨ad, e, hb, hc⟩ := h hn
 exact ⟨ad, e, by omega, hc⟩
theorem Reads.below (h : Reads w B A n f) (hb : Below B w w') : Reads w' B A n f := h.keep fun _ hp => hb.cell hp
theorem Reads.drewN (h : Reads w B A n f) (k : Nat) : Reads (w.drewN k) B A n f := h
theorem Reads.ext {g : Nat → Nat} (h : Reads w B A n f) (hfg : ∀ i, i < n → f i = g i) : Reads w B A n g := fun hn => by
 obtain ⟨ad, e, hb, hc⟩ := h hn
 exact ⟨ad, e, hb, fun i hi => by rw [← hfg i hi]; exact hc i hi⟩
theorem Reads.less {m : Nat} (h : Reads w B A n f) (hm : m ≤ n) : Reads w B A m f := fun hn => by
 obtain ⟨ad, e, hb, hc⟩ := h (by omega)
 exact ⟨ad, e, hb, fun i hi => hc i (by omega)⟩
theorem Reads.cut (h : Reads w B A n f) {k cap : Nat} (hk : k ≤ n) (hc : n ≤ cap) :
  Reads w B (if cap = k then A else A.map (·.add k)) (n - k) (fun i => f (k + i)) := fun hn => by
 obtain ⟨ad, rfl, hb, hcell⟩ := h (by omega)
 rw [if_neg (by omega)]
 exact ⟨ad.add k, rfl, by rw [add_block]; exact hb, fun i hi => by rw [add_add]; exact hcell _ (by omega)⟩
end
theorem Blk.reads {w : World} {g : Nat} {t : TypeId} {n : Nat} {f : Nat → Nat} (h : Blk w g t (row n (b8 f))) : Reads w w.heap.size (some ⟨g, 0, none⟩) n f := fun _ =>
 ⟨_, rfl, h.lt, fun i hi => by rw [add_zero_off, h.cell, row_get _ _ _ hi]; rfl⟩
theorem own_reads {w : World} {base : Nat} {e : TypeId} {A : Option Addr} {n c : Nat} {f : Nat → Nat} (h : w.ownsRow base e 1 (.slice A n c) n ((List.range n).map (b8 f))) : Reads w w.heap.size A n f := fun hn => by
 rcases h.2 with ⟨_, h0⟩ | ⟨g, cap, cur, hv, _, hg, hnc, _, hs, ht⟩
 ·omega
 have hA : A = some ⟨g, 0, none⟩ := by injection hv
 subst hA
 have hgl : g < w.heap.size := by
  apply Classical.byContradiction
  intro hlt
  rw [Array.getElem?_eq_none (by omega)] at hg
  cases hg
 refine ⟨_, rfl, hgl, fun i hi => ?_⟩
 rw [add_zero_off, cell_of_row w g i cur e _ hg]
 have e1 := congrArg (fun l : List Value => l[i]?) ht
 simp only [List.getElem?_take, Nat.mul_one, hi, if_true, List.getElem?_map, List.getElem?_range, Option.map_some, Array.getElem?_toList] at e1
 exact e1
section
variable {P : Program} {ops : Array Oper} {rest : List Oper} {o : Oper} {a : Act} {w : World} {Q : Exit → Act → World → Prop}
theorem run_size {e : TypeId} {n : Nat} (hs : (P.info? e).map (·.size) = some n) (w : World) : (sizeOf e).run P w = .ok n w := by
 cases hq : P.info? e with
 | none => simp [hq] at hs
 | some i => simp [hq] at hs; simp [sizeOf, typeInfo, hq, hs]
theorem wpl_index (hgd : o.guard = none) (ty : TypeId) (x ix : Operand) (ho : o.op = .index ty x ix) (cs : Array Value) (hx : a.eval x = .agg cs) (kd : IntKind) (z : Int) (hix : a.eval ix = .int kd z) (k : Nat) (hz : z = (k : Int))
  (n : Nat) (e : TypeId) (hu : P.underlying ty = some (.array n e)) (hk : k < n) (kd' : IntKind) (he : P.underlying e = some (.int kd')) (hs : (P.info? e).map (·.size) = some 1) (v : Value) (hv : cs[k]? = some v)
  (h : wpList P ops Q rest (a.put o.dst v) w) : wpList P ops Q (o :: rest) a w := by
 subst hz
 refine wpList_plain hgd fun _ hK => ?_
 have hr : (Instr.index ty (.agg cs) (.int kd (k : Int))).run P w = .ok v w := by
  simp [Instr.index, asIntOf, Sem.run_bind, run_underlying hu, run_size hs, show ¬ n ≤ k by omega, part, isAgg, run_underlying he, hv]
 unfold Oper.wp execOp
 simp only [ho, hx, hix, hr, Sem.run_bind, Sem.run_pure, Result.andThen_ok]
 exact hK _ _ h
theorem wpl_at (hgd : o.guard = none) (ty : TypeId) (x ix : Operand) (ho : o.op = .indexAddr ty x ix) (g : Nat) (hx : a.eval x = .pointer (some ⟨g, 0, none⟩)) (kd : IntKind) (z : Int) (hix : a.eval ix = .int kd z) (k : Nat) (hz : z = (k : Int))
  (n : Nat) (e : TypeId) (hu : P.underlying ty = some (.array n e)) (hk : k < n) (hs : (P.info? e).map (·.size) = some 1)
  (h : wpList P ops Q rest (a.put o.dst (.pointer (some ⟨g, k, none⟩))) w) : wpList P ops Q (o :: rest) a w := by
 subst hz
 refine wpList_plain hgd fun _ hK => ?_
 have hr : (Instr.indexAt ty (.pointer (some ⟨g, 0, none⟩)) (.int kd (k : Int))).run P w = .ok (.pointer (some ⟨g, k, none⟩)) w := by
  simp [Instr.indexAt, Instr.sureAddr, asIntOf, Sem.run_bind, run_underlying hu, run_size hs, show ¬ n ≤ k by omega, add_zero_off]
 unfold Oper.wp execOp
 simp only [ho, hx, hix, hr, Sem.run_bind, Sem.run_pure, Result.andThen_ok]
 exact hK _ _ h
theorem wpl_sl (hgd : o.guard = none) (ty : TypeId) (x ix : Operand) (ho : o.op = .indexAddr ty x ix) (ad : Addr) (n c : Nat) (hx : a.eval x = .slice (some ad) n c) (kd : IntKind) (z : Int) (hix : a.eval ix = .int kd z) (k : Nat) (hz : z = (k : Int))
  (e : TypeId) (hu : P.underlying ty = some (.slice e)) (hk : k < n) (sz : Nat) (hs : (P.info? e).map (·.size) = some sz)
  (h : wpList P ops Q rest (a.put o.dst (.pointer (some (ad.add (k * sz))))) w) : wpList P ops Q (o :: rest) a w := by
 subst hz
 refine wpList_plain hgd fun _ hK => ?_
 have hr : (Instr.indexAt ty (.slice (some ad) n c) (.int kd (k : Int))).run P w = .ok (.pointer (some (ad.add (k * sz)))) w := by
  simp [Instr.indexAt, asIntOf, Sem.run_bind, run_underlying hu, run_size hs, show ¬ n ≤ k by omega]
 unfold Oper.wp execOp
 simp only [ho, hx, hix, hr, Sem.run_bind, Sem.run_pure, Result.andThen_ok]
 exact hK _ _ h
theorem wpl_ld (hgd : o.guard = none) (ty : TypeId) (x : Operand) (ho : o.op = .load ty x) (p : Addr) (hx : a.eval x = .pointer (some p)) (kd : IntKind) (hu : P.underlying ty = some (.int kd)) (v : Value) (hv : w.cell? p = some v)
  (h : wpList P ops Q rest (a.put o.dst v) w) : wpList P ops Q (o :: rest) a w := by
 refine wpList_plain hgd fun _ hK => ?_
 have hr : (Instr.loadAt ty (.pointer (some p))).run P w = .ok v w := by
  simp [Instr.loadAt, Instr.sureAddr, loadVar, isAgg, Sem.run_bind, run_underlying hu, hv]
 unfold Oper.wp execOp
 simp only [ho, hx, hr, Sem.run_bind, Sem.run_pure, Result.andThen_ok]
 exact hK _ _ h
theorem wpl_st (hgd : o.guard = none) (ty : TypeId) (x y : Operand) (ho : o.op = .store ty x y) (p : Addr) (hx : a.eval x = .pointer (some p)) (kd : IntKind) (n : Int) (hy : a.eval y = .int kd n)
  (hs : (P.info? ty).map (·.size) = some 1) (old : Value) (hc : w.cell? p = some old) (hf : w.frozen? p = false)
  (h : wpList P ops Q rest (a.put o.dst undef) (w.setCell p (.int kd n))) : wpList P ops Q (o :: rest) a w := by
 refine wpList_plain hgd fun _ hK => ?_
 have hr : (Instr.storeAt ty (.pointer (some p)) (.int kd n)).run P w = .ok () (w.setCell p (.int kd n)) := by
  have h1 : (store p (.int kd n)).run P w = .ok () (w.setCell p (.int kd n)) := by rw [run_store P w p _ _ (by rfl)]; simp [hc, hf]
  have h0 : p.add 0 = p := by simp [Addr.add]
  simp [Instr.storeAt, Instr.sureAddr, storeVar, Value.cells, Sem.run_bind, run_size hs, storeCells, h0, h1]
 unfold Oper.wp execOp
 simp only [ho, hx, hy, Sem.run_bind, hr, Sem.run_pure, Result.andThen_ok]
 exact hK _ _ h
end
section
variable {P : Program} {ops : Array Oper} {rest : List Oper} {o : Oper} {a : Act} {w : World} {Q : Act → Prop}
theorem wps_val (hgd : o.guard = none) (v : Value) (hr : (execOp a.eval o).run P w = .ok (.value v) w) (h : wpStill P ops w Q rest (a.put o.dst v)) : wpStill P ops w Q (o :: rest) a := by
 refine wpStill_step fun K hK => ?_
 simp only [Region.wanted, hgd, if_true, Oper.still, hr, Oper.stillUpon_value]
 exact hK _ h
theorem wps_at (hgd : o.guard = none) (ty : TypeId) (x ix : Operand) (ho : o.op = .indexAddr ty x ix) (g : Nat) (hx : a.eval x = .pointer (some ⟨g, 0, none⟩)) (kd : IntKind) (z : Int) (hix : a.eval ix = .int kd z) (k : Nat) (hz : z = (k : Int))
  (n : Nat) (e : TypeId) (hu : P.underlying ty = some (.array n e)) (hk : k < n) (hs : (P.info? e).map (·.size) = some 1)
  (h : wpStill P ops w Q rest (a.put o.dst (.pointer (some ⟨g, k, none⟩)))) : wpStill P ops w Q (o :: rest) a := by
 subst hz
 refine wps_val hgd _ ?_ h
 have hr : (Instr.indexAt ty (.pointer (some ⟨g, 0, none⟩)) (.int kd (k : Int))).run P w = .ok (.pointer (some ⟨g, k, none⟩)) w := by
  simp [Instr.indexAt, Instr.sureAddr, asIntOf, Sem.run_bind, run_underlying hu, run_size hs, show ¬ n ≤ k by omega, add_zero_off]
 unfold execOp
 simp only [ho, hx, hix, hr, Sem.run_bind, Sem.run_pure, Result.andThen_ok]
theorem wps_sl (hgd : o.guard = none) (ty : TypeId) (x ix : Operand) (ho : o.op = .indexAddr ty x ix) (ad : Addr) (n c : Nat) (hx : a.eval x = .slice (some ad) n c) (kd : IntKind) (z : Int) (hix : a.eval ix = .int kd z) (k : Nat) (hz : z = (k : Int))
  (e : TypeId) (hu : P.underlying ty = some (.slice e)) (hk : k < n) (sz : Nat) (hs : (P.info? e).map (·.size) = some sz)
  (h : wpStill P ops w Q rest (a.put o.dst (.pointer (some (ad.add (k * sz)))))) : wpStill P ops w Q (o :: rest) a := by
 subst hz
 refine wps_val hgd _ ?_ h
 have hr : (Instr.indexAt ty (.slice (some ad) n c) (.int kd (k : Int))).run P w = .ok (.pointer (some (ad.add (k * sz)))) w := by
  simp [Instr.indexAt, asIntOf, Sem.run_bind, run_underlying hu, run_size hs, show ¬ n ≤ k by omega]
 unfold execOp
 simp only [ho, hx, hix, hr, Sem.run_bind, Sem.run_pure, Result.andThen_ok]
theorem wps_ld (hgd : o.guard = none) (ty : TypeId) (x : Operand) (ho : o.op = .load ty x) (p : Addr) (hx : a.eval x = .pointer (some p)) (kd : IntKind) (hu : P.underlying ty = some (.int kd)) (v : Value) (hv : w.cell? p = some v)
  (h : wpStill P ops w Q rest (a.put o.dst v)) : wpStill P ops w Q (o :: rest) a := by
 refine wps_val hgd _ ?_ h
 have hr : (Instr.loadAt ty (.pointer (some p))).run P w = .ok v w := by
  simp [Instr.loadAt, Instr.sureAddr, loadVar, isAgg, Sem.run_bind, run_underlying hu, hv]
 unfold execOp
 simp only [ho, hx, hr, Sem.run_bind, Sem.run_pure, Result.andThen_ok]
end
theorem wrap_i64 (x y : Int) (h : x = y) (h1 : -9223372036854775808 ≤ y) (h2 : y < 9223372036854775808) : IntKind.i64.wrap x = y := by
 subst h; exact IntWalk.i64_in _ (by omega)
theorem made_b8 (n : Nat) : madeCells #[Value.int .u8 0] n = row n (b8 fun _ => 0) := by
 apply row_of
 ·simp [madeCells]
 intro i hi
 simp [madeCells, hi, b8, Nat.mod_one]
section
variable {P : Program} {ops : Array Oper} {rest : List Oper} {o : Oper} {a : Act} {w : World} {Q : Exit → Act → World → Prop}
theorem wpl_make (hgd : o.guard = none) (t e : TypeId) (l c : Operand) (ho : o.op = .makeSlice t l c) (ht : P.underlying t = some (.slice e)) (hinfo : (P.info? e).map (fun i => (i.zero, i.size, i.bytes)) = some (some (.int .u8 0), 1, 1))
  (kl kc : IntKind) (y z : Int) (hl : a.eval l = .int kl y) (hc : a.eval c = .int kc z) (n : Nat) (hy : y = (n : Int)) (hz : z = (n : Int)) (hn : n ≤ 281474976710656)
  (h : wpList P ops Q rest (a.put o.dst (.slice (some ⟨w.heap.size, 0, none⟩) n n)) (w.alloc (.cells (row n (b8 fun _ => 0)) e))) : wpList P ops Q (o :: rest) a w := by
 subst hy; subst hz
 refine wpList_plain hgd fun _ hK => ?_
 have hr := run_make_row' (P := P) t e (.int .u8 0) 1 ht hinfo rfl kl kc n (by omega) (by omega) w
 rw [made_b8] at hr
 unfold Oper.wp execOp
 simp only [ho, hl, hc, hr, Sem.run_bind, Sem.run_pure, Result.andThen_ok]
 exact hK _ _ h
theorem wpl_copy (hgd : o.guard = none) (d s : Operand) (dT sT : TypeId) (ho : o.op = .call { callee := .builtin .copy, args := #[d, s], argTypes := #[dT, sT] }) (e : TypeId) (hu : P.underlying dT = some (.slice e)) (hsz : (P.info? e).map (·.size) = some 1)
  (g n dc : Nat) (A : Option Addr) (m sc : Nat) (hd : a.eval d = .slice (some ⟨g, 0, none⟩) n dc) (hs : a.eval s = .slice A m sc) (t : TypeId) (f k : Nat → Nat) (hg : Blk w g t (row n (b8 f))) (B : Nat) (hk : Reads w B A m k) (hm0 : 0 < m) (hm : m ≤ n)
  (h : wpList P ops Q rest (a.put o.dst (.int .i64 (m : Int))) (w.setRow g (row n (b8 fun i => if i < m then k i else f i)))) : wpList P ops Q (o :: rest) a w := by
 obtain ⟨ad, rfl, _, hc⟩ := hk hm0
 refine wpList_copy_own hgd d s dT sT ho e hu hsz g 0 n dc ad m sc hd hs (row n (b8 f)) t hg ((List.range m).map (b8 k)) (by simp [Nat.min_eq_left hm]) ?_ (by simp [row_size]; exact hm) ?_ ?_
 ·intro j v hv
  by_cases hj : j < m
  ·simp [hj] at hv; subst hv; exact hc j hj
  rw [List.getElem?_eq_none (by simp; omega)] at hv; cases hv
 ·intro v hv
  simp only [List.mem_map] at hv
  obtain ⟨i, _, rfl⟩ := hv
  rfl
 have e1 : ((row n (b8 f)).toList.take 0 ++ ((List.range m).map (b8 k) ++ (row n (b8 f)).toList.drop (0 + ((List.range m).map (b8 k)).length))).toArray = row n (b8 fun i => if i < m then k i else f i) := by
  apply row_of
  ·simp [row_size]; omega
  intro i hi
  simp only [List.take_zero, List.nil_append, List.length_map, List.length_range, Nat.zero_add, List.getElem?_toArray]
  by_cases him : i < m
  ·rw [List.getElem?_append_left (by simp; exact him)]
   simp [him, b8]
  rw [List.getElem?_append_right (by simp; omega)]
  simp only [List.length_map, List.length_range, List.getElem?_drop, Array.getElem?_toList]
  rw [show m + (i - m) = i by omega, row_get _ _ _ hi]
  simp [him, b8]
 rw [e1]
 simpa [goInt] using h
end
theorem Blk.put {w : World} {g : Nat} {t : TypeId} {n : Nat} {m : Nat → Nat} (h : Blk w g t (row n (b8 m))) (k v : Nat) : Blk (w.setCell ⟨g, k, none⟩ (.int .u8 ((v : Nat) : Int))) g t (row n (b8 (upd m k v))) := by
 have := h.setCell k (.int .u8 ((v : Nat) : Int))
 rwa [row_set, upd_b8] at this
theorem Blk.val {w : World} {g : Nat} {t : TypeId} {n : Nat} {m : Nat → Nat} (h : Blk w g t (row n (b8 m))) (k : Nat) (hk : k < n) : w.cell? ⟨g, k, none⟩ = some (.int .u8 ((m k : Nat) : Int)) :=
 (h.cell k).trans (row_get n _ k hk)
theorem row_val (n : Nat) (f : Nat → Nat) (k : Nat) (h : k < n) : (row n (b8 f))[k]? = some (.int .u8 ((f k : Nat) : Int)) := row_get n _ k h
theorem fill_step {m F f : Nat → Nat} {k : Nat} (h : ∀ j, m j = if j < k then F j else f j) : ∀ j, upd m k (F k) j = if j < k + 1 then F j else f j := by
 intro j
 by_cases hj : j = k
 ·subst hj; simp [upd]
 rw [upd_other _ _ _ _ hj, h j]
 by_cases h2 : j < k
 ·simp [h2, show j < k + 1 by omega]
 simp [h2, show ¬ j < k + 1 by omega]
theorem fill_end {m F f : Nat → Nat} {k n : Nat} (h : ∀ j, m j = if j < k then F j else f j) (hk : n ≤ k) : ∀ j, j < n → m j = F j := by
 intro j hj
 rw [h j, if_pos (by omega)]
theorem ret_row {P : Program} {fn : Func} {p : Tmp} {ty : TypeId} {R : Ending → World → Prop} {a : Act} {w : World} (h : fn.results = #[.cell p ty]) (hd : a.defers = []) (g : Nat) (hp : a.tmps.getD p undef = .pointer (some ⟨g, 0, none⟩))
  (t : TypeId) (n : Nat) (c : Nat → Value) (hg : Blk w g t (row n c)) (e : TypeId) (hu : P.underlying ty = some (.array n e)) (hi : (P.info? ty).map (·.size) = some n) (hR : R (.returned (.agg (row n c))) w) : bodyPost P fn R .ret a w :=
 bodyPost_ret (results_cell_row h _ _ g t _ (0, 0) _ hp hg hu rfl (by rw [row_size]; exact hi)) hd hR
theorem ret_agg {n : Nat} {f g : Nat → Nat} (h : ∀ i, i < n → f i = g i) : Ending.returned (.agg (row n (b8 f))) = .returned (.agg (row n (b8 g))) := by rw [row_b8_ext h]
theorem row4 (f : Nat → Nat) (a b c d : Int) (ha : a = (f 0 : Nat)) (hb : b = (f 1 : Nat)) (hc : c = (f 2 : Nat)) (hd : d = (f 3 : Nat)) : #[Value.int .u8 a, .int .u8 b, .int .u8 c, .int .u8 d] = row 4 (b8 f) := by
 subst ha; subst hb; subst hc; subst hd
 apply row_of (by rfl)
 intro i hi
 match i, hi with
 | 0, _ => rfl
 | 1, _ => rfl
 | 2, _ => rfl
 | 3, _ => rfl
 | n + 4, h => omega
theorem run_build4 {P : Program} {ty : TypeId} (hb : ∀ x y z u : Int, P.built ty [(0, .int .u8 x), (1, .int .u8 y), (2, .int .u8 z), (3, .int .u8 u)] = some #[.int .u8 x, .int .u8 y, .int .u8 z, .int .u8 u])
  (f : Nat → Nat) (x y z u : Int) (h0 : x = (f 0 : Nat)) (h1 : y = (f 1 : Nat)) (h2 : z = (f 2 : Nat)) (h3 : u = (f 3 : Nat)) (w : World) :
  (Instr.build ty #[(0, .int .u8 x), (1, .int .u8 y), (2, .int .u8 z), (3, .int .u8 u)]).run P w = .ok (.agg (row 4 (b8 f))) w := by
 rw [← row4 f x y z u h0 h1 h2 h3]
 exact run_build w ty _ _ (hb x y z u)
section
variable {P : Program} {ops : Array Oper} {rest : List Oper} {o : Oper} {a : Act} {w : World}
theorem wpl_build4 {Q : Exit → Act → World → Prop} (hgd : o.guard = none) (ty : TypeId) (p q r s : Operand) (ho : o.op = .build ty #[(0, p), (1, q), (2, r), (3, s)]) (f : Nat → Nat) (x y z u : Int)
  (hp : a.eval p = .int .u8 x) (hq : a.eval q = .int .u8 y) (hr : a.eval r = .int .u8 z) (hs : a.eval s = .int .u8 u)
  (h0 : x = (f 0 : Nat)) (h1 : y = (f 1 : Nat)) (h2 : z = (f 2 : Nat)) (h3 : u = (f 3 : Nat))
  (hb : ∀ x y z u : Int, P.built ty [(0, .int .u8 x), (1, .int .u8 y), (2, .int .u8 z), (3, .int .u8 u)] = some #[.int .u8 x, .int .u8 y, .int .u8 z, .int .u8 u])
  (h : wpList P ops Q rest (a.put o.dst (.agg (row 4 (b8 f)))) w) : wpList P ops Q (o :: rest) a w := by
 refine wpList_plain hgd fun _ hK => ?_
 have e := run_build4 hb f x y z u h0 h1 h2 h3 w
 unfold Oper.wp execOp
 simp only [ho, List.map_toArray, List.map_cons, List.map_nil, hp, hq, hr, hs, e, Sem.run_bind, Sem.run_pure, Result.andThen_ok]
 exact hK _ _ h
theorem wps_build4 {Q : Act → Prop} (hgd : o.guard = none) (ty : TypeId) (p q r s : Operand) (ho : o.op = .build ty #[(0, p), (1, q), (2, r), (3, s)]) (f : Nat → Nat) (x y z u : Int)
  (hp : a.eval p = .int .u8 x) (hq : a.eval q = .int .u8 y) (hr : a.eval r = .int .u8 z) (hs : a.eval s = .int .u8 u)
  (h0 : x = (f 0 : Nat)) (h1 : y = (f 1 : Nat)) (h2 : z = (f 2 : Nat)) (h3 : u = (f 3 : Nat))
  (hb : ∀ x y z u : Int, P.built ty [(0, .int .u8 x), (1, .int .u8 y), (2, .int .u8 z), (3, .int .u8 u)] = some #[.int .u8 x, .int .u8 y, .int .u8 z, .int .u8 u])
  (h : wpStill P ops w Q rest (a.put o.dst (.agg (row 4 (b8 f))))) : wpStill P ops w Q (o :: rest) a := by
 refine wps_val hgd _ ?_ h
 have e := run_build4 hb f x y z u h0 h1 h2 h3 w
 unfold execOp
 simp only [ho, List.map_toArray, List.map_cons, List.map_nil, hp, hq, hr, hs, e, Sem.run_bind, Sem.run_pure, Result.andThen_ok]
theorem wpl_store_new {Q : Exit → Act → World → Prop} (hgd : o.guard = none) (ty : TypeId) (x y : Operand) (ho : o.op = .store ty x y) (v : World) (old : Array Value) (n : Nat) (f : Nat → Nat) (hx : a.eval x = .pointer (some ⟨v.heap.size, 0, none⟩)) (hy : a.eval y = .agg (row n (b8 f)))
  (t : TypeId) (hi : (P.info? ty).map (·.size) = some n) (hold : old.size = n)
  (h : wpList P ops Q rest (a.put o.dst undef) (v.alloc (.cells (row n (b8 f)) t))) : wpList P ops Q (o :: rest) a (v.alloc (.cells old t)) := by
 refine wpl_store hgd ty x y ho v.heap.size _ hx hy t old (Blk.fresh _ _ _) (by rw [row_size]; exact hi) (by rw [row_size]; exact hold) (one_b8 _ _) ?_
 rwa [World.setRow_alloc_new]
end
theorem wpl_slb {P : Program} {ops : Array Oper} {rest : List Oper} {o : Oper} {a : Act} {w : World} {Q : Exit → Act → World → Prop} (hgd : o.guard = none) (ty : TypeId) (x ix : Operand) (ho : o.op = .indexAddr ty x ix) (g n c : Nat) (hx : a.eval x = .slice (some ⟨g, 0, none⟩) n c)
  (kd : IntKind) (z : Int) (hix : a.eval ix = .int kd z) (k : Nat) (hz : z = (k : Int)) (e : TypeId) (hu : P.underlying ty = some (.slice e)) (hk : k < n) (hs : (P.info? e).map (·.size) = some 1)
  (h : wpList P ops Q rest (a.put o.dst (.pointer (some ⟨g, k, none⟩))) w) : wpList P ops Q (o :: rest) a w := by
 refine wpl_sl hgd ty x ix ho ⟨g, 0, none⟩ n c hx kd z hix k hz e hu hk 1 hs ?_
 rw [Nat.mul_one, add_zero_off]
 exact h
theorem ret_row_tmp {P : Program} {fn : Func} {p q : Tmp} {ty : TypeId} {R : Ending → World → Prop} {a : Act} {w : World} (h : fn.results = #[.cell p ty, .tmp q]) (hd : a.defers = []) (g : Nat) (hp : a.tmps.getD p undef = .pointer (some ⟨g, 0, none⟩)) (v : Value) (hq : a.tmps.getD q undef = v)
  (t : TypeId) (n : Nat) (c : Nat → Value) (hg : Blk w g t (row n c)) (e : TypeId) (hu : P.underlying ty = some (.array n e)) (hi : (P.info? ty).map (·.size) = some n) (hR : R (.returned (.tuple #[.agg (row n c), v])) w) : bodyPost P fn R .ret a w := by
 refine bodyPost_ret ?_ hd hR
 have hl := run_loadVar_row (P := P) w g t ty (row n c) (0, 0) _ hg hu rfl (by rw [row_size]; exact hi)
 have hp' : a.tmps[p]?.getD undef = .pointer (some ⟨g, 0, none⟩) := by simpa using hp
 have hq' : a.tmps[q]?.getD undef = v := by simpa using hq
 simp [results, h, hp', hq', asAddr, hl]
theorem wpl_build0 {P : Program} {ops : Array Oper} {rest : List Oper} {o : Oper} {a : Act} {w : World} {Q : Exit → Act → World → Prop} (hgd : o.guard = none) (ty : TypeId) (ho : o.op = .build ty #[]) (cs : Array Value) (hb : P.built ty [] = some cs)
  (h : wpList P ops Q rest (a.put o.dst (.agg cs)) w) : wpList P ops Q (o :: rest) a w := by
 refine wpList_plain hgd fun _ hK => ?_
 have e := run_build (P := P) w ty #[] cs hb
 unfold Oper.wp execOp
 simp only [ho, List.map_toArray, List.map_nil, e, Sem.run_bind, Sem.run_pure, Result.andThen_ok]
 exact hK _ _ h
end Go.Proofs.YtinejbjndpdcmaaDoor.Mem
namespace Go.Proofs.YtinejbjndpdcmaaDoor.Mem
open Go.ChangeShapes Go.WideShapes Go.ChangeAt Go.RowKit
def Own (w : World) (base : Nat) (e : TypeId) (s : Nat) (v : Value) (n : Nat) (f : Nat → Nat) : Prop := w.ownsRow base e s v n ((List.range (n * s)).map (b8 f))
section
variable {w w' : World} {base : Nat} {e : TypeId} {s : Nat} {v : Value} {n : Nat} {f : Nat → Nat}
theorem Own.nil (w : World) (base : Nat) (e : TypeId) (s : Nat) (f : Nat → Nat) : Own w base e s (.slice none 0 0) 0 f := by
 unfold Own; rw [Nat.zero_mul]; exact World.ownsRow_nil w base e s
theorem Own.alloc (h : Own w base e s v n f) (o : Obj) : Own (w.alloc o) base e s v n f := World.ownsRow.alloc h o
theorem Own.drewN (h : Own w base e s v n f) (k : Nat) : Own (w.drewN k) base e s v n f := h
theorem Own.ext {g : Nat → Nat} (h : Own w base e s v n f) (hfg : ∀ i, i < n * s → f i = g i) : Own w base e s v n g := by
 unfold Own at *
 have : (List.range (n * s)).map (b8 g) = (List.range (n * s)).map (b8 f) := by
  apply List.map_congr_left
  intro i hi
  unfold b8
  rw [hfg i (List.mem_range.1 hi)]
 rw [this]; exact h
theorem Own.form (h : Own w base e s v n f) : (v = .slice none 0 0 ∧ n = 0) ∨ ∃ g c cur, v = .slice (some ⟨g, 0, none⟩) n c ∧ base ≤ g ∧ g < w.heap.size ∧ n ≤ c ∧ Blk w g e cur ∧ cur.size = c * s ∧ ∀ i, i < n * s → cur[i]? = some (b8 f i) := by
 rcases h.2 with ⟨hv, hn⟩ | ⟨g, cap, cur, hv, hb, hg, hnc, _, hs, ht⟩
 ·exact .inl ⟨hv, hn⟩
 refine .inr ⟨g, cap, cur, hv, hb, (show Blk w g e cur from hg).lt, hnc, hg, hs, fun i hi => ?_⟩
 have e1 := congrArg (fun l : List Value => l[i]?) ht
 simp only [List.getElem?_take, hi, if_true, List.getElem?_map, List.getElem?_range, Option.map_some, Array.getElem?_toList] at e1
 exact e1
theorem Own.below {B : Nat} (h : Own w base e s v n f) (hb : Below B w w') (hB : w.heap.size ≤ B) : Own w' base e s v n f := by
 refine ⟨h.1, ?_⟩
 rcases h.2 with h2 | ⟨g, cap, cur, hv, hbg, hg, r⟩
 ·exact .inl h2
 have hlt : g < w.heap.size := (show Blk w g e cur from hg).lt
 exact .inr ⟨g, cap, cur, hv, hbg, (hb.block g (by omega)).trans hg, r⟩
theorem Own.slice (h : Own w base e s v n f) : ∃ A c, v = .slice A n c ∧ n ≤ c := by
 rcases h.form with ⟨rfl, rfl⟩ | ⟨g, c, _, rfl, _, _, hc, _⟩
 ·exact ⟨_, _, rfl, Nat.le_refl _⟩
 exact ⟨_, _, rfl, hc⟩
end
theorem Own.reads {w : World} {base : Nat} {e : TypeId} {A : Option Addr} {n c : Nat} {f : Nat → Nat} (h : Own w base e 1 (.slice A n c) n f) : Reads w w.heap.size A n f := fun hn => by
 rcases h.form with ⟨_, rfl⟩ | ⟨g, c', cur, hv, _, hlt, _, hb, _, hc⟩
 ·omega
 have hA : A = some ⟨g, 0, none⟩ := by injection hv
 subst hA
 exact ⟨_, rfl, hlt, fun i hi => by rw [add_zero_off, hb.cell, hc i (by omega)]; rfl⟩
def cat (m : Nat) (f g : Nat → Nat) : Nat → Nat := fun i => if i < m then f i else g (i - m)
theorem cat_list (a b : Nat) (f g : Nat → Nat) : (List.range a).map (b8 f) ++ (List.range b).map (b8 g) = (List.range (a + b)).map (b8 (cat a f g)) := by
 apply List.ext_getElem?
 intro i
 by_cases h : i < a
 ·rw [List.getElem?_append_left (by simp; exact h)]
  simp [h, show i < a + b by omega, b8, cat]
 rw [List.getElem?_append_right (by simp; omega)]
 by_cases h2 : i < a + b
 ·simp [show i - a < b by omega, h2, b8, cat, h]
 rw [List.getElem?_eq_none (by simp; omega), List.getElem?_eq_none (by simp; omega)]
section
variable {P : Program} {ops : Array Oper} {rest : List Oper} {o : Oper} {a : Act} {w : World} {Q : Exit → Act → World → Prop}
theorem wpl_app (hgd : o.guard = none) (p q : Operand) (t : TypeId) (ho : o.op = .call { callee := .builtin .append, args := #[p, q], argTypes := #[t, t] }) (base : Nat) (e : TypeId) (s : Nat) (z : Value) (ht : P.underlying t = some (.slice e))
  (hinfo : (P.info? e).map (fun i => (i.zero, i.size, i.bytes)) = some (some z, s, s)) (hz : z.cells.size = s) (hs0 : 0 < s) (v : Value) (n : Nat) (f : Nat → Nat) (hp : a.eval p = v) (hown : Own w base e s v n f)
  (m : Nat) (g : Nat → Nat) (cs : Array Value) (hcs : cs = row (m * s) (b8 g)) (hq : a.eval q = .slice (some ⟨w.heap.size, 0, none⟩) m m) (hn : (n + m) * s ≤ 1000000) (hbase : base ≤ w.heap.size)
  (h : ∀ v' w', Own w' base e s v' (n + m) (cat (n * s) f g) → Below base w w' → wpList P ops Q rest (a.put o.dst v') w') : wpList P ops Q (o :: rest) a (w.alloc (.cells cs e)) := by
 subst hcs
 obtain ⟨i, hi, hz0, hz1, hz2⟩ := info_parts hinfo
 have hnm : n + m ≤ (n + m) * s := Nat.le_mul_of_pos_right _ hs0
 refine wpList_append_own (w.alloc (.cells (row (m * s) (b8 g)) e)) hgd p q t ho base e i z s s ht hi hz0 hz1 hz2 hz hs0 v n _ hp (hown.alloc _) ⟨w.heap.size, 0, none⟩ m m ((List.range (m * s)).map (b8 g)) hq (by simp) ?_ ?_ ?_ ?_ ?_ ?_
 ·intro j u hu
  by_cases hj : j < m * s
  ·simp [hj] at hu
   subst hu
   rw [add_zero_off, (Blk.fresh w e (row (m * s) (b8 g))).cell, row_get _ _ _ hj]
  rw [List.getElem?_eq_none (by simp; omega)] at hu; cases hu
 ·intro u hu
  simp only [List.mem_map] at hu
  obtain ⟨i, _, rfl⟩ := hu
  rfl
 ·unfold maxLen; omega
 ·omega
 ·simp; omega
 intro v' w' h1 h2 _
 rw [cat_list, ← Nat.add_mul] at h1
 refine h v' w' h1 ?_
 refine (((Below.refl base w).alloc hbase _).grown h2 (by simp; omega) ?_)
 intro k hk
 exact (World.ownsRow.lt (hown.alloc (.cells (row (m * s) (b8 g)) e)) k hk).1
end
theorem Own.setBelow {w : World} {base : Nat} {e : TypeId} {s : Nat} {v : Value} {n : Nat} {f : Nat → Nat} (h : Own w base e s v n f) {p : Addr} (hp : p.block < base) (u : Value) : Own (w.setCell p u) base e s v n f := ownsRow_setCell_below h hp u
theorem Blk.range {w : World} {g : Nat} {t : TypeId} {n : Nat} {c : Nat → Value} (h : Blk w g t (row n c)) : w.rangeAt g 0 (row n c).toList := fun j v hv => by
 rw [Nat.zero_add, h.cell]; simpa using hv
theorem below_setCells {B : Nat} {a : World} (b : Nat) (hb : B ≤ b) : ∀ (vs : List Value) (o : Nat) (w : World), Below B a w → Below B a (w.setCells b o vs)
 | [], _, _, h => h
 | v :: r, o, w, h => by rw [World.setCells]; exact below_setCells b hb r (o + 1) _ (h.setCell (by simpa using hb) v)
section
variable {w2 W W' : World} {g : Nat} {l : List Value}
theorem keep_start (h : w2.rangeAt g 0 l) : w2.drew.rangeAt g 0 l ∧ Below w2.heap.size w2 w2.drew := ⟨by simpa using h, (Below.refl _ _).drew⟩
theorem keep_alloc (h : W.rangeAt g 0 l ∧ Below w2.heap.size w2 W) (o : Obj) : (W.alloc o).rangeAt g 0 l ∧ Below w2.heap.size w2 (W.alloc o) := ⟨World.rangeAt_alloc h.1 o, h.2.alloc h.2.size o⟩
theorem keep_call (hg : g < w2.heap.size) (h : W.rangeAt g 0 l ∧ Below w2.heap.size w2 W) (hb : Below W.heap.size W W') : W'.rangeAt g 0 l ∧ Below w2.heap.size w2 W' :=
 ⟨fun j v hv => (hb.cell (p := ⟨g, 0 + j, none⟩) (Nat.lt_of_lt_of_le hg h.2.size)).trans (h.1 j v hv), h.2.trans (hb.mono h.2.size)⟩
theorem keep_cells (hg : g < w2.heap.size) (h : W.rangeAt g 0 l ∧ Below w2.heap.size w2 W) {b : Nat} (hb : w2.heap.size ≤ b) (o : Nat) (vs : List Value) : (W.setCells b o vs).rangeAt g 0 l ∧ Below w2.heap.size w2 (W.setCells b o vs) :=
 ⟨World.rangeAt_setCells_apart h.1 b o vs (.inl (by omega)), below_setCells b hb vs o _ h.2⟩
end
theorem wp_new {P : Program} {o : Oper} {a : Act} {w : World} {K : Act → World → Prop} {Q : Exit → Act → World → Prop} (t : TypeId) (ho : o.op = .alloc t) (cs : Array Value) (hz : (P.info? t).map (·.zero) = some (some (.agg cs)))
  (h : K (a.put o.dst (.pointer (some ⟨w.heap.size, 0, none⟩))) (w.alloc (.cells cs t))) : o.wp P a w K Q := by
 have hz' : (zeroValue t).run P w = .ok (.agg cs) w := by
  cases hq : P.info? t with
  | none => simp [hq] at hz
  | some i => simp [hq] at hz; simp [zeroValue, typeInfo, hq, hz]
 unfold Oper.wp execOp
 simp only [ho, Instr.alloc, Sem.run_bind, hz', Result.andThen_ok]
 exact h
theorem wp_go {P : Program} {o : Oper} {a : Act} {w : World} {K : Act → World → Prop} {Q : Exit → Act → World → Prop} (f : Nat) (vs : Array Value) (he : (execOp a.eval o).run P w = .ok (.enter f vs) w) (v : World → Value → Prop)
  (hc : Calls P f vs w fun e w' => ∃ x, e = .returned x ∧ v w' x) (h : ∀ w' x, v w' x → K (a.put o.dst x) w') : o.wp P a w K Q := by
 unfold Oper.wp
 simp only [he]
 exact hc.mono fun e w' ⟨x, he, hx⟩ => by subst he; exact h w' x hx
def eqB (n : Nat) (f g : Nat → Nat) : Bool := (List.range n).all fun i => f i == g i
theorem eqB_true {n : Nat} {f g : Nat → Nat} (h : ∀ i, i < n → f i = g i) : eqB n f g = true := by
 unfold eqB; rw [List.all_eq_true]; intro i hi; simp [h i (List.mem_range.1 hi)]
theorem eqB_iff {n : Nat} {f g : Nat → Nat} : eqB n f g = true ↔ ∀ i, i < n → f i = g i := by
 refine ⟨fun h i hi => ?_, eqB_true⟩
 unfold eqB at h; rw [List.all_eq_true] at h
 simpa using h i (List.mem_range.2 hi)
theorem run_equalIn_row {P : Program} (w : World) (d : Nat) (t e : TypeId) (n : Nat) (ht : P.underlying t = some (.array n e)) (he : P.underlying e = some (.int .u8)) (hs : (P.info? e).map (·.size) = some 1) (f g : Nat → Nat) :
  (Op.equalIn (d + 2) t (.agg (row n (b8 f))) (.agg (row n (b8 g)))).run P w = .ok (eqB n f g) w := by
 unfold eqB
 rw [List.range_eq_range', Op.equalIn]
 simp only [Sem.run_bind, run_underlying ht, Result.andThen_ok, run_size hs, Std.Legacy.Range.forIn_eq_forIn_range', Std.Legacy.Range.size, Nat.sub_zero, Nat.add_sub_cancel, Nat.div_one]
 have hl : ∀ i ∈ List.range' 0 n 1, i < n := fun i hi => by simpa using (List.mem_range'_1.1 hi).2
 generalize List.range' 0 n 1 = l at hl ⊢
 induction l with
 | nil => simp
 | cons i l ih =>
  have hi : i < n := hl i (by simp)
  have px : (part e (row n (b8 f)) (i * 1)).run P w = .ok (b8 f i) w := by
   simp [part, isAgg, run_underlying he, row_get _ _ _ hi]
  have py : (part e (row n (b8 g)) (i * 1)).run P w = .ok (b8 g i) w := by
   simp [part, isAgg, run_underlying he, row_get _ _ _ hi]
  have pe : (Op.equalIn (d + 1) e (b8 f i) (b8 g i)).run P w = .ok (f i == g i) w := by
   unfold b8
   rw [run_equalIn_int w d e .u8 .u8 _ _ he]
   congr 1
   rw [Bool.eq_iff_iff]
   simp only [beq_iff_eq]
   omega
  simp only [List.forIn_cons, Sem.run_bind, px, py, pe, Result.andThen_ok, List.all_cons]
  cases hb : (f i == g i)
  ·simp
  simp only [Bool.not_true, Bool.false_eq_true, if_false, Sem.run_pure, Result.andThen_ok, Bool.true_and]
  exact ih fun j hj => hl j (by simp [hj])
theorem run_eql_row {P : Program} (w : World) (t e : TypeId) (n : Nat) (ht : P.underlying t = some (.array n e)) (he : P.underlying e = some (.int .u8)) (hs : (P.info? e).map (·.size) = some 1) (f g : Nat → Nat) :
  (binOp .eql t (.agg (row n (b8 f))) (.agg (row n (b8 g)))).run P w = .ok (.bool (eqB n f g)) w := by
 rw [run_eql_struct, run_equalIn_row w 9998 t e n ht he hs f g]
 rfl
section
variable {P : Program} {ops : Array Oper} {rest : List Oper} {o : Oper} {a : Act} {w : World}
theorem wpg_val {Q : Exit → Act → World → Prop} (hw : Region.wanted o (yielded ops a.tmps) = true) (v : Value) (hr : (execOp a.eval o).run P w = .ok (.value v) w) (h : wpList P ops Q rest (a.put o.dst v) w) : wpList P ops Q (o :: rest) a w := by
 refine wpList_step fun K hK => ?_
 rw [if_pos hw]
 unfold Oper.wp
 simp only [hr]
 exact hK _ _ h
theorem wpsg_val {Q : Act → Prop} (hw : Region.wanted o (yielded ops a.tmps) = true) (v : Value) (hr : (execOp a.eval o).run P w = .ok (.value v) w) (h : wpStill P ops w Q rest (a.put o.dst v)) : wpStill P ops w Q (o :: rest) a := by
 refine wpStill_step fun K hK => ?_
 rw [if_pos hw]
 simp only [Oper.still, hr, Oper.stillUpon_value]
 exact hK _ h
theorem exec_load (ty : TypeId) (x : Operand) (ho : o.op = .load ty x) (g : Nat) (hx : a.eval x = .pointer (some ⟨g, 0, none⟩)) (t : TypeId) (n : Nat) (c : Nat → Value) (hg : Blk w g t (row n c)) (e : TypeId) (hu : P.underlying ty = some (.array n e)) (hi : (P.info? ty).map (·.size) = some n) :
  (execOp a.eval o).run P w = .ok (.value (.agg (row n c))) w := by
 unfold execOp
 simp only [ho, hx, Instr.loadAt, Instr.sureAddr, Sem.run_bind, Sem.run_pure, Result.andThen_ok, run_loadVar_row (P := P) w g t ty (row n c) (0, 0) _ hg hu rfl (by rw [row_size]; exact hi)]
theorem exec_eq (ty : TypeId) (x y : Operand) (rt : TypeId) (ho : o.op = .binOp .eql ty x y rt) (n : Nat) (f g : Nat → Nat) (hx : a.eval x = .agg (row n (b8 f))) (hy : a.eval y = .agg (row n (b8 g))) (e : TypeId)
  (ht : P.underlying ty = some (.array n e)) (he : P.underlying e = some (.int .u8)) (hs : (P.info? e).map (·.size) = some 1) (hm : P.eqGuardType P.depth ty = false) :
  (execOp a.eval o).run P w = .ok (.value (.bool (eqB n f g))) w := by
 unfold execOp
 simp only [ho, hx, hy, Sem.run_bind, run_eqGuard_agg w .eql ty x y _ _ hm, run_eql_row w ty e n ht he hs f g, Sem.run_pure, Result.andThen_ok]
theorem exec_move (x : Operand) (ho : o.op = .move x) (v : Value) (hx : a.eval x = v) : (execOp a.eval o).run P w = .ok (.value v) w := by
 subst hx; unfold execOp; simp only [ho]; rfl
theorem exec_assign (x : Operand) (ho : o.op = .assign x) (v : Value) (hx : a.eval x = v) : (execOp a.eval o).run P w = .ok (.value v) w := by
 subst hx; unfold execOp; simp only [ho]; rfl
theorem exec_extract (x : Operand) (i : Nat) (ho : o.op = .extract x i) (vs : Array Value) (hx : a.eval x = .tuple vs) (v : Value) (hv : vs[i]? = some v) : (execOp a.eval o).run P w = .ok (.value v) w := by
 unfold execOp; simp [ho, hx, Instr.extract, hv]
theorem exec_build0 (ty : TypeId) (ho : o.op = .build ty #[]) (cs : Array Value) (hb : P.built ty [] = some cs) : (execOp a.eval o).run P w = .ok (.value (.agg cs)) w := by
 have e := run_build (P := P) w ty #[] cs hb
 unfold execOp
 simp only [ho, List.map_toArray, List.map_nil, e, Sem.run_bind, Sem.run_pure, Result.andThen_ok]
end
theorem wpl_sl1 {P : Program} {ops : Array Oper} {rest : List Oper} {o : Oper} {a : Act} {w : World} {Q : Exit → Act → World → Prop} (hgd : o.guard = none) (ty : TypeId) (x ix : Operand) (ho : o.op = .indexAddr ty x ix) (ad : Addr) (n c : Nat) (hx : a.eval x = .slice (some ad) n c)
  (kd : IntKind) (z : Int) (hix : a.eval ix = .int kd z) (k : Nat) (hz : z = (k : Int)) (e : TypeId) (hu : P.underlying ty = some (.slice e)) (hk : k < n) (hs : (P.info? e).map (·.size) = some 1)
  (h : wpList P ops Q rest (a.put o.dst (.pointer (some (ad.add k)))) w) : wpList P ops Q (o :: rest) a w := by
 refine wpl_sl hgd ty x ix ho ad n c hx kd z hix k hz e hu hk 1 hs ?_
 rw [Nat.mul_one]
 exact h
end Go.Proofs.YtinejbjndpdcmaaDoor.Mem
namespace Go.Proofs.YtinejbjndpdcmaaDoor.Mem
open Go.ChangeShapes Go.WideShapes Go.ChangeAt Go.RowKit
section
variable {P : Program} {ops : Array Oper} {rest : List Oper} {o : Oper} {a : Act} {w : World}
theorem exec_atO (ty : TypeId) (x ix : Operand) (ho : o.op = .indexAddr ty x ix) (g off : Nat) (hx : a.eval x = .pointer (some ⟨g, off, none⟩)) (kd : IntKind) (z : Int) (hix : a.eval ix = .int kd z) (k : Nat) (hz : z = (k : Int))
  (n : Nat) (e : TypeId) (hu : P.underlying ty = some (.array n e)) (hk : k < n) (hs : (P.info? e).map (·.size) = some 1) : (execOp a.eval o).run P w = .ok (.value (.pointer (some ⟨g, off + k, none⟩))) w := by
 subst hz
 have hr : (Instr.indexAt ty (.pointer (some ⟨g, off, none⟩)) (.int kd (k : Int))).run P w = .ok (.pointer (some ⟨g, off + k, none⟩)) w := by
  simp [Instr.indexAt, Instr.sureAddr, asIntOf, Sem.run_bind, run_underlying hu, run_size hs, show ¬ n ≤ k by omega, Addr.add_mid]
 unfold execOp
 simp only [ho, hx, hix, hr, Sem.run_bind, Sem.run_pure, Result.andThen_ok]
theorem exec_slN (ty : TypeId) (x ix : Operand) (ho : o.op = .indexAddr ty x ix) (g n c : Nat) (hx : a.eval x = .slice (some ⟨g, 0, none⟩) n c) (kd : IntKind) (z : Int) (hix : a.eval ix = .int kd z) (k : Nat) (hz : z = (k : Int))
  (e : TypeId) (hu : P.underlying ty = some (.slice e)) (hk : k < n) (s : Nat) (hs : (P.info? e).map (·.size) = some s) : (execOp a.eval o).run P w = .ok (.value (.pointer (some ⟨g, k * s, none⟩))) w := by
 subst hz
 have hr : (Instr.indexAt ty (.slice (some ⟨g, 0, none⟩) n c) (.int kd (k : Int))).run P w = .ok (.pointer (some ⟨g, k * s, none⟩)) w := by
  simp [Instr.indexAt, asIntOf, Sem.run_bind, run_underlying hu, run_size hs, show ¬ n ≤ k by omega, add_zero_off]
 unfold execOp
 simp only [ho, hx, hix, hr, Sem.run_bind, Sem.run_pure, Result.andThen_ok]
theorem exec_loadO (ty : TypeId) (x : Operand) (ho : o.op = .load ty x) (g off : Nat) (hx : a.eval x = .pointer (some ⟨g, off, none⟩)) (n : Nat) (f : Nat → Nat) (hc : ∀ i, i < n → w.cell? ⟨g, off + i, none⟩ = some (.int .u8 ((f i : Nat) : Int)))
  (e : TypeId) (hu : P.underlying ty = some (.array n e)) (hi : (P.info? ty).map (·.size) = some n) : (execOp a.eval o).run P w = .ok (.value (.agg (row n (b8 f)))) w := by
 have hr : w.rangeAt g off (row n (b8 f)).toList := fun j v hv => by
  simp only [Array.getElem?_toList] at hv
  by_cases hj : j < n
  ·rw [row_get _ _ _ hj] at hv; injection hv with hv; subst hv; exact hc j hj
  rw [row_none _ _ _ (by omega)] at hv; cases hv
 have h := run_loadVar_mid (P := P) w g off ty (row n (b8 f)).toList _ hr hu rfl (by simp [row_size]; simpa using hi)
 unfold execOp
 simp only [ho, hx, Instr.loadAt, Instr.sureAddr, Sem.run_bind, Sem.run_pure, Result.andThen_ok, h, Array.toArray_toList]
theorem wpl_val {Q : Exit → Act → World → Prop} (hgd : o.guard = none) (v : Value) (hr : (execOp a.eval o).run P w = .ok (.value v) w) (h : wpList P ops Q rest (a.put o.dst v) w) : wpList P ops Q (o :: rest) a w :=
 wpg_val (by simp [Region.wanted, hgd]) v hr h
theorem wpl_bs {Q : Exit → Act → World → Prop} (hgd : o.guard = none) (t : TypeId) (x : Operand) (ho : o.op = .buildSlice t 1 #[(0, x)]) (v : Value) (hx : a.eval x = v) (cs : Array Value) (e : TypeId)
  (hr : (Instr.buildSlice t 1 #[(0, v)]).run P w = .ok (.slice (some ⟨w.heap.size, 0, none⟩) 1 1) (w.alloc (.cells cs e)))
  (h : wpList P ops Q rest (a.put o.dst (.slice (some ⟨w.heap.size, 0, none⟩) 1 1)) (w.alloc (.cells cs e))) : wpList P ops Q (o :: rest) a w := by
 refine wpList_plain hgd fun _ hK => ?_
 unfold Oper.wp execOp
 simp only [ho, List.map_toArray, List.map_cons, List.map_nil, hx, hr, Sem.run_bind, Sem.run_pure, Result.andThen_ok]
 exact hK _ _ h
end
theorem Own.cells {w : World} {base : Nat} {e : TypeId} {s : Nat} {A : Option Addr} {n c : Nat} {f : Nat → Nat} (h : Own w base e s (.slice A n c) n f) (hn : 0 < n) :
  ∃ g, A = some ⟨g, 0, none⟩ ∧ base ≤ g ∧ g < w.heap.size ∧ ∀ i, i < n * s → w.cell? ⟨g, i, none⟩ = some (.int .u8 ((f i : Nat) : Int)) := by
 rcases h.form with ⟨_, rfl⟩ | ⟨g, c', cur, hv, hb, hlt, _, hbk, _, hc⟩
 ·omega
 have hA : A = some ⟨g, 0, none⟩ := by injection hv
 exact ⟨g, hA, hb, hlt, fun i hi => by rw [hbk.cell, hc i hi]; rfl⟩
section
variable {P : Program} {o : Oper} {a : Act} {w : World}
theorem exec_arith (op : BinOp) (hop : op = .add ∨ op = .sub ∨ op = .mul) (t : TypeId) (x y : Operand) (rt : TypeId) (ho : o.op = .binOp op t x y rt) (p q : Int) (hx : a.eval x = .int .i64 p) (hy : a.eval y = .int .i64 q) (r : Int)
  (hr : (match op with | .add => p + q | .sub => p - q | _ => p * q) = r) (h1 : -9223372036854775808 ≤ r) (h2 : r < 9223372036854775808) : (execOp a.eval o).run P w = .ok (.value (.int .i64 r)) w := by
 have hw : IntKind.i64.wrap r = r := wrap_i64 r r rfl h1 h2
 unfold execOp
 rcases hop with rfl | rfl | rfl <;> (simp only at hr; subst hr; simp only [ho, hx, hy]; simp [eqGuard, binOp, Op.intArith, hw])
theorem exec_sl1 (ty : TypeId) (x ix : Operand) (ho : o.op = .indexAddr ty x ix) (ad : Addr) (n c : Nat) (hx : a.eval x = .slice (some ad) n c) (kd : IntKind) (z : Int) (hix : a.eval ix = .int kd z) (k : Nat) (hz : z = (k : Int))
  (e : TypeId) (hu : P.underlying ty = some (.slice e)) (hk : k < n) (hs : (P.info? e).map (·.size) = some 1) : (execOp a.eval o).run P w = .ok (.value (.pointer (some (ad.add k)))) w := by
 subst hz
 have hr : (Instr.indexAt ty (.slice (some ad) n c) (.int kd (k : Int))).run P w = .ok (.pointer (some (ad.add k))) w := by
  simp [Instr.indexAt, asIntOf, Sem.run_bind, run_underlying hu, run_size hs, show ¬ n ≤ k by omega]
 unfold execOp
 simp only [ho, hx, hix, hr, Sem.run_bind, Sem.run_pure, Result.andThen_ok]
theorem exec_ld (ty : TypeId) (x : Operand) (ho : o.op = .load ty x) (p : Addr) (hx : a.eval x = .pointer (some p)) (kd : IntKind) (hu : P.underlying ty = some (.int kd)) (v : Value) (hv : w.cell? p = some v) : (execOp a.eval o).run P w = .ok (.value v) w := by
 have hr : (Instr.loadAt ty (.pointer (some p))).run P w = .ok v w := by
  simp [Instr.loadAt, Instr.sureAddr, loadVar, isAgg, Sem.run_bind, run_underlying hu, hv]
 unfold execOp
 simp only [ho, hx, hr, Sem.run_bind, Sem.run_pure, Result.andThen_ok]
theorem exec_build4 (ty : TypeId) (p q r s : Operand) (ho : o.op = .build ty #[(0, p), (1, q), (2, r), (3, s)]) (f : Nat → Nat) (x y z u : Int)
  (hp : a.eval p = .int .u8 x) (hq : a.eval q = .int .u8 y) (hr : a.eval r = .int .u8 z) (hs : a.eval s = .int .u8 u)
  (h0 : x = (f 0 : Nat)) (h1 : y = (f 1 : Nat)) (h2 : z = (f 2 : Nat)) (h3 : u = (f 3 : Nat))
  (hb : ∀ x y z u : Int, P.built ty [(0, .int .u8 x), (1, .int .u8 y), (2, .int .u8 z), (3, .int .u8 u)] = some #[.int .u8 x, .int .u8 y, .int .u8 z, .int .u8 u]) : (execOp a.eval o).run P w = .ok (.value (.agg (row 4 (b8 f)))) w := by
 have e := run_build4 hb f x y z u h0 h1 h2 h3 w
 unfold execOp
 simp only [ho, List.map_toArray, List.map_cons, List.map_nil, hp, hq, hr, hs, e, Sem.run_bind, Sem.run_pure, Result.andThen_ok]
theorem wp_bs {K : Act → World → Prop} {Q : Exit → Act → World → Prop} (t : TypeId) (x : Operand) (ho : o.op = .buildSlice t 1 #[(0, x)]) (v : Value) (hx : a.eval x = v) (cs : Array Value) (e : TypeId)
  (hr : (Instr.buildSlice t 1 #[(0, v)]).run P w = .ok (.slice (some ⟨w.heap.size, 0, none⟩) 1 1) (w.alloc (.cells cs e)))
  (h : K (a.put o.dst (.slice (some ⟨w.heap.size, 0, none⟩) 1 1)) (w.alloc (.cells cs e))) : o.wp P a w K Q := by
 unfold Oper.wp execOp
 simp only [ho, List.map_toArray, List.map_cons, List.map_nil, hx, hr, Sem.run_bind, Sem.run_pure, Result.andThen_ok]
 exact h
theorem wp_app {K : Act → World → Prop} {Q : Exit → Act → World → Prop} (p q : Operand) (t : TypeId) (ho : o.op = .call { callee := .builtin .append, args := #[p, q], argTypes := #[t, t] }) (base : Nat) (e : TypeId) (s : Nat) (z : Value) (ht : P.underlying t = some (.slice e))
  (hinfo : (P.info? e).map (fun i => (i.zero, i.size, i.bytes)) = some (some z, s, s)) (hz : z.cells.size = s) (hs0 : 0 < s) (v : Value) (n : Nat) (f : Nat → Nat) (hp : a.eval p = v) (hown : Own w base e s v n f)
  (m : Nat) (g : Nat → Nat) (cs : Array Value) (hcs : cs = row (m * s) (b8 g)) (hq : a.eval q = .slice (some ⟨w.heap.size, 0, none⟩) m m) (hn : (n + m) * s ≤ 1000000) (hbase : base ≤ w.heap.size)
  (h : ∀ v' w', Own w' base e s v' (n + m) (cat (n * s) f g) → Below base w w' → K (a.put o.dst v') w') : o.wp P a (w.alloc (.cells cs e)) K Q := by
 subst hcs
 obtain ⟨i, hi, hz0, hz1, hz2⟩ := info_parts hinfo
 have hnm : n + m ≤ (n + m) * s := Nat.le_mul_of_pos_right _ hs0
 refine wp_append_own (w.alloc (.cells (row (m * s) (b8 g)) e)) p q t ho base e i z s s ht hi hz0 hz1 hz2 hz hs0 v n _ hp (hown.alloc _) ⟨w.heap.size, 0, none⟩ m m ((List.range (m * s)).map (b8 g)) hq (by simp) ?_ ?_ ?_ ?_ ?_ ?_
 ·intro j u hu
  by_cases hj : j < m * s
  ·simp [hj] at hu
   subst hu
   rw [add_zero_off, (Blk.fresh w e (row (m * s) (b8 g))).cell, row_get _ _ _ hj]
  rw [List.getElem?_eq_none (by simp; omega)] at hu; cases hu
 ·intro u hu
  simp only [List.mem_map] at hu
  obtain ⟨i, _, rfl⟩ := hu
  rfl
 ·unfold maxLen; omega
 ·omega
 ·simp; omega
 intro v' w' h1 h2 _
 rw [cat_list, ← Nat.add_mul] at h1
 refine h v' w' h1 ?_
 refine (((Below.refl base w).alloc hbase _).grown h2 (by simp; omega) ?_)
 intro k hk
 exact (World.ownsRow.lt (hown.alloc (.cells (row (m * s) (b8 g)) e)) k hk).1
end
end Go.Proofs.YtinejbjndpdcmaaDoor.Mem
namespace Go.Proofs.YtinejbjndpdcmaaDoor.Mem
open Go.ChangeShapes Go.WideShapes Go.ChangeAt Go.RowKit
theorem Own.empty (w : World) (base : Nat) (e : TypeId) (f : Nat → Nat) (hb : base ≤ w.heap.size) : Own (w.alloc (.cells #[] e)) base e 1 (.slice (some ⟨w.heap.size, 0, none⟩) 0 0) 0 f :=
 ⟨by simp, .inr ⟨w.heap.size, 0, #[], rfl, hb, heap_alloc_new w _, Nat.le_refl _, by unfold maxLen; omega, by simp, by simp⟩⟩
theorem wpl_app_src {P : Program} {ops : Array Oper} {rest : List Oper} {o : Oper} {a : Act} {w : World} {Q : Exit → Act → World → Prop} (hgd : o.guard = none) (p q : Operand) (t : TypeId) (ho : o.op = .call { callee := .builtin .append, args := #[p, q], argTypes := #[t, t] }) (base : Nat) (e : TypeId) (z : Value) (ht : P.underlying t = some (.slice e))
  (hinfo : (P.info? e).map (fun i => (i.zero, i.size, i.bytes)) = some (some z, 1, 1)) (hz : z.cells.size = 1) (v : Value) (n : Nat) (f : Nat → Nat) (hp : a.eval p = v) (hown : Own w base e 1 v n f)
  (A : Option Addr) (m c : Nat) (g : Nat → Nat) (B : Nat) (hR : Reads w B A m g) (hm : 0 < m) (hq : a.eval q = .slice A m c) (hn : n + m ≤ 1000000) (hbase : base ≤ w.heap.size)
  (h : ∀ v' w', Own w' base e 1 v' (n + m) (cat n f g) → Below base w w' → wpList P ops Q rest (a.put o.dst v') w') : wpList P ops Q (o :: rest) a w := by
 obtain ⟨ad, rfl, _, hc⟩ := hR hm
 obtain ⟨i, hi, hz0, hz1, hz2⟩ := info_parts hinfo
 refine wpList_append_own w hgd p q t ho base e i z 1 1 ht hi hz0 hz1 hz2 hz (by omega) v n _ hp hown ad m c ((List.range m).map (b8 g)) hq (by simp) ?_ ?_ ?_ ?_ hbase ?_
 ·intro j u hu
  by_cases hj : j < m
  ·simp [hj] at hu
   subst hu
   exact hc j hj
  rw [List.getElem?_eq_none (by simp; omega)] at hu; cases hu
 ·intro u hu
  simp only [List.mem_map] at hu
  obtain ⟨i, _, rfl⟩ := hu
  rfl
 ·unfold maxLen; omega
 ·omega
 intro v' w' h1 h2 _
 rw [cat_list, ← Nat.mul_one m, ← Nat.add_mul, Nat.mul_one m, Nat.mul_one n] at h1
 refine h v' w' h1 ?_
 refine (Below.refl base w).grown h2 hbase ?_
 intro k hk
 exact (World.ownsRow.lt hown k hk).1
end Go.Proofs.YtinejbjndpdcmaaDoor.Mem
namespace Go.Proofs.YtinejbjndpdcmaaDoor.Mem
open Go.ChangeShapes Go.WideShapes Go.ChangeAt Go.RowKit
def iv (k : IntKind) (f : Nat → Nat) : Nat → Value := fun i => .int k ((f i : Nat) : Int)
theorem iv_get (kd : IntKind) (n : Nat) (f : Nat → Nat) (k : Nat) (h : k < n) : (row n (iv kd f))[k]? = some (.int kd ((f k : Nat) : Int)) := row_get n _ k h
theorem upd_iv (kd : IntKind) (f : Nat → Nat) (k v : Nat) : upd (iv kd f) k (.int kd ((v : Nat) : Int)) = iv kd (upd f k v) := by
 funext i; unfold upd iv; by_cases h : i = k <;> simp [h]
theorem iv_ext {kd : IntKind} {n : Nat} {f g : Nat → Nat} (h : ∀ i, i < n → f i = g i) : row n (iv kd f) = row n (iv kd g) :=
 row_ext fun i hi => by unfold iv; rw [h i hi]
theorem one_row {n : Nat} {c : Nat → Value} (hc : ∀ i, (c i).oneCell' = true) : (row n c).all (·.oneCell') = true := by
 rw [Array.all_eq_true_iff_forall_mem]
 intro x hx
 rw [Array.mem_iff_getElem?] at hx
 obtain ⟨i, hi⟩ := hx
 by_cases h : i < n
 ·rw [row_get _ _ _ h] at hi; injection hi with hi; subst hi; exact hc i
 rw [row_none _ _ _ (by omega)] at hi; cases hi
theorem one_iv (kd : IntKind) (n : Nat) (f : Nat → Nat) : (row n (iv kd f)).all (·.oneCell') = true := one_row fun _ => rfl
theorem Blk.puti {w : World} {g : Nat} {t : TypeId} {n : Nat} {kd : IntKind} {m : Nat → Nat} (h : Blk w g t (row n (iv kd m))) (k v : Nat) : Blk (w.setCell ⟨g, k, none⟩ (.int kd ((v : Nat) : Int))) g t (row n (iv kd (upd m k v))) := by
 have := h.setCell k (.int kd ((v : Nat) : Int))
 rwa [row_set, upd_iv] at this
theorem Blk.vali {w : World} {g : Nat} {t : TypeId} {n : Nat} {kd : IntKind} {m : Nat → Nat} (h : Blk w g t (row n (iv kd m))) (k : Nat) (hk : k < n) : w.cell? ⟨g, k, none⟩ = some (.int kd ((m k : Nat) : Int)) :=
 (h.cell k).trans (row_get n _ k hk)
theorem ret_iv {kd : IntKind} {n : Nat} {f g : Nat → Nat} (h : ∀ i, i < n → f i = g i) : Ending.returned (.agg (row n (iv kd f))) = .returned (.agg (row n (iv kd g))) := by rw [iv_ext h]
theorem wpl_store_newi {P : Program} {ops : Array Oper} {rest : List Oper} {o : Oper} {a : Act} {Q : Exit → Act → World → Prop} (hgd : o.guard = none) (ty : TypeId) (x y : Operand) (ho : o.op = .store ty x y) (v : World) (old : Array Value) (n : Nat) (c : Nat → Value) (hc : ∀ i, (c i).oneCell' = true) (hx : a.eval x = .pointer (some ⟨v.heap.size, 0, none⟩)) (hy : a.eval y = .agg (row n c))
  (t : TypeId) (hi : (P.info? ty).map (·.size) = some n) (hold : old.size = n)
  (h : wpList P ops Q rest (a.put o.dst undef) (v.alloc (.cells (row n c) t))) : wpList P ops Q (o :: rest) a (v.alloc (.cells old t)) := by
 refine wpl_store hgd ty x y ho v.heap.size _ hx hy t old (Blk.fresh _ _ _) (by rw [row_size]; exact hi) (by rw [row_size]; exact hold) (one_row hc) ?_
 rwa [World.setRow_alloc_new]
theorem Blk.drew {w : World} {g : Nat} {t : TypeId} {cs : Array Value} (h : Blk w g t cs) : Blk w.drew g t cs := h
def Only (g : Nat) (w w' : World) : Prop := w'.os = w.os ∧ w'.tape = w.tape ∧ w'.output = w.output ∧ w'.heap.size = w.heap.size ∧ ∀ h, h ≠ g → w'.heap[h]? = w.heap[h]?
section
variable {g : Nat} {w w' w'' : World}
theorem Only.refl (g : Nat) (w : World) : Only g w w := ⟨rfl, rfl, rfl, rfl, fun _ _ => rfl⟩
theorem Only.below (h : Only g w w') {B : Nat} (hB : B ≤ g) : Below B w w' := ⟨h.1, h.2.1, h.2.2.1, Nat.le_of_eq h.2.2.2.1.symm, fun k hk => h.2.2.2.2 k (by omega)⟩
theorem Only.setCell (h : Only g w w') (i : Nat) (v : Value) : Only g w (w'.setCell ⟨g, i, none⟩ v) :=
 ⟨h.1, h.2.1, h.2.2.1, (by simpa using h.2.2.2.1), fun k hk => (heap_setCell_other w' ⟨g, i, none⟩ k v hk).trans (h.2.2.2.2 k hk)⟩
theorem Only.setRow (h : Only g w w') (cs : Array Value) : Only g w (w'.setRow g cs) :=
 ⟨h.1, h.2.1, h.2.2.1, (by simpa using h.2.2.2.1), fun k hk => (setRow_other w' g k cs hk).trans (h.2.2.2.2 k hk)⟩
theorem Only.drew (h : Only g w w') : Only g w w'.drew := h
theorem Only.blk (h : Only g w w') {k : Nat} {t : TypeId} {cs : Array Value} (hb : Blk w k t cs) (hk : k ≠ g) : Blk w' k t cs := (h.2.2.2.2 k hk).trans hb
end
end Go.Proofs.YtinejbjndpdcmaaDoor.Mem
namespace Go.Proofs.YtinejbjndpdcmaaDoor.Mem
open Go.ChangeShapes Go.WideShapes Go.ChangeAt Go.RowKit
section
variable {H : Type} {enc : TypeId × Value → H} {P : Program} {W : World}
theorem byte_of {a : Int} (h : (Lit.int .u8 a).wf = true) : ∃ n : Nat, n < 256 ∧ a = n := by
 have : 0 ≤ a ∧ a < 256 := by
  simp [Lit.wf, IntKind.min, IntKind.max, IntKind.signed, IntKind.bits] at h
  omega
 exact ⟨a.toNat, by omega, by omega⟩
theorem mapM_bytes {e : TypeId} (he : P.underlying e = some (.int .u8)) {base : Nat} {sp : Nat → Bool} {held : Bool} {m : Nat} {cs : List Value} : ∀ (L : List Nat) (ys : List (DataW H × List MemPlace)),
  (L.mapM fun i => DataW.trod enc P W base sp held m e ((cs.drop (i * 1)).take 1)) = some ys → (∀ i ∈ L, ∃ n : Nat, n < 256 ∧ cs[i]? = some (.int .u8 (n : Int))) ∧ ys.flatMap (·.2) = []
 | [], ys, h => by simp at h; subst h; simp
 | i :: L, ys, h => by
  rw [List.mapM_cons] at h
  simp only [bind, Option.bind_eq_some_iff, pure, Option.some.injEq] at h
  obtain ⟨y, hy, zs, hys, rfl⟩ := h
  obtain ⟨h1, h2⟩ := mapM_bytes he L zs hys
  obtain ⟨a, ea, rfl, wa⟩ := DataW.trod_int he hy
  refine ⟨fun j hj => ?_, by simp [h2]⟩
  rcases List.mem_cons.1 hj with rfl | hj
  ·obtain ⟨n, hn, rfl⟩ := byte_of wa
   refine ⟨n, hn, ?_⟩
   have e2 := congrArg (fun l : List Value => l[0]?) ea
   simp at e2
   exact e2
  exact h1 j hj
theorem open_row {t e : TypeId} {n : Nat} (ht : P.underlying t = some (.array n e)) (hc : P.cellsOf t = n) (hc1 : P.cellsOf e = 1) (he : P.underlying e = some (.int .u8)) {base b0 : Nat} {sp : Nat → Bool} {held : Bool} {r : Reach} {v : Value} {d : DataW H} {ps : List MemPlace}
  (hok : Value.okWide P W r b0 t v) (hd : DataW.Trod enc P W base sp held t v d ps) : ∃ f : Nat → Nat, v = .agg (row n (b8 f)) ∧ ∀ i, i < n → f i < 256 := by
 simp only [Value.okWide, ht] at hok
 obtain ⟨cs, rfl, hs, _⟩ := hok
 rw [hc] at hs
 obtain ⟨fuel, hf⟩ := hd
 cases fuel with
 | zero => simp [DataW.trod] at hf
 | succ m =>
  rw [DataW.trod_step] at hf
  unfold DataW.trodStep at hf
  simp only [ht, Value.cells] at hf
  rw [if_pos (by rw [hc]; simpa using hs)] at hf
  simp only [Option.map_eq_some_iff, hc1] at hf
  obtain ⟨ys, hy, e1⟩ := hf
  obtain ⟨h1, h2⟩ := mapM_bytes he _ ys hy
  refine ⟨fun i => if h : i < n then Classical.choose (h1 i (List.mem_range.2 h)) else 0, ?_, ?_⟩
  ·congr 1
   apply row_of hs
   intro i hi
   have := (Classical.choose_spec (h1 i (List.mem_range.2 hi))).2
   simp only [Array.getElem?_toList] at this
   rw [this]
   simp [b8, hi]
  intro i hi
  simp only [hi, dif_pos]
  exact (Classical.choose_spec (h1 i (List.mem_range.2 hi))).1
theorem open_bytes {t e : TypeId} (ht : P.underlying t = some (.slice e)) (he : P.underlying e = some (.int .u8)) (hc1 : P.cellsOf e = 1) {v : Value} {d : DataW H} {ps : List MemPlace} {r : Reach} {b0 : Nat}
  (hok : Value.okWide P W r b0 t v) (hd : DataW.Trod enc P W 0 (fun _ => true) true t v d ps) : ∃ A len cap, ∃ f : Nat → Nat, v = .slice A len cap ∧ len ≤ cap ∧ Reads W W.heap.size A len f ∧ ∀ i, i < len → f i < 256 := by
 obtain ⟨A, len, cap, rfl⟩ := okWide_slice ht hok
 obtain ⟨fuel, hf⟩ := hd
 rcases open_ints ht he hc1 hf with ⟨hcs, _⟩ | ⟨x, l, c, zs, hcs, _, hl, hm, hz, _, hcell, hwz⟩
 ·simp [Value.cells] at hcs
  obtain ⟨rfl, rfl, rfl⟩ := hcs
  exact ⟨none, 0, 0, fun _ => 0, rfl, Nat.le_refl _, fun h => absurd h (by omega), fun i hi => by omega⟩
 simp [Value.cells] at hcs
 obtain ⟨rfl, rfl, rfl⟩ := hcs
 have hzl : zs.length = cap := by simpa using hz
 have hb : ∀ i, i < len → ∃ n : Nat, n < 256 ∧ zs.getD i 0 = (n : Int) := fun i hi => by
  have hi' : i < zs.length := by omega
  have hmem : zs.getD i 0 ∈ zs := by rw [List.getD_eq_getElem?_getD, List.getElem?_eq_getElem hi']; simp
  exact byte_of (hwz _ hmem)
 refine ⟨some x, len, cap, fun i => (zs.getD i 0).toNat, rfl, hl, fun hn => ⟨x, rfl, ?_, fun i hi => ?_⟩, fun i hi => ?_⟩
 ·have := block_lt_of_cell (hcell 0 (by omega))
  rwa [add_block] at this
 ·obtain ⟨n, _, e⟩ := hb i hi
  show W.cell? (x.add i) = some (.int .u8 (((zs.getD i 0).toNat : Nat) : Int))
  rw [hcell i (by omega), e, Int.toNat_natCast]
 obtain ⟨n, hn, e⟩ := hb i hi
 show (zs.getD i 0).toNat < 256
 rw [e, Int.toNat_natCast]; exact hn
theorem trod_below {t : TypeId} {v : Value} {d : DataW H} {ps : List MemPlace} (hd : DataW.Trod enc P W 0 (fun _ => true) true t v d ps) : ∀ x ∈ ps, x.block < W.heap.size := by
 obtain ⟨m, hm⟩ := hd
 exact DataW.trod_lt m _ _ _ hm
end
end Go.Proofs.YtinejbjndpdcmaaDoor.Mem
namespace Go.Proofs.YtinejbjndpdcmaaDoor.Mem
open Go.ChangeShapes Go.WideShapes Go.ChangeAt Go.RowKit
theorem u16_of {a : Int} (h : (Lit.int .u16 a).wf = true) : ∃ n : Nat, n < 65536 ∧ a = n := by
 have : 0 ≤ a ∧ a < 65536 := by
  simp [Lit.wf, IntKind.min, IntKind.max, IntKind.signed, IntKind.bits] at h
  omega
 exact ⟨a.toNat, by omega, by omega⟩
theorem u64_of {a : Int} (h : (Lit.int .u64 a).wf = true) : ∃ n : Nat, n < 18446744073709551616 ∧ a = n := by
 have : 0 ≤ a ∧ a < 18446744073709551616 := by
  simp [Lit.wf, IntKind.min, IntKind.max, IntKind.signed, IntKind.bits] at h
  omega
 exact ⟨a.toNat, by omega, by omega⟩
def ReadsI (w : World) (B : Nat) (A : Option Addr) (n : Nat) (f : Nat → Int) : Prop :=
 0 < n → ∃ ad, A = some ad ∧ ad.block < B ∧ ∀ i, i < n → w.cell? (ad.add i) = some (.int .i64 (f i))
theorem ReadsI.below {w w' : World} {B n : Nat} {A : Option Addr} {f : Nat → Int} (h : ReadsI w B A n f) (hb : Below B w w') : ReadsI w' B A n f := fun hn => by
 obtain ⟨ad, e, hB, hc⟩ := h hn
 exact ⟨ad, e, hB, fun i hi => (hb.cell (p := ad.add i) (by rw [add_block]; exact hB)).trans (hc i hi)⟩
theorem open_is {H : Type} {enc : TypeId × Value → H} {P : Program} {W : World} {t e : TypeId} (ht : P.underlying t = some (.slice e)) (he : P.underlying e = some (.int .i64)) (hc1 : P.cellsOf e = 1) {v : Value} {d : DataW H} {ps : List MemPlace} {r : Reach} {b0 : Nat}
  (hok : Value.okWide P W r b0 t v) (hd : DataW.Trod enc P W 0 (fun _ => true) true t v d ps) : ∃ A len cap, ∃ f : Nat → Int, v = .slice A len cap ∧ len ≤ cap ∧ ReadsI W W.heap.size A len f ∧ ∀ i, i < len → (Lit.int .i64 (f i)).wf = true := by
 obtain ⟨A, len, cap, rfl⟩ := okWide_slice ht hok
 obtain ⟨fuel, hf⟩ := hd
 rcases open_ints ht he hc1 hf with ⟨hcs, _⟩ | ⟨x, l, c, zs, hcs, _, hl, hm, hz, _, hcell, hwz⟩
 ·simp [Value.cells] at hcs
  obtain ⟨rfl, rfl, rfl⟩ := hcs
  exact ⟨none, 0, 0, fun _ => 0, rfl, Nat.le_refl _, fun h => absurd h (by omega), fun i hi => by omega⟩
 simp [Value.cells] at hcs
 obtain ⟨rfl, rfl, rfl⟩ := hcs
 have hzl : zs.length = cap := by simpa using hz
 refine ⟨some x, len, cap, fun i => zs.getD i 0, rfl, hl, fun hn => ⟨x, rfl, ?_, fun i hi => ?_⟩, fun i hi => ?_⟩
 ·have := block_lt_of_cell (hcell 0 (by omega))
  rwa [add_block] at this
 ·exact hcell i (by omega)
 have hi' : i < zs.length := by omega
 have hmem : zs.getD i 0 ∈ zs := by rw [List.getD_eq_getElem?_getD, List.getElem?_eq_getElem hi']; simp
 exact hwz _ hmem
theorem i64_of {a : Int} (h : (Lit.int .i64 a).wf = true) : -9223372036854775808 ≤ a ∧ a < 9223372036854775808 := by
 simp [Lit.wf, IntKind.min, IntKind.max, IntKind.signed, IntKind.bits] at h
 omega
end Go.Proofs.YtinejbjndpdcmaaDoor.Mem
namespace Go.Proofs.YtinejbjndpdcmaaDoor.Mem
open Go.ChangeShapes Go.WideShapes Go.ChangeAt Go.RowKit
def byteAt (s : ByteArray) (k : Nat) : Option Nat := (s.data[k]?).map (·.toNat)
theorem byteAt_lt {s : ByteArray} {k b : Nat} (h : byteAt s k = some b) : k < s.size := by
 apply Classical.byContradiction
 intro hn
 unfold byteAt at h
 rw [Array.getElem?_eq_none (by have : s.data.size = s.size := rfl; omega)] at h
 cases h
section
variable {P : Program} {ops : Array Oper} {rest : List Oper} {o : Oper} {a : Act} {w : World}
theorem exec_str (ty : TypeId) (x ix : Operand) (ho : o.op = .index ty x ix) (s : ByteArray) (hx : a.eval x = .string s) (kd : IntKind) (z : Int) (hix : a.eval ix = .int kd z) (k : Nat) (hz : z = (k : Int))
  (hu : P.underlying ty = some .string) (b : Nat) (hb : byteAt s k = some b) : (execOp a.eval o).run P w = .ok (.value (.int .u8 (b : Int))) w := by
 subst hz
 have hk := byteAt_lt hb
 have hr : (Instr.index ty (.string s) (.int kd (k : Int))).run P w = .ok (.int .u8 (b : Int)) w := by
  rw [run_index_string w ty s kd _ hu, dif_pos ⟨by omega, by omega⟩]
  have e : (s[(k : Int).toNat]'(by simpa using hk)).toNat = b := by
   unfold byteAt at hb
   have hk' : k < s.data.size := hk
   rw [Array.getElem?_eq_getElem hk'] at hb
   simp only [Option.map_some, Option.some.injEq] at hb
   exact hb
  rw [e]
 unfold execOp
 simp only [ho, hx, hix, hr, Sem.run_bind, Sem.run_pure, Result.andThen_ok]
theorem wpl_str {Q : Exit → Act → World → Prop} (hgd : o.guard = none) (ty : TypeId) (x ix : Operand) (ho : o.op = .index ty x ix) (s : ByteArray) (hx : a.eval x = .string s) (kd : IntKind) (z : Int) (hix : a.eval ix = .int kd z) (k : Nat) (hz : z = (k : Int))
  (hu : P.underlying ty = some .string) (b : Nat) (hb : byteAt s k = some b) (h : wpList P ops Q rest (a.put o.dst (.int .u8 (b : Int))) w) : wpList P ops Q (o :: rest) a w :=
 wpg_val (by simp [Region.wanted, hgd]) _ (exec_str ty x ix ho s hx kd z hix k hz hu b hb) h
theorem wps_str {Q : Act → Prop} (hgd : o.guard = none) (ty : TypeId) (x ix : Operand) (ho : o.op = .index ty x ix) (s : ByteArray) (hx : a.eval x = .string s) (kd : IntKind) (z : Int) (hix : a.eval ix = .int kd z) (k : Nat) (hz : z = (k : Int))
  (hu : P.underlying ty = some .string) (b : Nat) (hb : byteAt s k = some b) (h : wpStill P ops w Q rest (a.put o.dst (.int .u8 (b : Int)))) : wpStill P ops w Q (o :: rest) a :=
 wps_val hgd _ (exec_str ty x ix ho s hx kd z hix k hz hu b hb) h
end
def TabS (s : ByteArray) (n : Nat) (p : Nat → Nat) : Prop := s.size = 2 * n ∧ ∀ i, i < n → p i < 100 ∧ byteAt s (2 * i) = some (48 + p i / 10) ∧ byteAt s (2 * i + 1) = some (48 + p i % 10)
instance (s : ByteArray) (n : Nat) (p : Nat → Nat) : Decidable (TabS s n p) := by unfold TabS; infer_instance
end Go.Proofs.YtinejbjndpdcmaaDoor.Mem
