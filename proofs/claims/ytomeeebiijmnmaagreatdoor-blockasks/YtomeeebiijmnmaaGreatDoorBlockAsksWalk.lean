/-
 BlockAsks returns true: its walk.
-/
import Derived.Test.YtomeeebiijmnmaaGreatDoorAwake05
import Derived.Test.YtomeeebiijmnmaaGreatDoorRefDoX
import Derived.Test.YtomeeebiijmnmaaGreatDoorOpenSQ
namespace Go.Proofs.YtomeeebiijmnmaaGreatDoor.Law05.Asks
open Mem As Bk Law05 Go.ChangeShapes Go.WideShapes Go.ChangeAt Go.RowKit
theorem zk1 {α : Type _} {xs : List α} {i : Nat} (h : i < xs.toArray.size) : xs.toArray[i] = xs[i]'(by simpa using h) := List.getElem_toArray h
theorem zk2 {α : Type _} {a : α} {bs : List α} {h : 0 < (a :: bs).length} : (a :: bs)[0] = a := List.getElem_cons_zero _ _ _
theorem zk3 {α : Type _} {a : α} {bs : List α} {i : Nat} {h : i + 1 < (a :: bs).length} : (a :: bs)[i + 1] = bs[i]'(by simpa using h) := List.getElem_cons_succ _ _ _ _
theorem zk4 {α : Type _} {l : List α} {i : Nat} {a : α} : l.toArray.setIfInBounds i a = (l.set i a).toArray := List.setIfInBounds_toArray _ _ _
theorem zk5 {α : Type _} {x : α} {xs : List α} {a : α} : (x :: xs).set 0 a = a :: xs := List.set_cons_zero
theorem zk6 {α : Type _} {x : α} {xs : List α} {i : Nat} {a : α} : (x :: xs).set (i + 1) a = x :: xs.set i a := List.set_cons_succ
theorem sz16 (k : Nat) : sz k ≤ 16 := by unfold sz; split <;> omega
theorem len_le {R R' : List Rw} (h : R' = R ∨ R'.length = R.length + 1) : R'.length ≤ R.length + 1 := by
 rcases h with h | h
 ·rw [h]; omega
 ·omega
theorem kind3 (n : Nat) : ∃ k : Nat, (k = 1 ∨ k = 2 ∨ k = 3) ∧ 1 + (n : Int) % 3 = (k : Int) := ⟨1 + n % 3, by omega, by omega⟩
/-- the other key: 99 ahead of the first one's bytes -/
def k99 (key : Nat → Nat) : Nat → Nat := cat 1 (fun _ => 99) key
theorem k99_lt {L : Nat} {key : Nat → Nat} (h : ∀ i, i < L → key i < 256) : ∀ i, i < 1 + L → k99 key i < 256 := fun i hi => by
 unfold k99 cat
 split
 ·show 99 < 256
  omega
 ·exact h _ (by omega)
theorem own_one (w : World) (x : Nat) : Mem.Own (w.alloc (.cells #[.int .u8 (x : Int)] 5)) w.heap.size 5 1 (.slice (some ⟨w.heap.size, 0, none⟩) 1 1) 1 (fun _ => x) :=
 ⟨rfl, .inr ⟨w.heap.size, 1, #[.int .u8 (x : Int)], rfl, Nat.le_refl _, heap_alloc_new w _, Nat.le_refl _, by decide, rfl, rfl⟩⟩
theorem bookZ (T : Value) : #[Value.slice none 0 0, T] = row 2 (bookC (.slice none 0 0) T) := (row2 _ _).symm
/-- what the book holds of Do's answer, and what lies where -/
def Got (k : Nat) (o : Option (Nat → Nat)) (gv ge : Value) (w : World) : Prop :=
 (∃ y A c, o = some y ∧ gv = .slice A (sz k) c ∧ ge = .nilIface ∧ Reads w w.heap.size A (sz k) y) ∨
 (∃ j x, o = none ∧ gv = .slice none 0 0 ∧ ge = .iface 86 (.pointer (some ⟨j, 0, none⟩)) ∧ Blk w j 89 #[x, .iface 64 (.int .i64 13)])
theorem got_of {p : Pl} {k : Nat} {o : Option (Nat → Nat)} {R' : List Rw} {d' : Nat} {w w' : World} {e : Ending} (h : DoOut p k o R' d' w e w') : ∃ gv ge, e = .returned (.tuple #[gv, ge]) ∧ KeptS p.S w w' ∧ BookAt w' p d' R' ∧ Got k o gv ge w' := by
 obtain ⟨h1, h2, ⟨y, g, h3, h4, h5, h6⟩ | ⟨j, x, h3, h4, h5, h6⟩⟩ := h
 ·exact ⟨_, _, h4, h1, h2, .inl ⟨y, _, _, h3, rfl, rfl, h5.reads⟩⟩
 ·exact ⟨_, _, h4, h1, h2, .inr ⟨j, x, h3, rfl, rfl, h5⟩⟩
theorem Got.below {k : Nat} {o : Option (Nat → Nat)} {gv ge : Value} {w w' : World} (h : Got k o gv ge w) (hB : Below w.heap.size w w') : Got k o gv ge w' := by
 obtain ⟨y, A, c, h1, h2, h3, h4⟩ | ⟨j, x, h1, h2, h3, h4⟩ := h
 ·exact .inl ⟨y, A, c, h1, h2, h3, (h4.below hB).more hB.size⟩
 ·exact .inr ⟨j, x, h1, h2, h3, h4.below hB h4.lt⟩
theorem Got.store {k : Nat} {o : Option (Nat → Nat)} {gv ge : Value} {w : World} (h : Got k o gv ge w) {gm : Nat} {A1 A2 : Option Addr} {n1 c1 n2 c2 : Nat} (hm : Blk w gm 36 (row 2 (bookC (.slice A1 n1 c1) (.slice A2 n2 c2)))) (cs : Array Value) : Got k o gv ge (w.setRow gm cs) := by
 obtain ⟨y, A, c, h1, h2, h3, h4⟩ | ⟨j, x, h1, h2, h3, h4⟩ := h
 ·exact .inl ⟨y, A, c, h1, h2, h3, reads_book hm cs h4⟩
 ·exact .inr ⟨j, x, h1, h2, h3, h4.otherRow gm cs (hm.ne h4 (by decide))⟩
theorem kept_row {w : World} (gm : Nat) (cs : Array Value) : KeptS [gm] w (w.setRow gm cs) := ⟨rfl, rfl, rfl, by simp, fun j _ hs => setRow_other w gm j cs (by simpa using hs)⟩
theorem ci_row {w : World} {p : Pl} {k gc base L gm : Nat} {key : Nat → Nat} {ds : Array Value} (h : CiAt w p k gc base L key) (hg : Blk w gm 36 ds) (cs : Array Value) : CiAt (w.setRow gm cs) p k gc base L key := by
 have hB := kept_row (w := w) gm cs
 have hne : ∀ {j : Nat} {u : TypeId} {es : Array Value}, Blk w j u es → 36 ≠ u → j ∉ [gm] := fun hj hu => by simpa using hg.ne hj hu
 have hown : ∀ {v : Value}, Mem.Own w base 5 1 v L key → Mem.Own (w.setRow gm cs) base 5 1 v L key := fun {v} h5 => hB.own h5 (fun j es hj => hne hj (by decide))
 obtain ⟨h0, ⟨h1, h2, kb, v, h3, h4, h5⟩ | ⟨h1, h2, kb, v, h3, h4, h5⟩ | ⟨h1, h2, kb, v, h3, h4, h5⟩⟩ := h
 ·exact ⟨h0, .inl ⟨h1, h2, kb, v, hB.blk h3 (hne h3 (by decide)), hB.blk h4 (hne h4 (by decide)), hown h5⟩⟩
 ·exact ⟨h0, .inr (.inl ⟨h1, h2, kb, v, hB.blk h3 (hne h3 (by decide)), hB.blk h4 (hne h4 (by decide)), hown h5⟩)⟩
 ·exact ⟨h0, .inr (.inr ⟨h1, h2, kb, v, hB.blk h3 (hne h3 (by decide)), hB.blk h4 (hne h4 (by decide)), hB.blk h5 (hne h5 (by decide))⟩)⟩
theorem book_row {w : World} {p : Pl} {d : Nat} {R : List Rw} {gm : Nat} {ds : Array Value} (h : BookAt w p d R) (hg : Blk w gm 36 ds) (cs : Array Value) : BookAt (w.setRow gm cs) p d R := by
 have hB := kept_row (w := w) gm cs
 have hne : ∀ {j : Nat} {u : TypeId} {es : Array Value}, Blk w j u es → 36 ≠ u → j ∉ [gm] := fun hj hu => by simpa using hg.ne hj hu
 exact ⟨hB.blk h.book (hne h.book (by decide)), hB.blk h.tape (hne h.tape (by decide)), hB.own h.own (fun j es hj => hne hj (by decide)), fun bk => hB.map (h.maps bk) (by simpa using (h.maps bk).ne_blk hg), h.ne, h.inv, h.lo⟩
theorem cells2 {w : World} {g : Nat} {S T : Value} (h : Blk w g 36 (row 2 (bookC S T))) : ∀ i, i < 2 → w.cell? ((⟨g, 0, none⟩ : Addr).add i) = some (bookC S T i) := fun i hi => by
 rw [add_zero_off, h.cell, row_get _ _ _ hi]
/-- what holds behind the document's own Do, and the store of its book -/
def P2 (p : Pl) (k Lk : Nat) (o : Option (Nat → Nat)) (R' : List Rw) (d' : Nat) (w0 : World) (W : World) (g : Nat) (Ar : Option Addr) (cr : Nat) (At : Option Addr) (ct : Nat) (v : Value) (ok : Bool) : Prop :=
 Below w0.heap.size w0 W ∧ Blk W g 36 (row 2 (bookC (.slice Ar R'.length cr) (.slice At (p.n - d') ct))) ∧ w0.heap.size ≤ g ∧ RowsAt W W.heap.size Ar Lk R' ∧ Reads W W.heap.size At (p.n - d') (fun i => p.F (d' + i)) ∧ p.n - d' ≤ ct ∧ (Ar = none → R'.length = 0 ∧ cr = 0) ∧
  ((∃ y A c, o = some y ∧ ok = true ∧ v = .slice A (sz k) c ∧ Reads W W.heap.size A (sz k) y) ∨ (o = none ∧ ok = false))
theorem suff8 {F G : World → Nat → Option Addr → Nat → Option Addr → Nat → Value → Bool → Prop} {R : Prop} (h1 : (∀ W g Ar cr At ct v ok, F W g Ar cr At ct v ok → G W g Ar cr At ct v ok) → R) (h2 : ∀ W g Ar cr At ct v ok, F W g Ar cr At ct v ok → G W g Ar cr At ct v ok) : R := h1 h2
section
variable {p : Pl} {k Lk : Nat} {o : Option (Nat → Nat)} {R' : List Rw} {d' : Nat} {w0 w1 w3 : World} {Ar : Option Addr} {cr : Nat} {At : Option Addr} {ct : Nat} {v : Value} {ok : Bool} {zs cs : Array Value}
theorem p2_call (hcs : cs = row 2 (bookC (.slice Ar R'.length cr) (.slice At (p.n - d') ct))) (hS : Below w0.heap.size w0 w1) (hB : Below w1.heap.size w1 w3) (hag : ∀ W, Agree w0.heap.size w1 w3 W → RowsAt W W.heap.size Ar Lk R' ∧ Reads W W.heap.size At (p.n - d') (fun i => p.F (d' + i))) (hct : p.n - d' ≤ ct) (hAr : Ar = none → R'.length = 0 ∧ cr = 0)
  (hres : (∃ y A c, o = some y ∧ ok = true ∧ v = .slice A (sz k) c ∧ ∀ W, Agree w0.heap.size w1 w3 W → KeepU8 w3 W → Reads W W.heap.size A (sz k) y) ∨ (o = none ∧ ok = false)) :
  P2 p k Lk o R' d' w0 ((w3.alloc (.cells zs 36)).setRow w3.heap.size cs) w3.heap.size Ar cr At ct v ok := by
 subst hcs
 have h03 : Below w0.heap.size w0 w3 := hS.trans (hB.mono hS.size)
 have hsame : ∀ g, g < w3.heap.size → ((w3.alloc (.cells zs 36)).setRow w3.heap.size (row 2 (bookC (.slice Ar R'.length cr) (.slice At (p.n - d') ct)))).heap[g]? = w3.heap[g]? := fun g hg => (setRow_other _ _ g _ (by omega)).trans (Below.heap_alloc w3 _ g hg)
 have ha : Agree w0.heap.size w1 w3 ((w3.alloc (.cells zs 36)).setRow w3.heap.size (row 2 (bookC (.slice Ar R'.length cr) (.slice At (p.n - d') ct)))) := ⟨rfl, rfl, rfl, by simp, fun g hg _ => hsame g hg⟩
 obtain ⟨h1, h2⟩ := hag _ ha
 refine ⟨below_setRow' (h03.alloc h03.size _) h03.size _, (Blk.fresh w3 36 zs).setRow _, h03.size, h1, h2, hct, hAr, ?_⟩
 rcases hres with ⟨y, A, c, e1, e2, e3, h⟩ | h
 ·exact .inl ⟨y, A, c, e1, e2, e3, h _ ha (fun g es hg => hsame g hg.lt)⟩
 ·exact .inr h
theorem p2_alloc (hcs : cs = row 2 (bookC (.slice Ar R'.length cr) (.slice At (p.n - d') ct))) (hS : Below w0.heap.size w0 w1) (hs1 : w1.heap.size = w0.heap.size + 1) (hq : Blk w1 w0.heap.size 36 zs) (hB : Below w1.heap.size w1 w3) (hag : ∀ W, Agree w0.heap.size w1 w3 W → RowsAt W W.heap.size Ar Lk R' ∧ Reads W W.heap.size At (p.n - d') (fun i => p.F (d' + i))) (hct : p.n - d' ≤ ct) (hAr : Ar = none → R'.length = 0 ∧ cr = 0)
  (hres : (∃ y A c, o = some y ∧ ok = true ∧ v = .slice A (sz k) c ∧ ∀ W, Agree w0.heap.size w1 w3 W → KeepU8 w3 W → Reads W W.heap.size A (sz k) y) ∨ (o = none ∧ ok = false)) :
  P2 p k Lk o R' d' w0 (w3.setRow w0.heap.size cs) w0.heap.size Ar cr At ct v ok := by
 subst hcs
 have h03 : Below w0.heap.size w0 w3 := hS.trans (hB.mono hS.size)
 have hq3 := hq.below hB hq.lt
 have hsame : ∀ g, g ≠ w0.heap.size → (w3.setRow w0.heap.size (row 2 (bookC (.slice Ar R'.length cr) (.slice At (p.n - d') ct)))).heap[g]? = w3.heap[g]? := fun g hg => setRow_other _ _ g _ hg
 have ha : Agree w0.heap.size w1 w3 (w3.setRow w0.heap.size (row 2 (bookC (.slice Ar R'.length cr) (.slice At (p.n - d') ct)))) := ⟨rfl, rfl, rfl, by simp, fun g _ hg => hsame g (by omega)⟩
 obtain ⟨h1, h2⟩ := hag _ ha
 refine ⟨below_setRow' h03 (Nat.le_refl _) _, hq3.setRow _, Nat.le_refl _, h1, h2, hct, hAr, ?_⟩
 rcases hres with ⟨y, A, c, e1, e2, e3, h⟩ | h
 ·exact .inl ⟨y, A, c, e1, e2, e3, h _ ha (fun g es hg => hsame g (hq3.ne hg (by decide)))⟩
 ·exact .inr h
end
theorem fieldQ0 (a : Addr) (w : World) : (Instr.fieldAt 39 (.pointer (some a)) 0).run Tryz.prog w = .ok (.pointer (some (a.add 0))) w := by kernel_rfl
theorem fieldQ2 (a : Addr) (w : World) : (Instr.fieldAt 39 (.pointer (some a)) 2).run Tryz.prog w = .ok (.pointer (some (a.add 17))) w := by kernel_rfl
theorem exec_fieldQ0 {o : Oper} {a : Act} {w : World} (x : Operand) (ho : o.op = .fieldAddr 39 x 0) (q : Addr) (hx : a.eval x = .pointer (some q)) : (execOp a.eval o).run Tryz.prog w = .ok (.value (.pointer (some (q.add 0)))) w := by
 have h := fieldQ0 q w
 unfold execOp
 simp only [ho, hx, h, Sem.run_bind, Sem.run_pure, Result.andThen_ok]
theorem exec_fieldQ2 {o : Oper} {a : Act} {w : World} (x : Operand) (ho : o.op = .fieldAddr 39 x 2) (q : Addr) (hx : a.eval x = .pointer (some q)) : (execOp a.eval o).run Tryz.prog w = .ok (.value (.pointer (some (q.add 17)))) w := by
 have h := fieldQ2 q w
 unfold execOp
 simp only [ho, hx, h, Sem.run_bind, Sem.run_pure, Result.andThen_ok]
theorem exec_ldB {P : Program} {o : Oper} {a : Act} {w : World} (ty : TypeId) (x : Operand) (ho : o.op = .load ty x) (q : Addr) (hx : a.eval x = .pointer (some q)) (hu : P.underlying ty = some .bool) (b : Bool) (hv : w.cell? q = some (.bool b)) : (execOp a.eval o).run P w = .ok (.value (.bool b)) w := by
 have h : (Instr.loadAt ty (.pointer (some q))).run P w = .ok (.bool b) w := by
  simp [Instr.loadAt, Instr.sureAddr, loadVar, isAgg, run_underlying hu, hv]
 unfold execOp
 simp only [ho, hx, h, Sem.run_bind, Sem.run_pure, Result.andThen_ok]
theorem fieldRB (a : Addr) (w : World) : (Instr.fieldAt 36 (.pointer (some a)) 0).run Tryz.prog w = .ok (.pointer (some (a.add 0))) w := by kernel_rfl
theorem exec_fieldRB {o : Oper} {a : Act} {w : World} (x : Operand) (ho : o.op = .fieldAddr 36 x 0) (q : Addr) (hx : a.eval x = .pointer (some q)) : (execOp a.eval o).run Tryz.prog w = .ok (.value (.pointer (some (q.add 0)))) w := by
 have h := fieldRB q w
 unfold execOp
 simp only [ho, hx, h, Sem.run_bind, Sem.run_pure, Result.andThen_ok]
theorem exec_ldSl {P : Program} {o : Oper} {a : Act} {w : World} (ty : TypeId) (x : Operand) (ho : o.op = .load ty x) (q : Addr) (hx : a.eval x = .pointer (some q)) (e : TypeId) (hu : P.underlying ty = some (.slice e)) (A : Option Addr) (n c : Nat) (hv : w.cell? q = some (.slice A n c)) : (execOp a.eval o).run P w = .ok (.value (.slice A n c)) w := by
 have h : (Instr.loadAt ty (.pointer (some q))).run P w = .ok (.slice A n c) w := by
  simp [Instr.loadAt, Instr.sureAddr, loadVar, isAgg, run_underlying hu, hv]
 unfold execOp
 simp only [ho, hx, h, Sem.run_bind, Sem.run_pure, Result.andThen_ok]
theorem exec_cutQ {P : Program} {o : Oper} {a : Act} {w : World} (ty : TypeId) (p hi : Operand) (ho : o.op = .slice ty p none (some hi) none) (u z v : Value) (hp : a.eval p = u) (hh : a.eval hi = z) (hr : (Instr.sliceAt ty u none (some z) none).run P w = .ok v w) : (execOp a.eval o).run P w = .ok (.value v) w := by
 subst hp; subst hh
 unfold execOp
 simp [ho, hr]
theorem wpl_store_blk {P : Program} {ops : Array Oper} {rest : List Oper} {o : Oper} {a : Act} {w : World} {Q : Exit → Act → World → Prop} (hgd : o.guard = none) (ty : TypeId) (x y : Operand) (ho : o.op = .store ty x y) (g : Nat) (cells : Array Value) (hx : a.eval x = .pointer (some ⟨g, 0, none⟩)) (hy : a.eval y = .agg cells)
  (t : TypeId) (old : Array Value) (hg : Blk w g t old) (hi : (P.info? ty).map (·.size) = some cells.size) (hold : old.size = cells.size) (h1 : cells.all (·.oneCell') = true)
  (h : wpList P ops Q rest (a.put o.dst undef) (w.setRow g cells)) : wpList P ops Q (o :: rest) a w :=
 wpList_plain hgd fun _ hK => wp_store_row ty x y ho g cells hx hy t old hg hi hold h1 (hK _ _ h)
theorem iQ : (Tryz.prog.info? 39).map (·.size) = some 18 := by kernel_rfl
theorem exec_slQ {P : Program} {o : Oper} {a : Act} {w : World} (ty : TypeId) (x ix : Operand) (ho : o.op = .indexAddr ty x ix) (ad : Addr) (n c : Nat) (hx : a.eval x = .slice (some ad) n c) (kd : IntKind) (z : Int) (hix : a.eval ix = .int kd z) (k : Nat) (hz : z = (k : Int))
  (e : TypeId) (hu : P.underlying ty = some (.slice e)) (hk : k < n) (sz : Nat) (hs : (P.info? e).map (·.size) = some sz) : (execOp a.eval o).run P w = .ok (.value (.pointer (some (ad.add (k * sz))))) w := by
 subst hz
 have hr : (Instr.indexAt ty (.slice (some ad) n c) (.int kd (k : Int))).run P w = .ok (.pointer (some (ad.add (k * sz)))) w := by
  simp [Instr.indexAt, asIntOf, Sem.run_bind, run_underlying hu, run_size hs, show ¬ n ≤ k by omega]
 unfold execOp
 simp only [ho, hx, hix, hr, Sem.run_bind, Sem.run_pure, Result.andThen_ok]
theorem fieldQ (a : Addr) (w : World) : (Instr.fieldAt 39 (.pointer (some a)) 1).run Tryz.prog w = .ok (.pointer (some (a.add 1))) w := by kernel_rfl
theorem exec_fieldQ {o : Oper} {a : Act} {w : World} (ty : TypeId) (x : Operand) (ho : o.op = .fieldAddr 39 x 1) (q : Addr) (hx : a.eval x = .pointer (some q)) (_ : ty = 39) : (execOp a.eval o).run Tryz.prog w = .ok (.value (.pointer (some (q.add 1)))) w := by
 have h := fieldQ q w
 unfold execOp
 simp [ho, hx, h]
theorem cutA16 (k : Nat) (a : Addr) (w : World) : (Instr.sliceAt 37 (.pointer (some a)) none (some (.int .i64 (sz k : Int))) none).run Tryz.prog w = .ok (.slice (some a) (sz k) 16) w := by
 unfold sz
 split <;> kernel_rfl
set_option maxRecDepth 100000 in
set_option maxHeartbeats 2000000 in
set_option linter.unusedSimpArgs false in
theorem asks_true (n : Nat) (A : Option Addr) (L c : Nat) (key : Nat → Nat) (A2 : Option Addr) (n2 c2 : Nat) (F : Nat → Nat) (A4 : Option Addr) (n4 c4 : Nat) (one : Nat → Bool) (f : Nat → Nat → Nat) (back : Nat → Bool) (w : World) (hg : Laid w) (_hn : n < 256) (hR : Reads w w.heap.size A L key) (hk : ∀ i, i < L → key i < 256) (hR2 : Reads w w.heap.size A2 n2 F) (hF : ∀ i, i < n2 → F i < 256) (hA2 : A2 = none → n2 = 0 ∧ c2 = 0) (hQ : ReadsQ w w.heap.size A4 n4 one f back) (hf : ∀ i, i < n4 → ∀ j, j < 16 → f i j < 256) (hA : A = none → L = 0 ∧ c = 0) (hc2 : n2 ≤ c2) :
  Calls Tryz.prog 3 #[.int .u8 (n : Int), .slice A L c, .slice A2 n2 c2, .slice A4 n4 c4] w fun e w' => e = .returned (.bool true) ∧ Below w.heap.size w w' := by
 obtain ⟨k, hkk, hkI⟩ := kind3 n
 have Hg := hid hg
 have HR := hid hR
 have HR2 := hid hR2
 have HQ := hid hQ
 have Hk := hid hk
 have HF := hid hF
 have Hf := hid hf
 have HA2 := hid hA2
 have HA := hid hA
 clear hg hR hR2 hQ hk hF hf hA2 hA
 by_cases hL : L ≤ 100 ∧ n2 ≤ 2000 ∧ n4 ≤ 40
 ·obtain ⟨hL1, hL2, hL3⟩ := hL
  have hL1I : ¬ 100 < (L : Int) := by omega
  have hL2I : ¬ 2000 < (n2 : Int) := by omega
  have hL3I : ¬ 40 < (n4 : Int) := by omega
  go_enter Tryz.func3, Tryz.ntmps3
  go_wp2_with fail
  refine (awake_any _ Hg.out).mono ?_
  rintro e w1 ⟨rfl, hB1⟩
  have HB1 := hid hB1
  clear hB1 hkI
  go_wp2_with fail
  refine (book_any A2 n2 c2 F _ (by omega) HA2.out HF.out ((HR2.out.below HB1.out).more HB1.out.size)).mono ?_
  rintro e w2 ⟨p, rfl, hp1, hp2, hp3, hbk, hB2⟩
  subst hp2 hp3
  have Hbk2 := hid hbk
  have hlow : Hid (∀ g ∈ p.S, w.heap.size ≤ g) := hid (fun g hg => by have := hbk.lo.2 g hg; have := HB1.out.size; omega)
  have HB2 := hid (HB1.out.trans (hB2.mono HB1.out.size))
  clear HB1 hB2 hbk
  go_wp2_with fail
  refine (right_any _ k rfl hkk A L c key _ (by omega) ((HR.out.below HB2.out).more HB2.out.size)).mono ?_
  rintro e w3 ⟨v, rfl, ho, hB3⟩
  obtain ⟨Ac, cc, rfl, hcc, hAc, -⟩ := ho.slice'
  have Hbk3 := hid (Hbk2.out.keep hB3)
  have HB3 := hid (HB2.out.trans (hB3.mono HB2.out.size))
  have HK3 := hid ho.reads
  have HAc := hid hAc
  clear Hbk2 HB2 hB3 ho hAc
  have hBo := (Below.refl w3.heap.size w3).alloc (Nat.le_refl _) (.cells #[.int .u8 99] 5)
  have Ho1 := hid (own_one w3 99)
  have HRk := hid ((((HR.out.below HB3.out).more HB3.out.size).below hBo).more hBo.size)
  have HBo := hid hBo
  clear hBo
  go_wp2_with (at_builtin; (refine wpl_app_gen rfl _ _ 22 rfl w3.heap.size 5 (.int .u8 0) Tryz.underlying22 info_u8 rfl _ 1 _ rfl Ho1.out A L c _ _ HRk.out HA.out rfl (by omega) (by simp) ?_))
  intro v4 w4 ho4 hB4
  obtain ⟨A5, c5, rfl, hc5, -, -⟩ := ho4.slice'
  have hB34 := HBo.out.trans hB4
  have Hbk4 := hid (Hbk3.out.keep hB34)
  have HB4 := hid (HB3.out.trans (hB34.mono HB3.out.size))
  have HK4 := hid ((HK3.out.below hB34).more hB34.size)
  have HR4 := hid ho4.reads
  clear ho4 hB4 hB34 Hbk3 HB3 HK3 Ho1 HRk HBo
  go_wp2_with fail
  refine (right_any _ k rfl hkk A5 (1 + L) c5 (k99 key) _ (by omega) HR4.out).mono ?_
  rintro e w5 ⟨v, rfl, ho, hB5⟩
  obtain ⟨Ad, cd, rfl, hcd, hAd, -⟩ := ho.slice'
  have Hbk5 := hid (Hbk4.out.keep hB5)
  have HB5 := hid (HB4.out.trans (hB5.mono HB4.out.size))
  have HK5 := hid ((HK4.out.below hB5).more hB5.size)
  have HD5 := hid ho.reads
  have HAd := hid hAd
  clear Hbk4 HB4 hB5 ho hAd HK4 HR4
  have hfit := rn_fits hkk
  have hrl := (rn_le k).1
  go_wp2_with fail
  refine (new_any k Ac (rn k) cc (rk L key) p _ (by omega) HAc.out (fun i _ => rk_lt Hk.out i) HK5.out hfit).mono ?_
  rintro e w6 ⟨gc, rfl, hci, -, hB6⟩
  have Hbk6 := hid (Hbk5.out.keep hB6)
  have HB6 := hid (HB5.out.trans (hB6.mono HB5.out.size))
  have HK6 := hid ((HK5.out.below hB6).more hB6.size)
  have HD6 := hid ((HD5.out.below hB6).more hB6.size)
  have Hci6 := hid hci
  clear Hbk5 HB5 hB6 hci HK5 HD5
  go_wp2_with fail
  refine (new_any k Ad (rn k) cd (rk (1 + L) (k99 key)) p _ (by omega) HAd.out (fun i _ => rk_lt (k99_lt Hk.out) i) HD6.out hfit).mono ?_
  rintro e w7 ⟨gd, rfl, hcd7, -, hB7⟩
  have Hbk7 := hid (Hbk6.out.keep hB7)
  have HB7 := hid (HB6.out.trans (hB7.mono HB6.out.size))
  have HK7 := hid ((HK6.out.below hB7).more hB7.size)
  have HD7 := hid ((HD6.out.below hB7).more hB7.size)
  have Hci7 := hid (Hci6.out.keep hB7)
  have Hcd7 := hid hcd7
  clear Hbk6 HB6 hB7 Hci6 hcd7 HK6 HD6
  have hbz := bookZ (.slice A2 p.n c2)
  go_wp2_with (first
   | (with_reducible refine wpl_alloc rfl 36 rfl _ zRB2 ?_)
   | (with_reducible refine wpl_store_newS rfl 36 _ _ rfl w7 _ 2 _ (one2 _ _ _ _ _ _) rfl rfl 36 iRB (row_size _ _) ?_))
  clear hbz
  have hBm := (Below.refl w7.heap.size w7).alloc (Nat.le_refl _) (.cells (row 2 (bookC (.slice none 0 0) (.slice A2 p.n c2))) 36)
  have Hm8 := hid (Blk.fresh w7 36 (row 2 (bookC (.slice none 0 0) (.slice A2 p.n c2))))
  have Hbk8 := hid (Hbk7.out.keep hBm)
  have Hci8 := hid (Hci7.out.keep hBm)
  have Hcd8 := hid (Hcd7.out.keep hBm)
  have HK8 := hid ((HK7.out.below hBm).more hBm.size)
  have HD8 := hid ((HD7.out.below hBm).more hBm.size)
  have HB8 := hid (HB7.out.trans (hBm.mono HB7.out.size))
  have HT8 := hid ((HR2.out.below HB8.out).more HB8.out.size)
  have hgm := HB7.out.size
  clear hBm Hbk7 Hci7 Hcd7 HK7 HD7 HB7
  generalize w7.alloc (.cells (row 2 (bookC (.slice none 0 0) (.slice A2 p.n c2))) 36) = w8 at *
  generalize w7.heap.size = gm at *
  generalize hb5 : w5.heap.size = base5 at *
  generalize hb6 : w6.heap.size = base6 at *
  clear hb5 hb6
  go_loopw [19] (fun y wr => ∃ (i d : Nat) (R : List Rw) (Ar : Option Addr) (cr : Nat) (At : Option Addr) (ct : Nat), i ≤ n4 ∧ y = .int .i64 (i : Int) ∧ R.length ≤ 2 * i ∧ d ≤ p.n ∧ p.n - d ≤ ct ∧ Hid (BookAt wr p d R) ∧ Hid (CiAt wr p k gc base5 (rn k) (rk L key)) ∧ Hid (CiAt wr p k gd base6 (rn k) (rk (1 + L) (k99 key))) ∧ Hid (Blk wr gm 36 (row 2 (bookC (.slice Ar R.length cr) (.slice At (p.n - d) ct)))) ∧ Hid (RowsAt wr wr.heap.size Ar (rn k) R) ∧ Hid (Reads wr wr.heap.size At (p.n - d) (fun q => p.F (d + q))) ∧ Hid (Ar = none → R.length = 0 ∧ cr = 0) ∧ Hid (Reads wr wr.heap.size Ac (rn k) (rk L key)) ∧ Hid (Reads wr wr.heap.size Ad (rn k) (rk (1 + L) (k99 key))) ∧ Hid (Below w.heap.size w wr)) (fun y _ => n4 - (intOf y).toNat)
  case atStart => exact ⟨0, 0, [], none, 0, A2, c2, by omega, rfl, by simp, by omega, by omega, Hbk8, Hci8, Hcd8, Hm8, hid (fun q hq => by simp at hq), hid (by simpa using HT8.out), hid (fun _ => ⟨rfl, rfl⟩), HK8, HD8, HB8⟩
  case round =>
   clear Hbk8 Hci8 Hcd8 Hm8 HK8 HD8 HB8 HT8
   obtain ⟨i, d, R, Ar, cr, At, ct, hi, rfl, hRi, hd2, hct, Hbk, Hci, Hcd, Hm, HRw, HT, HAr, HKc, HKd, HBr⟩ := hrel
   by_cases hlt : i < n4
   ·have hltI : (i : Int) < (n4 : Int) := by omega
    obtain ⟨ad, rfl, had, hq1, hq2, hq3⟩ := HQ.out i hlt
    have hfi : Hid (∀ j, j < 16 → f i j < 256) := hid (Hf.out i hlt)
    have H1 := hid hq1
    have H2 := hid hq2
    have H3 := hid hq3
    clear hq1 hq2 hq3
    go_wp2_with fail
    refine wp_region_held_drew (S := fun W => Below wr.heap.size wr W) (by kernel_rfl) (Below.refl _ _).drew (fun hS0 => ?_)
    refine wpAnyH_take (i := 0) (v := .slice (some ad) n4 c4) rfl (by kernel_rfl) (by kernel_rfl) (by kernel_rfl) (fun _ _ _ h => h) (Or.inl ⟨rfl, fun _ _ => exec_move _ rfl _ rfl⟩) hS0 ?_
    (try simp only [Act.put, zk1, zk2, zk3, zk4, zk5, zk6])
    refine wpAnyH_take (i := 1) (v := .int .i64 (i : Int)) rfl (by kernel_rfl) (by kernel_rfl) (by kernel_rfl) (fun _ _ _ h => h) (Or.inl ⟨rfl, fun _ _ => exec_move _ rfl _ rfl⟩) hS0 ?_
    (try simp only [Act.put, zk1, zk2, zk3, zk4, zk5, zk6])
    refine wpAnyH_take (i := 2) (v := .pointer (some (ad.add (i * 18)))) rfl (by kernel_rfl) (by kernel_rfl) (by kernel_rfl) (fun _ _ _ h => h) (Or.inl ⟨rfl, fun _ _ => exec_slQ 23 _ _ rfl ad n4 c4 rfl .i64 _ rfl i rfl 39 Tryz.underlying23 hlt 18 iQ⟩) hS0 ?_
    (try simp only [Act.put, zk1, zk2, zk3, zk4, zk5, zk6])
    refine wpAnyH_take (i := 3) (v := .pointer (some ((ad.add (i * 18)).add 1))) rfl (by kernel_rfl) (by kernel_rfl) (by kernel_rfl) (fun _ _ _ h => h) (Or.inl ⟨rfl, fun W _ => exec_fieldQ 39 _ rfl _ rfl rfl⟩) hS0 ?_
    (try simp only [Act.put, zk1, zk2, zk3, zk4, zk5, zk6])
    refine wpAnyH_take (i := 4) (v := .pointer (some ⟨gc, 0, none⟩)) rfl (by kernel_rfl) (by kernel_rfl) (by kernel_rfl) (fun _ _ _ h => h) (Or.inl ⟨rfl, fun _ _ => exec_move _ rfl _ rfl⟩) hS0 ?_
    (try simp only [Act.put, zk1, zk2, zk3, zk4, zk5, zk6])
    refine wpAnyH_ready (rs := [5]) (by kernel_rfl) (by simp) (AllReadyH.cons rfl (fun K hK => ?_) AllReadyH.nil)
    (try simp only [Act.put, zk1, zk2, zk3, zk4, zk5, zk6])
    refine Eq.mpr (if_pos (by rfl)) ?_
    go_simp
    refine (size_any _ p k gc _ _ _ (Hci.out.keep hS0)).mono ?_
    rintro e wq1 ⟨rfl, hwq⟩
    have hBq1 : Below wr.drew.heap.size wr.drew wq1 := by rw [← hwq]; exact Below.refl _ _
    refine hK.out _ _ (hS0.trans (hBq1.mono hS0.size)) (fun hS1 => ?_)
    (try simp only [Act.put, zk1, zk2, zk3, zk4, zk5, zk6])
    clear hK K
    refine wpAnyH_take (i := 6) (v := .slice (some ((ad.add (i * 18)).add 1)) (sz k) 16) rfl (by kernel_rfl) (by kernel_rfl) (by kernel_rfl) (fun _ _ _ h => h) (Or.inl ⟨rfl, fun W _ => exec_cutQ 37 _ _ rfl (.pointer (some ((ad.add (i * 18)).add 1))) (.int .i64 (sz k : Int)) _ rfl rfl (cutA16 k _ W)⟩) hS1 ?_
    (try simp only [Act.put, zk1, zk2, zk3, zk4, zk5, zk6])
    refine wpAnyH_take (i := 7) (v := .slice (some ((ad.add (i * 18)).add 1)) (sz k) 16) rfl (by kernel_rfl) (by kernel_rfl) (by kernel_rfl) (fun _ _ _ h => h) (Or.inl ⟨rfl, fun _ _ => exec_assign _ rfl _ rfl⟩) hS1 ?_
    (try simp only [Act.put, zk1, zk2, zk3, zk4, zk5, zk6])
    refine wpAnyH_done (by kernel_rfl) ?_ _
    generalize hw9 : wq1 = w9 at *
    clear hw9
    have HB9 := hid (HBr.out.trans (hS1.mono HBr.out.size))
    have Hbk9 := hid (Hbk.out.keep hS1)
    have Hci9 := hid (Hci.out.keep hS1)
    have Hcd9 := hid (Hcd.out.keep hS1)
    have Hm9 := hid (Hm.out.below hS1 Hm.out.lt)
    have HRw9 := hid ((HRw.out.below hS1).more hS1.size)
    have HT9 := hid ((HT.out.below hS1).more hS1.size)
    have HKc9 := hid ((HKc.out.below hS1).more hS1.size)
    have HKd9 := hid ((HKd.out.below hS1).more hS1.size)
    clear hS0 hS1 hBq1 hwq Hbk Hci Hcd Hm HRw HT HKc HKd HBr
    have Hq2 : Hid (∀ W, Below w.heap.size w W → W.cell? ((ad.add (i * 18)).add 17) = some (.bool (back i))) := hid (fun W hW => (hW.cell (by rw [add_block, add_block]; exact had)).trans H3.out)
    have hfs : Hid (∀ j, j < sz k → f i j < 256) := hid (fun j hj => hfi.out j (Nat.lt_of_lt_of_le hj (sz16 k)))
    have Hcs : Hid (∀ W, Below w.heap.size w W → ∀ j, j < sz k → W.cell? (((ad.add (i * 18)).add 1).add j) = some (.int .u8 ((f i j : Nat) : Int))) := hid (fun W hW j hj => by
     rw [add_add]
     exact (hW.cell (by rw [add_block, add_block]; exact had)).trans (H2.out j (Nat.lt_of_lt_of_le hj (sz16 k))))
    have hadb : Hid (((ad.add (i * 18)).add 1).block < w.heap.size) := hid (by rw [add_block, add_block]; exact had)
    have hadS : Hid (((ad.add (i * 18)).add 1).block ∉ p.S) := hid (fun h => by have := hlow.out _ h; have := hadb.out; omega)
    have HX : Hid (∀ W, Below w.heap.size w W → Reads W W.heap.size (some ((ad.add (i * 18)).add 1)) (sz k) (f i)) := hid (fun W hW _ => ⟨_, rfl, Nat.lt_of_lt_of_le hadb.out hW.size, Hcs.out W hW⟩)
    rcases htA : turnC k (rn k) (rk (1 + L) (k99 key)) p R d (back i) (f i) with ⟨oA, RA, dA⟩
    obtain ⟨-, -, -, hlenA⟩ := turn_inv hfit (fun i _ => rk_lt (k99_lt Hk.out) i) Hbk9.out.inv hfs.out htA
    have hdA : dA ≤ p.n := (turn_inv hfit (fun i _ => rk_lt (k99_lt Hk.out) i) Hbk9.out.inv hfs.out htA).1.hd
    have HTuA := hid htA
    clear htA
    have hlA : RA.length ≤ R.length + 1 := len_le hlenA
    clear hlenA
    have hq0 : w9.cell? ((ad.add (i * 18)).add 0) = some (.bool (one i)) := (HB9.out.cell (by rw [add_block, add_block]; exact had)).trans H1.out
    have hq2 : w9.cell? ((ad.add (i * 18)).add 17) = some (.bool (back i)) := (HB9.out.cell (by rw [add_block, add_block]; exact had)).trans H3.out
    go_wp2_with (first
     | (with_reducible refine wpl_sl rfl 23 _ _ rfl ad n4 c4 rfl .i64 _ rfl i rfl 39 Tryz.underlying23 hlt 18 iQ ?_)
     | (with_reducible refine wpl_val rfl _ (exec_fieldQ2 _ rfl _ rfl) ?_)
     | (with_reducible refine wpl_val rfl _ (exec_fieldQ0 _ rfl _ rfl) ?_)
     | (with_reducible refine wpl_val rfl _ (exec_ldB 4 _ rfl _ rfl Tryz.underlying4 _ hq2) ?_)
     | (with_reducible refine wpl_val rfl _ (exec_ldB 4 _ rfl _ rfl Tryz.underlying4 _ hq0) ?_))
    clear hq0
    refine (do_any _ p d R k gd base6 (rn k) (rk (1 + L) (k99 key)) ((ad.add (i * 18)).add 1) 16 (back i) (f i) Hcd9.out Hbk9.out (Nat.lt_of_lt_of_le hadb.out HB9.out.size) hadS.out (Hcs.out _ HB9.out) hfs.out _ _ _ HTuA.out).mono ?_
    rintro e w10 hDo
    obtain ⟨gvA, geA, rfl, hK, hbkn, hgot⟩ := got_of hDo
    clear hDo
    have Hci10 := hid (Hci9.out.keepS Hbk9.out hK)
    have Hcd10 := hid (Hcd9.out.keepS Hbk9.out hK)
    have Hm10 := hid (hK.blk Hm9.out (Hbk9.out.free Hm9.out (by decide)))
    have HRw10 := hid (Hbk9.out.rowsAt hK HRw9.out)
    have HT10 := hid (Hbk9.out.reads hK HT9.out)
    have HKc10 := hid (Hbk9.out.reads hK HKc9.out)
    have HKd10 := hid (Hbk9.out.reads hK HKd9.out)
    have HB10 := hid (HB9.out.trans (hK.below hlow.out HB9.out.size))
    have Hbk10 := hid hbkn
    have HG10 := hid hgot
    clear hq2 hK hbkn hgot Hbk9 Hci9 Hcd9 Hm9 HRw9 HT9 HKc9 HKd9 HB9
    have hq0 : w10.cell? ((ad.add (i * 18)).add 0) = some (.bool (one i)) := (HB10.out.cell (by rw [add_block, add_block]; exact had)).trans H1.out
    have hq2 : w10.cell? ((ad.add (i * 18)).add 17) = some (.bool (back i)) := (HB10.out.cell (by rw [add_block, add_block]; exact had)).trans H3.out
    by_cases hone : one i = true
    ·rw [hone] at hq0
     go_wp2_with (first
      | (with_reducible refine wpl_sl rfl 23 _ _ rfl ad n4 c4 rfl .i64 _ rfl i rfl 39 Tryz.underlying23 hlt 18 iQ ?_)
      | (with_reducible refine wpl_val rfl _ (exec_fieldQ2 _ rfl _ rfl) ?_)
      | (with_reducible refine wpl_val rfl _ (exec_fieldQ0 _ rfl _ rfl) ?_)
      | (with_reducible refine wpl_val rfl _ (exec_ldB 4 _ rfl _ rfl Tryz.underlying4 _ hq2) ?_)
      | (with_reducible refine wpl_val rfl _ (exec_ldB 4 _ rfl _ rfl Tryz.underlying4 _ hq0) ?_))
     clear hq0 hq2
     apply suff8 (F := P2 p k (rn k) oA RA dA w10)
     case h1 =>
      intro key8
      refine wp_region_held_drew (S := fun W => Below w10.heap.size w10 W) (by kernel_rfl) (Below.refl _ _).drew (fun hS0 => ?_)
      refine wpAnyH_take (i := 0) (v := .int .i64 (k : Int)) rfl (by kernel_rfl) (by kernel_rfl) (by kernel_rfl) (fun _ _ _ h => h) (Or.inl ⟨rfl, fun _ _ => exec_move _ rfl _ rfl⟩) hS0 ?_
      (try simp only [Act.put, zk1, zk2, zk3, zk4, zk5, zk6])
      refine wpAnyH_take (i := 1) (v := .slice Ad (rn k) cd) rfl (by kernel_rfl) (by kernel_rfl) (by kernel_rfl) (fun _ _ _ h => h) (Or.inl ⟨rfl, fun _ _ => exec_move _ rfl _ rfl⟩) hS0 ?_
      (try simp only [Act.put, zk1, zk2, zk3, zk4, zk5, zk6])
      refine wpAnyH_take (i := 2) (v := .agg (row 2 (bookC (.slice Ar R.length cr) (.slice At (p.n - d) ct)))) rfl (by kernel_rfl) (by kernel_rfl) (by kernel_rfl) (fun _ _ _ h => h) (Or.inl ⟨rfl, fun W hW => exec_loadSt 36 _ rfl ⟨gm, 0, none⟩ rfl 2 _ (cells2 (Hm10.out.below hW Hm10.out.lt)) _ Tryz.underlying36 iRB⟩) hS0 ?_
      (try simp only [Act.put, zk1, zk2, zk3, zk4, zk5, zk6])
      refine wpAnyH_take (i := 3) (v := .slice (some ((ad.add (i * 18)).add 1)) (sz k) 16) rfl (by kernel_rfl) (by kernel_rfl) (by kernel_rfl) (fun _ _ _ h => h) (Or.inl ⟨rfl, fun _ _ => exec_move _ rfl _ rfl⟩) hS0 ?_
      (try simp only [Act.put, zk1, zk2, zk3, zk4, zk5, zk6])
      refine wpAnyH_take (i := 4) (v := .slice (some ad) n4 c4) rfl (by kernel_rfl) (by kernel_rfl) (by kernel_rfl) (fun _ _ _ h => h) (Or.inl ⟨rfl, fun _ _ => exec_move _ rfl _ rfl⟩) hS0 ?_
      (try simp only [Act.put, zk1, zk2, zk3, zk4, zk5, zk6])
      refine wpAnyH_take (i := 5) (v := .int .i64 (i : Int)) rfl (by kernel_rfl) (by kernel_rfl) (by kernel_rfl) (fun _ _ _ h => h) (Or.inl ⟨rfl, fun _ _ => exec_move _ rfl _ rfl⟩) hS0 ?_
      (try simp only [Act.put, zk1, zk2, zk3, zk4, zk5, zk6])
      refine wpAnyH_take (i := 6) (v := .pointer (some (ad.add (i * 18)))) rfl (by kernel_rfl) (by kernel_rfl) (by kernel_rfl) (fun _ _ _ h => h) (Or.inl ⟨rfl, fun _ _ => exec_slQ 23 _ _ rfl ad n4 c4 rfl .i64 _ rfl i rfl 39 Tryz.underlying23 hlt 18 iQ⟩) hS0 ?_
      (try simp only [Act.put, zk1, zk2, zk3, zk4, zk5, zk6])
      refine wpAnyH_take (i := 7) (v := .pointer (some ((ad.add (i * 18)).add 17))) rfl (by kernel_rfl) (by kernel_rfl) (by kernel_rfl) (fun _ _ _ h => h) (Or.inl ⟨rfl, fun _ _ => exec_fieldQ2 _ rfl _ rfl⟩) hS0 ?_
      (try simp only [Act.put, zk1, zk2, zk3, zk4, zk5, zk6])
      refine wpAnyH_take (i := 8) (v := .bool (back i)) rfl (by kernel_rfl) (by kernel_rfl) (by kernel_rfl) (fun _ _ _ h => h) (Or.inl ⟨rfl, fun W hW => exec_ldB 4 _ rfl _ rfl Tryz.underlying4 _ (Hq2.out W (HB10.out.trans (hW.mono HB10.out.size)))⟩) hS0 ?_
      (try simp only [Act.put, zk1, zk2, zk3, zk4, zk5, zk6])
      refine wpAnyH_ready (rs := [9, 14]) (by kernel_rfl) (by simp) ?_
      refine AllReadyH.cons rfl (fun K hK => ?_) (AllReadyH.cons rfl (fun K hK => ?_) AllReadyH.nil)
      ·(try simp only [Act.put, zk1, zk2, zk3, zk4, zk5, zk6])
       refine Eq.mpr (if_pos (by rfl)) ?_
       go_simp
       refine (rdo_any p k d (rn k) R Ar cr At ct Ad cd (rk (1 + L) (k99 key)) (some ((ad.add (i * 18)).add 1)) 16 (f i) (back i) _ hfit w10.heap.size hS0.size (HRw10.out.below hS0) (HT10.out.below hS0) hct (by omega) (by omega) (by omega) (by omega) (by omega) ((HKd10.out.below hS0).more hS0.size) (fun i _ => rk_lt (k99_lt Hk.out) i) (HX.out _ (HB10.out.trans (hS0.mono HB10.out.size))) hfs.out HAr.out HAd.out _ _ _ HTuA.out).mono ?_
       rintro e w3 ⟨hBc, Ar2, cr2, At2, ct2, v2, ok2, rfl, hag, hct2, hAr2, hres⟩
       refine hK.out _ _ (hS0.trans (hBc.mono hS0.size)) (fun hS3 => ?_)
       (try simp only [Act.put, zk1, zk2, zk3, zk4, zk5, zk6])
       refine wpAnyH_take (i := 10) (v := .tuple #[.agg #[.slice Ar2 RA.length cr2, .slice At2 (p.n - dA) ct2], v2, .bool ok2]) rfl (by kernel_rfl) (by kernel_rfl) (by kernel_rfl) (fun _ _ _ h => h) (Or.inl ⟨rfl, fun _ _ => exec_move _ rfl _ rfl⟩) hS3 ?_
       (try simp only [Act.put, zk1, zk2, zk3, zk4, zk5, zk6])
       refine wpAnyH_take (i := 11) (v := .agg (row 2 (bookC (.slice Ar2 RA.length cr2) (.slice At2 (p.n - dA) ct2)))) rfl (by kernel_rfl) (by kernel_rfl) (by kernel_rfl) (fun _ _ _ h => h) (Or.inl ⟨rfl, fun _ _ => exec_extract _ 0 rfl _ rfl _ (by rw [row2]; rfl)⟩) hS3 ?_
       (try simp only [Act.put, zk1, zk2, zk3, zk4, zk5, zk6])
       refine wpAnyH_take (i := 12) (v := v2) rfl (by kernel_rfl) (by kernel_rfl) (by kernel_rfl) (fun _ _ _ h => h) (Or.inl ⟨rfl, fun _ _ => exec_extract _ 1 rfl _ rfl _ rfl⟩) hS3 ?_
       (try simp only [Act.put, zk1, zk2, zk3, zk4, zk5, zk6])
       refine wpAnyH_take (i := 13) (v := .bool ok2) rfl (by kernel_rfl) (by kernel_rfl) (by kernel_rfl) (fun _ _ _ h => h) (Or.inl ⟨rfl, fun _ _ => exec_extract _ 2 rfl _ rfl _ rfl⟩) hS3 ?_
       (try simp only [Act.put, zk1, zk2, zk3, zk4, zk5, zk6])
       refine wpAnyH_ready (rs := [14]) (by kernel_rfl) (by simp) (AllReadyH.cons rfl (fun K hK => ?_) AllReadyH.nil)
       (try simp only [Act.put, zk1, zk2, zk3, zk4, zk5, zk6])
       refine Eq.mpr (if_pos (by rfl)) ?_
       refine wp_new 36 rfl _ zRB2 ?_
       (try simp only [Act.put, zk1, zk2, zk3, zk4, zk5, zk6])
       refine hK.out _ _ (hS3.alloc hS3.size _) (fun hS4 => ?_)
       (try simp only [Act.put, zk1, zk2, zk3, zk4, zk5, zk6])
       refine wpAnyH_ready (rs := [15]) (by kernel_rfl) (by simp) (ready_one rfl rfl (fun K hK => ?_))
       (try simp only [Act.put, zk1, zk2, zk3, zk4, zk5, zk6])
       with_reducible refine wp_store_blk 36 _ _ rfl w3.heap.size (row 2 (bookC (.slice Ar2 RA.length cr2) (.slice At2 (p.n - dA) ct2))) rfl rfl 36 _ (Blk.fresh _ _ _) (iRB' _) (by simp [row_size]) (one2 _ _ _ _ _ _) ?_
       (try simp only [Act.put, zk1, zk2, zk3, zk4, zk5, zk6])
       refine hK.out _ _ (below_setRow' hS4 hS3.size _) (fun hSz => ?_)
       (try simp only [Act.put, zk1, zk2, zk3, zk4, zk5, zk6])
       refine wpAnyH_take (i := 16) (v := v2) rfl (by kernel_rfl) (by kernel_rfl) (by kernel_rfl) (fun _ _ _ h => h) (Or.inl ⟨rfl, fun _ _ => exec_assign _ rfl _ rfl⟩) hSz ?_
       (try simp only [Act.put, zk1, zk2, zk3, zk4, zk5, zk6])
       refine wpAnyH_take (i := 17) (v := .bool ok2) rfl (by kernel_rfl) (by kernel_rfl) (by kernel_rfl) (fun _ _ _ h => h) (Or.inl ⟨rfl, fun _ _ => exec_assign _ rfl _ rfl⟩) hSz ?_
       (try simp only [Act.put, zk1, zk2, zk3, zk4, zk5, zk6])
       refine wpAnyH_done (by kernel_rfl) ?_ _
       clear hK
       have hp := p2_call (zs := row 2 (bookC (.slice none 0 0) (.slice none 0 0))) (k := k) (v := v2) (ok := ok2) rfl hS0 hBc hag hct2 hAr2 hres
       clear hS0 hS3 hS4 hSz hBc hag hres
       generalize (w3.alloc (.cells (row 2 (bookC (.slice none 0 0) (.slice none 0 0))) 36)).setRow w3.heap.size (row 2 (bookC (.slice Ar2 RA.length cr2) (.slice At2 (p.n - dA) ct2))) = wX at hp ⊢
       generalize w3.heap.size = gX at hp ⊢
       exact key8 wX gX _ _ _ _ _ _ hp
      ·(try simp only [Act.put, zk1, zk2, zk3, zk4, zk5, zk6])
       refine Eq.mpr (if_pos (by rfl)) ?_
       refine wp_new 36 rfl _ zRB2 ?_
       (try simp only [Act.put, zk1, zk2, zk3, zk4, zk5, zk6])
       refine hK.out _ _ (hS0.alloc hS0.size _) (fun hS1 => ?_)
       (try simp only [Act.put, zk1, zk2, zk3, zk4, zk5, zk6])
       have hq1 : Blk (w10.drew.alloc (.cells (row 2 (bookC (.slice none 0 0) (.slice none 0 0))) 36)) w10.heap.size 36 (row 2 (bookC (.slice none 0 0) (.slice none 0 0))) := Blk.fresh w10.drew 36 _
       have hz1 : (w10.drew.alloc (.cells (row 2 (bookC (.slice none 0 0) (.slice none 0 0))) 36)).heap.size = w10.heap.size + 1 := by simp
       generalize hwa : w10.drew.alloc (.cells (row 2 (bookC (.slice none 0 0) (.slice none 0 0))) 36) = wa at hq1 hS1 hz1 ⊢
       clear hwa hK
       refine wpAnyH_ready (rs := [9]) (by kernel_rfl) (by simp) (AllReadyH.cons rfl (fun K hK => ?_) AllReadyH.nil)
       (try simp only [Act.put, zk1, zk2, zk3, zk4, zk5, zk6])
       refine Eq.mpr (if_pos (by rfl)) ?_
       go_simp
       refine (rdo_any p k d (rn k) R Ar cr At ct Ad cd (rk (1 + L) (k99 key)) (some ((ad.add (i * 18)).add 1)) 16 (f i) (back i) _ hfit w10.heap.size hS1.size (HRw10.out.below hS1) (HT10.out.below hS1) hct (by omega) (by omega) (by omega) (by omega) (by omega) ((HKd10.out.below hS1).more hS1.size) (fun i _ => rk_lt (k99_lt Hk.out) i) (HX.out _ (HB10.out.trans (hS1.mono HB10.out.size))) hfs.out HAr.out HAd.out _ _ _ HTuA.out).mono ?_
       rintro e w3 ⟨hBc, Ar2, cr2, At2, ct2, v2, ok2, rfl, hag, hct2, hAr2, hres⟩
       refine hK.out _ _ (hS1.trans (hBc.mono hS1.size)) (fun hS3 => ?_)
       (try simp only [Act.put, zk1, zk2, zk3, zk4, zk5, zk6])
       refine wpAnyH_take (i := 10) (v := .tuple #[.agg #[.slice Ar2 RA.length cr2, .slice At2 (p.n - dA) ct2], v2, .bool ok2]) rfl (by kernel_rfl) (by kernel_rfl) (by kernel_rfl) (fun _ _ _ h => h) (Or.inl ⟨rfl, fun _ _ => exec_move _ rfl _ rfl⟩) hS3 ?_
       (try simp only [Act.put, zk1, zk2, zk3, zk4, zk5, zk6])
       refine wpAnyH_take (i := 11) (v := .agg (row 2 (bookC (.slice Ar2 RA.length cr2) (.slice At2 (p.n - dA) ct2)))) rfl (by kernel_rfl) (by kernel_rfl) (by kernel_rfl) (fun _ _ _ h => h) (Or.inl ⟨rfl, fun _ _ => exec_extract _ 0 rfl _ rfl _ (by rw [row2]; rfl)⟩) hS3 ?_
       (try simp only [Act.put, zk1, zk2, zk3, zk4, zk5, zk6])
       refine wpAnyH_take (i := 12) (v := v2) rfl (by kernel_rfl) (by kernel_rfl) (by kernel_rfl) (fun _ _ _ h => h) (Or.inl ⟨rfl, fun _ _ => exec_extract _ 1 rfl _ rfl _ rfl⟩) hS3 ?_
       (try simp only [Act.put, zk1, zk2, zk3, zk4, zk5, zk6])
       refine wpAnyH_take (i := 13) (v := .bool ok2) rfl (by kernel_rfl) (by kernel_rfl) (by kernel_rfl) (fun _ _ _ h => h) (Or.inl ⟨rfl, fun _ _ => exec_extract _ 2 rfl _ rfl _ rfl⟩) hS3 ?_
       (try simp only [Act.put, zk1, zk2, zk3, zk4, zk5, zk6])
       refine wpAnyH_ready (rs := [15]) (by kernel_rfl) (by simp) (ready_one rfl rfl (fun K hK => ?_))
       have hqb := hq1.below hBc hq1.lt
       (try simp only [Act.put, zk1, zk2, zk3, zk4, zk5, zk6])
       with_reducible refine wp_store_blk 36 _ _ rfl w10.heap.size (row 2 (bookC (.slice Ar2 RA.length cr2) (.slice At2 (p.n - dA) ct2))) rfl rfl 36 _ hqb (iRB' _) (by simp [row_size]) (one2 _ _ _ _ _ _) ?_
       (try simp only [Act.put, zk1, zk2, zk3, zk4, zk5, zk6])
       refine hK.out _ _ (below_setRow' hS3 (Nat.le_refl _) _) (fun hSz => ?_)
       (try simp only [Act.put, zk1, zk2, zk3, zk4, zk5, zk6])
       refine wpAnyH_take (i := 16) (v := v2) rfl (by kernel_rfl) (by kernel_rfl) (by kernel_rfl) (fun _ _ _ h => h) (Or.inl ⟨rfl, fun _ _ => exec_assign _ rfl _ rfl⟩) hSz ?_
       (try simp only [Act.put, zk1, zk2, zk3, zk4, zk5, zk6])
       refine wpAnyH_take (i := 17) (v := .bool ok2) rfl (by kernel_rfl) (by kernel_rfl) (by kernel_rfl) (fun _ _ _ h => h) (Or.inl ⟨rfl, fun _ _ => exec_assign _ rfl _ rfl⟩) hSz ?_
       (try simp only [Act.put, zk1, zk2, zk3, zk4, zk5, zk6])
       refine wpAnyH_done (by kernel_rfl) ?_ _
       clear hK
       have hp := p2_alloc (k := k) (v := v2) (ok := ok2) rfl hS1 hz1 hq1 hBc hag hct2 hAr2 hres
       clear hS0 hS1 hS3 hSz hBc hag hres hqb hq1 hz1
       generalize w3.setRow w10.heap.size (row 2 (bookC (.slice Ar2 RA.length cr2) (.slice At2 (p.n - dA) ct2))) = wX at hp ⊢
       obtain ⟨gX, hgX⟩ : ∃ g, g = w10.heap.size := ⟨_, rfl⟩
       rw [← hgX] at hp ⊢
       exact key8 wX gX _ _ _ _ _ _ hp
     intro w11 gxA ArA crA AtA ctA vA okA ⟨hBx, hbx, hgx, hrx, htx, hctA, hArx, hresA⟩
     try dsimp only
     have Hbk11 := hid (Hbk10.out.keep hBx)
     have Hci11 := hid (Hci10.out.keep hBx)
     have Hcd11 := hid (Hcd10.out.keep hBx)
     have Hm11 := hid (Hm10.out.below hBx Hm10.out.lt)
     have HKc11 := hid ((HKc10.out.below hBx).more hBx.size)
     have HKd11 := hid ((HKd10.out.below hBx).more hBx.size)
     have HB11 := hid (HB10.out.trans (hBx.mono HB10.out.size))
     have HG11 := hid (HG10.out.below hBx)
     have HN11 := hid hbx
     have HRw11 := hid hrx
     have HT11 := hid htx
     have HArA := hid hArx
     have HV11 := hid hresA
     clear hBx hbx hrx htx hArx hresA Hbk10 Hci10 Hcd10 Hm10 HRw10 HT10 HKc10 HKd10 HB10 HG10
     rcases HG11.out with ⟨yA, AgA, cgA, hoA, rfl, rfl, hgaA⟩ | ⟨jA, xfA, hoA, rfl, rfl, hfaA⟩
     ·rcases HV11.out with ⟨zA, AvA, cvA, hzA, rfl, rfl, hvaA⟩ | ⟨hzA, -⟩
      rotate_left
      ·rw [hoA] at hzA; cases hzA
      obtain rfl : yA = zA := Option.some.inj (hoA.symm.trans hzA)
      have Hga := hid hgaA
      have Hva := hid hvaA
      clear hgaA hvaA HG11 HV11 hzA
      go_wp2_with fail
      refine (same_any _ _ (sz k) cgA cvA yA yA _ (by have := sz16 k; omega) Hga.out Hva.out).mono ?_
      rintro e w12 ⟨rfl, hB⟩
      rw [eqB_true (fun _ _ => rfl)]
      have Hbk12 := hid (Hbk11.out.keep hB)
      have Hci12 := hid (Hci11.out.keep hB)
      have Hcd12 := hid (Hcd11.out.keep hB)
      have Hm12 := hid (Hm11.out.below hB Hm11.out.lt)
      have HRw12 := hid ((HRw11.out.below hB).more hB.size)
      have HT12 := hid ((HT11.out.below hB).more hB.size)
      have HKc12 := hid ((HKc11.out.below hB).more hB.size)
      have HKd12 := hid ((HKd11.out.below hB).more hB.size)
      have HB12 := hid (HB11.out.trans (hB.mono HB11.out.size))
      have HN12 := hid (HN11.out.below hB HN11.out.lt)
      have Hga := hid ((Hga.out.below hB).more hB.size)
      have Hva := hid ((Hva.out.below hB).more hB.size)
      clear hB Hbk11 Hci11 Hcd11 Hm11 HRw11 HT11 HKc11 HKd11 HB11 HN11
      obtain ⟨w13, hw13⟩ : ∃ W, W = w12.setRow gm (row 2 (bookC (.slice ArA RA.length crA) (.slice AtA (p.n - dA) ctA))) := ⟨_, rfl⟩
      have Hbk13 := hid (show BookAt w13 p _ _ from by rw [hw13]; exact book_row Hbk12.out Hm12.out _)
      have Hci13 := hid (show CiAt w13 p k gc base5 (rn k) (rk L key) from by rw [hw13]; exact ci_row Hci12.out Hm12.out _)
      have Hcd13 := hid (show CiAt w13 p k gd base6 (rn k) (rk (1 + L) (k99 key)) from by rw [hw13]; exact ci_row Hcd12.out Hm12.out _)
      have HRw13 := hid (show RowsAt w13 w13.heap.size ArA (rn k) RA from by rw [hw13]; exact rows_book Hm12.out _ HRw12.out)
      have HT13 := hid (show Reads w13 w13.heap.size AtA (p.n - dA) (fun q => p.F (dA + q)) from by rw [hw13]; exact reads_book Hm12.out _ HT12.out)
      have HKc13 := hid (show Reads w13 w13.heap.size Ac (rn k) (rk L key) from by rw [hw13]; exact reads_book Hm12.out _ HKc12.out)
      have HKd13 := hid (show Reads w13 w13.heap.size Ad (rn k) (rk (1 + L) (k99 key)) from by rw [hw13]; exact reads_book Hm12.out _ HKd12.out)
      have HB13 := hid (show Below w.heap.size w w13 from by rw [hw13]; exact below_setRow' HB12.out hgm _)
      have Hga := hid (show Reads w13 w13.heap.size AgA (sz k) yA from by rw [hw13]; exact reads_book Hm12.out _ Hga.out)
      have Hva := hid (show Reads w13 w13.heap.size AvA (sz k) yA from by rw [hw13]; exact reads_book Hm12.out _ Hva.out)
      have HNo := hid HN12.out
      have HMo := hid Hm12.out
      have Hm13 := hid (show Blk w13 gm 36 (row 2 (bookC (.slice ArA RA.length crA) (.slice AtA (p.n - dA) ctA))) from by rw [hw13]; exact Hm12.out.setRow _)
      clear HN12 Hbk12 Hci12 Hcd12 Hm12 HRw12 HT12 HKc12 HKd12 HB12
      rcases htB : turnC k (rn k) (rk L key) p RA dA (back i) (f i) with ⟨oB, RB, dB⟩
      obtain ⟨-, -, -, hlenB⟩ := turn_inv hfit (fun i _ => rk_lt Hk.out i) Hbk13.out.inv hfs.out htB
      have hdB : dB ≤ p.n := (turn_inv hfit (fun i _ => rk_lt Hk.out i) Hbk13.out.inv hfs.out htB).1.hd
      have HTuB := hid htB
      clear htB
      have hlB : RB.length ≤ RA.length + 1 := len_le hlenB
      clear hlenB
      have hq2 : (w12.setRow gm (row 2 (bookC (.slice ArA RA.length crA) (.slice AtA (p.n - dA) ctA)))).cell? ((ad.add (i * 18)).add 17) = some (.bool (back i)) := by rw [← hw13]; exact (HB13.out.cell (by rw [add_block, add_block]; exact had)).trans H3.out
      go_wp2_with (first | (with_reducible refine wpl_val rfl _ (exec_loadSt 36 _ rfl ⟨gxA, 0, none⟩ rfl 2 _ (cells2 HNo.out) _ Tryz.underlying36 iRB) ?_) | (with_reducible refine wpl_store_blk rfl 36 _ _ rfl gm (row 2 (bookC (.slice ArA RA.length crA) (.slice AtA (p.n - dA) ctA))) rfl rfl 36 _ HMo.out (iRB' _) (by simp [row_size]) (one2 _ _ _ _ _ _) ?_) | (with_reducible refine wpl_sl rfl 23 _ _ rfl ad n4 c4 rfl .i64 _ rfl i rfl 39 Tryz.underlying23 hlt 18 iQ ?_) | (with_reducible refine wpl_val rfl _ (exec_fieldQ2 _ rfl _ rfl) ?_) | (with_reducible refine wpl_val rfl _ (exec_ldB 4 _ rfl _ rfl Tryz.underlying4 _ hq2) ?_))
      rw [← hw13]
      clear HNo HMo hw13
      refine (do_any _ p dA RA k gc base5 (rn k) (rk L key) ((ad.add (i * 18)).add 1) 16 (back i) (f i) Hci13.out Hbk13.out (Nat.lt_of_lt_of_le hadb.out HB13.out.size) hadS.out (Hcs.out _ HB13.out) hfs.out _ _ _ HTuB.out).mono ?_
      rintro e w14 hDo
      obtain ⟨gvB, geB, rfl, hK, hbkn, hgot⟩ := got_of hDo
      clear hDo
      have Hci14 := hid (Hci13.out.keepS Hbk13.out hK)
      have Hcd14 := hid (Hcd13.out.keepS Hbk13.out hK)
      have Hm14 := hid (hK.blk Hm13.out (Hbk13.out.free Hm13.out (by decide)))
      have HRw14 := hid (Hbk13.out.rowsAt hK HRw13.out)
      have HT14 := hid (Hbk13.out.reads hK HT13.out)
      have HKc14 := hid (Hbk13.out.reads hK HKc13.out)
      have HKd14 := hid (Hbk13.out.reads hK HKd13.out)
      have HB14 := hid (HB13.out.trans (hK.below hlow.out HB13.out.size))
      have Hbk14 := hid hbkn
      have HG14 := hid hgot
      clear hq2 hK hbkn hgot Hbk13 Hci13 Hcd13 Hm13 HRw13 HT13 HKc13 HKd13 HB13
      have hq0 : w14.cell? ((ad.add (i * 18)).add 0) = some (.bool (one i)) := (HB14.out.cell (by rw [add_block, add_block]; exact had)).trans H1.out
      have hq2 : w14.cell? ((ad.add (i * 18)).add 17) = some (.bool (back i)) := (HB14.out.cell (by rw [add_block, add_block]; exact had)).trans H3.out
      go_wp2_with (first
       | (with_reducible refine wpl_sl rfl 23 _ _ rfl ad n4 c4 rfl .i64 _ rfl i rfl 39 Tryz.underlying23 hlt 18 iQ ?_)
       | (with_reducible refine wpl_val rfl _ (exec_fieldQ2 _ rfl _ rfl) ?_)
       | (with_reducible refine wpl_val rfl _ (exec_fieldQ0 _ rfl _ rfl) ?_)
       | (with_reducible refine wpl_val rfl _ (exec_ldB 4 _ rfl _ rfl Tryz.underlying4 _ hq2) ?_)
       | (with_reducible refine wpl_val rfl _ (exec_ldB 4 _ rfl _ rfl Tryz.underlying4 _ hq0) ?_))
      clear hq0 hq2
      apply suff8 (F := P2 p k (rn k) oB RB dB w14)
      case h1 =>
       intro key8
       refine wp_region_held_drew (S := fun W => Below w14.heap.size w14 W) (by kernel_rfl) (Below.refl _ _).drew (fun hS0 => ?_)
       refine wpAnyH_take (i := 0) (v := .int .i64 (k : Int)) rfl (by kernel_rfl) (by kernel_rfl) (by kernel_rfl) (fun _ _ _ h => h) (Or.inl ⟨rfl, fun _ _ => exec_move _ rfl _ rfl⟩) hS0 ?_
       (try simp only [Act.put, zk1, zk2, zk3, zk4, zk5, zk6])
       refine wpAnyH_take (i := 1) (v := .slice Ac (rn k) cc) rfl (by kernel_rfl) (by kernel_rfl) (by kernel_rfl) (fun _ _ _ h => h) (Or.inl ⟨rfl, fun _ _ => exec_move _ rfl _ rfl⟩) hS0 ?_
       (try simp only [Act.put, zk1, zk2, zk3, zk4, zk5, zk6])
       refine wpAnyH_take (i := 2) (v := .agg (row 2 (bookC (.slice ArA RA.length crA) (.slice AtA (p.n - dA) ctA)))) rfl (by kernel_rfl) (by kernel_rfl) (by kernel_rfl) (fun _ _ _ h => h) (Or.inl ⟨rfl, fun W hW => exec_loadSt 36 _ rfl ⟨gm, 0, none⟩ rfl 2 _ (cells2 (Hm14.out.below hW Hm14.out.lt)) _ Tryz.underlying36 iRB⟩) hS0 ?_
       (try simp only [Act.put, zk1, zk2, zk3, zk4, zk5, zk6])
       refine wpAnyH_take (i := 3) (v := .slice (some ((ad.add (i * 18)).add 1)) (sz k) 16) rfl (by kernel_rfl) (by kernel_rfl) (by kernel_rfl) (fun _ _ _ h => h) (Or.inl ⟨rfl, fun _ _ => exec_move _ rfl _ rfl⟩) hS0 ?_
       (try simp only [Act.put, zk1, zk2, zk3, zk4, zk5, zk6])
       refine wpAnyH_take (i := 4) (v := .slice (some ad) n4 c4) rfl (by kernel_rfl) (by kernel_rfl) (by kernel_rfl) (fun _ _ _ h => h) (Or.inl ⟨rfl, fun _ _ => exec_move _ rfl _ rfl⟩) hS0 ?_
       (try simp only [Act.put, zk1, zk2, zk3, zk4, zk5, zk6])
       refine wpAnyH_take (i := 5) (v := .int .i64 (i : Int)) rfl (by kernel_rfl) (by kernel_rfl) (by kernel_rfl) (fun _ _ _ h => h) (Or.inl ⟨rfl, fun _ _ => exec_move _ rfl _ rfl⟩) hS0 ?_
       (try simp only [Act.put, zk1, zk2, zk3, zk4, zk5, zk6])
       refine wpAnyH_take (i := 6) (v := .pointer (some (ad.add (i * 18)))) rfl (by kernel_rfl) (by kernel_rfl) (by kernel_rfl) (fun _ _ _ h => h) (Or.inl ⟨rfl, fun _ _ => exec_slQ 23 _ _ rfl ad n4 c4 rfl .i64 _ rfl i rfl 39 Tryz.underlying23 hlt 18 iQ⟩) hS0 ?_
       (try simp only [Act.put, zk1, zk2, zk3, zk4, zk5, zk6])
       refine wpAnyH_take (i := 7) (v := .pointer (some ((ad.add (i * 18)).add 17))) rfl (by kernel_rfl) (by kernel_rfl) (by kernel_rfl) (fun _ _ _ h => h) (Or.inl ⟨rfl, fun _ _ => exec_fieldQ2 _ rfl _ rfl⟩) hS0 ?_
       (try simp only [Act.put, zk1, zk2, zk3, zk4, zk5, zk6])
       refine wpAnyH_take (i := 8) (v := .bool (back i)) rfl (by kernel_rfl) (by kernel_rfl) (by kernel_rfl) (fun _ _ _ h => h) (Or.inl ⟨rfl, fun W hW => exec_ldB 4 _ rfl _ rfl Tryz.underlying4 _ (Hq2.out W (HB14.out.trans (hW.mono HB14.out.size)))⟩) hS0 ?_
       (try simp only [Act.put, zk1, zk2, zk3, zk4, zk5, zk6])
       refine wpAnyH_ready (rs := [9, 14]) (by kernel_rfl) (by simp) ?_
       refine AllReadyH.cons rfl (fun K hK => ?_) (AllReadyH.cons rfl (fun K hK => ?_) AllReadyH.nil)
       ·(try simp only [Act.put, zk1, zk2, zk3, zk4, zk5, zk6])
        refine Eq.mpr (if_pos (by rfl)) ?_
        go_simp
        refine (rdo_any p k dA (rn k) RA ArA crA AtA ctA Ac cc (rk L key) (some ((ad.add (i * 18)).add 1)) 16 (f i) (back i) _ hfit w14.heap.size hS0.size (HRw14.out.below hS0) (HT14.out.below hS0) hctA (by omega) (by omega) (by omega) (by omega) (by omega) ((HKc14.out.below hS0).more hS0.size) (fun i _ => rk_lt Hk.out i) (HX.out _ (HB14.out.trans (hS0.mono HB14.out.size))) hfs.out HArA.out HAc.out _ _ _ HTuB.out).mono ?_
        rintro e w3 ⟨hBc, Ar2, cr2, At2, ct2, v2, ok2, rfl, hag, hct2, hAr2, hres⟩
        refine hK.out _ _ (hS0.trans (hBc.mono hS0.size)) (fun hS3 => ?_)
        (try simp only [Act.put, zk1, zk2, zk3, zk4, zk5, zk6])
        refine wpAnyH_take (i := 10) (v := .tuple #[.agg #[.slice Ar2 RB.length cr2, .slice At2 (p.n - dB) ct2], v2, .bool ok2]) rfl (by kernel_rfl) (by kernel_rfl) (by kernel_rfl) (fun _ _ _ h => h) (Or.inl ⟨rfl, fun _ _ => exec_move _ rfl _ rfl⟩) hS3 ?_
        (try simp only [Act.put, zk1, zk2, zk3, zk4, zk5, zk6])
        refine wpAnyH_take (i := 11) (v := .agg (row 2 (bookC (.slice Ar2 RB.length cr2) (.slice At2 (p.n - dB) ct2)))) rfl (by kernel_rfl) (by kernel_rfl) (by kernel_rfl) (fun _ _ _ h => h) (Or.inl ⟨rfl, fun _ _ => exec_extract _ 0 rfl _ rfl _ (by rw [row2]; rfl)⟩) hS3 ?_
        (try simp only [Act.put, zk1, zk2, zk3, zk4, zk5, zk6])
        refine wpAnyH_take (i := 12) (v := v2) rfl (by kernel_rfl) (by kernel_rfl) (by kernel_rfl) (fun _ _ _ h => h) (Or.inl ⟨rfl, fun _ _ => exec_extract _ 1 rfl _ rfl _ rfl⟩) hS3 ?_
        (try simp only [Act.put, zk1, zk2, zk3, zk4, zk5, zk6])
        refine wpAnyH_take (i := 13) (v := .bool ok2) rfl (by kernel_rfl) (by kernel_rfl) (by kernel_rfl) (fun _ _ _ h => h) (Or.inl ⟨rfl, fun _ _ => exec_extract _ 2 rfl _ rfl _ rfl⟩) hS3 ?_
        (try simp only [Act.put, zk1, zk2, zk3, zk4, zk5, zk6])
        refine wpAnyH_ready (rs := [14]) (by kernel_rfl) (by simp) (AllReadyH.cons rfl (fun K hK => ?_) AllReadyH.nil)
        (try simp only [Act.put, zk1, zk2, zk3, zk4, zk5, zk6])
        refine Eq.mpr (if_pos (by rfl)) ?_
        refine wp_new 36 rfl _ zRB2 ?_
        (try simp only [Act.put, zk1, zk2, zk3, zk4, zk5, zk6])
        refine hK.out _ _ (hS3.alloc hS3.size _) (fun hS4 => ?_)
        (try simp only [Act.put, zk1, zk2, zk3, zk4, zk5, zk6])
        refine wpAnyH_ready (rs := [15]) (by kernel_rfl) (by simp) (ready_one rfl rfl (fun K hK => ?_))
        (try simp only [Act.put, zk1, zk2, zk3, zk4, zk5, zk6])
        with_reducible refine wp_store_blk 36 _ _ rfl w3.heap.size (row 2 (bookC (.slice Ar2 RB.length cr2) (.slice At2 (p.n - dB) ct2))) rfl rfl 36 _ (Blk.fresh _ _ _) (iRB' _) (by simp [row_size]) (one2 _ _ _ _ _ _) ?_
        (try simp only [Act.put, zk1, zk2, zk3, zk4, zk5, zk6])
        refine hK.out _ _ (below_setRow' hS4 hS3.size _) (fun hSz => ?_)
        (try simp only [Act.put, zk1, zk2, zk3, zk4, zk5, zk6])
        refine wpAnyH_take (i := 16) (v := v2) rfl (by kernel_rfl) (by kernel_rfl) (by kernel_rfl) (fun _ _ _ h => h) (Or.inl ⟨rfl, fun _ _ => exec_assign _ rfl _ rfl⟩) hSz ?_
        (try simp only [Act.put, zk1, zk2, zk3, zk4, zk5, zk6])
        refine wpAnyH_take (i := 17) (v := .bool ok2) rfl (by kernel_rfl) (by kernel_rfl) (by kernel_rfl) (fun _ _ _ h => h) (Or.inl ⟨rfl, fun _ _ => exec_assign _ rfl _ rfl⟩) hSz ?_
        (try simp only [Act.put, zk1, zk2, zk3, zk4, zk5, zk6])
        refine wpAnyH_done (by kernel_rfl) ?_ _
        clear hK
        have hp := p2_call (zs := row 2 (bookC (.slice none 0 0) (.slice none 0 0))) (k := k) (v := v2) (ok := ok2) rfl hS0 hBc hag hct2 hAr2 hres
        clear hS0 hS3 hS4 hSz hBc hag hres
        generalize (w3.alloc (.cells (row 2 (bookC (.slice none 0 0) (.slice none 0 0))) 36)).setRow w3.heap.size (row 2 (bookC (.slice Ar2 RB.length cr2) (.slice At2 (p.n - dB) ct2))) = wX at hp ⊢
        generalize w3.heap.size = gX at hp ⊢
        exact key8 wX gX _ _ _ _ _ _ hp
       ·(try simp only [Act.put, zk1, zk2, zk3, zk4, zk5, zk6])
        refine Eq.mpr (if_pos (by rfl)) ?_
        refine wp_new 36 rfl _ zRB2 ?_
        (try simp only [Act.put, zk1, zk2, zk3, zk4, zk5, zk6])
        refine hK.out _ _ (hS0.alloc hS0.size _) (fun hS1 => ?_)
        (try simp only [Act.put, zk1, zk2, zk3, zk4, zk5, zk6])
        have hq1 : Blk (w14.drew.alloc (.cells (row 2 (bookC (.slice none 0 0) (.slice none 0 0))) 36)) w14.heap.size 36 (row 2 (bookC (.slice none 0 0) (.slice none 0 0))) := Blk.fresh w14.drew 36 _
        have hz1 : (w14.drew.alloc (.cells (row 2 (bookC (.slice none 0 0) (.slice none 0 0))) 36)).heap.size = w14.heap.size + 1 := by simp
        generalize hwa : w14.drew.alloc (.cells (row 2 (bookC (.slice none 0 0) (.slice none 0 0))) 36) = wa at hq1 hS1 hz1 ⊢
        clear hwa hK
        refine wpAnyH_ready (rs := [9]) (by kernel_rfl) (by simp) (AllReadyH.cons rfl (fun K hK => ?_) AllReadyH.nil)
        (try simp only [Act.put, zk1, zk2, zk3, zk4, zk5, zk6])
        refine Eq.mpr (if_pos (by rfl)) ?_
        go_simp
        refine (rdo_any p k dA (rn k) RA ArA crA AtA ctA Ac cc (rk L key) (some ((ad.add (i * 18)).add 1)) 16 (f i) (back i) _ hfit w14.heap.size hS1.size (HRw14.out.below hS1) (HT14.out.below hS1) hctA (by omega) (by omega) (by omega) (by omega) (by omega) ((HKc14.out.below hS1).more hS1.size) (fun i _ => rk_lt Hk.out i) (HX.out _ (HB14.out.trans (hS1.mono HB14.out.size))) hfs.out HArA.out HAc.out _ _ _ HTuB.out).mono ?_
        rintro e w3 ⟨hBc, Ar2, cr2, At2, ct2, v2, ok2, rfl, hag, hct2, hAr2, hres⟩
        refine hK.out _ _ (hS1.trans (hBc.mono hS1.size)) (fun hS3 => ?_)
        (try simp only [Act.put, zk1, zk2, zk3, zk4, zk5, zk6])
        refine wpAnyH_take (i := 10) (v := .tuple #[.agg #[.slice Ar2 RB.length cr2, .slice At2 (p.n - dB) ct2], v2, .bool ok2]) rfl (by kernel_rfl) (by kernel_rfl) (by kernel_rfl) (fun _ _ _ h => h) (Or.inl ⟨rfl, fun _ _ => exec_move _ rfl _ rfl⟩) hS3 ?_
        (try simp only [Act.put, zk1, zk2, zk3, zk4, zk5, zk6])
        refine wpAnyH_take (i := 11) (v := .agg (row 2 (bookC (.slice Ar2 RB.length cr2) (.slice At2 (p.n - dB) ct2)))) rfl (by kernel_rfl) (by kernel_rfl) (by kernel_rfl) (fun _ _ _ h => h) (Or.inl ⟨rfl, fun _ _ => exec_extract _ 0 rfl _ rfl _ (by rw [row2]; rfl)⟩) hS3 ?_
        (try simp only [Act.put, zk1, zk2, zk3, zk4, zk5, zk6])
        refine wpAnyH_take (i := 12) (v := v2) rfl (by kernel_rfl) (by kernel_rfl) (by kernel_rfl) (fun _ _ _ h => h) (Or.inl ⟨rfl, fun _ _ => exec_extract _ 1 rfl _ rfl _ rfl⟩) hS3 ?_
        (try simp only [Act.put, zk1, zk2, zk3, zk4, zk5, zk6])
        refine wpAnyH_take (i := 13) (v := .bool ok2) rfl (by kernel_rfl) (by kernel_rfl) (by kernel_rfl) (fun _ _ _ h => h) (Or.inl ⟨rfl, fun _ _ => exec_extract _ 2 rfl _ rfl _ rfl⟩) hS3 ?_
        (try simp only [Act.put, zk1, zk2, zk3, zk4, zk5, zk6])
        refine wpAnyH_ready (rs := [15]) (by kernel_rfl) (by simp) (ready_one rfl rfl (fun K hK => ?_))
        have hqb := hq1.below hBc hq1.lt
        (try simp only [Act.put, zk1, zk2, zk3, zk4, zk5, zk6])
        with_reducible refine wp_store_blk 36 _ _ rfl w14.heap.size (row 2 (bookC (.slice Ar2 RB.length cr2) (.slice At2 (p.n - dB) ct2))) rfl rfl 36 _ hqb (iRB' _) (by simp [row_size]) (one2 _ _ _ _ _ _) ?_
        (try simp only [Act.put, zk1, zk2, zk3, zk4, zk5, zk6])
        refine hK.out _ _ (below_setRow' hS3 (Nat.le_refl _) _) (fun hSz => ?_)
        (try simp only [Act.put, zk1, zk2, zk3, zk4, zk5, zk6])
        refine wpAnyH_take (i := 16) (v := v2) rfl (by kernel_rfl) (by kernel_rfl) (by kernel_rfl) (fun _ _ _ h => h) (Or.inl ⟨rfl, fun _ _ => exec_assign _ rfl _ rfl⟩) hSz ?_
        (try simp only [Act.put, zk1, zk2, zk3, zk4, zk5, zk6])
        refine wpAnyH_take (i := 17) (v := .bool ok2) rfl (by kernel_rfl) (by kernel_rfl) (by kernel_rfl) (fun _ _ _ h => h) (Or.inl ⟨rfl, fun _ _ => exec_assign _ rfl _ rfl⟩) hSz ?_
        (try simp only [Act.put, zk1, zk2, zk3, zk4, zk5, zk6])
        refine wpAnyH_done (by kernel_rfl) ?_ _
        clear hK
        have hp := p2_alloc (k := k) (v := v2) (ok := ok2) rfl hS1 hz1 hq1 hBc hag hct2 hAr2 hres
        clear hS0 hS1 hS3 hSz hBc hag hres hqb hq1 hz1
        generalize w3.setRow w14.heap.size (row 2 (bookC (.slice Ar2 RB.length cr2) (.slice At2 (p.n - dB) ct2))) = wX at hp ⊢
        obtain ⟨gX, hgX⟩ : ∃ g, g = w14.heap.size := ⟨_, rfl⟩
        rw [← hgX] at hp ⊢
        exact key8 wX gX _ _ _ _ _ _ hp
      intro w15 gxB ArB crB AtB ctB vB okB ⟨hBx, hbx, hgx, hrx, htx, hctB, hArx, hresB⟩
      try dsimp only
      have Hbk15 := hid (Hbk14.out.keep hBx)
      have Hci15 := hid (Hci14.out.keep hBx)
      have Hcd15 := hid (Hcd14.out.keep hBx)
      have Hm15 := hid (Hm14.out.below hBx Hm14.out.lt)
      have HKc15 := hid ((HKc14.out.below hBx).more hBx.size)
      have HKd15 := hid ((HKd14.out.below hBx).more hBx.size)
      have HB15 := hid (HB14.out.trans (hBx.mono HB14.out.size))
      have HG15 := hid (HG14.out.below hBx)
      have HN15 := hid hbx
      have HRw15 := hid hrx
      have HT15 := hid htx
      have HArB := hid hArx
      have HV15 := hid hresB
      clear hBx hbx hrx htx hArx hresB Hbk14 Hci14 Hcd14 Hm14 HRw14 HT14 HKc14 HKd14 HB14 HG14
      rcases HG15.out with ⟨yB, AgB, cgB, hoB, rfl, rfl, hgaB⟩ | ⟨jB, xfB, hoB, rfl, rfl, hfaB⟩
      ·rcases HV15.out with ⟨zB, AvB, cvB, hzB, rfl, rfl, hvaB⟩ | ⟨hzB, -⟩
       rotate_left
       ·rw [hoB] at hzB; cases hzB
       obtain rfl : yB = zB := Option.some.inj (hoB.symm.trans hzB)
       have Hga := hid hgaB
       have Hva := hid hvaB
       clear hgaB hvaB HG15 HV15 hzB
       obtain ⟨w16, hw16⟩ : ∃ W, W = w15.setRow gm (row 2 (bookC (.slice ArB RB.length crB) (.slice AtB (p.n - dB) ctB))) := ⟨_, rfl⟩
       have Hbk16 := hid (show BookAt w16 p _ _ from by rw [hw16]; exact book_row Hbk15.out Hm15.out _)
       have Hci16 := hid (show CiAt w16 p k gc base5 (rn k) (rk L key) from by rw [hw16]; exact ci_row Hci15.out Hm15.out _)
       have Hcd16 := hid (show CiAt w16 p k gd base6 (rn k) (rk (1 + L) (k99 key)) from by rw [hw16]; exact ci_row Hcd15.out Hm15.out _)
       have HRw16 := hid (show RowsAt w16 w16.heap.size ArB (rn k) RB from by rw [hw16]; exact rows_book Hm15.out _ HRw15.out)
       have HT16 := hid (show Reads w16 w16.heap.size AtB (p.n - dB) (fun q => p.F (dB + q)) from by rw [hw16]; exact reads_book Hm15.out _ HT15.out)
       have HKc16 := hid (show Reads w16 w16.heap.size Ac (rn k) (rk L key) from by rw [hw16]; exact reads_book Hm15.out _ HKc15.out)
       have HKd16 := hid (show Reads w16 w16.heap.size Ad (rn k) (rk (1 + L) (k99 key)) from by rw [hw16]; exact reads_book Hm15.out _ HKd15.out)
       have HB16 := hid (show Below w.heap.size w w16 from by rw [hw16]; exact below_setRow' HB15.out hgm _)
       have Hga := hid (show Reads w16 w16.heap.size AgB (sz k) yB from by rw [hw16]; exact reads_book Hm15.out _ Hga.out)
       have Hva := hid (show Reads w16 w16.heap.size AvB (sz k) yB from by rw [hw16]; exact reads_book Hm15.out _ Hva.out)
       have HNo := hid HN15.out
       have HMo := hid Hm15.out
       have Hm16 := hid (show Blk w16 gm 36 (row 2 (bookC (.slice ArB RB.length crB) (.slice AtB (p.n - dB) ctB))) from by rw [hw16]; exact Hm15.out.setRow _)
       clear HN15 Hbk15 Hci15 Hcd15 Hm15 HRw15 HT15 HKc15 HKd15 HB15
       go_wp2_with (first | (with_reducible refine wpl_val rfl _ (exec_loadSt 36 _ rfl ⟨gxB, 0, none⟩ rfl 2 _ (cells2 HNo.out) _ Tryz.underlying36 iRB) ?_) | (with_reducible refine wpl_store_blk rfl 36 _ _ rfl gm (row 2 (bookC (.slice ArB RB.length crB) (.slice AtB (p.n - dB) ctB))) rfl rfl 36 _ HMo.out (iRB' _) (by simp [row_size]) (one2 _ _ _ _ _ _) ?_))
       rw [← hw16]
       clear HNo HMo hw16
       refine (same_any _ _ (sz k) cgB cvB yB yB _ (by have := sz16 k; omega) Hga.out Hva.out).mono ?_
       rintro e w17 ⟨rfl, hB⟩
       rw [eqB_true (fun _ _ => rfl)]
       have Hbk17 := hid (Hbk16.out.keep hB)
       have Hci17 := hid (Hci16.out.keep hB)
       have Hcd17 := hid (Hcd16.out.keep hB)
       have Hm17 := hid (Hm16.out.below hB Hm16.out.lt)
       have HRw17 := hid ((HRw16.out.below hB).more hB.size)
       have HT17 := hid ((HT16.out.below hB).more hB.size)
       have HKc17 := hid ((HKc16.out.below hB).more hB.size)
       have HKd17 := hid ((HKd16.out.below hB).more hB.size)
       have HB17 := hid (HB16.out.trans (hB.mono HB16.out.size))
       have Hga := hid ((Hga.out.below hB).more hB.size)
       have Hva := hid ((Hva.out.below hB).more hB.size)
       clear hB Hbk16 Hci16 Hcd16 Hm16 HRw16 HT16 HKc16 HKd16 HB16
       go_wp2_with fail
       go_round
       case rel => exact ⟨i + 1, dB, RB, ArB, crB, AtB, ctB, by omega, val_int (by omega), by omega, by omega, hctB, Hbk17, Hci17, Hcd17, Hm17, HRw17, HT17, HArB, HKc17, HKd17, HB17⟩
       case measure => simp [intOf]; omega
      ·rcases HV15.out with ⟨zB, AvB, cvB, hzB, -⟩ | ⟨hzB, rfl⟩
       ·rw [hoB] at hzB; cases hzB
       have HFa := hid hfaB
       clear hfaB HG15 HV15 hzB
       obtain ⟨w16, hw16⟩ : ∃ W, W = w15.setRow gm (row 2 (bookC (.slice ArB RB.length crB) (.slice AtB (p.n - dB) ctB))) := ⟨_, rfl⟩
       have Hbk16 := hid (show BookAt w16 p _ _ from by rw [hw16]; exact book_row Hbk15.out Hm15.out _)
       have Hci16 := hid (show CiAt w16 p k gc base5 (rn k) (rk L key) from by rw [hw16]; exact ci_row Hci15.out Hm15.out _)
       have Hcd16 := hid (show CiAt w16 p k gd base6 (rn k) (rk (1 + L) (k99 key)) from by rw [hw16]; exact ci_row Hcd15.out Hm15.out _)
       have HRw16 := hid (show RowsAt w16 w16.heap.size ArB (rn k) RB from by rw [hw16]; exact rows_book Hm15.out _ HRw15.out)
       have HT16 := hid (show Reads w16 w16.heap.size AtB (p.n - dB) (fun q => p.F (dB + q)) from by rw [hw16]; exact reads_book Hm15.out _ HT15.out)
       have HKc16 := hid (show Reads w16 w16.heap.size Ac (rn k) (rk L key) from by rw [hw16]; exact reads_book Hm15.out _ HKc15.out)
       have HKd16 := hid (show Reads w16 w16.heap.size Ad (rn k) (rk (1 + L) (k99 key)) from by rw [hw16]; exact reads_book Hm15.out _ HKd15.out)
       have HB16 := hid (show Below w.heap.size w w16 from by rw [hw16]; exact below_setRow' HB15.out hgm _)
       have HFa := hid (show Blk w16 jB 89 #[xfB, .iface 64 (.int .i64 13)] from by rw [hw16]; exact HFa.out.otherRow gm _ (Hm15.out.ne HFa.out (by decide)))
       have HNo := hid HN15.out
       have HMo := hid Hm15.out
       have Hm16 := hid (show Blk w16 gm 36 (row 2 (bookC (.slice ArB RB.length crB) (.slice AtB (p.n - dB) ctB))) from by rw [hw16]; exact Hm15.out.setRow _)
       clear HN15 Hbk15 Hci15 Hcd15 Hm15 HRw15 HT15 HKc15 HKd15 HB15
       go_wp2_with (first | (with_reducible refine wpl_val rfl _ (exec_loadSt 36 _ rfl ⟨gxB, 0, none⟩ rfl 2 _ (cells2 HNo.out) _ Tryz.underlying36 iRB) ?_) | (with_reducible refine wpl_store_blk rfl 36 _ _ rfl gm (row 2 (bookC (.slice ArB RB.length crB) (.slice AtB (p.n - dB) ctB))) rfl rfl 36 _ HMo.out (iRB' _) (by simp [row_size]) (one2 _ _ _ _ _ _) ?_))
       rw [← hw16]
       clear HNo HMo hw16
       refine (code_fault 13 jB _ (Hg.out.below HB16.out) (HFa.out.cell 1)).mono ?_
       rintro e w17 ⟨rfl, hB⟩
       have Hbk17 := hid (Hbk16.out.keep hB)
       have Hci17 := hid (Hci16.out.keep hB)
       have Hcd17 := hid (Hcd16.out.keep hB)
       have Hm17 := hid (Hm16.out.below hB Hm16.out.lt)
       have HRw17 := hid ((HRw16.out.below hB).more hB.size)
       have HT17 := hid ((HT16.out.below hB).more hB.size)
       have HKc17 := hid ((HKc16.out.below hB).more hB.size)
       have HKd17 := hid ((HKd16.out.below hB).more hB.size)
       have HB17 := hid (HB16.out.trans (hB.mono HB16.out.size))
       have HFa := hid (HFa.out.below hB HFa.out.lt)
       clear hB Hbk16 Hci16 Hcd16 Hm16 HRw16 HT16 HKc16 HKd16 HB16
       go_wp2_with fail
       go_round
       case rel => exact ⟨i + 1, dB, RB, ArB, crB, AtB, ctB, by omega, val_int (by omega), by omega, by omega, hctB, Hbk17, Hci17, Hcd17, Hm17, HRw17, HT17, HArB, HKc17, HKd17, HB17⟩
       case measure => simp [intOf]; omega
     ·rcases HV11.out with ⟨zA, AvA, cvA, hzA, -⟩ | ⟨hzA, rfl⟩
      ·rw [hoA] at hzA; cases hzA
      have HFa := hid hfaA
      clear hfaA HG11 HV11 hzA
      obtain ⟨w12, hw12⟩ : ∃ W, W = w11.setRow gm (row 2 (bookC (.slice ArA RA.length crA) (.slice AtA (p.n - dA) ctA))) := ⟨_, rfl⟩
      have Hbk12 := hid (show BookAt w12 p _ _ from by rw [hw12]; exact book_row Hbk11.out Hm11.out _)
      have Hci12 := hid (show CiAt w12 p k gc base5 (rn k) (rk L key) from by rw [hw12]; exact ci_row Hci11.out Hm11.out _)
      have Hcd12 := hid (show CiAt w12 p k gd base6 (rn k) (rk (1 + L) (k99 key)) from by rw [hw12]; exact ci_row Hcd11.out Hm11.out _)
      have HRw12 := hid (show RowsAt w12 w12.heap.size ArA (rn k) RA from by rw [hw12]; exact rows_book Hm11.out _ HRw11.out)
      have HT12 := hid (show Reads w12 w12.heap.size AtA (p.n - dA) (fun q => p.F (dA + q)) from by rw [hw12]; exact reads_book Hm11.out _ HT11.out)
      have HKc12 := hid (show Reads w12 w12.heap.size Ac (rn k) (rk L key) from by rw [hw12]; exact reads_book Hm11.out _ HKc11.out)
      have HKd12 := hid (show Reads w12 w12.heap.size Ad (rn k) (rk (1 + L) (k99 key)) from by rw [hw12]; exact reads_book Hm11.out _ HKd11.out)
      have HB12 := hid (show Below w.heap.size w w12 from by rw [hw12]; exact below_setRow' HB11.out hgm _)
      have HFa := hid (show Blk w12 jA 89 #[xfA, .iface 64 (.int .i64 13)] from by rw [hw12]; exact HFa.out.otherRow gm _ (Hm11.out.ne HFa.out (by decide)))
      have HNo := hid HN11.out
      have HMo := hid Hm11.out
      have Hm12 := hid (show Blk w12 gm 36 (row 2 (bookC (.slice ArA RA.length crA) (.slice AtA (p.n - dA) ctA))) from by rw [hw12]; exact Hm11.out.setRow _)
      clear HN11 Hbk11 Hci11 Hcd11 Hm11 HRw11 HT11 HKc11 HKd11 HB11
      rcases htB : turnC k (rn k) (rk L key) p RA dA (back i) (f i) with ⟨oB, RB, dB⟩
      obtain ⟨-, -, -, hlenB⟩ := turn_inv hfit (fun i _ => rk_lt Hk.out i) Hbk12.out.inv hfs.out htB
      have hdB : dB ≤ p.n := (turn_inv hfit (fun i _ => rk_lt Hk.out i) Hbk12.out.inv hfs.out htB).1.hd
      have HTuB := hid htB
      clear htB
      have hlB : RB.length ≤ RA.length + 1 := len_le hlenB
      clear hlenB
      have hq2 : (w11.setRow gm (row 2 (bookC (.slice ArA RA.length crA) (.slice AtA (p.n - dA) ctA)))).cell? ((ad.add (i * 18)).add 17) = some (.bool (back i)) := by rw [← hw12]; exact (HB12.out.cell (by rw [add_block, add_block]; exact had)).trans H3.out
      go_wp2_with (first | (with_reducible refine wpl_val rfl _ (exec_loadSt 36 _ rfl ⟨gxA, 0, none⟩ rfl 2 _ (cells2 HNo.out) _ Tryz.underlying36 iRB) ?_) | (with_reducible refine wpl_store_blk rfl 36 _ _ rfl gm (row 2 (bookC (.slice ArA RA.length crA) (.slice AtA (p.n - dA) ctA))) rfl rfl 36 _ HMo.out (iRB' _) (by simp [row_size]) (one2 _ _ _ _ _ _) ?_) | (with_reducible refine wpl_sl rfl 23 _ _ rfl ad n4 c4 rfl .i64 _ rfl i rfl 39 Tryz.underlying23 hlt 18 iQ ?_) | (with_reducible refine wpl_val rfl _ (exec_fieldQ2 _ rfl _ rfl) ?_) | (with_reducible refine wpl_val rfl _ (exec_ldB 4 _ rfl _ rfl Tryz.underlying4 _ hq2) ?_))
      rw [← hw12]
      clear HNo HMo hw12
      refine (do_any _ p dA RA k gc base5 (rn k) (rk L key) ((ad.add (i * 18)).add 1) 16 (back i) (f i) Hci12.out Hbk12.out (Nat.lt_of_lt_of_le hadb.out HB12.out.size) hadS.out (Hcs.out _ HB12.out) hfs.out _ _ _ HTuB.out).mono ?_
      rintro e w13 hDo
      obtain ⟨gvB, geB, rfl, hK, hbkn, hgot⟩ := got_of hDo
      clear hDo
      have Hci13 := hid (Hci12.out.keepS Hbk12.out hK)
      have Hcd13 := hid (Hcd12.out.keepS Hbk12.out hK)
      have Hm13 := hid (hK.blk Hm12.out (Hbk12.out.free Hm12.out (by decide)))
      have HRw13 := hid (Hbk12.out.rowsAt hK HRw12.out)
      have HT13 := hid (Hbk12.out.reads hK HT12.out)
      have HKc13 := hid (Hbk12.out.reads hK HKc12.out)
      have HKd13 := hid (Hbk12.out.reads hK HKd12.out)
      have HB13 := hid (HB12.out.trans (hK.below hlow.out HB12.out.size))
      have Hbk13 := hid hbkn
      have HG13 := hid hgot
      clear hq2 hK hbkn hgot Hbk12 Hci12 Hcd12 Hm12 HRw12 HT12 HKc12 HKd12 HB12
      have hq0 : w13.cell? ((ad.add (i * 18)).add 0) = some (.bool (one i)) := (HB13.out.cell (by rw [add_block, add_block]; exact had)).trans H1.out
      have hq2 : w13.cell? ((ad.add (i * 18)).add 17) = some (.bool (back i)) := (HB13.out.cell (by rw [add_block, add_block]; exact had)).trans H3.out
      go_wp2_with (first
       | (with_reducible refine wpl_sl rfl 23 _ _ rfl ad n4 c4 rfl .i64 _ rfl i rfl 39 Tryz.underlying23 hlt 18 iQ ?_)
       | (with_reducible refine wpl_val rfl _ (exec_fieldQ2 _ rfl _ rfl) ?_)
       | (with_reducible refine wpl_val rfl _ (exec_fieldQ0 _ rfl _ rfl) ?_)
       | (with_reducible refine wpl_val rfl _ (exec_ldB 4 _ rfl _ rfl Tryz.underlying4 _ hq2) ?_)
       | (with_reducible refine wpl_val rfl _ (exec_ldB 4 _ rfl _ rfl Tryz.underlying4 _ hq0) ?_))
      clear hq0 hq2
      apply suff8 (F := P2 p k (rn k) oB RB dB w13)
      case h1 =>
       intro key8
       refine wp_region_held_drew (S := fun W => Below w13.heap.size w13 W) (by kernel_rfl) (Below.refl _ _).drew (fun hS0 => ?_)
       refine wpAnyH_take (i := 0) (v := .int .i64 (k : Int)) rfl (by kernel_rfl) (by kernel_rfl) (by kernel_rfl) (fun _ _ _ h => h) (Or.inl ⟨rfl, fun _ _ => exec_move _ rfl _ rfl⟩) hS0 ?_
       (try simp only [Act.put, zk1, zk2, zk3, zk4, zk5, zk6])
       refine wpAnyH_take (i := 1) (v := .slice Ac (rn k) cc) rfl (by kernel_rfl) (by kernel_rfl) (by kernel_rfl) (fun _ _ _ h => h) (Or.inl ⟨rfl, fun _ _ => exec_move _ rfl _ rfl⟩) hS0 ?_
       (try simp only [Act.put, zk1, zk2, zk3, zk4, zk5, zk6])
       refine wpAnyH_take (i := 2) (v := .agg (row 2 (bookC (.slice ArA RA.length crA) (.slice AtA (p.n - dA) ctA)))) rfl (by kernel_rfl) (by kernel_rfl) (by kernel_rfl) (fun _ _ _ h => h) (Or.inl ⟨rfl, fun W hW => exec_loadSt 36 _ rfl ⟨gm, 0, none⟩ rfl 2 _ (cells2 (Hm13.out.below hW Hm13.out.lt)) _ Tryz.underlying36 iRB⟩) hS0 ?_
       (try simp only [Act.put, zk1, zk2, zk3, zk4, zk5, zk6])
       refine wpAnyH_take (i := 3) (v := .slice (some ((ad.add (i * 18)).add 1)) (sz k) 16) rfl (by kernel_rfl) (by kernel_rfl) (by kernel_rfl) (fun _ _ _ h => h) (Or.inl ⟨rfl, fun _ _ => exec_move _ rfl _ rfl⟩) hS0 ?_
       (try simp only [Act.put, zk1, zk2, zk3, zk4, zk5, zk6])
       refine wpAnyH_take (i := 4) (v := .slice (some ad) n4 c4) rfl (by kernel_rfl) (by kernel_rfl) (by kernel_rfl) (fun _ _ _ h => h) (Or.inl ⟨rfl, fun _ _ => exec_move _ rfl _ rfl⟩) hS0 ?_
       (try simp only [Act.put, zk1, zk2, zk3, zk4, zk5, zk6])
       refine wpAnyH_take (i := 5) (v := .int .i64 (i : Int)) rfl (by kernel_rfl) (by kernel_rfl) (by kernel_rfl) (fun _ _ _ h => h) (Or.inl ⟨rfl, fun _ _ => exec_move _ rfl _ rfl⟩) hS0 ?_
       (try simp only [Act.put, zk1, zk2, zk3, zk4, zk5, zk6])
       refine wpAnyH_take (i := 6) (v := .pointer (some (ad.add (i * 18)))) rfl (by kernel_rfl) (by kernel_rfl) (by kernel_rfl) (fun _ _ _ h => h) (Or.inl ⟨rfl, fun _ _ => exec_slQ 23 _ _ rfl ad n4 c4 rfl .i64 _ rfl i rfl 39 Tryz.underlying23 hlt 18 iQ⟩) hS0 ?_
       (try simp only [Act.put, zk1, zk2, zk3, zk4, zk5, zk6])
       refine wpAnyH_take (i := 7) (v := .pointer (some ((ad.add (i * 18)).add 17))) rfl (by kernel_rfl) (by kernel_rfl) (by kernel_rfl) (fun _ _ _ h => h) (Or.inl ⟨rfl, fun _ _ => exec_fieldQ2 _ rfl _ rfl⟩) hS0 ?_
       (try simp only [Act.put, zk1, zk2, zk3, zk4, zk5, zk6])
       refine wpAnyH_take (i := 8) (v := .bool (back i)) rfl (by kernel_rfl) (by kernel_rfl) (by kernel_rfl) (fun _ _ _ h => h) (Or.inl ⟨rfl, fun W hW => exec_ldB 4 _ rfl _ rfl Tryz.underlying4 _ (Hq2.out W (HB13.out.trans (hW.mono HB13.out.size)))⟩) hS0 ?_
       (try simp only [Act.put, zk1, zk2, zk3, zk4, zk5, zk6])
       refine wpAnyH_ready (rs := [9, 14]) (by kernel_rfl) (by simp) ?_
       refine AllReadyH.cons rfl (fun K hK => ?_) (AllReadyH.cons rfl (fun K hK => ?_) AllReadyH.nil)
       ·(try simp only [Act.put, zk1, zk2, zk3, zk4, zk5, zk6])
        refine Eq.mpr (if_pos (by rfl)) ?_
        go_simp
        refine (rdo_any p k dA (rn k) RA ArA crA AtA ctA Ac cc (rk L key) (some ((ad.add (i * 18)).add 1)) 16 (f i) (back i) _ hfit w13.heap.size hS0.size (HRw13.out.below hS0) (HT13.out.below hS0) hctA (by omega) (by omega) (by omega) (by omega) (by omega) ((HKc13.out.below hS0).more hS0.size) (fun i _ => rk_lt Hk.out i) (HX.out _ (HB13.out.trans (hS0.mono HB13.out.size))) hfs.out HArA.out HAc.out _ _ _ HTuB.out).mono ?_
        rintro e w3 ⟨hBc, Ar2, cr2, At2, ct2, v2, ok2, rfl, hag, hct2, hAr2, hres⟩
        refine hK.out _ _ (hS0.trans (hBc.mono hS0.size)) (fun hS3 => ?_)
        (try simp only [Act.put, zk1, zk2, zk3, zk4, zk5, zk6])
        refine wpAnyH_take (i := 10) (v := .tuple #[.agg #[.slice Ar2 RB.length cr2, .slice At2 (p.n - dB) ct2], v2, .bool ok2]) rfl (by kernel_rfl) (by kernel_rfl) (by kernel_rfl) (fun _ _ _ h => h) (Or.inl ⟨rfl, fun _ _ => exec_move _ rfl _ rfl⟩) hS3 ?_
        (try simp only [Act.put, zk1, zk2, zk3, zk4, zk5, zk6])
        refine wpAnyH_take (i := 11) (v := .agg (row 2 (bookC (.slice Ar2 RB.length cr2) (.slice At2 (p.n - dB) ct2)))) rfl (by kernel_rfl) (by kernel_rfl) (by kernel_rfl) (fun _ _ _ h => h) (Or.inl ⟨rfl, fun _ _ => exec_extract _ 0 rfl _ rfl _ (by rw [row2]; rfl)⟩) hS3 ?_
        (try simp only [Act.put, zk1, zk2, zk3, zk4, zk5, zk6])
        refine wpAnyH_take (i := 12) (v := v2) rfl (by kernel_rfl) (by kernel_rfl) (by kernel_rfl) (fun _ _ _ h => h) (Or.inl ⟨rfl, fun _ _ => exec_extract _ 1 rfl _ rfl _ rfl⟩) hS3 ?_
        (try simp only [Act.put, zk1, zk2, zk3, zk4, zk5, zk6])
        refine wpAnyH_take (i := 13) (v := .bool ok2) rfl (by kernel_rfl) (by kernel_rfl) (by kernel_rfl) (fun _ _ _ h => h) (Or.inl ⟨rfl, fun _ _ => exec_extract _ 2 rfl _ rfl _ rfl⟩) hS3 ?_
        (try simp only [Act.put, zk1, zk2, zk3, zk4, zk5, zk6])
        refine wpAnyH_ready (rs := [14]) (by kernel_rfl) (by simp) (AllReadyH.cons rfl (fun K hK => ?_) AllReadyH.nil)
        (try simp only [Act.put, zk1, zk2, zk3, zk4, zk5, zk6])
        refine Eq.mpr (if_pos (by rfl)) ?_
        refine wp_new 36 rfl _ zRB2 ?_
        (try simp only [Act.put, zk1, zk2, zk3, zk4, zk5, zk6])
        refine hK.out _ _ (hS3.alloc hS3.size _) (fun hS4 => ?_)
        (try simp only [Act.put, zk1, zk2, zk3, zk4, zk5, zk6])
        refine wpAnyH_ready (rs := [15]) (by kernel_rfl) (by simp) (ready_one rfl rfl (fun K hK => ?_))
        (try simp only [Act.put, zk1, zk2, zk3, zk4, zk5, zk6])
        with_reducible refine wp_store_blk 36 _ _ rfl w3.heap.size (row 2 (bookC (.slice Ar2 RB.length cr2) (.slice At2 (p.n - dB) ct2))) rfl rfl 36 _ (Blk.fresh _ _ _) (iRB' _) (by simp [row_size]) (one2 _ _ _ _ _ _) ?_
        (try simp only [Act.put, zk1, zk2, zk3, zk4, zk5, zk6])
        refine hK.out _ _ (below_setRow' hS4 hS3.size _) (fun hSz => ?_)
        (try simp only [Act.put, zk1, zk2, zk3, zk4, zk5, zk6])
        refine wpAnyH_take (i := 16) (v := v2) rfl (by kernel_rfl) (by kernel_rfl) (by kernel_rfl) (fun _ _ _ h => h) (Or.inl ⟨rfl, fun _ _ => exec_assign _ rfl _ rfl⟩) hSz ?_
        (try simp only [Act.put, zk1, zk2, zk3, zk4, zk5, zk6])
        refine wpAnyH_take (i := 17) (v := .bool ok2) rfl (by kernel_rfl) (by kernel_rfl) (by kernel_rfl) (fun _ _ _ h => h) (Or.inl ⟨rfl, fun _ _ => exec_assign _ rfl _ rfl⟩) hSz ?_
        (try simp only [Act.put, zk1, zk2, zk3, zk4, zk5, zk6])
        refine wpAnyH_done (by kernel_rfl) ?_ _
        clear hK
        have hp := p2_call (zs := row 2 (bookC (.slice none 0 0) (.slice none 0 0))) (k := k) (v := v2) (ok := ok2) rfl hS0 hBc hag hct2 hAr2 hres
        clear hS0 hS3 hS4 hSz hBc hag hres
        generalize (w3.alloc (.cells (row 2 (bookC (.slice none 0 0) (.slice none 0 0))) 36)).setRow w3.heap.size (row 2 (bookC (.slice Ar2 RB.length cr2) (.slice At2 (p.n - dB) ct2))) = wX at hp ⊢
        generalize w3.heap.size = gX at hp ⊢
        exact key8 wX gX _ _ _ _ _ _ hp
       ·(try simp only [Act.put, zk1, zk2, zk3, zk4, zk5, zk6])
        refine Eq.mpr (if_pos (by rfl)) ?_
        refine wp_new 36 rfl _ zRB2 ?_
        (try simp only [Act.put, zk1, zk2, zk3, zk4, zk5, zk6])
        refine hK.out _ _ (hS0.alloc hS0.size _) (fun hS1 => ?_)
        (try simp only [Act.put, zk1, zk2, zk3, zk4, zk5, zk6])
        have hq1 : Blk (w13.drew.alloc (.cells (row 2 (bookC (.slice none 0 0) (.slice none 0 0))) 36)) w13.heap.size 36 (row 2 (bookC (.slice none 0 0) (.slice none 0 0))) := Blk.fresh w13.drew 36 _
        have hz1 : (w13.drew.alloc (.cells (row 2 (bookC (.slice none 0 0) (.slice none 0 0))) 36)).heap.size = w13.heap.size + 1 := by simp
        generalize hwa : w13.drew.alloc (.cells (row 2 (bookC (.slice none 0 0) (.slice none 0 0))) 36) = wa at hq1 hS1 hz1 ⊢
        clear hwa hK
        refine wpAnyH_ready (rs := [9]) (by kernel_rfl) (by simp) (AllReadyH.cons rfl (fun K hK => ?_) AllReadyH.nil)
        (try simp only [Act.put, zk1, zk2, zk3, zk4, zk5, zk6])
        refine Eq.mpr (if_pos (by rfl)) ?_
        go_simp
        refine (rdo_any p k dA (rn k) RA ArA crA AtA ctA Ac cc (rk L key) (some ((ad.add (i * 18)).add 1)) 16 (f i) (back i) _ hfit w13.heap.size hS1.size (HRw13.out.below hS1) (HT13.out.below hS1) hctA (by omega) (by omega) (by omega) (by omega) (by omega) ((HKc13.out.below hS1).more hS1.size) (fun i _ => rk_lt Hk.out i) (HX.out _ (HB13.out.trans (hS1.mono HB13.out.size))) hfs.out HArA.out HAc.out _ _ _ HTuB.out).mono ?_
        rintro e w3 ⟨hBc, Ar2, cr2, At2, ct2, v2, ok2, rfl, hag, hct2, hAr2, hres⟩
        refine hK.out _ _ (hS1.trans (hBc.mono hS1.size)) (fun hS3 => ?_)
        (try simp only [Act.put, zk1, zk2, zk3, zk4, zk5, zk6])
        refine wpAnyH_take (i := 10) (v := .tuple #[.agg #[.slice Ar2 RB.length cr2, .slice At2 (p.n - dB) ct2], v2, .bool ok2]) rfl (by kernel_rfl) (by kernel_rfl) (by kernel_rfl) (fun _ _ _ h => h) (Or.inl ⟨rfl, fun _ _ => exec_move _ rfl _ rfl⟩) hS3 ?_
        (try simp only [Act.put, zk1, zk2, zk3, zk4, zk5, zk6])
        refine wpAnyH_take (i := 11) (v := .agg (row 2 (bookC (.slice Ar2 RB.length cr2) (.slice At2 (p.n - dB) ct2)))) rfl (by kernel_rfl) (by kernel_rfl) (by kernel_rfl) (fun _ _ _ h => h) (Or.inl ⟨rfl, fun _ _ => exec_extract _ 0 rfl _ rfl _ (by rw [row2]; rfl)⟩) hS3 ?_
        (try simp only [Act.put, zk1, zk2, zk3, zk4, zk5, zk6])
        refine wpAnyH_take (i := 12) (v := v2) rfl (by kernel_rfl) (by kernel_rfl) (by kernel_rfl) (fun _ _ _ h => h) (Or.inl ⟨rfl, fun _ _ => exec_extract _ 1 rfl _ rfl _ rfl⟩) hS3 ?_
        (try simp only [Act.put, zk1, zk2, zk3, zk4, zk5, zk6])
        refine wpAnyH_take (i := 13) (v := .bool ok2) rfl (by kernel_rfl) (by kernel_rfl) (by kernel_rfl) (fun _ _ _ h => h) (Or.inl ⟨rfl, fun _ _ => exec_extract _ 2 rfl _ rfl _ rfl⟩) hS3 ?_
        (try simp only [Act.put, zk1, zk2, zk3, zk4, zk5, zk6])
        refine wpAnyH_ready (rs := [15]) (by kernel_rfl) (by simp) (ready_one rfl rfl (fun K hK => ?_))
        have hqb := hq1.below hBc hq1.lt
        (try simp only [Act.put, zk1, zk2, zk3, zk4, zk5, zk6])
        with_reducible refine wp_store_blk 36 _ _ rfl w13.heap.size (row 2 (bookC (.slice Ar2 RB.length cr2) (.slice At2 (p.n - dB) ct2))) rfl rfl 36 _ hqb (iRB' _) (by simp [row_size]) (one2 _ _ _ _ _ _) ?_
        (try simp only [Act.put, zk1, zk2, zk3, zk4, zk5, zk6])
        refine hK.out _ _ (below_setRow' hS3 (Nat.le_refl _) _) (fun hSz => ?_)
        (try simp only [Act.put, zk1, zk2, zk3, zk4, zk5, zk6])
        refine wpAnyH_take (i := 16) (v := v2) rfl (by kernel_rfl) (by kernel_rfl) (by kernel_rfl) (fun _ _ _ h => h) (Or.inl ⟨rfl, fun _ _ => exec_assign _ rfl _ rfl⟩) hSz ?_
        (try simp only [Act.put, zk1, zk2, zk3, zk4, zk5, zk6])
        refine wpAnyH_take (i := 17) (v := .bool ok2) rfl (by kernel_rfl) (by kernel_rfl) (by kernel_rfl) (fun _ _ _ h => h) (Or.inl ⟨rfl, fun _ _ => exec_assign _ rfl _ rfl⟩) hSz ?_
        (try simp only [Act.put, zk1, zk2, zk3, zk4, zk5, zk6])
        refine wpAnyH_done (by kernel_rfl) ?_ _
        clear hK
        have hp := p2_alloc (k := k) (v := v2) (ok := ok2) rfl hS1 hz1 hq1 hBc hag hct2 hAr2 hres
        clear hS0 hS1 hS3 hSz hBc hag hres hqb hq1 hz1
        generalize w3.setRow w13.heap.size (row 2 (bookC (.slice Ar2 RB.length cr2) (.slice At2 (p.n - dB) ct2))) = wX at hp ⊢
        obtain ⟨gX, hgX⟩ : ∃ g, g = w13.heap.size := ⟨_, rfl⟩
        rw [← hgX] at hp ⊢
        exact key8 wX gX _ _ _ _ _ _ hp
      intro w14 gxB ArB crB AtB ctB vB okB ⟨hBx, hbx, hgx, hrx, htx, hctB, hArx, hresB⟩
      try dsimp only
      have Hbk14 := hid (Hbk13.out.keep hBx)
      have Hci14 := hid (Hci13.out.keep hBx)
      have Hcd14 := hid (Hcd13.out.keep hBx)
      have Hm14 := hid (Hm13.out.below hBx Hm13.out.lt)
      have HKc14 := hid ((HKc13.out.below hBx).more hBx.size)
      have HKd14 := hid ((HKd13.out.below hBx).more hBx.size)
      have HB14 := hid (HB13.out.trans (hBx.mono HB13.out.size))
      have HG14 := hid (HG13.out.below hBx)
      have HN14 := hid hbx
      have HRw14 := hid hrx
      have HT14 := hid htx
      have HArB := hid hArx
      have HV14 := hid hresB
      clear hBx hbx hrx htx hArx hresB Hbk13 Hci13 Hcd13 Hm13 HRw13 HT13 HKc13 HKd13 HB13 HG13
      rcases HG14.out with ⟨yB, AgB, cgB, hoB, rfl, rfl, hgaB⟩ | ⟨jB, xfB, hoB, rfl, rfl, hfaB⟩
      ·rcases HV14.out with ⟨zB, AvB, cvB, hzB, rfl, rfl, hvaB⟩ | ⟨hzB, -⟩
       rotate_left
       ·rw [hoB] at hzB; cases hzB
       obtain rfl : yB = zB := Option.some.inj (hoB.symm.trans hzB)
       have Hga := hid hgaB
       have Hva := hid hvaB
       clear hgaB hvaB HG14 HV14 hzB
       obtain ⟨w15, hw15⟩ : ∃ W, W = w14.setRow gm (row 2 (bookC (.slice ArB RB.length crB) (.slice AtB (p.n - dB) ctB))) := ⟨_, rfl⟩
       have Hbk15 := hid (show BookAt w15 p _ _ from by rw [hw15]; exact book_row Hbk14.out Hm14.out _)
       have Hci15 := hid (show CiAt w15 p k gc base5 (rn k) (rk L key) from by rw [hw15]; exact ci_row Hci14.out Hm14.out _)
       have Hcd15 := hid (show CiAt w15 p k gd base6 (rn k) (rk (1 + L) (k99 key)) from by rw [hw15]; exact ci_row Hcd14.out Hm14.out _)
       have HRw15 := hid (show RowsAt w15 w15.heap.size ArB (rn k) RB from by rw [hw15]; exact rows_book Hm14.out _ HRw14.out)
       have HT15 := hid (show Reads w15 w15.heap.size AtB (p.n - dB) (fun q => p.F (dB + q)) from by rw [hw15]; exact reads_book Hm14.out _ HT14.out)
       have HKc15 := hid (show Reads w15 w15.heap.size Ac (rn k) (rk L key) from by rw [hw15]; exact reads_book Hm14.out _ HKc14.out)
       have HKd15 := hid (show Reads w15 w15.heap.size Ad (rn k) (rk (1 + L) (k99 key)) from by rw [hw15]; exact reads_book Hm14.out _ HKd14.out)
       have HB15 := hid (show Below w.heap.size w w15 from by rw [hw15]; exact below_setRow' HB14.out hgm _)
       have Hga := hid (show Reads w15 w15.heap.size AgB (sz k) yB from by rw [hw15]; exact reads_book Hm14.out _ Hga.out)
       have Hva := hid (show Reads w15 w15.heap.size AvB (sz k) yB from by rw [hw15]; exact reads_book Hm14.out _ Hva.out)
       have HNo := hid HN14.out
       have HMo := hid Hm14.out
       have Hm15 := hid (show Blk w15 gm 36 (row 2 (bookC (.slice ArB RB.length crB) (.slice AtB (p.n - dB) ctB))) from by rw [hw15]; exact Hm14.out.setRow _)
       clear HN14 Hbk14 Hci14 Hcd14 Hm14 HRw14 HT14 HKc14 HKd14 HB14
       go_wp2_with (first | (with_reducible refine wpl_val rfl _ (exec_loadSt 36 _ rfl ⟨gxB, 0, none⟩ rfl 2 _ (cells2 HNo.out) _ Tryz.underlying36 iRB) ?_) | (with_reducible refine wpl_store_blk rfl 36 _ _ rfl gm (row 2 (bookC (.slice ArB RB.length crB) (.slice AtB (p.n - dB) ctB))) rfl rfl 36 _ HMo.out (iRB' _) (by simp [row_size]) (one2 _ _ _ _ _ _) ?_))
       rw [← hw15]
       clear HNo HMo hw15
       refine (same_any _ _ (sz k) cgB cvB yB yB _ (by have := sz16 k; omega) Hga.out Hva.out).mono ?_
       rintro e w16 ⟨rfl, hB⟩
       rw [eqB_true (fun _ _ => rfl)]
       have Hbk16 := hid (Hbk15.out.keep hB)
       have Hci16 := hid (Hci15.out.keep hB)
       have Hcd16 := hid (Hcd15.out.keep hB)
       have Hm16 := hid (Hm15.out.below hB Hm15.out.lt)
       have HRw16 := hid ((HRw15.out.below hB).more hB.size)
       have HT16 := hid ((HT15.out.below hB).more hB.size)
       have HKc16 := hid ((HKc15.out.below hB).more hB.size)
       have HKd16 := hid ((HKd15.out.below hB).more hB.size)
       have HB16 := hid (HB15.out.trans (hB.mono HB15.out.size))
       have Hga := hid ((Hga.out.below hB).more hB.size)
       have Hva := hid ((Hva.out.below hB).more hB.size)
       clear hB Hbk15 Hci15 Hcd15 Hm15 HRw15 HT15 HKc15 HKd15 HB15
       go_wp2_with fail
       go_round
       case rel => exact ⟨i + 1, dB, RB, ArB, crB, AtB, ctB, by omega, val_int (by omega), by omega, by omega, hctB, Hbk16, Hci16, Hcd16, Hm16, HRw16, HT16, HArB, HKc16, HKd16, HB16⟩
       case measure => simp [intOf]; omega
      ·rcases HV14.out with ⟨zB, AvB, cvB, hzB, -⟩ | ⟨hzB, rfl⟩
       ·rw [hoB] at hzB; cases hzB
       have HFa := hid hfaB
       clear hfaB HG14 HV14 hzB
       obtain ⟨w15, hw15⟩ : ∃ W, W = w14.setRow gm (row 2 (bookC (.slice ArB RB.length crB) (.slice AtB (p.n - dB) ctB))) := ⟨_, rfl⟩
       have Hbk15 := hid (show BookAt w15 p _ _ from by rw [hw15]; exact book_row Hbk14.out Hm14.out _)
       have Hci15 := hid (show CiAt w15 p k gc base5 (rn k) (rk L key) from by rw [hw15]; exact ci_row Hci14.out Hm14.out _)
       have Hcd15 := hid (show CiAt w15 p k gd base6 (rn k) (rk (1 + L) (k99 key)) from by rw [hw15]; exact ci_row Hcd14.out Hm14.out _)
       have HRw15 := hid (show RowsAt w15 w15.heap.size ArB (rn k) RB from by rw [hw15]; exact rows_book Hm14.out _ HRw14.out)
       have HT15 := hid (show Reads w15 w15.heap.size AtB (p.n - dB) (fun q => p.F (dB + q)) from by rw [hw15]; exact reads_book Hm14.out _ HT14.out)
       have HKc15 := hid (show Reads w15 w15.heap.size Ac (rn k) (rk L key) from by rw [hw15]; exact reads_book Hm14.out _ HKc14.out)
       have HKd15 := hid (show Reads w15 w15.heap.size Ad (rn k) (rk (1 + L) (k99 key)) from by rw [hw15]; exact reads_book Hm14.out _ HKd14.out)
       have HB15 := hid (show Below w.heap.size w w15 from by rw [hw15]; exact below_setRow' HB14.out hgm _)
       have HFa := hid (show Blk w15 jB 89 #[xfB, .iface 64 (.int .i64 13)] from by rw [hw15]; exact HFa.out.otherRow gm _ (Hm14.out.ne HFa.out (by decide)))
       have HNo := hid HN14.out
       have HMo := hid Hm14.out
       have Hm15 := hid (show Blk w15 gm 36 (row 2 (bookC (.slice ArB RB.length crB) (.slice AtB (p.n - dB) ctB))) from by rw [hw15]; exact Hm14.out.setRow _)
       clear HN14 Hbk14 Hci14 Hcd14 Hm14 HRw14 HT14 HKc14 HKd14 HB14
       go_wp2_with (first | (with_reducible refine wpl_val rfl _ (exec_loadSt 36 _ rfl ⟨gxB, 0, none⟩ rfl 2 _ (cells2 HNo.out) _ Tryz.underlying36 iRB) ?_) | (with_reducible refine wpl_store_blk rfl 36 _ _ rfl gm (row 2 (bookC (.slice ArB RB.length crB) (.slice AtB (p.n - dB) ctB))) rfl rfl 36 _ HMo.out (iRB' _) (by simp [row_size]) (one2 _ _ _ _ _ _) ?_))
       rw [← hw15]
       clear HNo HMo hw15
       refine (code_fault 13 jB _ (Hg.out.below HB15.out) (HFa.out.cell 1)).mono ?_
       rintro e w16 ⟨rfl, hB⟩
       have Hbk16 := hid (Hbk15.out.keep hB)
       have Hci16 := hid (Hci15.out.keep hB)
       have Hcd16 := hid (Hcd15.out.keep hB)
       have Hm16 := hid (Hm15.out.below hB Hm15.out.lt)
       have HRw16 := hid ((HRw15.out.below hB).more hB.size)
       have HT16 := hid ((HT15.out.below hB).more hB.size)
       have HKc16 := hid ((HKc15.out.below hB).more hB.size)
       have HKd16 := hid ((HKd15.out.below hB).more hB.size)
       have HB16 := hid (HB15.out.trans (hB.mono HB15.out.size))
       have HFa := hid (HFa.out.below hB HFa.out.lt)
       clear hB Hbk15 Hci15 Hcd15 Hm15 HRw15 HT15 HKc15 HKd15 HB15
       go_wp2_with fail
       go_round
       case rel => exact ⟨i + 1, dB, RB, ArB, crB, AtB, ctB, by omega, val_int (by omega), by omega, by omega, hctB, Hbk16, Hci16, Hcd16, Hm16, HRw16, HT16, HArB, HKc16, HKd16, HB16⟩
       case measure => simp [intOf]; omega
    ·have hone0 : one i = false := by simpa using hone
     rw [hone0] at hq0
     go_wp2_with (first
      | (with_reducible refine wpl_sl rfl 23 _ _ rfl ad n4 c4 rfl .i64 _ rfl i rfl 39 Tryz.underlying23 hlt 18 iQ ?_)
      | (with_reducible refine wpl_val rfl _ (exec_fieldQ2 _ rfl _ rfl) ?_)
      | (with_reducible refine wpl_val rfl _ (exec_fieldQ0 _ rfl _ rfl) ?_)
      | (with_reducible refine wpl_val rfl _ (exec_ldB 4 _ rfl _ rfl Tryz.underlying4 _ hq2) ?_)
      | (with_reducible refine wpl_val rfl _ (exec_ldB 4 _ rfl _ rfl Tryz.underlying4 _ hq0) ?_))
     clear hq0 hq2
     apply suff8 (F := P2 p k (rn k) oA RA dA w10)
     case h1 =>
      intro key8
      refine wp_region_held_drew (S := fun W => Below w10.heap.size w10 W) (by kernel_rfl) (Below.refl _ _).drew (fun hS0 => ?_)
      refine wpAnyH_take (i := 0) (v := .int .i64 (k : Int)) rfl (by kernel_rfl) (by kernel_rfl) (by kernel_rfl) (fun _ _ _ h => h) (Or.inl ⟨rfl, fun _ _ => exec_move _ rfl _ rfl⟩) hS0 ?_
      (try simp only [Act.put, zk1, zk2, zk3, zk4, zk5, zk6])
      refine wpAnyH_take (i := 1) (v := .slice Ad (rn k) cd) rfl (by kernel_rfl) (by kernel_rfl) (by kernel_rfl) (fun _ _ _ h => h) (Or.inl ⟨rfl, fun _ _ => exec_move _ rfl _ rfl⟩) hS0 ?_
      (try simp only [Act.put, zk1, zk2, zk3, zk4, zk5, zk6])
      refine wpAnyH_take (i := 2) (v := .agg (row 2 (bookC (.slice Ar R.length cr) (.slice At (p.n - d) ct)))) rfl (by kernel_rfl) (by kernel_rfl) (by kernel_rfl) (fun _ _ _ h => h) (Or.inl ⟨rfl, fun W hW => exec_loadSt 36 _ rfl ⟨gm, 0, none⟩ rfl 2 _ (cells2 (Hm10.out.below hW Hm10.out.lt)) _ Tryz.underlying36 iRB⟩) hS0 ?_
      (try simp only [Act.put, zk1, zk2, zk3, zk4, zk5, zk6])
      refine wpAnyH_take (i := 3) (v := .slice (some ((ad.add (i * 18)).add 1)) (sz k) 16) rfl (by kernel_rfl) (by kernel_rfl) (by kernel_rfl) (fun _ _ _ h => h) (Or.inl ⟨rfl, fun _ _ => exec_move _ rfl _ rfl⟩) hS0 ?_
      (try simp only [Act.put, zk1, zk2, zk3, zk4, zk5, zk6])
      refine wpAnyH_take (i := 4) (v := .slice (some ad) n4 c4) rfl (by kernel_rfl) (by kernel_rfl) (by kernel_rfl) (fun _ _ _ h => h) (Or.inl ⟨rfl, fun _ _ => exec_move _ rfl _ rfl⟩) hS0 ?_
      (try simp only [Act.put, zk1, zk2, zk3, zk4, zk5, zk6])
      refine wpAnyH_take (i := 5) (v := .int .i64 (i : Int)) rfl (by kernel_rfl) (by kernel_rfl) (by kernel_rfl) (fun _ _ _ h => h) (Or.inl ⟨rfl, fun _ _ => exec_move _ rfl _ rfl⟩) hS0 ?_
      (try simp only [Act.put, zk1, zk2, zk3, zk4, zk5, zk6])
      refine wpAnyH_take (i := 6) (v := .pointer (some (ad.add (i * 18)))) rfl (by kernel_rfl) (by kernel_rfl) (by kernel_rfl) (fun _ _ _ h => h) (Or.inl ⟨rfl, fun _ _ => exec_slQ 23 _ _ rfl ad n4 c4 rfl .i64 _ rfl i rfl 39 Tryz.underlying23 hlt 18 iQ⟩) hS0 ?_
      (try simp only [Act.put, zk1, zk2, zk3, zk4, zk5, zk6])
      refine wpAnyH_take (i := 7) (v := .pointer (some ((ad.add (i * 18)).add 17))) rfl (by kernel_rfl) (by kernel_rfl) (by kernel_rfl) (fun _ _ _ h => h) (Or.inl ⟨rfl, fun _ _ => exec_fieldQ2 _ rfl _ rfl⟩) hS0 ?_
      (try simp only [Act.put, zk1, zk2, zk3, zk4, zk5, zk6])
      refine wpAnyH_take (i := 8) (v := .bool (back i)) rfl (by kernel_rfl) (by kernel_rfl) (by kernel_rfl) (fun _ _ _ h => h) (Or.inl ⟨rfl, fun W hW => exec_ldB 4 _ rfl _ rfl Tryz.underlying4 _ (Hq2.out W (HB10.out.trans (hW.mono HB10.out.size)))⟩) hS0 ?_
      (try simp only [Act.put, zk1, zk2, zk3, zk4, zk5, zk6])
      refine wpAnyH_ready (rs := [9, 14]) (by kernel_rfl) (by simp) ?_
      refine AllReadyH.cons rfl (fun K hK => ?_) (AllReadyH.cons rfl (fun K hK => ?_) AllReadyH.nil)
      ·(try simp only [Act.put, zk1, zk2, zk3, zk4, zk5, zk6])
       refine Eq.mpr (if_pos (by rfl)) ?_
       go_simp
       refine (rdo_any p k d (rn k) R Ar cr At ct Ad cd (rk (1 + L) (k99 key)) (some ((ad.add (i * 18)).add 1)) 16 (f i) (back i) _ hfit w10.heap.size hS0.size (HRw10.out.below hS0) (HT10.out.below hS0) hct (by omega) (by omega) (by omega) (by omega) (by omega) ((HKd10.out.below hS0).more hS0.size) (fun i _ => rk_lt (k99_lt Hk.out) i) (HX.out _ (HB10.out.trans (hS0.mono HB10.out.size))) hfs.out HAr.out HAd.out _ _ _ HTuA.out).mono ?_
       rintro e w3 ⟨hBc, Ar2, cr2, At2, ct2, v2, ok2, rfl, hag, hct2, hAr2, hres⟩
       refine hK.out _ _ (hS0.trans (hBc.mono hS0.size)) (fun hS3 => ?_)
       (try simp only [Act.put, zk1, zk2, zk3, zk4, zk5, zk6])
       refine wpAnyH_take (i := 10) (v := .tuple #[.agg #[.slice Ar2 RA.length cr2, .slice At2 (p.n - dA) ct2], v2, .bool ok2]) rfl (by kernel_rfl) (by kernel_rfl) (by kernel_rfl) (fun _ _ _ h => h) (Or.inl ⟨rfl, fun _ _ => exec_move _ rfl _ rfl⟩) hS3 ?_
       (try simp only [Act.put, zk1, zk2, zk3, zk4, zk5, zk6])
       refine wpAnyH_take (i := 11) (v := .agg (row 2 (bookC (.slice Ar2 RA.length cr2) (.slice At2 (p.n - dA) ct2)))) rfl (by kernel_rfl) (by kernel_rfl) (by kernel_rfl) (fun _ _ _ h => h) (Or.inl ⟨rfl, fun _ _ => exec_extract _ 0 rfl _ rfl _ (by rw [row2]; rfl)⟩) hS3 ?_
       (try simp only [Act.put, zk1, zk2, zk3, zk4, zk5, zk6])
       refine wpAnyH_take (i := 12) (v := v2) rfl (by kernel_rfl) (by kernel_rfl) (by kernel_rfl) (fun _ _ _ h => h) (Or.inl ⟨rfl, fun _ _ => exec_extract _ 1 rfl _ rfl _ rfl⟩) hS3 ?_
       (try simp only [Act.put, zk1, zk2, zk3, zk4, zk5, zk6])
       refine wpAnyH_take (i := 13) (v := .bool ok2) rfl (by kernel_rfl) (by kernel_rfl) (by kernel_rfl) (fun _ _ _ h => h) (Or.inl ⟨rfl, fun _ _ => exec_extract _ 2 rfl _ rfl _ rfl⟩) hS3 ?_
       (try simp only [Act.put, zk1, zk2, zk3, zk4, zk5, zk6])
       refine wpAnyH_ready (rs := [14]) (by kernel_rfl) (by simp) (AllReadyH.cons rfl (fun K hK => ?_) AllReadyH.nil)
       (try simp only [Act.put, zk1, zk2, zk3, zk4, zk5, zk6])
       refine Eq.mpr (if_pos (by rfl)) ?_
       refine wp_new 36 rfl _ zRB2 ?_
       (try simp only [Act.put, zk1, zk2, zk3, zk4, zk5, zk6])
       refine hK.out _ _ (hS3.alloc hS3.size _) (fun hS4 => ?_)
       (try simp only [Act.put, zk1, zk2, zk3, zk4, zk5, zk6])
       refine wpAnyH_ready (rs := [15]) (by kernel_rfl) (by simp) (ready_one rfl rfl (fun K hK => ?_))
       (try simp only [Act.put, zk1, zk2, zk3, zk4, zk5, zk6])
       with_reducible refine wp_store_blk 36 _ _ rfl w3.heap.size (row 2 (bookC (.slice Ar2 RA.length cr2) (.slice At2 (p.n - dA) ct2))) rfl rfl 36 _ (Blk.fresh _ _ _) (iRB' _) (by simp [row_size]) (one2 _ _ _ _ _ _) ?_
       (try simp only [Act.put, zk1, zk2, zk3, zk4, zk5, zk6])
       refine hK.out _ _ (below_setRow' hS4 hS3.size _) (fun hSz => ?_)
       (try simp only [Act.put, zk1, zk2, zk3, zk4, zk5, zk6])
       refine wpAnyH_take (i := 16) (v := v2) rfl (by kernel_rfl) (by kernel_rfl) (by kernel_rfl) (fun _ _ _ h => h) (Or.inl ⟨rfl, fun _ _ => exec_assign _ rfl _ rfl⟩) hSz ?_
       (try simp only [Act.put, zk1, zk2, zk3, zk4, zk5, zk6])
       refine wpAnyH_take (i := 17) (v := .bool ok2) rfl (by kernel_rfl) (by kernel_rfl) (by kernel_rfl) (fun _ _ _ h => h) (Or.inl ⟨rfl, fun _ _ => exec_assign _ rfl _ rfl⟩) hSz ?_
       (try simp only [Act.put, zk1, zk2, zk3, zk4, zk5, zk6])
       refine wpAnyH_done (by kernel_rfl) ?_ _
       clear hK
       have hp := p2_call (zs := row 2 (bookC (.slice none 0 0) (.slice none 0 0))) (k := k) (v := v2) (ok := ok2) rfl hS0 hBc hag hct2 hAr2 hres
       clear hS0 hS3 hS4 hSz hBc hag hres
       generalize (w3.alloc (.cells (row 2 (bookC (.slice none 0 0) (.slice none 0 0))) 36)).setRow w3.heap.size (row 2 (bookC (.slice Ar2 RA.length cr2) (.slice At2 (p.n - dA) ct2))) = wX at hp ⊢
       generalize w3.heap.size = gX at hp ⊢
       exact key8 wX gX _ _ _ _ _ _ hp
      ·(try simp only [Act.put, zk1, zk2, zk3, zk4, zk5, zk6])
       refine Eq.mpr (if_pos (by rfl)) ?_
       refine wp_new 36 rfl _ zRB2 ?_
       (try simp only [Act.put, zk1, zk2, zk3, zk4, zk5, zk6])
       refine hK.out _ _ (hS0.alloc hS0.size _) (fun hS1 => ?_)
       (try simp only [Act.put, zk1, zk2, zk3, zk4, zk5, zk6])
       have hq1 : Blk (w10.drew.alloc (.cells (row 2 (bookC (.slice none 0 0) (.slice none 0 0))) 36)) w10.heap.size 36 (row 2 (bookC (.slice none 0 0) (.slice none 0 0))) := Blk.fresh w10.drew 36 _
       have hz1 : (w10.drew.alloc (.cells (row 2 (bookC (.slice none 0 0) (.slice none 0 0))) 36)).heap.size = w10.heap.size + 1 := by simp
       generalize hwa : w10.drew.alloc (.cells (row 2 (bookC (.slice none 0 0) (.slice none 0 0))) 36) = wa at hq1 hS1 hz1 ⊢
       clear hwa hK
       refine wpAnyH_ready (rs := [9]) (by kernel_rfl) (by simp) (AllReadyH.cons rfl (fun K hK => ?_) AllReadyH.nil)
       (try simp only [Act.put, zk1, zk2, zk3, zk4, zk5, zk6])
       refine Eq.mpr (if_pos (by rfl)) ?_
       go_simp
       refine (rdo_any p k d (rn k) R Ar cr At ct Ad cd (rk (1 + L) (k99 key)) (some ((ad.add (i * 18)).add 1)) 16 (f i) (back i) _ hfit w10.heap.size hS1.size (HRw10.out.below hS1) (HT10.out.below hS1) hct (by omega) (by omega) (by omega) (by omega) (by omega) ((HKd10.out.below hS1).more hS1.size) (fun i _ => rk_lt (k99_lt Hk.out) i) (HX.out _ (HB10.out.trans (hS1.mono HB10.out.size))) hfs.out HAr.out HAd.out _ _ _ HTuA.out).mono ?_
       rintro e w3 ⟨hBc, Ar2, cr2, At2, ct2, v2, ok2, rfl, hag, hct2, hAr2, hres⟩
       refine hK.out _ _ (hS1.trans (hBc.mono hS1.size)) (fun hS3 => ?_)
       (try simp only [Act.put, zk1, zk2, zk3, zk4, zk5, zk6])
       refine wpAnyH_take (i := 10) (v := .tuple #[.agg #[.slice Ar2 RA.length cr2, .slice At2 (p.n - dA) ct2], v2, .bool ok2]) rfl (by kernel_rfl) (by kernel_rfl) (by kernel_rfl) (fun _ _ _ h => h) (Or.inl ⟨rfl, fun _ _ => exec_move _ rfl _ rfl⟩) hS3 ?_
       (try simp only [Act.put, zk1, zk2, zk3, zk4, zk5, zk6])
       refine wpAnyH_take (i := 11) (v := .agg (row 2 (bookC (.slice Ar2 RA.length cr2) (.slice At2 (p.n - dA) ct2)))) rfl (by kernel_rfl) (by kernel_rfl) (by kernel_rfl) (fun _ _ _ h => h) (Or.inl ⟨rfl, fun _ _ => exec_extract _ 0 rfl _ rfl _ (by rw [row2]; rfl)⟩) hS3 ?_
       (try simp only [Act.put, zk1, zk2, zk3, zk4, zk5, zk6])
       refine wpAnyH_take (i := 12) (v := v2) rfl (by kernel_rfl) (by kernel_rfl) (by kernel_rfl) (fun _ _ _ h => h) (Or.inl ⟨rfl, fun _ _ => exec_extract _ 1 rfl _ rfl _ rfl⟩) hS3 ?_
       (try simp only [Act.put, zk1, zk2, zk3, zk4, zk5, zk6])
       refine wpAnyH_take (i := 13) (v := .bool ok2) rfl (by kernel_rfl) (by kernel_rfl) (by kernel_rfl) (fun _ _ _ h => h) (Or.inl ⟨rfl, fun _ _ => exec_extract _ 2 rfl _ rfl _ rfl⟩) hS3 ?_
       (try simp only [Act.put, zk1, zk2, zk3, zk4, zk5, zk6])
       refine wpAnyH_ready (rs := [15]) (by kernel_rfl) (by simp) (ready_one rfl rfl (fun K hK => ?_))
       have hqb := hq1.below hBc hq1.lt
       (try simp only [Act.put, zk1, zk2, zk3, zk4, zk5, zk6])
       with_reducible refine wp_store_blk 36 _ _ rfl w10.heap.size (row 2 (bookC (.slice Ar2 RA.length cr2) (.slice At2 (p.n - dA) ct2))) rfl rfl 36 _ hqb (iRB' _) (by simp [row_size]) (one2 _ _ _ _ _ _) ?_
       (try simp only [Act.put, zk1, zk2, zk3, zk4, zk5, zk6])
       refine hK.out _ _ (below_setRow' hS3 (Nat.le_refl _) _) (fun hSz => ?_)
       (try simp only [Act.put, zk1, zk2, zk3, zk4, zk5, zk6])
       refine wpAnyH_take (i := 16) (v := v2) rfl (by kernel_rfl) (by kernel_rfl) (by kernel_rfl) (fun _ _ _ h => h) (Or.inl ⟨rfl, fun _ _ => exec_assign _ rfl _ rfl⟩) hSz ?_
       (try simp only [Act.put, zk1, zk2, zk3, zk4, zk5, zk6])
       refine wpAnyH_take (i := 17) (v := .bool ok2) rfl (by kernel_rfl) (by kernel_rfl) (by kernel_rfl) (fun _ _ _ h => h) (Or.inl ⟨rfl, fun _ _ => exec_assign _ rfl _ rfl⟩) hSz ?_
       (try simp only [Act.put, zk1, zk2, zk3, zk4, zk5, zk6])
       refine wpAnyH_done (by kernel_rfl) ?_ _
       clear hK
       have hp := p2_alloc (k := k) (v := v2) (ok := ok2) rfl hS1 hz1 hq1 hBc hag hct2 hAr2 hres
       clear hS0 hS1 hS3 hSz hBc hag hres hqb hq1 hz1
       generalize w3.setRow w10.heap.size (row 2 (bookC (.slice Ar2 RA.length cr2) (.slice At2 (p.n - dA) ct2))) = wX at hp ⊢
       obtain ⟨gX, hgX⟩ : ∃ g, g = w10.heap.size := ⟨_, rfl⟩
       rw [← hgX] at hp ⊢
       exact key8 wX gX _ _ _ _ _ _ hp
     intro w11 gxA ArA crA AtA ctA vA okA ⟨hBx, hbx, hgx, hrx, htx, hctA, hArx, hresA⟩
     try dsimp only
     have Hbk11 := hid (Hbk10.out.keep hBx)
     have Hci11 := hid (Hci10.out.keep hBx)
     have Hcd11 := hid (Hcd10.out.keep hBx)
     have Hm11 := hid (Hm10.out.below hBx Hm10.out.lt)
     have HKc11 := hid ((HKc10.out.below hBx).more hBx.size)
     have HKd11 := hid ((HKd10.out.below hBx).more hBx.size)
     have HB11 := hid (HB10.out.trans (hBx.mono HB10.out.size))
     have HG11 := hid (HG10.out.below hBx)
     have HN11 := hid hbx
     have HRw11 := hid hrx
     have HT11 := hid htx
     have HArA := hid hArx
     have HV11 := hid hresA
     clear hBx hbx hrx htx hArx hresA Hbk10 Hci10 Hcd10 Hm10 HRw10 HT10 HKc10 HKd10 HB10 HG10
     rcases HG11.out with ⟨yA, AgA, cgA, hoA, rfl, rfl, hgaA⟩ | ⟨jA, xfA, hoA, rfl, rfl, hfaA⟩
     ·rcases HV11.out with ⟨zA, AvA, cvA, hzA, rfl, rfl, hvaA⟩ | ⟨hzA, -⟩
      rotate_left
      ·rw [hoA] at hzA; cases hzA
      obtain rfl : yA = zA := Option.some.inj (hoA.symm.trans hzA)
      have Hga := hid hgaA
      have Hva := hid hvaA
      clear hgaA hvaA HG11 HV11 hzA
      obtain ⟨w12, hw12⟩ : ∃ W, W = w11.setRow gm (row 2 (bookC (.slice ArA RA.length crA) (.slice AtA (p.n - dA) ctA))) := ⟨_, rfl⟩
      have Hbk12 := hid (show BookAt w12 p _ _ from by rw [hw12]; exact book_row Hbk11.out Hm11.out _)
      have Hci12 := hid (show CiAt w12 p k gc base5 (rn k) (rk L key) from by rw [hw12]; exact ci_row Hci11.out Hm11.out _)
      have Hcd12 := hid (show CiAt w12 p k gd base6 (rn k) (rk (1 + L) (k99 key)) from by rw [hw12]; exact ci_row Hcd11.out Hm11.out _)
      have HRw12 := hid (show RowsAt w12 w12.heap.size ArA (rn k) RA from by rw [hw12]; exact rows_book Hm11.out _ HRw11.out)
      have HT12 := hid (show Reads w12 w12.heap.size AtA (p.n - dA) (fun q => p.F (dA + q)) from by rw [hw12]; exact reads_book Hm11.out _ HT11.out)
      have HKc12 := hid (show Reads w12 w12.heap.size Ac (rn k) (rk L key) from by rw [hw12]; exact reads_book Hm11.out _ HKc11.out)
      have HKd12 := hid (show Reads w12 w12.heap.size Ad (rn k) (rk (1 + L) (k99 key)) from by rw [hw12]; exact reads_book Hm11.out _ HKd11.out)
      have HB12 := hid (show Below w.heap.size w w12 from by rw [hw12]; exact below_setRow' HB11.out hgm _)
      have Hga := hid (show Reads w12 w12.heap.size AgA (sz k) yA from by rw [hw12]; exact reads_book Hm11.out _ Hga.out)
      have Hva := hid (show Reads w12 w12.heap.size AvA (sz k) yA from by rw [hw12]; exact reads_book Hm11.out _ Hva.out)
      have HNo := hid HN11.out
      have HMo := hid Hm11.out
      have Hm12 := hid (show Blk w12 gm 36 (row 2 (bookC (.slice ArA RA.length crA) (.slice AtA (p.n - dA) ctA))) from by rw [hw12]; exact Hm11.out.setRow _)
      clear HN11 Hbk11 Hci11 Hcd11 Hm11 HRw11 HT11 HKc11 HKd11 HB11
      go_wp2_with (first | (with_reducible refine wpl_val rfl _ (exec_loadSt 36 _ rfl ⟨gxA, 0, none⟩ rfl 2 _ (cells2 HNo.out) _ Tryz.underlying36 iRB) ?_) | (with_reducible refine wpl_store_blk rfl 36 _ _ rfl gm (row 2 (bookC (.slice ArA RA.length crA) (.slice AtA (p.n - dA) ctA))) rfl rfl 36 _ HMo.out (iRB' _) (by simp [row_size]) (one2 _ _ _ _ _ _) ?_))
      rw [← hw12]
      clear HNo HMo hw12
      refine (same_any _ _ (sz k) cgA cvA yA yA _ (by have := sz16 k; omega) Hga.out Hva.out).mono ?_
      rintro e w13 ⟨rfl, hB⟩
      rw [eqB_true (fun _ _ => rfl)]
      have Hbk13 := hid (Hbk12.out.keep hB)
      have Hci13 := hid (Hci12.out.keep hB)
      have Hcd13 := hid (Hcd12.out.keep hB)
      have Hm13 := hid (Hm12.out.below hB Hm12.out.lt)
      have HRw13 := hid ((HRw12.out.below hB).more hB.size)
      have HT13 := hid ((HT12.out.below hB).more hB.size)
      have HKc13 := hid ((HKc12.out.below hB).more hB.size)
      have HKd13 := hid ((HKd12.out.below hB).more hB.size)
      have HB13 := hid (HB12.out.trans (hB.mono HB12.out.size))
      have Hga := hid ((Hga.out.below hB).more hB.size)
      have Hva := hid ((Hva.out.below hB).more hB.size)
      clear hB Hbk12 Hci12 Hcd12 Hm12 HRw12 HT12 HKc12 HKd12 HB12
      go_wp2_with fail
      go_round
      case rel => exact ⟨i + 1, dA, RA, ArA, crA, AtA, ctA, by omega, val_int (by omega), by omega, by omega, hctA, Hbk13, Hci13, Hcd13, Hm13, HRw13, HT13, HArA, HKc13, HKd13, HB13⟩
      case measure => simp [intOf]; omega
     ·rcases HV11.out with ⟨zA, AvA, cvA, hzA, -⟩ | ⟨hzA, rfl⟩
      ·rw [hoA] at hzA; cases hzA
      have HFa := hid hfaA
      clear hfaA HG11 HV11 hzA
      obtain ⟨w12, hw12⟩ : ∃ W, W = w11.setRow gm (row 2 (bookC (.slice ArA RA.length crA) (.slice AtA (p.n - dA) ctA))) := ⟨_, rfl⟩
      have Hbk12 := hid (show BookAt w12 p _ _ from by rw [hw12]; exact book_row Hbk11.out Hm11.out _)
      have Hci12 := hid (show CiAt w12 p k gc base5 (rn k) (rk L key) from by rw [hw12]; exact ci_row Hci11.out Hm11.out _)
      have Hcd12 := hid (show CiAt w12 p k gd base6 (rn k) (rk (1 + L) (k99 key)) from by rw [hw12]; exact ci_row Hcd11.out Hm11.out _)
      have HRw12 := hid (show RowsAt w12 w12.heap.size ArA (rn k) RA from by rw [hw12]; exact rows_book Hm11.out _ HRw11.out)
      have HT12 := hid (show Reads w12 w12.heap.size AtA (p.n - dA) (fun q => p.F (dA + q)) from by rw [hw12]; exact reads_book Hm11.out _ HT11.out)
      have HKc12 := hid (show Reads w12 w12.heap.size Ac (rn k) (rk L key) from by rw [hw12]; exact reads_book Hm11.out _ HKc11.out)
      have HKd12 := hid (show Reads w12 w12.heap.size Ad (rn k) (rk (1 + L) (k99 key)) from by rw [hw12]; exact reads_book Hm11.out _ HKd11.out)
      have HB12 := hid (show Below w.heap.size w w12 from by rw [hw12]; exact below_setRow' HB11.out hgm _)
      have HFa := hid (show Blk w12 jA 89 #[xfA, .iface 64 (.int .i64 13)] from by rw [hw12]; exact HFa.out.otherRow gm _ (Hm11.out.ne HFa.out (by decide)))
      have HNo := hid HN11.out
      have HMo := hid Hm11.out
      have Hm12 := hid (show Blk w12 gm 36 (row 2 (bookC (.slice ArA RA.length crA) (.slice AtA (p.n - dA) ctA))) from by rw [hw12]; exact Hm11.out.setRow _)
      clear HN11 Hbk11 Hci11 Hcd11 Hm11 HRw11 HT11 HKc11 HKd11 HB11
      go_wp2_with (first | (with_reducible refine wpl_val rfl _ (exec_loadSt 36 _ rfl ⟨gxA, 0, none⟩ rfl 2 _ (cells2 HNo.out) _ Tryz.underlying36 iRB) ?_) | (with_reducible refine wpl_store_blk rfl 36 _ _ rfl gm (row 2 (bookC (.slice ArA RA.length crA) (.slice AtA (p.n - dA) ctA))) rfl rfl 36 _ HMo.out (iRB' _) (by simp [row_size]) (one2 _ _ _ _ _ _) ?_))
      rw [← hw12]
      clear HNo HMo hw12
      refine (code_fault 13 jA _ (Hg.out.below HB12.out) (HFa.out.cell 1)).mono ?_
      rintro e w13 ⟨rfl, hB⟩
      have Hbk13 := hid (Hbk12.out.keep hB)
      have Hci13 := hid (Hci12.out.keep hB)
      have Hcd13 := hid (Hcd12.out.keep hB)
      have Hm13 := hid (Hm12.out.below hB Hm12.out.lt)
      have HRw13 := hid ((HRw12.out.below hB).more hB.size)
      have HT13 := hid ((HT12.out.below hB).more hB.size)
      have HKc13 := hid ((HKc12.out.below hB).more hB.size)
      have HKd13 := hid ((HKd12.out.below hB).more hB.size)
      have HB13 := hid (HB12.out.trans (hB.mono HB12.out.size))
      have HFa := hid (HFa.out.below hB HFa.out.lt)
      clear hB Hbk12 Hci12 Hcd12 Hm12 HRw12 HT12 HKc12 HKd12 HB12
      go_wp2_with fail
      go_round
      case rel => exact ⟨i + 1, dA, RA, ArA, crA, AtA, ctA, by omega, val_int (by omega), by omega, by omega, hctA, Hbk13, Hci13, Hcd13, Hm13, HRw13, HT13, HArA, HKc13, HKd13, HB13⟩
      case measure => simp [intOf]; omega
   ·have hltI : ¬ (i : Int) < (n4 : Int) := by omega
    have hszk := sz16 k
    go_wp2_with fail
    refine (size_any _ p k gc _ _ _ Hci.out).mono ?_
    rintro e wy ⟨rfl, hwy⟩
    have hBy : Below wr.heap.size wr wy := by rw [← hwy]; exact Below.refl _ _
    have hBy2 : Below wr.heap.size wr (wy.alloc (.cells (row (sz k + 1) (b8 fun _ => 0)) 5)) := hBy.alloc hBy.size _
    have HbkZ := hid (Hbk.out.keep hBy2)
    have HciZ := hid (Hci.out.keep hBy2)
    have HmZ := hid (Hm.out.below hBy2 Hm.out.lt)
    have HBZ := hid (HBr.out.trans (hBy2.mono HBr.out.size))
    clear hBy hBy2 hwy Hbk Hci Hcd Hm HRw HT HKc HKd HBr
    go_wp2_with (with_reducible refine wpl_make rfl 22 5 _ _ rfl Tryz.underlying22 info_u8 _ _ _ _ rfl rfl (sz k + 1) (by omega) (by omega) (by omega) ?_)
    refine (do_len _ p k gc base5 (rn k) (rk L key) _ (sz k + 1) (sz k + 1) false HciZ.out (by omega)).mono ?_
    rintro e wz ⟨rfl, hwz⟩
    rw [hwz] at HbkZ HmZ HBZ
    clear hwz HciZ
    go_wp2_with fail
    refine wp_region_held_drew (S := fun W => Below wz.heap.size wz W) (by kernel_rfl) (Below.refl _ _).drew (fun hS0 => ?_)
    refine wpAnyH_take (i := 0) (v := .pointer (some ⟨p.gb, 0, none⟩)) rfl (by kernel_rfl) (by kernel_rfl) (by kernel_rfl) (fun _ _ _ h => h) (Or.inl ⟨rfl, fun _ _ => exec_move _ rfl _ rfl⟩) hS0 ?_
    (try simp only [Act.put, zk1, zk2, zk3, zk4, zk5, zk6])
    refine wpAnyH_take (i := 2) (v := .pointer (some ((⟨gm, 0, none⟩ : Addr).add 0))) rfl (by kernel_rfl) (by kernel_rfl) (by kernel_rfl) (fun _ _ _ h => h) (Or.inl ⟨rfl, fun _ _ => exec_fieldRB _ rfl _ rfl⟩) hS0 ?_
    (try simp only [Act.put, zk1, zk2, zk3, zk4, zk5, zk6])
    refine wpAnyH_take (i := 3) (v := .slice Ar R.length cr) rfl (by kernel_rfl) (by kernel_rfl) (by kernel_rfl) (fun _ _ _ h => h) (Or.inl ⟨rfl, fun W hW => exec_ldSl 34 _ rfl _ rfl 99 Tryz.underlying34 _ _ _ (cells2 (HmZ.out.below hW HmZ.out.lt) 0 (by omega))⟩) hS0 ?_
    (try simp only [Act.put, zk1, zk2, zk3, zk4, zk5, zk6])
    refine wpAnyH_take (i := 4) (v := .int .i64 (R.length : Int)) rfl (by kernel_rfl) (by kernel_rfl) (by kernel_rfl) (fun _ _ _ h => h) (Or.inl ⟨rfl, fun W _ => by go_simp⟩) hS0 ?_
    (try simp only [Act.put, zk1, zk2, zk3, zk4, zk5, zk6])
    refine wpAnyH_ready (rs := [1]) (by kernel_rfl) (by simp) (AllReadyH.cons rfl (fun K hK => ?_) AllReadyH.nil)
    (try simp only [Act.put, zk1, zk2, zk3, zk4, zk5, zk6])
    refine Eq.mpr (if_pos (by rfl)) ?_
    go_simp
    refine (rows_any p d R _ (HbkZ.out.keep hS0)).mono ?_
    rintro e wq ⟨rfl, hwq⟩
    have hBq : Below wz.drew.heap.size wz.drew wq := by rw [← hwq]; exact Below.refl _ _
    refine hK.out _ _ (hS0.trans (hBq.mono hS0.size)) (fun hS1 => ?_)
    (try simp only [Act.put, zk1, zk2, zk3, zk4, zk5, zk6])
    clear hK K
    refine wpAnyH_take (i := 5) (v := .bool true) rfl (by kernel_rfl) (by kernel_rfl) (by kernel_rfl) (fun _ _ _ h => h) (Or.inl ⟨rfl, fun W _ => by go_simp⟩) hS1 ?_
    (try simp only [Act.put, zk1, zk2, zk3, zk4, zk5, zk6])
    refine wpAnyH_take (i := 6) (v := .bool true) rfl (by kernel_rfl) (by kernel_rfl) (by kernel_rfl) (fun _ _ _ h => h) (Or.inl ⟨rfl, fun _ _ => exec_move _ rfl _ rfl⟩) hS1 ?_
    (try simp only [Act.put, zk1, zk2, zk3, zk4, zk5, zk6])
    refine wpAnyH_take (i := 7) (v := .iface 64 (.int .i64 2)) rfl (by kernel_rfl) (by kernel_rfl) (by kernel_rfl) (fun _ _ _ h => h) (Or.inl ⟨rfl, fun _ _ => exec_move _ rfl _ rfl⟩) hS1 ?_
    (try simp only [Act.put, zk1, zk2, zk3, zk4, zk5, zk6])
    refine wpAnyH_ready (rs := [8]) (by kernel_rfl) (by simp) (AllReadyH.cons rfl (fun K hK => ?_) AllReadyH.nil)
    (try simp only [Act.put, zk1, zk2, zk3, zk4, zk5, zk6])
    refine Eq.mpr (if_pos (by rfl)) ?_
    go_simp
    refine (code_hit 2 _ (Hg.out.below (HBZ.out.trans (hS1.mono HBZ.out.size)))).mono ?_
    rintro e wf ⟨rfl, hBf⟩
    refine hK.out _ _ (hS1.trans (hBf.mono hS1.size)) (fun hSF => ?_)
    (try simp only [Act.put, zk1, zk2, zk3, zk4, zk5, zk6])
    clear hK K
    refine wpAnyH_take (i := 9) (v := .bool true) rfl (by kernel_rfl) (by kernel_rfl) (by kernel_rfl) (fun _ _ _ h => h) (Or.inl ⟨rfl, fun W _ => by go_simp⟩) hSF ?_
    (try simp only [Act.put, zk1, zk2, zk3, zk4, zk5, zk6])
    refine wpAnyH_take (i := 10) (v := .bool true) rfl (by kernel_rfl) (by kernel_rfl) (by kernel_rfl) (fun _ _ _ h => h) (Or.inl ⟨rfl, fun W _ => by go_simp⟩) hSF ?_
    (try simp only [Act.put, zk1, zk2, zk3, zk4, zk5, zk6])
    refine wpAnyH_take (i := 11) (v := .bool true) rfl (by kernel_rfl) (by kernel_rfl) (by kernel_rfl) (fun _ _ _ h => h) (Or.inl ⟨rfl, fun _ _ => exec_assign _ rfl _ rfl⟩) hSF ?_
    (try simp only [Act.put, zk1, zk2, zk3, zk4, zk5, zk6])
    refine wpAnyH_done (by kernel_rfl) ?_ _
    go_wp2_with fail
    go_ret
    exact ⟨rfl, HBZ.out.trans (hSF.mono HBZ.out.size)⟩
 ·by_cases hL1 : L ≤ 100
  ·by_cases hL2 : n2 ≤ 2000
   ·have a1 : ¬ 100 < (L : Int) := by omega
    have a2 : ¬ 2000 < (n2 : Int) := by omega
    have a3 : 40 < (n4 : Int) := by omega
    go_enter Tryz.func3, Tryz.ntmps3
    go_wp2_with fail
    refine (awake_any _ Hg.out).mono ?_
    rintro e w1 ⟨rfl, hB1⟩
    go_wp2_with fail
    refine (awake_any _ (Hg.out.below hB1)).mono ?_
    rintro e w2 ⟨rfl, hB2⟩
    go_wp2_with fail
    go_ret
    exact ⟨rfl, hB1.trans (hB2.mono hB1.size)⟩
   ·have a1 : ¬ 100 < (L : Int) := by omega
    have a2 : 2000 < (n2 : Int) := by omega
    go_enter Tryz.func3, Tryz.ntmps3
    go_wp2_with fail
    refine (awake_any _ Hg.out).mono ?_
    rintro e w1 ⟨rfl, hB1⟩
    go_wp2_with fail
    refine (awake_any _ (Hg.out.below hB1)).mono ?_
    rintro e w2 ⟨rfl, hB2⟩
    go_wp2_with fail
    go_ret
    exact ⟨rfl, hB1.trans (hB2.mono hB1.size)⟩
  ·have a1 : 100 < (L : Int) := by omega
   go_enter Tryz.func3, Tryz.ntmps3
   go_wp2_with fail
   refine (awake_any _ Hg.out).mono ?_
   rintro e w1 ⟨rfl, hB1⟩
   go_wp2_with fail
   refine (awake_any _ (Hg.out.below hB1)).mono ?_
   rintro e w2 ⟨rfl, hB2⟩
   go_wp2_with fail
   go_ret
   exact ⟨rfl, hB1.trans (hB2.mono hB1.size)⟩
theorem asks_card (n : Nat) (A : Option Addr) (L c : Nat) (key : Nat → Nat) (A2 : Option Addr) (n2 c2 : Nat) (F : Nat → Nat) (A4 : Option Addr) (n4 c4 : Nat) (one : Nat → Bool) (f : Nat → Nat → Nat) (back : Nat → Bool) (w : World) (hg : Laid w) (hn : n < 256) (hR : Reads w w.heap.size A L key) (hk : ∀ i, i < L → key i < 256) (hA : A = none → L = 0 ∧ c = 0) (hR2 : Reads w w.heap.size A2 n2 F) (hF : ∀ i, i < n2 → F i < 256) (hA2 : A2 = none → n2 = 0 ∧ c2 = 0) (hc2 : n2 ≤ c2) (hQ : ReadsQ w w.heap.size A4 n4 one f back) (hf : ∀ i, i < n4 → ∀ j, j < 16 → f i j < 256) :
  Calls Tryz.prog 3 #[.int .u8 (n : Int), .slice A L c, .slice A2 n2 c2, .slice A4 n4 c4] w fun e w' => e = .returned (.bool true) ∧ Below w.heap.size w w' :=
 asks_true n A L c key A2 n2 c2 F A4 n4 c4 one f back w hg hn hR hk hR2 hF hA2 hQ hf hA hc2
end Go.Proofs.YtomeeebiijmnmaaGreatDoor.Law05.Asks
