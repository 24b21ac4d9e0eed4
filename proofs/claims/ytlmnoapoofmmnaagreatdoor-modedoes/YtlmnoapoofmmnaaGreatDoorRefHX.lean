/-
 RefRows RefHit RefKeep BookOut
-/
import Derived.Test.YtlmnoapoofmmnaaGreatDoorLaw05
import Derived.Test.YtlmnoapoofmmnaaGreatDoorTurn
import Derived.Test.YtlmnoapoofmmnaaGreatDoorDraw
namespace Go.Proofs.YtlmnoapoofmmnaaGreatDoor.Bk
open Mem Go.ChangeShapes Go.WideShapes Go.ChangeAt Go.RowKit
theorem strF_succ (n : Nat) (f : Nat → Nat) : strF (n + 1) f = (strF n f).push (UInt8.ofNat (f n)) := by
 unfold strF
 rw [List.range_succ, List.map_append, List.foldl_append]
 simp
theorem strF_inj {f g : Nat → Nat} : ∀ n, strF n f = strF n g → (∀ i, i < n → f i < 256) → (∀ i, i < n → g i < 256) → ∀ i, i < n → f i = g i
 | 0, _, _, _, i, hi => by omega
 | n + 1, h, hf, hg, i, hi => by
  rw [strF_succ, strF_succ] at h
  have hd := congrArg ByteArray.data h
  simp only [ByteArray.data_push] at hd
  have h1 := (Array.push_eq_push.1 hd).2
  have h2 := (Array.push_eq_push.1 hd).1
  rcases Nat.lt_or_ge i n with hi' | hi'
  ·exact strF_inj n (ByteArray.ext h1) (fun j hj => hf j (by omega)) (fun j hj => hg j (by omega)) i hi'
  have : i = n := by omega
  subst this
  have := congrArg UInt8.toNat h2
  have e1 := hf i hi
  have e2 := hg i hi
  simp only [UInt8.toNat_ofNat'] at this
  omega
theorem strF_eqB {n : Nat} {f g : Nat → Nat} (hf : ∀ i, i < n → f i < 256) (hg : ∀ i, i < n → g i < 256) : decide (strF n f = strF n g) = eqB n f g := by
 cases h : eqB n f g
 ·simp only [decide_eq_false_iff_not]
  intro e
  rw [eqB_true (strF_inj n e hf hg)] at h
  cases h
 simp only [decide_eq_true_eq]
 exact strF_ext (eqB_iff.1 h)
structure RowC (w : World) (B : Nat) (Lk : Nat) (r : Rw) (c : Nat → Value) : Prop where
 key : ∃ A cp, ∃ f : Nat → Nat, c 0 = .slice A Lk cp ∧ Reads w B A Lk f ∧ (∀ i, i < Lk → f i < 256) ∧ r.k = strF Lk f
 inn : ∃ A cp, c 1 = .slice A 16 cp ∧ 16 ≤ cp ∧ Reads w B A 16 r.x
 out : ∃ A cp, c 2 = .slice A 16 cp ∧ 16 ≤ cp ∧ Reads w B A 16 r.y
theorem RowC.below {w w' : World} {B Lk : Nat} {r : Rw} {c : Nat → Value} (h : RowC w B Lk r c) (hb : Below B w w') : RowC w' B Lk r c := by
 obtain ⟨⟨A, cp, f, h1, h2, h3, h4⟩, ⟨A1, c1, h5, h6, h7⟩, ⟨A2, c2, h8, h9, h10⟩⟩ := h
 exact ⟨⟨A, cp, f, h1, h2.below hb, h3, h4⟩, ⟨A1, c1, h5, h6, h7.below hb⟩, ⟨A2, c2, h8, h9, h10.below hb⟩⟩
theorem RowC.more {w : World} {B B' Lk : Nat} {r : Rw} {c : Nat → Value} (h : RowC w B Lk r c) (hb : B ≤ B') : RowC w B' Lk r c := by
 obtain ⟨⟨A, cp, f, h1, h2, h3, h4⟩, ⟨A1, c1, h5, h6, h7⟩, ⟨A2, c2, h8, h9, h10⟩⟩ := h
 exact ⟨⟨A, cp, f, h1, h2.more hb, h3, h4⟩, ⟨A1, c1, h5, h6, h7.more hb⟩, ⟨A2, c2, h8, h9, h10.more hb⟩⟩
def RowsAt (w : World) (B : Nat) (A : Option Addr) (Lk : Nat) (R : List Rw) : Prop :=
 ∀ i, ∀ hi : i < R.length, ∃ ad, A = some ad ∧ ad.block < B ∧ ∃ c : Nat → Value, (∀ j, j < 3 → w.cell? ((ad.add (i * 3)).add j) = some (c j)) ∧ RowC w B Lk R[i] c
theorem RowsAt.below {w w' : World} {B Lk : Nat} {A : Option Addr} {R : List Rw} (h : RowsAt w B A Lk R) (hb : Below B w w') : RowsAt w' B A Lk R := fun i hi => by
 obtain ⟨ad, h1, h2, c, h3, h4⟩ := h i hi
 exact ⟨ad, h1, h2, c, fun j hj => (hb.cell (by rw [add_block, add_block]; exact h2)).trans (h3 j hj), h4.below hb⟩
theorem RowsAt.more {w : World} {B B' Lk : Nat} {A : Option Addr} {R : List Rw} (h : RowsAt w B A Lk R) (hb : B ≤ B') : RowsAt w B' A Lk R := fun i hi => by
 obtain ⟨ad, h1, h2, c, h3, h4⟩ := h i hi
 exact ⟨ad, h1, Nat.lt_of_lt_of_le h2 hb, c, h3, h4.more hb⟩
section
variable {P : Program} {o : Oper} {a : Act} {w : World}
theorem exec_loadSt (ty : TypeId) (x : Operand) (ho : o.op = .load ty x) (p : Addr) (hx : a.eval x = .pointer (some p)) (n : Nat) (c : Nat → Value) (hc : ∀ i, i < n → w.cell? (p.add i) = some (c i))
  (fs : Array Field) (hu : P.underlying ty = some (.struct fs)) (hi : (P.info? ty).map (·.size) = some n) : (execOp a.eval o).run P w = .ok (.value (.agg (row n c))) w := by
 have h := run_loadCells (P := P) w p n c hc
 have e1 : ((List.range n).map c).toArray = row n c := by
  apply row_of (by simp)
  intro i hi
  simp [hi]
 rw [e1] at h
 unfold execOp
 simp [ho, hx, Instr.loadAt, Instr.sureAddr, loadVar, isAgg, run_underlying hu, run_size hi, h]
end
theorem zRow : (Tryz.prog.info? 128).map (·.zero) = some (some (.agg (row 3 fun _ => .slice none 0 0))) := by kernel_rfl
theorem iRow : (Tryz.prog.info? 128).map (·.size) = some 3 := by kernel_rfl
end Go.Proofs.YtlmnoapoofmmnaaGreatDoor.Bk
namespace Go.Proofs.YtlmnoapoofmmnaaGreatDoor.Bk
open Mem Go.ChangeShapes Go.WideShapes Go.ChangeAt Go.RowKit
theorem wpl_store_newS {P : Program} {ops : Array Oper} {rest : List Oper} {o : Oper} {a : Act} {Q : Exit → Act → World → Prop} (hgd : o.guard = none) (ty : TypeId) (x y : Operand) (ho : o.op = .store ty x y) (v : World) (old : Array Value) (n : Nat) (c : Nat → Value) (hc : (row n c).all (·.oneCell') = true) (hx : a.eval x = .pointer (some ⟨v.heap.size, 0, none⟩)) (hy : a.eval y = .agg (row n c))
  (t : TypeId) (hi : (P.info? ty).map (·.size) = some n) (hold : old.size = n)
  (h : wpList P ops Q rest (a.put o.dst undef) (v.alloc (.cells (row n c) t))) : wpList P ops Q (o :: rest) a (v.alloc (.cells old t)) := by
 refine wpl_store hgd ty x y ho v.heap.size _ hx hy t old (Blk.fresh _ _ _) (by rw [row_size]; exact hi) (by rw [row_size]; exact hold) hc ?_
 rwa [World.setRow_alloc_new]
theorem row_ones {w : World} {B Lk : Nat} {r : Rw} {c : Nat → Value} (h : RowC w B Lk r c) : (row 3 c).all (·.oneCell') = true := by
 obtain ⟨⟨A, cp, f, h1, _⟩, ⟨A1, c1, h5, _⟩, ⟨A2, c2, h8, _⟩⟩ := h
 have : ∀ i, i < 3 → (c i).oneCell' = true := by
  intro i hi
  match i, hi with
  | 0, _ => rw [h1]; rfl
  | 1, _ => rw [h5]; rfl
  | 2, _ => rw [h8]; rfl
 rw [Array.all_eq_true_iff_forall_mem]
 intro x hx
 rw [Array.mem_iff_getElem?] at hx
 obtain ⟨i, hi⟩ := hx
 by_cases h : i < 3
 ·rw [row_get _ _ _ h] at hi; injection hi with hi; subst hi; exact this i h
 rw [row_none _ _ _ (by omega)] at hi; cases hi
theorem exec_ldsl {P : Program} {o : Oper} {a : Act} {w : World} (ty : TypeId) (x : Operand) (ho : o.op = .load ty x) (p : Addr) (hx : a.eval x = .pointer (some p)) (e : TypeId) (hu : P.underlying ty = some (.slice e)) (v : Value) (hv : w.cell? p = some v) : (execOp a.eval o).run P w = .ok (.value v) w := exec_lds ty x ho p hx e hu v hv
def bookC (S T : Value) : Nat → Value := fun i => if i = 0 then S else T
theorem row2 (S T : Value) : row 2 (bookC S T) = #[S, T] := by
 apply Eq.symm
 apply row_of rfl
 intro i hi
 match i, hi with
 | 0, _ => rfl
 | 1, _ => rfl
theorem zRB2 : (Tryz.prog.info? 37).map (·.zero) = some (some (.agg (row 2 (bookC (.slice none 0 0) (.slice none 0 0))))) := by kernel_rfl
theorem iRB : (Tryz.prog.info? 37).map (·.size) = some 2 := by kernel_rfl
theorem iRB' (f : Nat → Value) : (Tryz.prog.info? 37).map (·.size) = some (row 2 f).size := by rw [row_size]; exact iRB
theorem one2 (A A' : Option Addr) (n c n' c' : Nat) : (row 2 (bookC (.slice A n c) (.slice A' n' c'))).all (·.oneCell') = true := by rw [row2]; simp [Value.oneCell']
theorem ret_row3 {P : Program} {fn : Func} {p q q2 : Tmp} {ty : TypeId} {R : Ending → World → Prop} {a : Act} {w : World} (h : fn.results = #[.cell p ty, .tmp q, .tmp q2]) (hd : a.defers = []) (g : Nat) (hp : a.tmps.getD p undef = .pointer (some ⟨g, 0, none⟩)) (v : Value) (hq : a.tmps.getD q undef = v) (v2 : Value) (hq2 : a.tmps.getD q2 undef = v2)
  (t : TypeId) (n : Nat) (c : Nat → Value) (hg : Blk w g t (row n c)) (fs : Array Field) (hu : P.underlying ty = some (.struct fs)) (hi : (P.info? ty).map (·.size) = some n) (hR : R (.returned (.tuple #[.agg (row n c), v, v2])) w) : bodyPost P fn R .ret a w := by
 refine bodyPost_ret ?_ hd hR
 have hl := run_loadVar_row (P := P) w g t ty (row n c) (0, 0) _ hg hu rfl (by rw [row_size]; exact hi)
 have hp' : a.tmps[p]?.getD undef = .pointer (some ⟨g, 0, none⟩) := by simpa using hp
 have hq' : a.tmps[q]?.getD undef = v := by simpa using hq
 have hq2' : a.tmps[q2]?.getD undef = v2 := by simpa using hq2
 simp [results, h, hp', hq', hq2', asAddr, hl]
theorem find_first {R : List Rw} {p : Rw → Bool} {i : Nat} (hi : i < R.length) (h1 : ∀ j, ∀ hj : j < R.length, j < i → p R[j] = false) (h2 : p R[i] = true) : R.find? p = some R[i] := by
 rw [List.find?_eq_some_iff_getElem]
 exact ⟨h2, i, hi, rfl, fun j hj => by simpa using h1 j (by omega) hj⟩
theorem find_never {R : List Rw} {p : Rw → Bool} (h1 : ∀ j, ∀ hj : j < R.length, p R[j] = false) : R.find? p = none := by
 rw [List.find?_eq_none]
 intro r hr
 obtain ⟨j, hj, rfl⟩ := List.getElem_of_mem hr
 simp [h1 j hj]
def ReadsP (w : World) (P : Nat → Prop) (A : Option Addr) (n : Nat) (f : Nat → Nat) : Prop :=
 0 < n → ∃ ad, A = some ad ∧ P ad.block ∧ ∀ i, i < n → w.cell? (ad.add i) = some (.int .u8 ((f i : Nat) : Int))
section
variable {w w' : World} {P P' : Nat → Prop} {n : Nat} {A : Option Addr} {f : Nat → Nat}
theorem ReadsP.more {B : Nat} (h : ReadsP w P A n f) (hP : ∀ g, P g → g < B) : Reads w B A n f := fun hn => by
 obtain ⟨ad, e, hb, hc⟩ := h hn
 exact ⟨ad, e, hP _ hb, hc⟩
theorem ReadsP.moreP (h : ReadsP w P A n f) (hP : ∀ g, P g → P' g) : ReadsP w P' A n f := fun hn => by
 obtain ⟨ad, e, hb, hc⟩ := h hn
 exact ⟨ad, e, hP _ hb, hc⟩
theorem ReadsP.keep (h : ReadsP w P A n f) (hk : ∀ g, P g → w'.heap[g]? = w.heap[g]?) : ReadsP w' P A n f := fun hn => by
 obtain ⟨ad, e, hb, hc⟩ := h hn
 exact ⟨ad, e, hb, fun i hi => (World.cell?_of_block (w := w) (hk _ (by rw [add_block]; exact hb))).trans (hc i hi)⟩
theorem ReadsP.ext {g : Nat → Nat} (h : ReadsP w P A n f) (hfg : ∀ i, i < n → f i = g i) : ReadsP w P A n g := fun hn => by
 obtain ⟨ad, e, hb, hc⟩ := h hn
 exact ⟨ad, e, hb, fun i hi => by rw [← hfg i hi]; exact hc i hi⟩
theorem ReadsP.less {m : Nat} (h : ReadsP w P A n f) (hm : m ≤ n) : ReadsP w P A m f := fun hn => by
 obtain ⟨ad, e, hb, hc⟩ := h (by omega)
 exact ⟨ad, e, hb, fun i hi => hc i (by omega)⟩
end
structure RowCP (w : World) (P : Nat → Prop) (Lk : Nat) (r : Rw) (c : Nat → Value) : Prop where
 key : ∃ A cp, ∃ f : Nat → Nat, c 0 = .slice A Lk cp ∧ ReadsP w P A Lk f ∧ (∀ i, i < Lk → f i < 256) ∧ r.k = strF Lk f
 inn : ∃ A cp, c 1 = .slice A 16 cp ∧ 16 ≤ cp ∧ ReadsP w P A 16 r.x
 out : ∃ A cp, c 2 = .slice A 16 cp ∧ 16 ≤ cp ∧ ReadsP w P A 16 r.y
def RowsAtP (w : World) (P : Nat → Prop) (A : Option Addr) (Lk : Nat) (R : List Rw) : Prop :=
 ∀ i, ∀ hi : i < R.length, ∃ ad, A = some ad ∧ P ad.block ∧ ∃ c : Nat → Value, (∀ j, j < 3 → w.cell? ((ad.add (i * 3)).add j) = some (c j)) ∧ RowCP w P Lk R[i] c
section
variable {w w' : World} {P P' : Nat → Prop} {Lk : Nat} {r : Rw} {c : Nat → Value} {A : Option Addr} {R : List Rw}
theorem RowCP.more {B : Nat} (h : RowCP w P Lk r c) (hP : ∀ g, P g → g < B) : RowC w B Lk r c := by
 obtain ⟨⟨A, cp, f, h1, h2, h3, h4⟩, ⟨A1, c1, h5, h6, h7⟩, ⟨A2, c2, h8, h9, h10⟩⟩ := h
 exact ⟨⟨A, cp, f, h1, h2.more hP, h3, h4⟩, ⟨A1, c1, h5, h6, h7.more hP⟩, ⟨A2, c2, h8, h9, h10.more hP⟩⟩
theorem RowCP.moreP (h : RowCP w P Lk r c) (hP : ∀ g, P g → P' g) : RowCP w P' Lk r c := by
 obtain ⟨⟨A, cp, f, h1, h2, h3, h4⟩, ⟨A1, c1, h5, h6, h7⟩, ⟨A2, c2, h8, h9, h10⟩⟩ := h
 exact ⟨⟨A, cp, f, h1, h2.moreP hP, h3, h4⟩, ⟨A1, c1, h5, h6, h7.moreP hP⟩, ⟨A2, c2, h8, h9, h10.moreP hP⟩⟩
theorem RowCP.keep (h : RowCP w P Lk r c) (hk : ∀ g, P g → w'.heap[g]? = w.heap[g]?) : RowCP w' P Lk r c := by
 obtain ⟨⟨A, cp, f, h1, h2, h3, h4⟩, ⟨A1, c1, h5, h6, h7⟩, ⟨A2, c2, h8, h9, h10⟩⟩ := h
 exact ⟨⟨A, cp, f, h1, h2.keep hk, h3, h4⟩, ⟨A1, c1, h5, h6, h7.keep hk⟩, ⟨A2, c2, h8, h9, h10.keep hk⟩⟩
theorem RowsAtP.more {B : Nat} (h : RowsAtP w P A Lk R) (hP : ∀ g, P g → g < B) : RowsAt w B A Lk R := fun i hi => by
 obtain ⟨ad, h1, h2, c, h3, h4⟩ := h i hi
 exact ⟨ad, h1, hP _ h2, c, h3, h4.more hP⟩
theorem RowsAtP.moreP (h : RowsAtP w P A Lk R) (hP : ∀ g, P g → P' g) : RowsAtP w P' A Lk R := fun i hi => by
 obtain ⟨ad, h1, h2, c, h3, h4⟩ := h i hi
 exact ⟨ad, h1, hP _ h2, c, h3, h4.moreP hP⟩
theorem RowsAtP.keep (h : RowsAtP w P A Lk R) (hk : ∀ g, P g → w'.heap[g]? = w.heap[g]?) : RowsAtP w' P A Lk R := fun i hi => by
 obtain ⟨ad, h1, h2, c, h3, h4⟩ := h i hi
 exact ⟨ad, h1, h2, c, fun j hj => (World.cell?_of_block (w := w) (hk _ (by rw [add_block, add_block]; exact h2))).trans (h3 j hj), h4.keep hk⟩
theorem RowsAt.toP {B : Nat} (h : RowsAt w B A Lk R) : RowsAtP w (fun g => g < B) A Lk R := fun i hi => by
 obtain ⟨ad, h1, h2, c, h3, ⟨h4, h5, h6⟩⟩ := h i hi
 exact ⟨ad, h1, h2, c, h3, ⟨h4, h5, h6⟩⟩
end
structure Agree (B0 : Nat → Prop) (w w' W : World) : Prop where
 os : W.os = w'.os
 tape : W.tape = w'.tape
 output : W.output = w'.output
 size : w'.heap.size ≤ W.heap.size
 block : ∀ g, g < w'.heap.size → (B0 g ∨ w.heap.size ≤ g) → W.heap[g]? = w'.heap[g]?
theorem Agree.at {B0 : Nat → Prop} {w w' W : World} (h : Agree B0 w w' W) (hB0 : ∀ g, B0 g → g < w.heap.size) (hB : Below w.heap.size w w') : ∀ g, B0 g → W.heap[g]? = w.heap[g]? := fun g hg =>
 (h.block g (by have := hB.size; have := hB0 g hg; omega) (.inl hg)).trans (hB.block g (hB0 g hg))
theorem Agree.refl (B0 : Nat → Prop) (w w' : World) : Agree B0 w w' w' := ⟨rfl, rfl, rfl, Nat.le_refl _, fun _ _ _ => rfl⟩
theorem Agree.reads {B0 : Nat → Prop} {n : Nat} {w w' W : World} {A : Option Addr} {f : Nat → Nat} (h : Agree B0 w w' W) (hB0 : ∀ g, B0 g → g < w.heap.size) (hB : Below w.heap.size w w') (hr : ReadsP w B0 A n f) : Reads W W.heap.size A n f :=
 (hr.keep (h.at hB0 hB)).more (fun g hg => by have := hB0 g hg; have := hB.size; have := h.size; omega)
theorem Agree.rows {B0 : Nat → Prop} {Lk : Nat} {w w' W : World} {A : Option Addr} {R : List Rw} (h : Agree B0 w w' W) (hB0 : ∀ g, B0 g → g < w.heap.size) (hB : Below w.heap.size w w') (hr : RowsAtP w B0 A Lk R) : RowsAt W W.heap.size A Lk R :=
 (hr.keep (h.at hB0 hB)).more (fun g hg => by have := hB0 g hg; have := hB.size; have := h.size; omega)
def RAskOut (F : Nat → Nat) (n Lk : Nat) (B0 : Nat → Prop) (o : Option (Nat → Nat)) (R' : List Rw) (d' : Nat) (w : World) (e : Ending) (w' : World) : Prop :=
 Below w.heap.size w w' ∧ ∃ Ar cr At ct v ok, e = .returned (.tuple #[.agg #[.slice Ar R'.length cr, .slice At (n - d') ct], v, .bool ok]) ∧ (∀ W, Agree B0 w w' W → RowsAt W W.heap.size Ar Lk R' ∧ Reads W W.heap.size At (n - d') (fun i => F (d' + i))) ∧ n - d' ≤ ct ∧ (Ar = none → R'.length = 0 ∧ cr = 0) ∧
  ((∃ y A c, o = some y ∧ ok = true ∧ v = .slice A 16 c ∧ ∀ W, Agree B0 w w' W → Reads W W.heap.size A 16 y) ∨ (o = none ∧ ok = false))
set_option linter.unusedSimpArgs false in
set_option maxRecDepth 100000 in
set_option maxHeartbeats 1000000 in
theorem rask_hit (F : Nat → Nat) (n d Lk : Nat) (R : List Rw) (Ar : Option Addr) (cr : Nat) (At : Option Addr) (ct : Nat) (Ak : Option Addr) (ck : Nat) (key : Nat → Nat) (Ax : Option Addr) (cx : Nat) (x : Nat → Nat) (bk : Bool) (w : World)
  (B0 : Nat → Prop) (hB0 : ∀ g, B0 g → g < w.heap.size) (hR : RowsAtP w B0 Ar Lk R) (hT : ReadsP w B0 At (n - d) (fun i => F (d + i))) (hct : n - d ≤ ct) (_hn : n ≤ 100000) (_hd : d ≤ n) (hLk : Lk ≤ 1000) (hlen : R.length ≤ 1000) (hkey : Reads w w.heap.size Ak Lk key) (hkb : ∀ i, i < Lk → key i < 256) (hx : Reads w w.heap.size Ax 16 x)
  (r : Rw) (hf : R.find? (hitR bk (strF Lk key) x) = some r) :
  Calls Tryz.prog 54 #[.agg (row 2 (bookC (.slice Ar R.length cr) (.slice At (n - d) ct))), .slice Ak Lk ck, .slice Ax 16 cx, .bool bk] w (RAskOut F n Lk B0 (some (fr (!bk) r)) R d w) := by
 have W1 : Hid (Below w.heap.size w ((w.alloc (.cells (row 2 (bookC (.slice Ar R.length cr) (.slice At (n - d) ct))) 37)).alloc (.cells (row 2 (bookC (.slice none 0 0) (.slice none 0 0))) 37))) := hid (((Below.refl _ _).alloc (Nat.le_refl _) _).alloc (by simp) _)
 have HR0 := hid hR
 have HT0 := hid hT
 have HR := hid (hR.more hB0)
 have HT := hid (hT.more hB0)
 have HK := hid hkey
 have HX := hid hx
 have Hf := hid hf
 have hg4 : Blk ((w.alloc (.cells (row 2 (bookC (.slice Ar R.length cr) (.slice At (n - d) ct))) 37)).alloc (.cells (row 2 (bookC (.slice none 0 0) (.slice none 0 0))) 37)) w.heap.size 37 (row 2 (bookC (.slice Ar R.length cr) (.slice At (n - d) ct))) := (Blk.fresh _ _ _).alloc _
 have hg8 : Blk ((w.alloc (.cells (row 2 (bookC (.slice Ar R.length cr) (.slice At (n - d) ct))) 37)).alloc (.cells (row 2 (bookC (.slice none 0 0) (.slice none 0 0))) 37)) (w.heap.size + 1) 37 (row 2 (bookC (.slice none 0 0) (.slice none 0 0))) := by
  have := Blk.fresh (w.alloc (.cells (row 2 (bookC (.slice Ar R.length cr) (.slice At (n - d) ct))) 37)) 37 (row 2 (bookC (.slice none 0 0) (.slice none 0 0)))
  simpa using this
 clear hR hT hkey hx hf
 go_enter Tryz.func54, Tryz.ntmps54
 go_wp2_with (first
  | (with_reducible refine wpl_alloc rfl 37 rfl _ zRB2 ?_))
 generalize ((w.alloc (.cells (row 2 (bookC (.slice Ar R.length cr) (.slice At (n - d) ct))) 37)).alloc (.cells (row 2 (bookC (.slice none 0 0) (.slice none 0 0))) 37)) = w1 at *
 go_loopw [11] (fun vi wr => ∃ i : Nat, i ≤ R.length ∧ vi = .int .i64 (i : Int) ∧ Hid (∀ j, ∀ hj : j < R.length, j < i → hitR bk (strF Lk key) x R[j] = false) ∧ Blk wr w.heap.size 37 (row 2 (bookC (.slice Ar R.length cr) (.slice At (n - d) ct))) ∧ Blk wr (w.heap.size + 1) 37 (row 2 (bookC (.slice none 0 0) (.slice none 0 0))) ∧ Below w.heap.size w wr) (fun vi _ => R.length - (intOf vi).toNat)
 case atStart => exact ⟨0, by omega, rfl, hid (fun j _ hj => by omega), hg4, hg8, W1.out⟩
 case round =>
  clear hg4 hg8 W1
  obtain ⟨i, hi, rfl, HN, h4, h8, hB⟩ := hrel
  by_cases hlt : i < R.length
  ·obtain ⟨ad, rfl, had0, cc, hcc, hrc0⟩ := HR0.out i hlt
   have had := hB0 _ had0
   have hrc := hrc0.more hB0
   have hc0 : wr.cell? ⟨w.heap.size, 0, none⟩ = some (.slice (some ad) R.length cr) := h4.cell 0
   have hcc' : Hid (∀ j, j < 3 → wr.cell? ((ad.add (i * 3)).add j) = some (cc j)) := hid (fun j hj => (hB.cell (by rw [add_block, add_block]; exact had)).trans (hcc j hj))
   have H4 := hid h4
   have H8 := hid h8
   have HB := hid hB
   have HC := hid hrc
   obtain ⟨Akr, cpr, fk, hk0, hkR, hkB, hkS⟩ := hrc.key
   obtain ⟨Air, cir, hi0, hic, hiR0⟩ := hrc0.inn
   have hiR := hiR0.more hB0
   have HiR0 := hid hiR0
   obtain ⟨Aor, cor, ho0, hoc, hoR0⟩ := hrc0.out
   have hoR := hoR0.more hB0
   have HoR0 := hid hoR0
   have hBA := HB.out.alloc HB.out.size (.cells (row 3 cc) 128)
   have q0 : Hid ((wr.alloc (.cells (row 3 cc) 128)).cell? ⟨wr.heap.size, 0, none⟩ = some (.slice Akr Lk cpr)) := hid (by rw [(Blk.fresh wr 128 (row 3 cc)).cell, row_get _ _ _ (by omega), hk0])
   have hA := Blk.fresh wr 128 (row 3 cc)
   have HA := hid hA
   have HKr := hid ((hkR.below hBA).more hBA.size)
   have HKk := hid ((HK.out.below hBA).more hBA.size)
   have HBA := hid hBA
   have Hhit : Hid (∀ bb, hitR bb (strF Lk key) x R[i] = (eqB Lk fk key && eqB 16 (fr bb R[i]) x)) := hid (fun bb => by unfold hitR; rw [hkS, strF_eqB hkB hkb])
   have HiR := hid hiR
   have HoR := hid hoR
   have H4A := hid (H4.out.alloc (.cells (row 3 cc) 128))
   have H8A := hid (H8.out.alloc (.cells (row 3 cc) 128))
   clear hcc hrc hrc0 hiR0 hoR0 h4 h8 hB hkR hBA hA hiR hoR
   go_wp2_with (first
    | (with_reducible refine wpl_sl rfl 35 _ _ rfl ad R.length cr rfl .i64 _ rfl i rfl 128 Tryz.underlying35 hlt 3 iRow ?_)
    | (with_reducible refine wpl_val rfl _ (exec_loadSt 128 _ rfl (ad.add (i * 3)) rfl 3 cc hcc'.out _ Tryz.underlying128 iRow) ?_)
    | (with_reducible refine wpl_alloc rfl 128 rfl _ zRow ?_)
    | (with_reducible refine wpl_store_newS rfl 128 _ _ rfl wr _ 3 cc (row_ones HC.out) rfl rfl 128 iRow (row_size _ _) ?_)
    | (with_reducible refine wpl_lds rfl 22 _ rfl ⟨wr.heap.size, 0, none⟩ rfl 5 Tryz.underlying22 _ q0.out ?_))
   generalize wr.alloc (.cells (row 3 cc) 128) = wA at *
   generalize wr.heap.size = gr at *
   refine (same_any Akr Ak Lk cpr ck fk key _ (by omega) HKr.out HKk.out).mono ?_
   rintro e w5 ⟨rfl, hB5⟩
   have HB5 := hid (HBA.out.trans (hB5.mono HBA.out.size))
   have H45 := hid (H4A.out.below hB5 H4A.out.lt)
   have H85 := hid (H8A.out.below hB5 H8A.out.lt)
   have HA5 := hid (HA.out.below hB5 HA.out.lt)
   clear hB5 H4A H8A HA HBA q0 HKr HKk H4 H8 HB
   cases hek : eqB Lk fk key
   ·go_wp2_with fail
    go_round
    case rel =>
     refine ⟨i + 1, by omega, val_int (by omega), hid (fun j hj hji => ?_), H45.out, H85.out, HB5.out⟩
     rcases Nat.lt_or_ge j i with h | h
     ·exact HN.out j hj h
     have : j = i := by omega
     subst this
     rw [Hhit.out, hek]; rfl
    case measure => simp [intOf]; omega
   have q1 : Hid (w5.cell? ⟨gr, 1, none⟩ = some (.slice Air 16 cir)) := hid (by rw [HA5.out.cell, row_get _ _ _ (by omega), hi0])
   have q2 : Hid (w5.cell? ⟨gr, 2, none⟩ = some (.slice Aor 16 cor)) := hid (by rw [HA5.out.cell, row_get _ _ _ (by omega), ho0])
   have Hek := hid hek
   clear hek
   cases bk
   ·go_wp2_with (first
     | ((with_reducible refine wpg_val ?_ _ (exec_ldsl 22 _ rfl ⟨gr, 1, none⟩ rfl 5 Tryz.underlying22 _ q1.out) ?_); exact rfl))
    refine (same_any Air Ax 16 cir cx R[i].x x _ (by omega) ((HiR.out.below HB5.out).more HB5.out.size) ((HX.out.below HB5.out).more HB5.out.size)).mono ?_
    rintro e w6 ⟨rfl, hB6⟩
    have HB6 := hid (HB5.out.trans (hB6.mono HB5.out.size))
    have H46 := hid (H45.out.below hB6 H45.out.lt)
    have H86 := hid (H85.out.below hB6 H85.out.lt)
    have HA6 := hid (HA5.out.below hB6 HA5.out.lt)
    cases hex : eqB 16 R[i].x x
    ·go_wp2_with fail
     go_round
     case rel =>
      refine ⟨i + 1, by omega, val_int (by omega), hid (fun j hj hji => ?_), H46.out, H86.out, HB6.out⟩
      rcases Nat.lt_or_ge j i with h | h
      ·exact HN.out j hj h
      have : j = i := by omega
      subst this
      rw [Hhit.out, Hek.out]
      show (true && eqB 16 R[j].x x) = false
      rw [hex]; rfl
     case measure => simp [intOf]; omega
    have hfound : r = R[i] := by
     have h1 := find_first hlt HN.out (by rw [Hhit.out, Hek.out]; show (true && eqB 16 R[i].x x) = true; rw [hex]; rfl)
     exact Option.some.inj (Hf.out.symm.trans h1)
    have HFd := hid hfound
    clear hfound hex
    go_wp2_with fail
    have hgr6 : gr ≠ w.heap.size + 1 := H86.out.ne HA6.out (by decide)
    have d4 : ∀ W, Only (w.heap.size + 1) w6 W → ∀ j, j < 2 → W.cell? ((⟨w.heap.size, 0, none⟩ : Addr).add j) = some (bookC (.slice (some ad) R.length cr) (.slice At (n - d) ct) j) := fun W hW j hj => by
     rw [add_zero_off]
     exact ((hW.blk H46.out (by omega)).cell j).trans (row_get 2 _ j hj)
    have d2 : ∀ W, Only (w.heap.size + 1) w6 W → W.cell? ⟨gr, 2, none⟩ = some (.slice Aor 16 cor) := fun W hW => by
     rw [(hW.blk HA6.out hgr6).cell, row_get _ _ _ (by omega), ho0]
    refine wp_region_held_drew (S := fun W => Only (w.heap.size + 1) w6 W) (by kernel_rfl) (Only.refl _ _).drew (fun hS0 => ?_)
    refine ztk (i := 0) (v := .agg (row 2 (bookC (.slice (some ad) R.length cr) (.slice At (n - d) ct)))) rfl (fun W hW => exec_loadSt 37 _ rfl ⟨w.heap.size, 0, none⟩ rfl 2 _ (d4 W hW) _ Tryz.underlying37 iRB) hS0 ?_
    (try simp only [Act.put,zza,zzb,zzc,zzd,zze,zzf])
    refine ztk (i := 1) (v := .pointer (some ⟨gr, 2, none⟩)) rfl (fun W _ => by go_simp) hS0 ?_
    (try simp only [Act.put,zza,zzb,zzc,zzd,zze,zzf])
    refine ztk (i := 2) (v := .slice Aor 16 cor) rfl (fun W hW => exec_ldsl 22 _ rfl ⟨gr, 2, none⟩ rfl 5 Tryz.underlying22 _ (d2 W hW)) hS0 ?_
    (try simp only [Act.put,zza,zzb,zzc,zzd,zze,zzf])
    refine wpAnyH_ready (rs := [3]) (by kernel_rfl) (by simp) (ready_one rfl rfl (fun K hK => ?_))
    (try simp only [Act.put,zza,zzb,zzc,zzd,zze,zzf])
    have d8 : Blk w6.drew (w.heap.size + 1) 37 (row 2 (bookC (.slice none 0 0) (.slice none 0 0))) := H86.out
    with_reducible refine wp_store_blk 37 _ _ rfl (w.heap.size + 1) (row 2 (bookC (.slice (some ad) R.length cr) (.slice At (n - d) ct))) rfl rfl 37 _ d8 (iRB' _) (by simp [row_size]) (one2 _ _ _ _ _ _) ?_
    (try simp only [Act.put,zza,zzb,zzc,zzd,zze,zzf])
    refine hK.out _ _ (hS0.setRow _) (fun hSz => ?_)
    (try simp only [Act.put,zza,zzb,zzc,zzd,zze,zzf])
    refine ztk (i := 4) (v := .slice Aor 16 cor) rfl (fun _ _ => exec_assign _ rfl _ rfl) hSz ?_
    (try simp only [Act.put,zza,zzb,zzc,zzd,zze,zzf])
    refine ztk (i := 5) (v := .bool true) rfl (fun _ _ => exec_assign _ rfl _ rfl) hSz ?_
    (try simp only [Act.put,zza,zzb,zzc,zzd,zze,zzf])
    refine wpAnyH_done (by kernel_rfl) ?_ _
    clear hK
    have dB := HB6.out.drew
    generalize w6.drew = w7 at *
    have hBf := below_setRow' dB (Nat.le_succ w.heap.size) (row 2 (bookC (.slice (some ad) R.length cr) (.slice At (n - d) ct)))
    go_wp2_with fail
    refine ret_row3 Tryz.results54 rfl (w.heap.size + 1) rfl _ rfl _ rfl 37 2 _ (d8.setRow _) _ Tryz.underlying37 iRB ⟨hBf, some ad, cr, At, ct, _, true, by rw [row2]; rfl, (fun W ha => ⟨ha.rows hB0 hBf HR0.out, ha.reads hB0 hBf HT0.out⟩), hct, (fun h => by cases h), .inl ⟨_, Aor, cor, rfl, rfl, rfl, ?_⟩⟩
    rw [HFd.out]
    exact fun W ha => ha.reads hB0 hBf HoR0.out
   go_wp2_with (first
    | ((with_reducible refine wpg_val ?_ _ (exec_ldsl 22 _ rfl ⟨gr, 2, none⟩ rfl 5 Tryz.underlying22 _ q2.out) ?_); exact rfl))
   refine (same_any Aor Ax 16 cor cx R[i].y x _ (by omega) ((HoR.out.below HB5.out).more HB5.out.size) ((HX.out.below HB5.out).more HB5.out.size)).mono ?_
   rintro e w6 ⟨rfl, hB6⟩
   have HB6 := hid (HB5.out.trans (hB6.mono HB5.out.size))
   have H46 := hid (H45.out.below hB6 H45.out.lt)
   have H86 := hid (H85.out.below hB6 H85.out.lt)
   have HA6 := hid (HA5.out.below hB6 HA5.out.lt)
   cases hex : eqB 16 R[i].y x
   ·go_wp2_with fail
    go_round
    case rel =>
     refine ⟨i + 1, by omega, val_int (by omega), hid (fun j hj hji => ?_), H46.out, H86.out, HB6.out⟩
     rcases Nat.lt_or_ge j i with h | h
     ·exact HN.out j hj h
     have : j = i := by omega
     subst this
     rw [Hhit.out, Hek.out]
     show (true && eqB 16 R[j].y x) = false
     rw [hex]; rfl
    case measure => simp [intOf]; omega
   have hfound : r = R[i] := by
    have h1 := find_first hlt HN.out (by rw [Hhit.out, Hek.out]; show (true && eqB 16 R[i].y x) = true; rw [hex]; rfl)
    exact Option.some.inj (Hf.out.symm.trans h1)
   have HFd := hid hfound
   clear hfound hex
   go_wp2_with fail
   have hgr6 : gr ≠ w.heap.size + 1 := H86.out.ne HA6.out (by decide)
   have d4 : ∀ W, Only (w.heap.size + 1) w6 W → ∀ j, j < 2 → W.cell? ((⟨w.heap.size, 0, none⟩ : Addr).add j) = some (bookC (.slice (some ad) R.length cr) (.slice At (n - d) ct) j) := fun W hW j hj => by
    rw [add_zero_off]
    exact ((hW.blk H46.out (by omega)).cell j).trans (row_get 2 _ j hj)
   have d2 : ∀ W, Only (w.heap.size + 1) w6 W → W.cell? ⟨gr, 1, none⟩ = some (.slice Air 16 cir) := fun W hW => by
    rw [(hW.blk HA6.out hgr6).cell, row_get _ _ _ (by omega), hi0]
   refine wp_region_held_drew (S := fun W => Only (w.heap.size + 1) w6 W) (by kernel_rfl) (Only.refl _ _).drew (fun hS0 => ?_)
   refine ztk (i := 0) (v := .agg (row 2 (bookC (.slice (some ad) R.length cr) (.slice At (n - d) ct)))) rfl (fun W hW => exec_loadSt 37 _ rfl ⟨w.heap.size, 0, none⟩ rfl 2 _ (d4 W hW) _ Tryz.underlying37 iRB) hS0 ?_
   (try simp only [Act.put,zza,zzb,zzc,zzd,zze,zzf])
   refine ztk (i := 1) (v := .pointer (some ⟨gr, 1, none⟩)) rfl (fun W _ => by go_simp) hS0 ?_
   (try simp only [Act.put,zza,zzb,zzc,zzd,zze,zzf])
   refine ztk (i := 2) (v := .slice Air 16 cir) rfl (fun W hW => exec_ldsl 22 _ rfl ⟨gr, 1, none⟩ rfl 5 Tryz.underlying22 _ (d2 W hW)) hS0 ?_
   (try simp only [Act.put,zza,zzb,zzc,zzd,zze,zzf])
   refine wpAnyH_ready (rs := [3]) (by kernel_rfl) (by simp) (ready_one rfl rfl (fun K hK => ?_))
   (try simp only [Act.put,zza,zzb,zzc,zzd,zze,zzf])
   have d8 : Blk w6.drew (w.heap.size + 1) 37 (row 2 (bookC (.slice none 0 0) (.slice none 0 0))) := H86.out
   with_reducible refine wp_store_blk 37 _ _ rfl (w.heap.size + 1) (row 2 (bookC (.slice (some ad) R.length cr) (.slice At (n - d) ct))) rfl rfl 37 _ d8 (iRB' _) (by simp [row_size]) (one2 _ _ _ _ _ _) ?_
   (try simp only [Act.put,zza,zzb,zzc,zzd,zze,zzf])
   refine hK.out _ _ (hS0.setRow _) (fun hSz => ?_)
   (try simp only [Act.put,zza,zzb,zzc,zzd,zze,zzf])
   refine ztk (i := 4) (v := .slice Air 16 cir) rfl (fun _ _ => exec_assign _ rfl _ rfl) hSz ?_
   (try simp only [Act.put,zza,zzb,zzc,zzd,zze,zzf])
   refine ztk (i := 5) (v := .bool true) rfl (fun _ _ => exec_assign _ rfl _ rfl) hSz ?_
   (try simp only [Act.put,zza,zzb,zzc,zzd,zze,zzf])
   refine wpAnyH_done (by kernel_rfl) ?_ _
   clear hK
   have dB := HB6.out.drew
   generalize w6.drew = w7 at *
   have hBf := below_setRow' dB (Nat.le_succ w.heap.size) (row 2 (bookC (.slice (some ad) R.length cr) (.slice At (n - d) ct)))
   go_wp2_with fail
   refine ret_row3 Tryz.results54 rfl (w.heap.size + 1) rfl _ rfl _ rfl 37 2 _ (d8.setRow _) _ Tryz.underlying37 iRB ⟨hBf, some ad, cr, At, ct, _, true, by rw [row2]; rfl, (fun W ha => ⟨ha.rows hB0 hBf HR0.out, ha.reads hB0 hBf HT0.out⟩), hct, (fun h => by cases h), .inl ⟨_, Air, cir, rfl, rfl, rfl, ?_⟩⟩
   rw [HFd.out]
   exact fun W ha => ha.reads hB0 hBf HiR0.out
  have := find_never (p := hitR bk (strF Lk key) x) (fun j hj => HN.out j hj (by omega))
  rw [Hf.out] at this
  cases this
end Go.Proofs.YtlmnoapoofmmnaaGreatDoor.Bk
namespace Go.Proofs.YtlmnoapoofmmnaaGreatDoor.Bk
open Mem Go.ChangeShapes Go.WideShapes Go.ChangeAt Go.RowKit
theorem keptS_row {S : List Nat} {a w : World} (h : KeptS S a w) {g : Nat} (hg : g ∈ S) (cs : Array Value) : KeptS S a (w.setRow g cs) :=
 ⟨h.os, h.tape, h.output, (by simpa using h.size), fun j hj hs => (setRow_other w g j cs (fun e => hs (e ▸ hg))).trans (h.block j hj hs)⟩
theorem cell_in {w : World} {a : Addr} {v : Value} (h : w.cell? a = some v) : ∃ cs t fz, w.heap[a.block]? = some (.cells cs t fz) ∧ cs[a.off]? = some v := by
 unfold World.cell? at h
 split at h
 ·next c t fz e =>
  split at h
  ·cases h
  exact ⟨c, t, fz, e, h⟩
 cases h
theorem add_off (a : Addr) (n : Nat) : (a.add n).off = a.off + n := by
 unfold Addr.add
 split
 ·next h => omega
 rfl
section
variable {w : World} {gm Lk : Nat} {R' : List Rw} {A : Option Addr} {n : Nat} {f : Nat → Nat} {S T : Value}
end
end Go.Proofs.YtlmnoapoofmmnaaGreatDoor.Bk
namespace Go.Proofs.YtlmnoapoofmmnaaGreatDoor.Bk
open Mem Go.ChangeShapes Go.WideShapes Go.ChangeAt Go.RowKit
theorem BookAt.byte_out {w : World} {p : Pl} {d : Nat} {R : List Rw} (h : BookAt w p d R) {a : Addr} {x : Int} (hc : w.cell? a = some (.int .u8 x)) : a.block ∉ p.S := fun hm => by
 obtain ⟨cs, t, fz, hb, hv⟩ := cell_in hc
 simp only [Pl.S, List.mem_cons, List.not_mem_nil, or_false] at hm
 rcases hm with hm | hm | hm
 ·rw [hm, h.tape.out] at hb
  cases hb
  obtain ⟨A, c, hpv, -⟩ := h.own.slice
  rw [hpv] at hv
  rcases a with ⟨b, off, sp⟩
  match off, hv with
  | 0, hv => simp at hv
  | 1, hv => simp at hv
  | o + 2, hv => simp at hv
 ·have := (h.maps false).out
  rw [show p.m false = p.gf from rfl] at this
  rw [hm, this] at hb
  cases hb
 have := (h.maps true).out
 rw [show p.m true = p.gk from rfl] at this
 rw [hm, this] at hb
 cases hb
section
variable {w w' : World} {p : Pl} {d Lk : Nat} {R R' : List Rw} {A : Option Addr} {n : Nat} {f : Nat → Nat}
theorem BookAt.reads (h : BookAt w p d R) (hk : KeptS p.S w w') (hr : Reads w w.heap.size A n f) : Reads w' w'.heap.size A n f := fun hn => by
 obtain ⟨ad, e, hb, hc⟩ := hr hn
 have ho := h.byte_out (hc 0 hn)
 rw [add_block] at ho
 refine ⟨ad, e, Nat.lt_of_lt_of_le hb hk.size, fun i hi => ?_⟩
 rw [World.cell?_of_block (w := w) (by rw [add_block]; exact hk.block _ hb ho)]
 exact hc i hi
theorem BookAt.rowC (h : BookAt w p d R) (hk : KeptS p.S w w') {r : Rw} {c : Nat → Value} (hr : RowC w w.heap.size Lk r c) : RowC w' w'.heap.size Lk r c := by
 obtain ⟨⟨Ak, cp, g, h1, h2, h3, h4⟩, ⟨A1, c1, h5, h6, h7⟩, ⟨A2, c2, h8, h9, h10⟩⟩ := hr
 exact ⟨⟨Ak, cp, g, h1, h.reads hk h2, h3, h4⟩, ⟨A1, c1, h5, h6, h.reads hk h7⟩, ⟨A2, c2, h8, h9, h.reads hk h10⟩⟩
end
end Go.Proofs.YtlmnoapoofmmnaaGreatDoor.Bk
