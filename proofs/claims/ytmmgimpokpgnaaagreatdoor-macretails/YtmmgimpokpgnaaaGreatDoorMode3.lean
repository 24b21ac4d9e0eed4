/-
  mode.eachBlock, with whatever step that never fails: what is answered, what stays.
-/
import Derived.Maps.AppendAt
import Derived.Test.YtmmgimpokpgnaaaGreatDoorMode2
namespace Go.Proofs.YtmmgimpokpgnaaaGreatDoor.Md
open Mem Bk Go.ChangeShapes Go.WideShapes Go.ChangeAt Go.RowKit Go.Shelf
attribute [local go_sem] Oper.semAt_some
theorem wpi_app {F : Fence} {nF : Nat} {P : Program} {ops : Array Oper} {rest : List Oper} {o : Oper} {a : Act} {w : World} {Q : Exit → Act → World → Prop} (hgd : o.guard = none) (p q : Operand) (t : TypeId) (ho : o.op = .call { callee := .builtin .append, args := #[p, q], argTypes := #[t, t] }) (base : Nat) (e : TypeId) (ht : P.underlying t = some (.slice e))
    (hinfo : (P.info? e).map (fun i => (i.zero, i.size, i.bytes)) = some (some (.int .u8 0), 1, 1)) (v : Value) (n : Nat) (f : Nat → Nat) (hp : a.eval p = v) (hown : Mem.Own w base e 1 v n f)
    (m c g : Nat) (y : Nat → Nat) (t' : TypeId) (hg : Blk w g t' (row m (b8 y))) (hq : a.eval q = .slice (some ⟨g, 0, none⟩) m c) (hm : 0 < m) (hn : n + m ≤ 1000000) (hbase : base ≤ w.heap.size)
    (h : ∀ g' c' w', Mem.Own w' base e 1 (.slice (some ⟨g', 0, none⟩) (n + m) c') (n + m) (cat n f y) → w.grownBy w' v.ownBlock → wpListIn F nF P ops Q rest (a.put o.dst (.slice (some ⟨g', 0, none⟩) (n + m) c')) w') : wpListIn F nF P ops Q (o :: rest) a w := by
  obtain ⟨i, hi, hz0, hz1, hz2⟩ := info_parts hinfo
  refine wpListIn_append_own w hgd p q t ho base e i (.int .u8 0) 1 1 ht hi hz0 hz1 hz2 rfl (by decide) v n _ hp hown ⟨g, 0, none⟩ m c ((List.range m).map (b8 y)) hq (by simp) ?_ ?_ ?_ ?_ hbase ?_
  · intro j u hu
    by_cases hj : j < m
    · simp [hj] at hu
      subst hu
      rw [add_zero_off, hg.cell, row_get _ _ _ hj]
    · rw [List.getElem?_eq_none (by simp; omega)] at hu; cases hu
  · intro u hu
    simp only [List.mem_map] at hu
    obtain ⟨i, _, rfl⟩ := hu
    rfl
  · unfold maxLen; omega
  · omega
  · intro v' w' h1 h2 _
    obtain ⟨m', rfl⟩ : ∃ m', m = m' + 1 := ⟨m - 1, by omega⟩
    obtain ⟨g', c', rfl⟩ := ownsRow_succ (k := n + m') h1
    refine h g' c' w' ?_ h2
    unfold Mem.Own
    have := cat_list n (m' + 1) f y
    rw [Nat.mul_one] at h1
    rw [this] at h1
    rw [Nat.mul_one]
    exact h1
/-- what a step's state hangs on: what lay below B, and arrays -/
def Dep {σ : Type} (B : Nat) (Inv : σ → World → Prop) : Prop :=
  ∀ s W W', Inv s W → Below B W W' → (∀ g t cs, Blk W g t cs → (t = 37 ∨ t = 132) → Blk W' g t cs) → Inv s W'
/-- the state, and what has come out, behind these blocks -/
def run {σ : Type} (st : σ → (Nat → Nat) → (Nat → Nat) × σ) (n : Nat) (xb : Nat → Nat → Nat) (s0 : σ) (l : List Nat) : σ × (Nat → Nat) × Nat :=
  l.foldl (fun r j => ((st r.1 (xb j)).2, cat r.2.2 r.2.1 (st r.1 (xb j)).1, r.2.2 + n)) (s0, (fun _ => 0), 0)
theorem run_snoc {σ : Type} (st : σ → (Nat → Nat) → (Nat → Nat) × σ) (n : Nat) (xb : Nat → Nat → Nat) (s0 : σ) (l : List Nat) (j : Nat) :
    run st n xb s0 (l ++ [j]) = ((st (run st n xb s0 l).1 (xb j)).2, cat (run st n xb s0 l).2.2 (run st n xb s0 l).2.1 (st (run st n xb s0 l).1 (xb j)).1, (run st n xb s0 l).2.2 + n) := by
  unfold run; rw [List.foldl_append]; rfl
theorem run_len {σ : Type} (st : σ → (Nat → Nat) → (Nat → Nat) × σ) (n : Nat) (xb : Nat → Nat → Nat) (s0 : σ) (l : List Nat) : (run st n xb s0 l).2.2 = l.length * n := by
  generalize hk : l.length = k
  induction k generalizing l with
  | zero => rw [List.length_eq_zero_iff.1 hk]; simp [run]
  | succ k ih =>
    obtain ⟨l', j, rfl⟩ : ∃ l' j, l = l' ++ [j] := by
      rcases List.eq_nil_or_concat l with rfl | ⟨l', j, rfl⟩
      · simp at hk
      · exact ⟨l', j, by simp⟩
    rw [run_snoc, ih l' (by simpa using hk), Nat.succ_mul]
theorem make0 (M : Nat) (hM : M ≤ 100000) (w : World) : (Instr.makeSlice 22 (.int .i64 0) (.int .i64 (M : Int))).run Tryz.prog w = .ok (.slice (some ⟨w.heap.size, 0, none⟩) 0 M) (w.alloc (.cells (row M (b8 fun _ => 0)) 5)) := by
  obtain ⟨i, hi, hz0, hz1, hz2⟩ := info_parts info8
  have hr := run_make (P := Tryz.prog) w 22 5 i (.int .u8 0) Tryz.underlying22 hi hz0 .i64 .i64 0 M (by omega) (by omega) (by rw [hz2]; omega) (by omega)
  simp only [Int.toNat_natCast, Int.toNat_zero, hz1, Nat.mul_one] at hr
  rw [← made_b8]
  exact hr
theorem blk_fresh {w : World} {k : Nat} (hk : w.heap.size = k) (t : TypeId) (cs : Array Value) : Blk (w.alloc (.cells cs t)) k t cs := hk ▸ Blk.fresh w t cs
theorem blk_nonc {W W' : World} {row : Option Nat} {B g : Nat} {t : TypeId} {cs : Array Value} (h : Blk W g t cs) (hg : W.grownBy W' row) (hr : ∀ r, row = some r → B ≤ r ∧ ∃ o : Obj, W.heap[r]? = some o ∧ o.isCells = false) : Blk W' g t cs :=
  h.grown hg fun e => by
    obtain ⟨_, o, ho, hc⟩ := hr g e.symm
    rw [h.out] at ho
    cases ho
    cases hc
theorem own_blks {w w' : World} {base e n : Nat} {v : Value} {f : Nat → Nat} (ho : Mem.Own w base e 1 v n f) (h : ∀ g cs, Blk w g e cs → Blk w' g e cs) : Mem.Own w' base e 1 v n f := by
  obtain ⟨h1, h2 | ⟨k, c, cur, rfl, hbk, hblk, hnc, hcm, hsz, hcs⟩⟩ := ho
  · exact ⟨h1, .inl h2⟩
  · exact ⟨h1, .inr ⟨k, c, cur, rfl, hbk, h _ _ hblk, hnc, hcm, hsz, hcs⟩⟩
theorem keptS_grown {S : List Nat} {a W W' : World} {row : Option Nat} (h : KeptS S a W) (hg : W.grownBy W' row) (hr : ∀ r, row = some r → a.heap.size ≤ r) : KeptS S a W' :=
  ⟨hg.os.trans h.os, hg.tape.trans h.tape, hg.output.trans h.output, Nat.le_trans h.size hg.size, fun k hk hs => (hg.block k (Nat.lt_of_lt_of_le hk h.size) (fun e => by have := hr k e.symm; omega)).trans (h.block k hk hs)⟩
theorem below_grown {B : Nat} {W W' : World} {row : Option Nat} (hB : B ≤ W.heap.size) (hg : W.grownBy W' row) (hr : ∀ r, row = some r → B ≤ r) : Below B W W' := (Below.refl B W).grown hg hB hr
theorem ne_own {W : World} {base e n k : Nat} {t : TypeId} {v : Value} {f : Nat → Nat} {cs : Array Value} (ho : Mem.Own W base e 1 v n f) (hb : Blk W k t cs) (ht : t ≠ e) : some k ≠ v.ownBlock := by
  rcases ho.form with ⟨rfl, -⟩ | ⟨g, c, cur, rfl, -, -, -, hbg, -, -⟩
  · simp [Value.ownBlock]
  · intro he
    have : k = g := by simpa [Value.ownBlock] using he
    subst this
    have := hb.out.symm.trans hbg.out
    simp at this
    exact ht this.2
theorem own_ge {W : World} {base e n r : Nat} {v : Value} {f : Nat → Nat} (ho : Mem.Own W base e 1 v n f) (h : v.ownBlock = some r) : base ≤ r ∧ ∃ cs, Blk W r e cs := by
  rcases ho.form with ⟨rfl, -⟩ | ⟨g, c, cur, rfl, hb, -, -, hbg, -, -⟩
  · simp [Value.ownBlock] at h
  · have : g = r := by simpa [Value.ownBlock] using h
    subst this
    exact ⟨hb, cur, hbg⟩
theorem own_keptS {S : List Nat} {W W' : World} {base e n : Nat} {v : Value} {f : Nat → Nat} (ho : Mem.Own W base e 1 v n f) (h : KeptS S W W') (hS : ∀ g ∈ S, g < base) : Mem.Own W' base e 1 v n f := by
  obtain ⟨h1, h2 | ⟨k, c, cur, rfl, hbk, hblk, hnc, hcm, hsz, hcs⟩⟩ := ho
  · exact ⟨h1, .inl h2⟩
  · exact ⟨h1, .inr ⟨k, c, cur, rfl, hbk, KeptS.blk h hblk (fun e => by have := hS k e; omega), hnc, hcm, hsz, hcs⟩⟩
theorem ixs_map {N : Nat} : ∀ k, k ≤ N → (ixs N k).map (·.1) = List.range k
  | 0, _ => rfl
  | k + 1, h => by
    have h1 := ixs_map (N := N) k (by omega)
    simp [ixs, h1, show k < N by omega, List.range_succ]
/-- between two rounds -/
def EI {σ : Type} (Inv : σ → World → Prop) (st : σ → (Nat → Nat) → (Nat → Nat) × σ) (S : List Nat) (fv tv : Value) (n N : Nat) (x : Nat → Nat) (s0 : σ) (w : World) (pre : List {j : Nat // j < N}) (W : World) : Prop :=
  (∃ v, Blk W (w.heap.size + 1 + 1 + 1 + 1 + 1) 22 #[v] ∧ Mem.Own W w.heap.size 5 1 v (pre.length * n) (run st n (fun j i => x (j * n + i)) s0 (pre.map (·.1))).2.1) ∧
  (Blk W (w.heap.size + 1) 89 #[fv] ∧ Blk W (w.heap.size + 1 + 1) 22 #[.slice none 0 0] ∧ Blk W (w.heap.size + 1 + 1 + 1) 31 #[.nilIface] ∧ Blk W (w.heap.size + 1 + 1 + 1 + 1 + 1 + 1) 22 #[tv] ∧ Blk W (w.heap.size + 1 + 1 + 1 + 1 + 1 + 1 + 1) 3 #[.int .i64 (n : Int)] ∧ w.heap.size + 8 ≤ W.heap.size) ∧
  Inv (run st n (fun j i => x (j * n + i)) s0 (pre.map (·.1))).1 W ∧ KeptS S w W
theorem EI.own {σ : Type} {Inv : σ → World → Prop} {st : σ → (Nat → Nat) → (Nat → Nat) × σ} {S : List Nat} {fv tv : Value} {n N : Nat} {x : Nat → Nat} {s0 : σ} {w : World} (hdep : Dep w.heap.size Inv) {B : Nat} (hB : w.heap.size ≤ B) : OwnFrom B (EI Inv st S fv tv n N x s0 w) := by
  rintro pre W W' row ⟨⟨v, h1, h2⟩, ⟨h3, h4, h5, h8, h9, h10⟩, h6, h7⟩ hg hr
  have hr' : ∀ r, row = some r → w.heap.size ≤ r := fun r e => Nat.le_trans hB (hr r e).1
  exact ⟨⟨v, blk_nonc h1 hg hr, own_blks h2 fun g cs hb => blk_nonc hb hg hr⟩, ⟨blk_nonc h3 hg hr, blk_nonc h4 hg hr, blk_nonc h5 hg hr, blk_nonc h8 hg hr, blk_nonc h9 hg hr, Nat.le_trans h10 hg.size⟩, hdep _ W W' h6 (below_grown h7.size hg hr') (fun g t cs hb _ => blk_nonc hb hg hr), keptS_grown h7 hg hr'⟩
set_option maxRecDepth 100000 in
set_option maxHeartbeats 2000000 in
theorem each_any {σ : Type} (Inv : σ → World → Prop) (st : σ → (Nat → Nat) → (Nat → Nat) × σ) (S : List Nat) (ff : Nat) (lb : Array Value) (n N M c : Nat) (A : Option Addr) (x : Nat → Nat) (s0 : σ) (w : World)
    (hn : n = 8 ∨ n = 16) (hM : M = N * n) (hN : M ≤ 100000) (hc : M ≤ c) (hA : A = none → M = 0) (hx : ∀ i, i < M → x i < 256) (hR : Reads w w.heap.size A M x) (hAS : ∀ ad, A = some ad → 0 < M → ad.block ∉ S) (hS : ∀ g ∈ S, g < w.heap.size)
    (hdep : Dep w.heap.size Inv) (h0 : Inv s0 w) (hen : ∀ args w, (callFunc ff args).run Tryz.prog w = .ok (.enter ff args) w)
    (hstep : ∀ s W ad y, Inv s W → w.heap.size ≤ W.heap.size → ad.block < w.heap.size → ad.block ∉ S → (∀ i, i < n → W.cell? (ad.add i) = some (.int .u8 ((y i : Nat) : Int))) → (∀ i, i < n → y i < 256) →
      Calls Tryz.prog ff (#[.slice (some ad) n n] ++ lb) W fun e W' => KeptS S W W' ∧ Inv (st s y).2 W' ∧ ∃ g t, e = .returned (.tuple #[.slice (some ⟨g, 0, none⟩) n n, .nilIface]) ∧ Blk W' g t (row n (b8 (st s y).1))) :
    Calls Tryz.prog 48 #[.slice A M c, .int .i64 (n : Int), .func (.func ff) #[] lb] w fun e w' => KeptS S w w' ∧ ∃ v, e = .returned (.tuple #[v, .nilIface]) ∧ Mem.Own w' w.heap.size 5 1 v M (run st n (fun j i => x (j * n + i)) s0 (List.range N)).2.1 ∧ Inv (run st n (fun j i => x (j * n + i)) s0 (List.range N)).1 w' := by
  refine (callsIn_wide (n := 3)).1 ?_
  refine callsIn_of_wp_marks Tryz.func48 rfl trivial ?_ rfl
  simp only [Tryz.ntmps48, List.size_toArray, List.length_cons, List.length_nil, Nat.reduceAdd, Nat.reduceSub, Array.replicate_succ, Array.replicate_zero, List.push_toArray, List.append_toArray, List.nil_append, List.cons_append]
  have hmk := make0 M hN
  have HM := hid hM
  clear hM
  gi_wp2_with (refine ⟨trivial, ?_⟩; gi_at_call 70; refine (callsIn_wide.2 (chunk_any _ _ _ _ hn _)).mono ?_; rintro e w' ⟨rfl, rfl⟩)
  have hB0 : Below w.heap.size w ((((((((w.alloc (.cells #[.int .i64 (n : Int)] 3)).alloc (.cells #[.func (.func ff) #[] lb] 89)).alloc (.cells #[.slice none 0 0] 22)).alloc (.cells #[.nilIface] 31)).alloc (.cells (row M (b8 fun _ => 0)) 5)).alloc (.cells #[.slice (some ⟨w.heap.size + 1 + 1 + 1 + 1, 0, none⟩) 0 M] 22)).alloc (.cells #[.slice A M c] 22)).alloc (.cells #[.int .i64 (n : Int)] 3)) :=
    (((((((((Below.refl _ w).alloc (Nat.le_refl _) _).alloc (by simp <;> omega) _).alloc (by simp <;> omega) _).alloc (by simp <;> omega) _).alloc (by simp <;> omega) _).alloc (by simp <;> omega) _).alloc (by simp <;> omega) _).alloc (by simp <;> omega) _)
  have hz : ((((((((w.alloc (.cells #[.int .i64 (n : Int)] 3)).alloc (.cells #[.func (.func ff) #[] lb] 89)).alloc (.cells #[.slice none 0 0] 22)).alloc (.cells #[.nilIface] 31)).alloc (.cells (row M (b8 fun _ => 0)) 5)).alloc (.cells #[.slice (some ⟨w.heap.size + 1 + 1 + 1 + 1, 0, none⟩) 0 M] 22)).alloc (.cells #[.slice A M c] 22)).alloc (.cells #[.int .i64 (n : Int)] 3)).heap.size = w.heap.size + 8 := by simp
  generalize hW0 : ((((((((w.alloc (.cells #[.int .i64 (n : Int)] 3)).alloc (.cells #[.func (.func ff) #[] lb] 89)).alloc (.cells #[.slice none 0 0] 22)).alloc (.cells #[.nilIface] 31)).alloc (.cells (row M (b8 fun _ => 0)) 5)).alloc (.cells #[.slice (some ⟨w.heap.size + 1 + 1 + 1 + 1, 0, none⟩) 0 M] 22)).alloc (.cells #[.slice A M c] 22)).alloc (.cells #[.int .i64 (n : Int)] 3)) = W0 at hB0 hz ⊢
  have b1 : Blk W0 (w.heap.size + 1) 89 #[.func (.func ff) #[] lb] := by rw [← hW0]; repeat (first | exact blk_fresh (by simp) _ _ | apply Blk.alloc)
  have b2 : Blk W0 (w.heap.size + 1 + 1) 22 #[.slice none 0 0] := by rw [← hW0]; repeat (first | exact blk_fresh (by simp) _ _ | apply Blk.alloc)
  have b3 : Blk W0 (w.heap.size + 1 + 1 + 1) 31 #[.nilIface] := by rw [← hW0]; repeat (first | exact blk_fresh (by simp) _ _ | apply Blk.alloc)
  have b4 : Blk W0 (w.heap.size + 1 + 1 + 1 + 1) 5 (row M (b8 fun _ => 0)) := by rw [← hW0]; repeat (first | exact blk_fresh (by simp) _ _ | apply Blk.alloc)
  have b5 : Blk W0 (w.heap.size + 1 + 1 + 1 + 1 + 1) 22 #[.slice (some ⟨w.heap.size + 1 + 1 + 1 + 1, 0, none⟩) 0 M] := by rw [← hW0]; repeat (first | exact blk_fresh (by simp) _ _ | apply Blk.alloc)
  have b6 : Blk W0 (w.heap.size + 1 + 1 + 1 + 1 + 1 + 1) 22 #[.slice A M c] := by rw [← hW0]; repeat (first | exact blk_fresh (by simp) _ _ | apply Blk.alloc)
  have b7 : Blk W0 (w.heap.size + 1 + 1 + 1 + 1 + 1 + 1 + 1) 3 #[.int .i64 (n : Int)] := by rw [← hW0]; repeat (first | exact blk_fresh (by simp) _ _ | apply Blk.alloc)
  have hown0 : Mem.Own W0 w.heap.size 5 1 (.slice (some ⟨w.heap.size + 1 + 1 + 1 + 1, 0, none⟩) 0 M) 0 (fun _ => 0) := ⟨by simp, .inr ⟨_, _, _, rfl, by omega, b4, by omega, by unfold maxLen; omega, by simp [row_size], by simp⟩⟩
  clear hW0
  refine wpIn_rangeFunc_ownG rfl (by omega) (gf := 91) (lb := #[.pointer (some ⟨w.heap.size + 1 + 1 + 1 + 1 + 1 + 1, 0, none⟩), .pointer (some ⟨w.heap.size + 1 + 1 + 1 + 1 + 1 + 1 + 1, 0, none⟩)]) rfl trivial (enters_of Tryz.func91 (by kernel_rfl) rfl)
    (chunk_stops Fence.wide _ trivial rfl (by omega) _ _ n N M c A [w.heap.size + 1 + 1 + 1 + 1 + 1 + 1, w.heap.size + 1 + 1 + 1 + 1 + 1 + 1 + 1] hn HM.out hN hc hA (by simp) (by simp) W0 b6 b7) kpL_t (kpL_b (by simp [hz])) (Below.refl _ _) (fun _ => rfl)
    (EI Inv st S (.func (.func ff) #[] lb) (.slice A M c) n N x s0 w) (fun _ _ _ => False) (EI.own hdep (by omega)) (fun _ _ _ _ _ hs _ _ => hs)
    ⟨⟨_, b5, by simpa [run] using hown0⟩, ⟨b1, b2, b3, b6, b7, by omega⟩, hdep _ _ _ h0 hB0 (fun g t cs hb _ => hb.below hB0 hb.lt), KeptS.of S hB0⟩
    (fun j => { tmps := #[.slice A M c, .int .i64 (n : Int), .func (.func ff) #[] lb, undef, .pointer (some ⟨w.heap.size, 0, none⟩), .pointer (some ⟨w.heap.size + 1, 0, none⟩), .pointer (some ⟨w.heap.size + 1 + 1, 0, none⟩), .pointer (some ⟨w.heap.size + 1 + 1 + 1, 0, none⟩), .pointer (some ⟨w.heap.size + 1 + 1 + 1 + 1 + 1, 0, none⟩), chv (A.getD default) n j.1, undef, undef, .slice A M c, .int .i64 (M : Int), .slice (some ⟨w.heap.size + 1 + 1 + 1 + 1, 0, none⟩) 0 M, .slice A M c, .int .i64 (n : Int), .func (.func 91) #[] #[.pointer (some ⟨w.heap.size + 1 + 1 + 1 + 1 + 1 + 1, 0, none⟩), .pointer (some ⟨w.heap.size + 1 + 1 + 1 + 1 + 1 + 1 + 1, 0, none⟩)], chv (A.getD default) n j.1, undef, undef, undef, undef, undef, undef, undef, undef, undef, undef, undef, undef, undef, undef, undef, undef, undef, undef, undef, undef], defers := [] }) ?assign ?body ?done ?stop
  case assign =>
    intro l x W K hK
    gi_wp2
    exact hK
  case body =>
    rintro l pre j W ⟨⟨v, h1, h2⟩, ⟨h3, h4, h5, h8, h9, h10⟩, h6, h7⟩ hlt
    have hj := j.2
    have hn0 : 0 < n := by omega
    have hjM : (j.1 + 1) * n ≤ M := by rw [HM.out]; exact Nat.mul_le_mul_right n hj
    rw [Nat.succ_mul] at hjM
    have hpM : (pre.length + 1) * n ≤ M := by rw [HM.out]; exact Nat.mul_le_mul_right n hlt
    rw [Nat.succ_mul] at hpM
    obtain ⟨ad, rfl, had, hcell⟩ := hR (by omega)
    have hadS := hAS ad rfl (by omega)
    have hcw := keptS_cells hcell h7 had hadS
    have hc1 : W.cell? ⟨w.heap.size + 1, 0, none⟩ = some (.func (.func ff) #[] lb) := h3.cell 0
    have HST := hid (hstep (run st n (fun j i => x (j * n + i)) s0 (pre.map (·.1))).1 W (ad.add (j.1 * n)) (fun i => x (j.1 * n + i)) h6 (by omega) (by rw [add_block]; exact had) (by rw [add_block]; exact hadS) (fun i hi => by rw [add_add]; exact hcw _ (by omega)) (fun i hi => hx _ (by omega)))
    have hrl := run_len st n (fun j i => x (j * n + i)) s0 (pre.map (·.1))
    have hrs := run_snoc st n (fun j i => x (j * n + i)) s0 (pre.map (·.1)) j.1
    rw [List.length_map] at hrl
    generalize hru : run st n (fun j i => x (j * n + i)) s0 (pre.map (·.1)) = ru at *
    clear hstep hcw hcell hR hx
    gi_wp2
    refine ⟨trivial, (CallsIn.inRound l (callsIn_wide.2 HST.out)).mono ?_⟩
    rintro e W1 ⟨hK1, hI1, g, t, rfl, hg⟩
    have hnS : ∀ k, w.heap.size ≤ k → k ∉ S := fun k hk e => by have := hS k e; omega
    have k1 := KeptS.blk hK1 h1 (hnS _ (by omega))
    have k2 := own_keptS h2 hK1 hS
    have hc5 : W1.cell? ⟨w.heap.size + 1 + 1 + 1 + 1 + 1, 0, none⟩ = some v := k1.cell 0
    gi_wp2_with (gi_at_builtin; refine wpi_app rfl _ _ 22 rfl w.heap.size 5 Tryz.underlying22 info8 v (pre.length * n) _ rfl k2 n n g _ t hg rfl hn0 (by omega) (by have := hK1.size; omega) ?_; intro g' c' W2 hown2 hgrow; have q1 := k1.grown hgrow (ne_own k2 k1 (by decide)); have hc6 : W2.cell? ⟨w.heap.size + 1 + 1 + 1 + 1 + 1, 0, none⟩ = some v := q1.cell 0; have hf6 := q1.free 0)
    have hs1 := hK1.size
    have hgr : W2.grownBy (W2.setCell ⟨w.heap.size + 1 + 1 + 1 + 1 + 1, 0, none⟩ (.slice (some ⟨g', 0, none⟩) (pre.length * n + n) c')) (some (w.heap.size + 1 + 1 + 1 + 1 + 1)) := grownBy_setCell' _ _ _
    have hown3 : ∀ r, v.ownBlock = some r → w.heap.size ≤ r := fun r e => (own_ge k2 e).1
    have car1 : ∀ k t cs, Blk W1 k t cs → t ≠ 5 → k ≠ w.heap.size + 1 + 1 + 1 + 1 + 1 → Blk (W2.setCell ⟨w.heap.size + 1 + 1 + 1 + 1 + 1, 0, none⟩ (.slice (some ⟨g', 0, none⟩) (pre.length * n + n) c')) k t cs := fun k t cs hb ht hk =>
      (hb.grown hgrow (ne_own k2 hb ht)).other _ _ hk
    have car : ∀ k t cs, Blk W k t cs → w.heap.size ≤ k → t ≠ 5 → k ≠ w.heap.size + 1 + 1 + 1 + 1 + 1 → Blk (W2.setCell ⟨w.heap.size + 1 + 1 + 1 + 1 + 1, 0, none⟩ (.slice (some ⟨g', 0, none⟩) (pre.length * n + n) c')) k t cs := fun k t cs hb hw ht hk =>
      car1 k t cs (KeptS.blk hK1 hb (hnS _ hw)) ht hk
    have e3 := car _ _ _ h3 (by omega) (by decide) (by omega)
    have e4 := car _ _ _ h4 (by omega) (by decide) (by omega)
    have e5 := car _ _ _ h5 (by omega) (by decide) (by omega)
    have e8 := car _ _ _ h8 (by omega) (by decide) (by omega)
    have e9 := car _ _ _ h9 (by omega) (by decide) (by omega)
    have hKF : KeepsFrom W0.heap.size W (W2.setCell ⟨w.heap.size + 1 + 1 + 1 + 1 + 1, 0, none⟩ (.slice (some ⟨g', 0, none⟩) (pre.length * n + n) c')) := by
      refine (KeepsFrom.trans (Y := W1) ⟨hK1.size, fun k o hB hk _ => (hK1.block k (Array.getElem?_eq_some_iff.1 hk).1 (hnS _ (by omega))).trans hk⟩ ?_).trans ((KeepsOthers.setCell _ _ _).from _)
      refine ⟨hgrow.size, fun k o hB hk ho => (hgrow.block k (Array.getElem?_eq_some_iff.1 hk).1 fun e => ?_).trans hk⟩
      obtain ⟨-, cs, hcs⟩ := own_ge k2 e.symm
      rw [hcs.out] at hk
      cases hk
      cases ho
    refine ⟨hKF, ?_, ?_⟩
    · intro q hq
      simp only [List.mem_cons, List.not_mem_nil, or_false] at hq
      rcases hq with rfl | rfl
      · exact e8.out.trans h8.out.symm
      · exact e9.out.trans h9.out.symm
    · have hlen : (pre ++ [j]).length * n = pre.length * n + n := by simp [Nat.succ_mul]
      unfold EI
      rw [hlen, List.map_append, List.map_cons, List.map_nil, hrs, hrl]
      refine ⟨⟨_, q1.setCell 0 _, own_blks hown2 fun b cs hb => hb.other _ _ ?_⟩, ⟨e3, e4, e5, e8, e9, by have := hKF.size; omega⟩, ?_, ?_⟩
      · intro e
        have e' : b = w.heap.size + 1 + 1 + 1 + 1 + 1 := e
        subst e'
        have := hb.out.symm.trans q1.out
        simp at this
      · refine hdep _ W1 _ hI1 ?_ fun b t cs hb ht => ?_
        · exact (below_grown (by omega) hgrow hown3).trans (below_grown (by have := hgrow.size; omega) hgr fun r e => by cases e; omega)
        · by_cases hk : b = w.heap.size + 1 + 1 + 1 + 1 + 1
          · subst hk
            have := hb.out.symm.trans k1.out
            simp at this
            rcases ht with rfl | rfl <;> exact absurd this.2 (by decide)
          · exact car1 b t cs hb (by rcases ht with rfl | rfl <;> decide) hk
      · exact keptS_grown (keptS_grown (h7.trans hK1) hgrow hown3) hgr fun r e => by cases e; omega
  case done =>
    rintro D ys W hD rfl ⟨⟨v, h1, h2⟩, ⟨h3, h4, h5, h8, h9, h10⟩, h6, h7⟩ hK
    rw [ixs_map N (Nat.le_refl _)] at h2 h6
    rw [ixs_len N (Nat.le_refl _), ← HM.out] at h2
    have hc5 : W.cell? ⟨w.heap.size + 1 + 1 + 1 + 1 + 1, 0, none⟩ = some v := h1.cell 0
    have hc2 : W.cell? ⟨w.heap.size + 1 + 1, 0, none⟩ = some (.slice none 0 0) := h4.cell 0
    have hf2 := h4.free 0
    obtain ⟨Av, cv, rfl, hcv⟩ := h2.slice
    have m2 : Blk (W.setCell ⟨w.heap.size + 1 + 1, 0, none⟩ (.slice Av M cv)) (w.heap.size + 1 + 1) 22 #[.slice Av M cv] := h4.setCell 0 (.slice Av M cv)
    have m3 := h5.other ⟨w.heap.size + 1 + 1, 0, none⟩ (.slice Av M cv) (by simp)
    have hc3 : (W.setCell ⟨w.heap.size + 1 + 1, 0, none⟩ (.slice Av M cv)).cell? ⟨w.heap.size + 1 + 1 + 1, 0, none⟩ = some .nilIface := m3.cell 0
    have hf3 := m3.free 0
    gi_wp2
    have hK1 := (KeepsOthers.setCell W ⟨w.heap.size + 1 + 1, 0, none⟩ (.slice Av M cv)).same D _ hK rfl
    have hK2 := (KeepsOthers.setCell (W.setCell ⟨w.heap.size + 1 + 1, 0, none⟩ (.slice Av M cv)) ⟨w.heap.size + 1 + 1 + 1, 0, none⟩ .nilIface).same D _ hK1 rfl
    have g1 : W.grownBy (W.setCell ⟨w.heap.size + 1 + 1, 0, none⟩ (.slice Av M cv)) (some (w.heap.size + 1 + 1)) := grownBy_setCell' _ _ _
    have g2 : (W.setCell ⟨w.heap.size + 1 + 1, 0, none⟩ (.slice Av M cv)).grownBy ((W.setCell ⟨w.heap.size + 1 + 1, 0, none⟩ (.slice Av M cv)).setCell ⟨w.heap.size + 1 + 1 + 1, 0, none⟩ .nilIface) (some (w.heap.size + 1 + 1 + 1)) := grownBy_setCell' _ _ _
    refine ⟨by simp, .inl ⟨_, _, rfl, run_takeDeferred hK2, ?_⟩⟩
    have n2 : Blk ((W.setCell ⟨w.heap.size + 1 + 1, 0, none⟩ (.slice Av M cv)).setCell ⟨w.heap.size + 1 + 1 + 1, 0, none⟩ .nilIface) (w.heap.size + 1 + 1) 22 #[.slice Av M cv] := m2.other _ _ (by simp)
    have n3 : Blk ((W.setCell ⟨w.heap.size + 1 + 1, 0, none⟩ (.slice Av M cv)).setCell ⟨w.heap.size + 1 + 1 + 1, 0, none⟩ .nilIface) (w.heap.size + 1 + 1 + 1) 31 #[.nilIface] := m3.setCell 0 _
    have g3 := grownBy_putObj' ((W.setCell ⟨w.heap.size + 1 + 1, 0, none⟩ (.slice Av M cv)).setCell ⟨w.heap.size + 1 + 1 + 1, 0, none⟩ .nilIface) D (.deferred none)
    have hr3 : ∀ r, some D = some r → W0.heap.size ≤ r ∧ ∃ o : Obj, ((W.setCell ⟨w.heap.size + 1 + 1, 0, none⟩ (.slice Av M cv)).setCell ⟨w.heap.size + 1 + 1 + 1, 0, none⟩ .nilIface).heap[r]? = some o ∧ o.isCells = false := fun r e => by cases e; exact ⟨hD, _, hK2, rfl⟩
    have o2 := blk_nonc n2 g3 hr3
    have o3 := blk_nonc n3 g3 hr3
    have oc2 := o2.cell 0
    have oc3 := o3.cell 0
    have all3 : ∀ b t cs, Blk W b t cs → (t = 37 ∨ t = 132 ∨ t = 5) → Blk (((W.setCell ⟨w.heap.size + 1 + 1, 0, none⟩ (.slice Av M cv)).setCell ⟨w.heap.size + 1 + 1 + 1, 0, none⟩ .nilIface).putObj D (.deferred none)) b t cs := by
      intro b t cs hb ht
      refine blk_nonc ((hb.other _ _ ?_).other _ _ ?_) g3 hr3
      · intro e
        have e' : b = w.heap.size + 1 + 1 := e
        subst e'
        have := hb.out.symm.trans h4.out
        simp at this
        rcases ht with rfl | rfl | rfl <;> exact absurd this.2 (by decide)
      · intro e
        have e' : b = w.heap.size + 1 + 1 + 1 := e
        subst e'
        have := hb.out.symm.trans h5.out
        simp at this
        rcases ht with rfl | rfl | rfl <;> exact absurd this.2 (by decide)
    have hsz2 := g1.size
    have hsz3 := g2.size
    refine ⟨.tuple #[.slice Av M cv, .nilIface], ?_, keptS_grown (keptS_grown (keptS_grown h7 g1 fun r e => by cases e; omega) g2 fun r e => by cases e; omega) g3 (fun r e => by cases e; omega), .slice Av M cv, rfl, own_blks h2 (fun b cs hb => all3 b _ cs hb (.inr (.inr rfl))), hdep _ W _ h6 ?_ (fun b t cs hb ht => all3 b t cs hb (by rcases ht with h | h; exact .inl h; exact .inr (.inl h)))⟩
    · simp [results, Tryz.f48, go_sem, oc2, oc3]
    · exact ((below_grown (by omega) g1 fun r e => by cases e; omega).trans (below_grown (by omega) g2 fun r e => by cases e; omega)).trans (below_grown (by omega) g3 fun r e => by cases e; omega)
  case stop =>
    rintro D c pre W _ _ h _
    exact h.elim
end Go.Proofs.YtmmgimpokpgnaaaGreatDoor.Md
