/-
 Mode6 Mode7 Mode8 Mode10
-/
import Derived.Test.YtlmnoapoofmmnaaGreatDoorModeX
namespace Go.Proofs.YtlmnoapoofmmnaaGreatDoor.Md
open Mem Bk Go.ChangeShapes Go.WideShapes Go.ChangeAt Go.RowKit Go.Shelf
attribute [local go_sem] Oper.semAt_some
theorem opIn_inRound {F : Fence} {n l i : Nat} {P : Program} {ops : Array Oper} {Q : Exit → Act → World → Prop} {K : Act → World → Prop} {a : Act} {w : World} (hi : ∀ o, ops[i]? = some o → ∀ c, o.op ≠ .defer c) (h : wpOpIn F n P ops Q i K a w) : wpOpIn (F.inRound l) n P ops Q i K a w := by
 unfold wpOpIn at *
 cases ho : ops[i]? with
 | none => simp only [ho] at h ⊢; exact h
 | some o =>
  simp only [ho] at h ⊢
  split
  ·rename_i hw
   simp only [hw, if_true] at h
   unfold Oper.wpIn at *
   rw [Oper.semAt_eq _ _ _ (hi o ho)] at h ⊢
   refine ⟨h.1, ?_⟩
   have h := h.2
   generalize (execOp a.eval o).run P w = r at *
   cases r with
   | ok x w' => cases x <;> exact h
   | halt x w' => cases x <;> exact h
  rename_i hw
  rw [if_neg hw] at h
  exact h
def calm (ops : Array Oper) : Bool := ops.toList.all fun o => match o.op with | .defer _ => false | _ => true
theorem any_inRound {F : Fence} {n l : Nat} {P : Program} {md : Region.Mode} {ops : Array Oper} {Q : Exit → Act → World → Prop} (hc : calm ops = true) : ∀ (fuel : Nat) (listed : Array Bool) (a : Act) (w : World), wpAnyIn F n P md ops Q fuel listed a w → wpAnyIn (F.inRound l) n P md ops Q fuel listed a w
 | 0, _, _, _, h => h
 | fuel + 1, listed, a, w, h => by
  refine ⟨h.1, fun i hi => opIn_inRound (fun o ho c e => ?_) (wpOpIn_mono (any_inRound hc fuel _) (h.2 i hi))⟩
  have := List.all_eq_true.1 hc o (by rw [Array.mem_toList_iff]; exact Array.mem_of_getElem? ho)
  rw [e] at this
  cases this
theorem region_inRound {F : Fence} {n l id : Nat} {P : Program} {ops : Array Oper} {Q : Exit → Act → World → Prop} {a : Act} {w : World} (hm : P.follows .mixedOrders = true) (hc : calm ops = true) (h : wpAnyIn F n P .any ops Q ops.size (Array.replicate ops.size false) a w.drew) : (Code.region id ops true).wpIn (F.inRound l) n P Q a w :=
 wpIn_region_any hm (any_inRound hc _ _ _ _ h)
def FinO (w W1 : World) (g k : Nat) (W' : World) (f : Nat) : Prop :=
 Below w.heap.size W1 W' ∧ W1.heap.size ≤ W'.heap.size ∧ (∀ b, b < W1.heap.size → b ≠ w.heap.size + 1 + 1 → b ≠ w.heap.size + 1 + 1 + 1 → W'.heap[b]? = W1.heap[b]?) ∧ Blk W' (w.heap.size + 1 + 1) 22 #[.slice none 0 0] ∧ Blk W' (w.heap.size + 1 + 1 + 1) 29 #[.iface 66 (.pointer (some ⟨f, 0, none⟩))] ∧ Blk W' f 69 #[.int .i64 (k : Int), .iface 66 (.pointer (some ⟨g, 0, none⟩))]
theorem finO_1 {w W1 : World} {x2 x3 : Value} (g k : Nat) (h2 : Blk W1 (w.heap.size + 1 + 1) 22 #[x2]) (h3 : Blk W1 (w.heap.size + 1 + 1 + 1) 29 #[x3]) (hs : w.heap.size + 8 ≤ W1.heap.size) :
  FinO w W1 g k (((W1.alloc (.cells #[.int .i64 (k : Int), .iface 66 (.pointer (some ⟨g, 0, none⟩))] 69)).setCell ⟨w.heap.size + 1 + 1, 0, none⟩ (.slice none 0 0)).setCell ⟨w.heap.size + 1 + 1 + 1, 0, none⟩ (.iface 66 (.pointer (some ⟨W1.heap.size, 0, none⟩)))).drew W1.heap.size := by
 refine ⟨((((Below.refl _ W1).alloc (by omega) _).grown (grownBy_setCell' _ _ _) (by simp <;> omega) (fun r e => by cases e; omega)).grown (grownBy_setCell' _ _ _) (by simp <;> omega) (fun r e => by cases e; omega)).drew, by simp, fun b hb h2' h3' => ?_, ?_, ?_, ?_⟩
 ·exact (heap_setCell_other _ _ b _ h3').trans ((heap_setCell_other _ _ b _ h2').trans (Below.heap_alloc _ _ b hb))
 ·exact (((h2.alloc _).setCell 0 _).other _ _ (by simp)).drew
 ·exact (((h3.alloc _).other _ _ (by simp)).setCell 0 _).drew
 exact (((Blk.fresh W1 _ _).other _ _ (by simp <;> omega)).other _ _ (by simp <;> omega)).drew
theorem finO_2 {w W1 : World} {x2 x3 : Value} (g k : Nat) (h2 : Blk W1 (w.heap.size + 1 + 1) 22 #[x2]) (h3 : Blk W1 (w.heap.size + 1 + 1 + 1) 29 #[x3]) (hs : w.heap.size + 8 ≤ W1.heap.size) :
  FinO w W1 g k (((W1.setCell ⟨w.heap.size + 1 + 1, 0, none⟩ (.slice none 0 0)).alloc (.cells #[.int .i64 (k : Int), .iface 66 (.pointer (some ⟨g, 0, none⟩))] 69)).setCell ⟨w.heap.size + 1 + 1 + 1, 0, none⟩ (.iface 66 (.pointer (some ⟨W1.heap.size, 0, none⟩)))).drew W1.heap.size := by
 have hz : (W1.setCell ⟨w.heap.size + 1 + 1, 0, none⟩ (.slice none 0 0)).heap.size = W1.heap.size := by simp
 refine ⟨((((Below.refl _ W1).grown (grownBy_setCell' _ _ _) (by omega) (fun r e => by cases e; omega)).alloc (by omega) _).grown (grownBy_setCell' _ _ _) (by simp <;> omega) (fun r e => by cases e; omega)).drew, by simp, fun b hb h2' h3' => ?_, ?_, ?_, ?_⟩
 ·exact (heap_setCell_other _ _ b _ h3').trans ((Below.heap_alloc _ _ b (by rw [hz]; exact hb)).trans (heap_setCell_other _ _ b _ h2'))
 ·exact (((h2.setCell 0 _).alloc _).other _ _ (by simp)).drew
 ·exact (((h3.other _ _ (by simp)).alloc _).setCell 0 _).drew
 have h := Blk.fresh (W1.setCell ⟨w.heap.size + 1 + 1, 0, none⟩ (.slice none 0 0)) 69 #[.int .i64 (k : Int), .iface 66 (.pointer (some ⟨g, 0, none⟩))]
 rw [hz] at h
 exact (h.other _ _ (by simp <;> omega)).drew
def nextO {σ : Type} (st : σ → (Nat → Nat) → Option (Nat → Nat) × σ) (n : Nat) (r : σ × (Nat → Nat) × Nat) (x : Nat → Nat) : Option (σ × (Nat → Nat) × Nat) :=
 match (st r.1 x).1 with
 | some y => some ((st r.1 x).2, cat r.2.2 r.2.1 y, r.2.2 + n)
 | none => none
def runO {σ : Type} (st : σ → (Nat → Nat) → Option (Nat → Nat) × σ) (n : Nat) (xb : Nat → Nat → Nat) (s0 : σ) (l : List Nat) : Option (σ × (Nat → Nat) × Nat) :=
 l.foldl (fun r j => r.bind fun r => nextO st n r (xb j)) (some (s0, (fun _ => 0), 0))
theorem runO_snoc {σ : Type} (st : σ → (Nat → Nat) → Option (Nat → Nat) × σ) (n : Nat) (xb : Nat → Nat → Nat) (s0 : σ) (l : List Nat) (j : Nat) : runO st n xb s0 (l ++ [j]) = (runO st n xb s0 l).bind fun r => nextO st n r (xb j) := by
 unfold runO; rw [List.foldl_append]; rfl
theorem runO_len {σ : Type} (st : σ → (Nat → Nat) → Option (Nat → Nat) × σ) (n : Nat) (xb : Nat → Nat → Nat) (s0 : σ) : ∀ (k : Nat) (l : List Nat) (r : σ × (Nat → Nat) × Nat), l.length = k → runO st n xb s0 l = some r → r.2.2 = k * n
 | 0, l, r, hk, h => by
  rw [List.length_eq_zero_iff.1 hk] at h
  simp only [runO, List.foldl_nil, Option.some.injEq] at h
  rw [← h]; simp
 | k + 1, l, r, hk, h => by
  obtain ⟨l', j, rfl⟩ : ∃ l' j, l = l' ++ [j] := by
   rcases List.eq_nil_or_concat l with rfl | ⟨l', j, rfl⟩
   ·simp at hk
   exact ⟨l', j, by simp⟩
  rw [runO_snoc] at h
  cases h1 : runO st n xb s0 l' with
  | none => rw [h1] at h; cases h
  | some r1 =>
   rw [h1] at h
   have e := runO_len st n xb s0 k l' r1 (by simpa using hk) h1
   simp only [Option.bind_some, nextO] at h
   split at h
   ·cases h
    show r1.2.2 + n = _
    rw [e, Nat.succ_mul]
   cases h
def EIo {σ : Type} (Inv : σ → World → Prop) (st : σ → (Nat → Nat) → Option (Nat → Nat) × σ) (S : List Nat) (fv tv : Value) (n N : Nat) (x : Nat → Nat) (s0 : σ) (w : World) (pre : List {j : Nat // j < N}) (W : World) : Prop :=
 ∃ r, runO st n (fun j i => x (j * n + i)) s0 (pre.map (·.1)) = some r ∧
 (∃ v, Blk W (w.heap.size + 1 + 1 + 1 + 1 + 1) 22 #[v] ∧ Mem.Own W w.heap.size 5 1 v (pre.length * n) r.2.1) ∧
 (Blk W (w.heap.size + 1) 60 #[fv] ∧ Blk W (w.heap.size + 1 + 1) 22 #[.slice none 0 0] ∧ Blk W (w.heap.size + 1 + 1 + 1) 29 #[.nilIface] ∧ Blk W (w.heap.size + 1 + 1 + 1 + 1 + 1 + 1) 22 #[tv] ∧ Blk W (w.heap.size + 1 + 1 + 1 + 1 + 1 + 1 + 1) 3 #[.int .i64 (n : Int)] ∧ Blk W w.heap.size 3 #[.int .i64 (n : Int)] ∧ w.heap.size + 8 ≤ W.heap.size) ∧
 Inv r.1 W ∧ KeptS S w W
def EXo {σ : Type} (Inv : σ → World → Prop) (st : σ → (Nat → Nat) → Option (Nat → Nat) × σ) (S : List Nat) (n N : Nat) (x : Nat → Nat) (s0 : σ) (w : World) (c : Code) (pre : List {j : Nat // j < N}) (W : World) : Prop :=
 c = .ret ∧ ∃ (pre' : List {j : Nat // j < N}) (j : {j : Nat // j < N}) (r : σ × (Nat → Nat) × Nat) (f g : Nat) (xv : Value), pre = pre' ++ [j] ∧ runO st n (fun j i => x (j * n + i)) s0 (pre'.map (·.1)) = some r ∧ (st r.1 (fun i => x (j.1 * n + i))).1 = none ∧
  Blk W (w.heap.size + 1 + 1) 22 #[.slice none 0 0] ∧ Blk W (w.heap.size + 1 + 1 + 1) 29 #[.iface 66 (.pointer (some ⟨f, 0, none⟩))] ∧ Blk W f 69 #[.int .i64 (pre'.length : Int), .iface 66 (.pointer (some ⟨g, 0, none⟩))] ∧ Blk W g 69 #[xv, .iface 56 (.int .i64 13)] ∧ w.heap.size + 8 ≤ W.heap.size ∧
  Inv (st r.1 (fun i => x (j.1 * n + i))).2 W ∧ KeptS S w W
theorem EIo.own {σ : Type} {Inv : σ → World → Prop} {st : σ → (Nat → Nat) → Option (Nat → Nat) × σ} {S : List Nat} {fv tv : Value} {n N : Nat} {x : Nat → Nat} {s0 : σ} {w : World} (hdep : Dep w.heap.size Inv) {B : Nat} (hB : w.heap.size ≤ B) : OwnFrom B (EIo Inv st S fv tv n N x s0 w) := by
 rintro pre W W' row ⟨r0, hr0, ⟨v, h1, h2⟩, ⟨h3, h4, h5, h8, h9, h11, h10⟩, h6, h7⟩ hg hr
 have hr' : ∀ r, row = some r → w.heap.size ≤ r := fun r e => Nat.le_trans hB (hr r e).1
 exact ⟨r0, hr0, ⟨v, blk_nonc h1 hg hr, own_blks h2 fun g cs hb => blk_nonc hb hg hr⟩, ⟨blk_nonc h3 hg hr, blk_nonc h4 hg hr, blk_nonc h5 hg hr, blk_nonc h8 hg hr, blk_nonc h9 hg hr, blk_nonc h11 hg hr, Nat.le_trans h10 hg.size⟩, hdep _ W W' h6 (below_grown h7.size hg hr') (fun g t cs hb _ => blk_nonc hb hg hr), keptS_grown h7 hg hr'⟩
theorem EXo.own {σ : Type} {Inv : σ → World → Prop} {st : σ → (Nat → Nat) → Option (Nat → Nat) × σ} {S : List Nat} {n N : Nat} {x : Nat → Nat} {s0 : σ} {w : World} (hdep : Dep w.heap.size Inv) {B : Nat} (hB : w.heap.size ≤ B) (c : Code) : OwnFrom B (EXo Inv st S n N x s0 w c) := by
 rintro pre W W' row ⟨hc, pre', j, r, f, g, xv, e1, e2, e3, h4, h5, h6, h7, h8, h9, h10⟩ hg hr
 have hr' : ∀ r, row = some r → w.heap.size ≤ r := fun r e => Nat.le_trans hB (hr r e).1
 exact ⟨hc, pre', j, r, f, g, xv, e1, e2, e3, blk_nonc h4 hg hr, blk_nonc h5 hg hr, blk_nonc h6 hg hr, blk_nonc h7 hg hr, Nat.le_trans h8 hg.size, hdep _ W W' h9 (below_grown h10.size hg hr') (fun g t cs hb _ => blk_nonc hb hg hr), keptS_grown h10 hg hr'⟩
set_option maxRecDepth 100000 in
set_option maxHeartbeats 2000000 in
theorem each_opt {σ : Type} (Inv InvF : σ → World → Prop) (st : σ → (Nat → Nat) → Option (Nat → Nat) × σ) (S : List Nat) (ff : Nat) (lb : Array Value) (n N M c : Nat) (A : Option Addr) (x : Nat → Nat) (s0 : σ) (w : World)
  (hn : n = 8 ∨ n = 16) (hM : M = N * n) (hN : M ≤ 100000) (hc : M ≤ c) (hA : A = none → M = 0) (hx : ∀ i, i < M → x i < 256) (hR : Reads w w.heap.size A M x) (hAS : ∀ ad, A = some ad → 0 < M → ad.block ∉ S) (hS : ∀ g ∈ S, g < w.heap.size)
  (hdep : Dep w.heap.size Inv) (hdepF : Dep w.heap.size InvF) (h0 : Inv s0 w) (hen : ∀ args w, (callFunc ff args).run Tryz.prog w = .ok (.enter ff args) w)
  (hstep : ∀ s W ad y, Inv s W → w.heap.size ≤ W.heap.size → ad.block < w.heap.size → ad.block ∉ S → (∀ i, i < n → W.cell? (ad.add i) = some (.int .u8 ((y i : Nat) : Int))) → (∀ i, i < n → y i < 256) →
   Calls Tryz.prog ff (#[.slice (some ad) n n] ++ lb) W fun e W' => KeptS S W W' ∧ ((∃ o g t, (st s y).1 = some o ∧ e = .returned (.tuple #[.slice (some ⟨g, 0, none⟩) n n, .nilIface]) ∧ Blk W' g t (row n (b8 o)) ∧ Inv (st s y).2 W') ∨ (∃ g xv, (st s y).1 = none ∧ e = .returned (.tuple #[.slice none 0 0, .iface 66 (.pointer (some ⟨g, 0, none⟩))]) ∧ Blk W' g 69 #[xv, .iface 56 (.int .i64 13)] ∧ InvF (st s y).2 W'))) :
  Calls Tryz.prog 24 #[.slice A M c, .int .i64 (n : Int), .func (.func ff) #[] lb] w fun e w' => KeptS S w w' ∧ ((∃ r v, runO st n (fun j i => x (j * n + i)) s0 (List.range N) = some r ∧ e = .returned (.tuple #[v, .nilIface]) ∧ Mem.Own w' w.heap.size 5 1 v M r.2.1 ∧ Inv r.1 w') ∨
   (∃ k r f g xv, k < N ∧ runO st n (fun j i => x (j * n + i)) s0 (List.range k) = some r ∧ (st r.1 (fun i => x (k * n + i))).1 = none ∧ e = .returned (.tuple #[.slice none 0 0, .iface 66 (.pointer (some ⟨f, 0, none⟩))]) ∧ Blk w' f 69 #[.int .i64 (k : Int), .iface 66 (.pointer (some ⟨g, 0, none⟩))] ∧ Blk w' g 69 #[xv, .iface 56 (.int .i64 13)] ∧ InvF (st r.1 (fun i => x (k * n + i))).2 w')) := by
 refine (callsIn_wide (n := 3)).1 ?_
 refine callsIn_of_wp_marks Tryz.func24 rfl trivial ?_ rfl
 simp only [Tryz.ntmps24, List.size_toArray, List.length_cons, List.length_nil, Nat.reduceAdd, Nat.reduceSub, Array.replicate_succ, Array.replicate_zero, List.push_toArray, List.append_toArray, List.nil_append, List.cons_append]
 have hmk := make0 M hN
 have HM := hid hM
 clear hM
 gi_wp2_with (refine ⟨trivial, ?_⟩; gi_at_call 45; refine (callsIn_wide.2 (chunk_any _ _ _ _ hn _)).mono ?_; rintro e w' ⟨rfl, rfl⟩)
 have hB0 : Below w.heap.size w ((((((((w.alloc (.cells #[.int .i64 (n : Int)] 3)).alloc (.cells #[.func (.func ff) #[] lb] 60)).alloc (.cells #[.slice none 0 0] 22)).alloc (.cells #[.nilIface] 29)).alloc (.cells (row M (b8 fun _ => 0)) 5)).alloc (.cells #[.slice (some ⟨w.heap.size + 1 + 1 + 1 + 1, 0, none⟩) 0 M] 22)).alloc (.cells #[.slice A M c] 22)).alloc (.cells #[.int .i64 (n : Int)] 3)) :=
  (((((((((Below.refl _ w).alloc (Nat.le_refl _) _).alloc (by simp <;> omega) _).alloc (by simp <;> omega) _).alloc (by simp <;> omega) _).alloc (by simp <;> omega) _).alloc (by simp <;> omega) _).alloc (by simp <;> omega) _).alloc (by simp <;> omega) _)
 have hz : ((((((((w.alloc (.cells #[.int .i64 (n : Int)] 3)).alloc (.cells #[.func (.func ff) #[] lb] 60)).alloc (.cells #[.slice none 0 0] 22)).alloc (.cells #[.nilIface] 29)).alloc (.cells (row M (b8 fun _ => 0)) 5)).alloc (.cells #[.slice (some ⟨w.heap.size + 1 + 1 + 1 + 1, 0, none⟩) 0 M] 22)).alloc (.cells #[.slice A M c] 22)).alloc (.cells #[.int .i64 (n : Int)] 3)).heap.size = w.heap.size + 8 := by simp
 generalize hW0 : ((((((((w.alloc (.cells #[.int .i64 (n : Int)] 3)).alloc (.cells #[.func (.func ff) #[] lb] 60)).alloc (.cells #[.slice none 0 0] 22)).alloc (.cells #[.nilIface] 29)).alloc (.cells (row M (b8 fun _ => 0)) 5)).alloc (.cells #[.slice (some ⟨w.heap.size + 1 + 1 + 1 + 1, 0, none⟩) 0 M] 22)).alloc (.cells #[.slice A M c] 22)).alloc (.cells #[.int .i64 (n : Int)] 3)) = W0 at hB0 hz ⊢
 have b1 : Blk W0 (w.heap.size + 1) 60 #[.func (.func ff) #[] lb] := by rw [← hW0]; repeat (first | exact blk_fresh (by simp) _ _ | apply Blk.alloc)
 have b2 : Blk W0 (w.heap.size + 1 + 1) 22 #[.slice none 0 0] := by rw [← hW0]; repeat (first | exact blk_fresh (by simp) _ _ | apply Blk.alloc)
 have b3 : Blk W0 (w.heap.size + 1 + 1 + 1) 29 #[.nilIface] := by rw [← hW0]; repeat (first | exact blk_fresh (by simp) _ _ | apply Blk.alloc)
 have b4 : Blk W0 (w.heap.size + 1 + 1 + 1 + 1) 5 (row M (b8 fun _ => 0)) := by rw [← hW0]; repeat (first | exact blk_fresh (by simp) _ _ | apply Blk.alloc)
 have b5 : Blk W0 (w.heap.size + 1 + 1 + 1 + 1 + 1) 22 #[.slice (some ⟨w.heap.size + 1 + 1 + 1 + 1, 0, none⟩) 0 M] := by rw [← hW0]; repeat (first | exact blk_fresh (by simp) _ _ | apply Blk.alloc)
 have b6 : Blk W0 (w.heap.size + 1 + 1 + 1 + 1 + 1 + 1) 22 #[.slice A M c] := by rw [← hW0]; repeat (first | exact blk_fresh (by simp) _ _ | apply Blk.alloc)
 have b7 : Blk W0 (w.heap.size + 1 + 1 + 1 + 1 + 1 + 1 + 1) 3 #[.int .i64 (n : Int)] := by rw [← hW0]; repeat (first | exact blk_fresh (by simp) _ _ | apply Blk.alloc)
 have b0 : Blk W0 w.heap.size 3 #[.int .i64 (n : Int)] := by rw [← hW0]; exact (((((((Blk.fresh w 3 _).alloc _).alloc _).alloc _).alloc _).alloc _).alloc _).alloc _
 have hown0 : Mem.Own W0 w.heap.size 5 1 (.slice (some ⟨w.heap.size + 1 + 1 + 1 + 1, 0, none⟩) 0 M) 0 (fun _ => 0) := ⟨by simp, .inr ⟨_, _, _, rfl, by omega, b4, by omega, by unfold maxLen; omega, by simp [row_size], by simp⟩⟩
 clear hW0
 refine wpIn_rangeFunc_ownG rfl (by omega) (gf := 64) (lb := #[.pointer (some ⟨w.heap.size + 1 + 1 + 1 + 1 + 1 + 1, 0, none⟩), .pointer (some ⟨w.heap.size + 1 + 1 + 1 + 1 + 1 + 1 + 1, 0, none⟩)]) rfl trivial (enters_of Tryz.func64 (by kernel_rfl) rfl)
  (chunk_stops Fence.wide _ trivial rfl (by omega) _ _ n N M c A [w.heap.size + 1 + 1 + 1 + 1 + 1 + 1, w.heap.size + 1 + 1 + 1 + 1 + 1 + 1 + 1] hn HM.out hN hc hA (by simp) (by simp) W0 b6 b7) kpL_t (kpL_b (by simp [hz])) (Below.refl _ _) (fun _ => rfl)
  (EIo Inv st S (.func (.func ff) #[] lb) (.slice A M c) n N x s0 w) (EXo InvF st S n N x s0 w) (EIo.own hdep (by omega)) (fun c => EXo.own hdepF (by omega) c)
  ⟨_, rfl, ⟨_, b5, by simpa using hown0⟩, ⟨b1, b2, b3, b6, b7, b0, by omega⟩, hdep _ _ _ h0 hB0 (fun g t cs hb _ => hb.below hB0 hb.lt), KeptS.of S hB0⟩
  (fun j => { tmps := #[.slice A M c, .int .i64 (n : Int), .func (.func ff) #[] lb, undef, .pointer (some ⟨w.heap.size, 0, none⟩), .pointer (some ⟨w.heap.size + 1, 0, none⟩), .pointer (some ⟨w.heap.size + 1 + 1, 0, none⟩), .pointer (some ⟨w.heap.size + 1 + 1 + 1, 0, none⟩), .pointer (some ⟨w.heap.size + 1 + 1 + 1 + 1 + 1, 0, none⟩), chv (A.getD default) n j.1, undef, undef, .slice A M c, .int .i64 (M : Int), .slice (some ⟨w.heap.size + 1 + 1 + 1 + 1, 0, none⟩) 0 M, .slice A M c, .int .i64 (n : Int), .func (.func 64) #[] #[.pointer (some ⟨w.heap.size + 1 + 1 + 1 + 1 + 1 + 1, 0, none⟩), .pointer (some ⟨w.heap.size + 1 + 1 + 1 + 1 + 1 + 1 + 1, 0, none⟩)], chv (A.getD default) n j.1, undef, undef, undef, undef, undef, undef, undef, undef, undef, undef, undef, undef, undef, undef, undef, undef, undef, undef, undef, undef], defers := [] }) ?assign ?body ?done ?stop
 case assign =>
  intro l x W K hK
  gi_wp2
  exact hK
 case body =>
  rintro l pre j W ⟨ru, hru, ⟨v, h1, h2⟩, ⟨h3, h4, h5, h8, h9, h11, h10⟩, h6, h7⟩ hlt
  have hj := j.2
  have hn0 : 0 < n := by omega
  have hjM : (j.1 + 1) * n ≤ M := by rw [HM.out]; exact Nat.mul_le_mul_right n hj
  rw [Nat.succ_mul] at hjM
  have hpM : (pre.length + 1) * n ≤ M := by rw [HM.out]; exact Nat.mul_le_mul_right n hlt
  rw [Nat.succ_mul] at hpM
  obtain ⟨ad, rfl, had, hcell⟩ := hR (by omega)
  have hadS := hAS ad rfl (by omega)
  have hcw := keptS_cells hcell h7 had hadS
  have hc1 : W.cell? ⟨w.heap.size + 1, 0, none⟩ = some (.func (.func ff) #[] lb) := h3.cell 0
  have HST := hid (hstep ru.1 W (ad.add (j.1 * n)) (fun i => x (j.1 * n + i)) h6 (by omega) (by rw [add_block]; exact had) (by rw [add_block]; exact hadS) (fun i hi => by rw [add_add]; exact hcw _ (by omega)) (fun i hi => hx _ (by omega)))
  have hrl := runO_len st n (fun j i => x (j * n + i)) s0 pre.length (pre.map (·.1)) ru (by simp) hru
  have hrs := runO_snoc st n (fun j i => x (j * n + i)) s0 (pre.map (·.1)) j.1
  rw [hru, Option.bind_some] at hrs
  have HRU := hid hru
  have HRS := hid hrs
  clear hru hrs
  clear hstep hcw hcell hR hx
  gi_wp2
  refine ⟨trivial, (CallsIn.inRound l (callsIn_wide.2 HST.out)).mono ?_⟩
  rintro e W1 ⟨hK1, ⟨oy, g, t, hoy, rfl, hg, hI1⟩ | ⟨g, xv, hoy, rfl, hg, hI1⟩⟩
  rotate_left
  ·have hn0' := hn0
   have hnS : ∀ k, w.heap.size ≤ k → k ∉ S := fun k hk e => by have := hS k e; omega
   have k1 := KeptS.blk hK1 h1 (hnS _ (by omega))
   have k2 := own_keptS h2 hK1 hS
   have k4 := KeptS.blk hK1 h4 (hnS _ (by omega))
   have k5 := KeptS.blk hK1 h5 (hnS _ (by omega))
   have k11 := KeptS.blk hK1 h11 (hnS _ (by omega))
   obtain ⟨Av, cv, rfl, hcv⟩ := k2.slice
   have hc5 : W1.cell? ⟨w.heap.size + 1 + 1 + 1 + 1 + 1, 0, none⟩ = some (.slice Av (pre.length * n) cv) := k1.cell 0
   have hc0 : W1.cell? ⟨w.heap.size, 0, none⟩ = some (.int .i64 (n : Int)) := k11.cell 0
   have hc2 : W1.cell? ⟨w.heap.size + 1 + 1, 0, none⟩ = some (.slice none 0 0) := k4.cell 0
   have hc3 : W1.cell? ⟨w.heap.size + 1 + 1 + 1, 0, none⟩ = some .nilIface := k5.cell 0
   have hf2 := k4.free 0
   have hf3 := k5.free 0
   have hquo : ((pre.length * n : Nat) : Int).tdiv (n : Int) = (pre.length : Int) := by
    rw [Int.tdiv_eq_ediv_of_nonneg (by omega)]
    rw [Int.natCast_mul]
    exact Int.mul_ediv_cancel _ (by omega)
   have hquo2 : ((pre.length : Int) * (n : Int)).tdiv (n : Int) = (pre.length : Int) := by
    have h := hquo
    rw [Int.natCast_mul] at h
    exact h
   clear hquo
   have hnI : ¬ (n : Int) = 0 := by omega
   have hnN : ¬ n = 0 := by omega
   have hpl : (pre.length : Int) < 100001 := by
    have : pre.length ≤ pre.length * n := Nat.le_mul_of_pos_right _ hn0
    omega
   have hwq : IntKind.i64.wrap (pre.length : Int) = (pre.length : Int) := wrap_i64 _ _ rfl (by omega) (by omega)
   have hsz1 : w.heap.size + 8 ≤ W1.heap.size := Nat.le_trans h10 hK1.size
   have s3 := k5.other ⟨w.heap.size + 1 + 1, 0, none⟩ (.slice none 0 0) (by first | (simp; done) | (simp <;> omega) | omega)
   have s5 := k1.other ⟨w.heap.size + 1 + 1, 0, none⟩ (.slice none 0 0) (by first | (simp; done) | (simp <;> omega) | omega)
   have s0 := k11.other ⟨w.heap.size + 1 + 1, 0, none⟩ (.slice none 0 0) (by first | (simp; done) | (simp <;> omega) | omega)
   have c1 : (W1.setCell ⟨w.heap.size + 1 + 1, 0, none⟩ (.slice none 0 0)).cell? ⟨w.heap.size + 1 + 1 + 1 + 1 + 1, 0, none⟩ = some (.slice Av (pre.length * n) cv) := s5.cell 0
   have c2 : (W1.setCell ⟨w.heap.size + 1 + 1, 0, none⟩ (.slice none 0 0)).cell? ⟨w.heap.size, 0, none⟩ = some (.int .i64 (n : Int)) := s0.cell 0
   have c3 : (W1.setCell ⟨w.heap.size + 1 + 1, 0, none⟩ (.slice none 0 0)).cell? ⟨w.heap.size + 1 + 1 + 1, 0, none⟩ = some .nilIface := s3.cell 0
   have c4 := s3.free 0
   have d2 : ∀ o, (W1.alloc o).cell? ⟨w.heap.size + 1 + 1, 0, none⟩ = some (.slice none 0 0) := fun o => (k4.alloc o).cell 0
   have d3 : ∀ o, (W1.alloc o).frozen? ⟨w.heap.size + 1 + 1, 0, none⟩ = false := fun o => (k4.alloc o).free 0
   have d4 : ∀ o, (W1.alloc o).cell? ⟨w.heap.size + 1 + 1 + 1, 0, none⟩ = some .nilIface := fun o => (k5.alloc o).cell 0
   have d5 : ∀ o, (W1.alloc o).frozen? ⟨w.heap.size + 1 + 1 + 1, 0, none⟩ = false := fun o => (k5.alloc o).free 0
   have e4 : ∀ o, ((W1.setCell ⟨w.heap.size + 1 + 1, 0, none⟩ (.slice none 0 0)).alloc o).cell? ⟨w.heap.size + 1 + 1 + 1, 0, none⟩ = some .nilIface := fun o => (s3.alloc o).cell 0
   have e5 : ∀ o, ((W1.setCell ⟨w.heap.size + 1 + 1, 0, none⟩ (.slice none 0 0)).alloc o).frozen? ⟨w.heap.size + 1 + 1 + 1, 0, none⟩ = false := fun o => (s3.alloc o).free 0
   gi_wp2
   have hmx : Tryz.prog.follows .mixedOrders = true := by kernel_rfl
   clear hrl hpl
   apply suff (F := FinO w W1 g pre.length)
   case h1 =>
    intro key
    refine region_inRound hmx (by kernel_rfl) ?_
    refine wpAnyIn_take (i := 4) (v := ?_) rfl rfl (by kernel_rfl) (by kernel_rfl) (by kernel_rfl) (fun _ _ _ h => h) ⟨Or.inl ⟨by rfl, ?_⟩, fun _ => rfl⟩ ?_
    rotate_left
    ·intro w; go_simp; try rw [if_neg hnN]
     try with_reducible rfl
    refine wpAnyIn_ready (rs := [0, 2, 8]) (by kernel_rfl) (by simp) ?_
    refine AllReadyIn.cons rfl (fun K hK => ?_) ?_
    ·go_simp
     refine hK _ _ ?_
     clear hK K
     refine wpAnyIn_take (i := 1) (v := ?_) rfl rfl (by kernel_rfl) (by kernel_rfl) (by kernel_rfl) (fun _ _ _ h => h) ⟨Or.inl ⟨by rfl, ?_⟩, fun _ => rfl⟩ ?_
     rotate_left
     ·intro w; go_simp; try rw [if_neg hnN]
      try with_reducible rfl
     refine wpAnyIn_ready (rs := [2, 8]) (by kernel_rfl) (by simp) ?_
     refine AllReadyIn.cons rfl (fun K hK => ?_) ?_
     ·go_simp
      refine hK _ _ ?_
      clear hK K
      refine wpAnyIn_take (i := 3) (v := ?_) rfl rfl (by kernel_rfl) (by kernel_rfl) (by kernel_rfl) (fun _ _ _ h => h) ⟨Or.inl ⟨by rfl, ?_⟩, fun _ => rfl⟩ ?_
      rotate_left
      ·intro w; go_simp; try rw [if_neg hnN]
       try with_reducible rfl
      refine wpAnyIn_take (i := 5) (v := ?_) rfl rfl (by kernel_rfl) (by kernel_rfl) (by kernel_rfl) (fun _ _ _ h => h) ⟨Or.inl ⟨by rfl, ?_⟩, fun _ => rfl⟩ ?_
      rotate_left
      ·intro w; go_simp; try rw [if_neg hnN]
       try with_reducible rfl
      refine wpAnyIn_ready (rs := [6, 8]) (by kernel_rfl) (by simp) ?_
      refine AllReadyIn.cons rfl (fun K hK => ?_) ?_
      ·go_simp
       refine hK _ _ ?_
       clear hK K
       refine wpAnyIn_take (i := 7) (v := ?_) rfl rfl (by kernel_rfl) (by kernel_rfl) (by kernel_rfl) (fun _ _ _ h => h) ⟨Or.inl ⟨by rfl, ?_⟩, fun _ => rfl⟩ ?_
       rotate_left
       ·intro w; go_simp; try rw [if_neg hnN]
        try with_reducible rfl
       refine wpAnyIn_ready (rs := [8]) (by kernel_rfl) (by simp) ?_
       refine AllReadyIn.cons rfl (fun K hK => ?_) ?_
       ·go_simp
        refine hK _ _ ?_
        clear hK K
        refine wpAnyIn_ready (rs := [9]) (by kernel_rfl) (by simp) ?_
        refine AllReadyIn.cons rfl (fun K hK => ?_) ?_
        ·go_simp
         refine hK _ _ ?_
         clear hK K
         refine wpAnyIn_done (by kernel_rfl) ?_ _
         first
          | (have hp := finO_1 g pre.length k4 k5 hsz1; generalize (((W1.alloc (.cells #[.int .i64 (pre.length : Int), .iface 66 (.pointer (some ⟨g, 0, none⟩))] 69)).setCell ⟨w.heap.size + 1 + 1, 0, none⟩ (.slice none 0 0)).setCell ⟨w.heap.size + 1 + 1 + 1, 0, none⟩ (.iface 66 (.pointer (some ⟨W1.heap.size, 0, none⟩)))).drew = WX at hp ⊢; generalize W1.heap.size = gX at hp ⊢; exact key WX gX hp)
          | (have hp := finO_2 g pre.length k4 k5 hsz1; generalize (((W1.setCell ⟨w.heap.size + 1 + 1, 0, none⟩ (.slice none 0 0)).alloc (.cells #[.int .i64 (pre.length : Int), .iface 66 (.pointer (some ⟨g, 0, none⟩))] 69)).setCell ⟨w.heap.size + 1 + 1 + 1, 0, none⟩ (.iface 66 (.pointer (some ⟨W1.heap.size, 0, none⟩)))).drew = WX at hp ⊢; generalize W1.heap.size = gX at hp ⊢; exact key WX gX hp)
        exact AllReadyIn.nil
       exact AllReadyIn.nil
      refine AllReadyIn.cons rfl (fun K hK => ?_) ?_
      ·go_simp
       refine hK _ _ ?_
       clear hK K
       refine wpAnyIn_ready (rs := [6]) (by kernel_rfl) (by simp) ?_
       refine AllReadyIn.cons rfl (fun K hK => ?_) ?_
       ·go_simp
        refine hK _ _ ?_
        clear hK K
        refine wpAnyIn_take (i := 7) (v := ?_) rfl rfl (by kernel_rfl) (by kernel_rfl) (by kernel_rfl) (fun _ _ _ h => h) ⟨Or.inl ⟨by rfl, ?_⟩, fun _ => rfl⟩ ?_
        rotate_left
        ·intro w; go_simp; try rw [if_neg hnN]
         try with_reducible rfl
        refine wpAnyIn_ready (rs := [9]) (by kernel_rfl) (by simp) ?_
        refine AllReadyIn.cons rfl (fun K hK => ?_) ?_
        ·go_simp
         refine hK _ _ ?_
         clear hK K
         refine wpAnyIn_done (by kernel_rfl) ?_ _
         first
          | (have hp := finO_1 g pre.length k4 k5 hsz1; generalize (((W1.alloc (.cells #[.int .i64 (pre.length : Int), .iface 66 (.pointer (some ⟨g, 0, none⟩))] 69)).setCell ⟨w.heap.size + 1 + 1, 0, none⟩ (.slice none 0 0)).setCell ⟨w.heap.size + 1 + 1 + 1, 0, none⟩ (.iface 66 (.pointer (some ⟨W1.heap.size, 0, none⟩)))).drew = WX at hp ⊢; generalize W1.heap.size = gX at hp ⊢; exact key WX gX hp)
          | (have hp := finO_2 g pre.length k4 k5 hsz1; generalize (((W1.setCell ⟨w.heap.size + 1 + 1, 0, none⟩ (.slice none 0 0)).alloc (.cells #[.int .i64 (pre.length : Int), .iface 66 (.pointer (some ⟨g, 0, none⟩))] 69)).setCell ⟨w.heap.size + 1 + 1 + 1, 0, none⟩ (.iface 66 (.pointer (some ⟨W1.heap.size, 0, none⟩)))).drew = WX at hp ⊢; generalize W1.heap.size = gX at hp ⊢; exact key WX gX hp)
        exact AllReadyIn.nil
       exact AllReadyIn.nil
      exact AllReadyIn.nil
     refine AllReadyIn.cons rfl (fun K hK => ?_) ?_
     ·go_simp
      refine hK _ _ ?_
      clear hK K
      refine wpAnyIn_ready (rs := [2]) (by kernel_rfl) (by simp) ?_
      refine AllReadyIn.cons rfl (fun K hK => ?_) ?_
      ·go_simp
       refine hK _ _ ?_
       clear hK K
       refine wpAnyIn_take (i := 3) (v := ?_) rfl rfl (by kernel_rfl) (by kernel_rfl) (by kernel_rfl) (fun _ _ _ h => h) ⟨Or.inl ⟨by rfl, ?_⟩, fun _ => rfl⟩ ?_
       rotate_left
       ·intro w; go_simp; try rw [if_neg hnN]
        try with_reducible rfl
       refine wpAnyIn_take (i := 5) (v := ?_) rfl rfl (by kernel_rfl) (by kernel_rfl) (by kernel_rfl) (fun _ _ _ h => h) ⟨Or.inl ⟨by rfl, ?_⟩, fun _ => rfl⟩ ?_
       rotate_left
       ·intro w; go_simp; try rw [if_neg hnN]
        try with_reducible rfl
       refine wpAnyIn_ready (rs := [6]) (by kernel_rfl) (by simp) ?_
       refine AllReadyIn.cons rfl (fun K hK => ?_) ?_
       ·go_simp
        refine hK _ _ ?_
        clear hK K
        refine wpAnyIn_take (i := 7) (v := ?_) rfl rfl (by kernel_rfl) (by kernel_rfl) (by kernel_rfl) (fun _ _ _ h => h) ⟨Or.inl ⟨by rfl, ?_⟩, fun _ => rfl⟩ ?_
        rotate_left
        ·intro w; go_simp; try rw [if_neg hnN]
         try with_reducible rfl
        refine wpAnyIn_ready (rs := [9]) (by kernel_rfl) (by simp) ?_
        refine AllReadyIn.cons rfl (fun K hK => ?_) ?_
        ·go_simp
         refine hK _ _ ?_
         clear hK K
         refine wpAnyIn_done (by kernel_rfl) ?_ _
         first
          | (have hp := finO_1 g pre.length k4 k5 hsz1; generalize (((W1.alloc (.cells #[.int .i64 (pre.length : Int), .iface 66 (.pointer (some ⟨g, 0, none⟩))] 69)).setCell ⟨w.heap.size + 1 + 1, 0, none⟩ (.slice none 0 0)).setCell ⟨w.heap.size + 1 + 1 + 1, 0, none⟩ (.iface 66 (.pointer (some ⟨W1.heap.size, 0, none⟩)))).drew = WX at hp ⊢; generalize W1.heap.size = gX at hp ⊢; exact key WX gX hp)
          | (have hp := finO_2 g pre.length k4 k5 hsz1; generalize (((W1.setCell ⟨w.heap.size + 1 + 1, 0, none⟩ (.slice none 0 0)).alloc (.cells #[.int .i64 (pre.length : Int), .iface 66 (.pointer (some ⟨g, 0, none⟩))] 69)).setCell ⟨w.heap.size + 1 + 1 + 1, 0, none⟩ (.iface 66 (.pointer (some ⟨W1.heap.size, 0, none⟩)))).drew = WX at hp ⊢; generalize W1.heap.size = gX at hp ⊢; exact key WX gX hp)
        exact AllReadyIn.nil
       exact AllReadyIn.nil
      exact AllReadyIn.nil
     exact AllReadyIn.nil
    refine AllReadyIn.cons rfl (fun K hK => ?_) ?_
    ·go_simp
     refine hK _ _ ?_
     clear hK K
     refine wpAnyIn_ready (rs := [0, 8]) (by kernel_rfl) (by simp) ?_
     refine AllReadyIn.cons rfl (fun K hK => ?_) ?_
     ·go_simp
      refine hK _ _ ?_
      clear hK K
      refine wpAnyIn_take (i := 1) (v := ?_) rfl rfl (by kernel_rfl) (by kernel_rfl) (by kernel_rfl) (fun _ _ _ h => h) ⟨Or.inl ⟨by rfl, ?_⟩, fun _ => rfl⟩ ?_
      rotate_left
      ·intro w; go_simp; try rw [if_neg hnN]
       try with_reducible rfl
      refine wpAnyIn_take (i := 3) (v := ?_) rfl rfl (by kernel_rfl) (by kernel_rfl) (by kernel_rfl) (fun _ _ _ h => h) ⟨Or.inl ⟨by rfl, ?_⟩, fun _ => rfl⟩ ?_
      rotate_left
      ·intro w; go_simp; try rw [if_neg hnN]
       try with_reducible rfl
      refine wpAnyIn_take (i := 5) (v := ?_) rfl rfl (by kernel_rfl) (by kernel_rfl) (by kernel_rfl) (fun _ _ _ h => h) ⟨Or.inl ⟨by rfl, ?_⟩, fun _ => rfl⟩ ?_
      rotate_left
      ·intro w; go_simp; try rw [if_neg hnN]
       try with_reducible rfl
      refine wpAnyIn_ready (rs := [6, 8]) (by kernel_rfl) (by simp) ?_
      refine AllReadyIn.cons rfl (fun K hK => ?_) ?_
      ·go_simp
       refine hK _ _ ?_
       clear hK K
       refine wpAnyIn_take (i := 7) (v := ?_) rfl rfl (by kernel_rfl) (by kernel_rfl) (by kernel_rfl) (fun _ _ _ h => h) ⟨Or.inl ⟨by rfl, ?_⟩, fun _ => rfl⟩ ?_
       rotate_left
       ·intro w; go_simp; try rw [if_neg hnN]
        try with_reducible rfl
       refine wpAnyIn_ready (rs := [8]) (by kernel_rfl) (by simp) ?_
       refine AllReadyIn.cons rfl (fun K hK => ?_) ?_
       ·go_simp
        refine hK _ _ ?_
        clear hK K
        refine wpAnyIn_ready (rs := [9]) (by kernel_rfl) (by simp) ?_
        refine AllReadyIn.cons rfl (fun K hK => ?_) ?_
        ·go_simp
         refine hK _ _ ?_
         clear hK K
         refine wpAnyIn_done (by kernel_rfl) ?_ _
         first
          | (have hp := finO_1 g pre.length k4 k5 hsz1; generalize (((W1.alloc (.cells #[.int .i64 (pre.length : Int), .iface 66 (.pointer (some ⟨g, 0, none⟩))] 69)).setCell ⟨w.heap.size + 1 + 1, 0, none⟩ (.slice none 0 0)).setCell ⟨w.heap.size + 1 + 1 + 1, 0, none⟩ (.iface 66 (.pointer (some ⟨W1.heap.size, 0, none⟩)))).drew = WX at hp ⊢; generalize W1.heap.size = gX at hp ⊢; exact key WX gX hp)
          | (have hp := finO_2 g pre.length k4 k5 hsz1; generalize (((W1.setCell ⟨w.heap.size + 1 + 1, 0, none⟩ (.slice none 0 0)).alloc (.cells #[.int .i64 (pre.length : Int), .iface 66 (.pointer (some ⟨g, 0, none⟩))] 69)).setCell ⟨w.heap.size + 1 + 1 + 1, 0, none⟩ (.iface 66 (.pointer (some ⟨W1.heap.size, 0, none⟩)))).drew = WX at hp ⊢; generalize W1.heap.size = gX at hp ⊢; exact key WX gX hp)
        exact AllReadyIn.nil
       exact AllReadyIn.nil
      refine AllReadyIn.cons rfl (fun K hK => ?_) ?_
      ·go_simp
       refine hK _ _ ?_
       clear hK K
       refine wpAnyIn_ready (rs := [6]) (by kernel_rfl) (by simp) ?_
       refine AllReadyIn.cons rfl (fun K hK => ?_) ?_
       ·go_simp
        refine hK _ _ ?_
        clear hK K
        refine wpAnyIn_take (i := 7) (v := ?_) rfl rfl (by kernel_rfl) (by kernel_rfl) (by kernel_rfl) (fun _ _ _ h => h) ⟨Or.inl ⟨by rfl, ?_⟩, fun _ => rfl⟩ ?_
        rotate_left
        ·intro w; go_simp; try rw [if_neg hnN]
         try with_reducible rfl
        refine wpAnyIn_ready (rs := [9]) (by kernel_rfl) (by simp) ?_
        refine AllReadyIn.cons rfl (fun K hK => ?_) ?_
        ·go_simp
         refine hK _ _ ?_
         clear hK K
         refine wpAnyIn_done (by kernel_rfl) ?_ _
         first
          | (have hp := finO_1 g pre.length k4 k5 hsz1; generalize (((W1.alloc (.cells #[.int .i64 (pre.length : Int), .iface 66 (.pointer (some ⟨g, 0, none⟩))] 69)).setCell ⟨w.heap.size + 1 + 1, 0, none⟩ (.slice none 0 0)).setCell ⟨w.heap.size + 1 + 1 + 1, 0, none⟩ (.iface 66 (.pointer (some ⟨W1.heap.size, 0, none⟩)))).drew = WX at hp ⊢; generalize W1.heap.size = gX at hp ⊢; exact key WX gX hp)
          | (have hp := finO_2 g pre.length k4 k5 hsz1; generalize (((W1.setCell ⟨w.heap.size + 1 + 1, 0, none⟩ (.slice none 0 0)).alloc (.cells #[.int .i64 (pre.length : Int), .iface 66 (.pointer (some ⟨g, 0, none⟩))] 69)).setCell ⟨w.heap.size + 1 + 1 + 1, 0, none⟩ (.iface 66 (.pointer (some ⟨W1.heap.size, 0, none⟩)))).drew = WX at hp ⊢; generalize W1.heap.size = gX at hp ⊢; exact key WX gX hp)
        exact AllReadyIn.nil
       exact AllReadyIn.nil
      exact AllReadyIn.nil
     refine AllReadyIn.cons rfl (fun K hK => ?_) ?_
     ·go_simp
      refine hK _ _ ?_
      clear hK K
      refine wpAnyIn_ready (rs := [0]) (by kernel_rfl) (by simp) ?_
      refine AllReadyIn.cons rfl (fun K hK => ?_) ?_
      ·go_simp
       refine hK _ _ ?_
       clear hK K
       refine wpAnyIn_take (i := 1) (v := ?_) rfl rfl (by kernel_rfl) (by kernel_rfl) (by kernel_rfl) (fun _ _ _ h => h) ⟨Or.inl ⟨by rfl, ?_⟩, fun _ => rfl⟩ ?_
       rotate_left
       ·intro w; go_simp; try rw [if_neg hnN]
        try with_reducible rfl
       refine wpAnyIn_take (i := 3) (v := ?_) rfl rfl (by kernel_rfl) (by kernel_rfl) (by kernel_rfl) (fun _ _ _ h => h) ⟨Or.inl ⟨by rfl, ?_⟩, fun _ => rfl⟩ ?_
       rotate_left
       ·intro w; go_simp; try rw [if_neg hnN]
        try with_reducible rfl
       refine wpAnyIn_take (i := 5) (v := ?_) rfl rfl (by kernel_rfl) (by kernel_rfl) (by kernel_rfl) (fun _ _ _ h => h) ⟨Or.inl ⟨by rfl, ?_⟩, fun _ => rfl⟩ ?_
       rotate_left
       ·intro w; go_simp; try rw [if_neg hnN]
        try with_reducible rfl
       refine wpAnyIn_ready (rs := [6]) (by kernel_rfl) (by simp) ?_
       refine AllReadyIn.cons rfl (fun K hK => ?_) ?_
       ·go_simp
        refine hK _ _ ?_
        clear hK K
        refine wpAnyIn_take (i := 7) (v := ?_) rfl rfl (by kernel_rfl) (by kernel_rfl) (by kernel_rfl) (fun _ _ _ h => h) ⟨Or.inl ⟨by rfl, ?_⟩, fun _ => rfl⟩ ?_
        rotate_left
        ·intro w; go_simp; try rw [if_neg hnN]
         try with_reducible rfl
        refine wpAnyIn_ready (rs := [9]) (by kernel_rfl) (by simp) ?_
        refine AllReadyIn.cons rfl (fun K hK => ?_) ?_
        ·go_simp
         refine hK _ _ ?_
         clear hK K
         refine wpAnyIn_done (by kernel_rfl) ?_ _
         first
          | (have hp := finO_1 g pre.length k4 k5 hsz1; generalize (((W1.alloc (.cells #[.int .i64 (pre.length : Int), .iface 66 (.pointer (some ⟨g, 0, none⟩))] 69)).setCell ⟨w.heap.size + 1 + 1, 0, none⟩ (.slice none 0 0)).setCell ⟨w.heap.size + 1 + 1 + 1, 0, none⟩ (.iface 66 (.pointer (some ⟨W1.heap.size, 0, none⟩)))).drew = WX at hp ⊢; generalize W1.heap.size = gX at hp ⊢; exact key WX gX hp)
          | (have hp := finO_2 g pre.length k4 k5 hsz1; generalize (((W1.setCell ⟨w.heap.size + 1 + 1, 0, none⟩ (.slice none 0 0)).alloc (.cells #[.int .i64 (pre.length : Int), .iface 66 (.pointer (some ⟨g, 0, none⟩))] 69)).setCell ⟨w.heap.size + 1 + 1 + 1, 0, none⟩ (.iface 66 (.pointer (some ⟨W1.heap.size, 0, none⟩)))).drew = WX at hp ⊢; generalize W1.heap.size = gX at hp ⊢; exact key WX gX hp)
        exact AllReadyIn.nil
       exact AllReadyIn.nil
      exact AllReadyIn.nil
     exact AllReadyIn.nil
    refine AllReadyIn.cons rfl (fun K hK => ?_) ?_
    ·go_simp
     refine hK _ _ ?_
     clear hK K
     refine wpAnyIn_ready (rs := [0, 2]) (by kernel_rfl) (by simp) ?_
     refine AllReadyIn.cons rfl (fun K hK => ?_) ?_
     ·go_simp
      refine hK _ _ ?_
      clear hK K
      refine wpAnyIn_take (i := 1) (v := ?_) rfl rfl (by kernel_rfl) (by kernel_rfl) (by kernel_rfl) (fun _ _ _ h => h) ⟨Or.inl ⟨by rfl, ?_⟩, fun _ => rfl⟩ ?_
      rotate_left
      ·intro w; go_simp; try rw [if_neg hnN]
       try with_reducible rfl
      refine wpAnyIn_ready (rs := [2]) (by kernel_rfl) (by simp) ?_
      refine AllReadyIn.cons rfl (fun K hK => ?_) ?_
      ·go_simp
       refine hK _ _ ?_
       clear hK K
       refine wpAnyIn_take (i := 3) (v := ?_) rfl rfl (by kernel_rfl) (by kernel_rfl) (by kernel_rfl) (fun _ _ _ h => h) ⟨Or.inl ⟨by rfl, ?_⟩, fun _ => rfl⟩ ?_
       rotate_left
       ·intro w; go_simp; try rw [if_neg hnN]
        try with_reducible rfl
       refine wpAnyIn_take (i := 5) (v := ?_) rfl rfl (by kernel_rfl) (by kernel_rfl) (by kernel_rfl) (fun _ _ _ h => h) ⟨Or.inl ⟨by rfl, ?_⟩, fun _ => rfl⟩ ?_
       rotate_left
       ·intro w; go_simp; try rw [if_neg hnN]
        try with_reducible rfl
       refine wpAnyIn_ready (rs := [6]) (by kernel_rfl) (by simp) ?_
       refine AllReadyIn.cons rfl (fun K hK => ?_) ?_
       ·go_simp
        refine hK _ _ ?_
        clear hK K
        refine wpAnyIn_take (i := 7) (v := ?_) rfl rfl (by kernel_rfl) (by kernel_rfl) (by kernel_rfl) (fun _ _ _ h => h) ⟨Or.inl ⟨by rfl, ?_⟩, fun _ => rfl⟩ ?_
        rotate_left
        ·intro w; go_simp; try rw [if_neg hnN]
         try with_reducible rfl
        refine wpAnyIn_ready (rs := [9]) (by kernel_rfl) (by simp) ?_
        refine AllReadyIn.cons rfl (fun K hK => ?_) ?_
        ·go_simp
         refine hK _ _ ?_
         clear hK K
         refine wpAnyIn_done (by kernel_rfl) ?_ _
         first
          | (have hp := finO_1 g pre.length k4 k5 hsz1; generalize (((W1.alloc (.cells #[.int .i64 (pre.length : Int), .iface 66 (.pointer (some ⟨g, 0, none⟩))] 69)).setCell ⟨w.heap.size + 1 + 1, 0, none⟩ (.slice none 0 0)).setCell ⟨w.heap.size + 1 + 1 + 1, 0, none⟩ (.iface 66 (.pointer (some ⟨W1.heap.size, 0, none⟩)))).drew = WX at hp ⊢; generalize W1.heap.size = gX at hp ⊢; exact key WX gX hp)
          | (have hp := finO_2 g pre.length k4 k5 hsz1; generalize (((W1.setCell ⟨w.heap.size + 1 + 1, 0, none⟩ (.slice none 0 0)).alloc (.cells #[.int .i64 (pre.length : Int), .iface 66 (.pointer (some ⟨g, 0, none⟩))] 69)).setCell ⟨w.heap.size + 1 + 1 + 1, 0, none⟩ (.iface 66 (.pointer (some ⟨W1.heap.size, 0, none⟩)))).drew = WX at hp ⊢; generalize W1.heap.size = gX at hp ⊢; exact key WX gX hp)
        exact AllReadyIn.nil
       exact AllReadyIn.nil
      exact AllReadyIn.nil
     refine AllReadyIn.cons rfl (fun K hK => ?_) ?_
     ·go_simp
      refine hK _ _ ?_
      clear hK K
      refine wpAnyIn_ready (rs := [0]) (by kernel_rfl) (by simp) ?_
      refine AllReadyIn.cons rfl (fun K hK => ?_) ?_
      ·go_simp
       refine hK _ _ ?_
       clear hK K
       refine wpAnyIn_take (i := 1) (v := ?_) rfl rfl (by kernel_rfl) (by kernel_rfl) (by kernel_rfl) (fun _ _ _ h => h) ⟨Or.inl ⟨by rfl, ?_⟩, fun _ => rfl⟩ ?_
       rotate_left
       ·intro w; go_simp; try rw [if_neg hnN]
        try with_reducible rfl
       refine wpAnyIn_take (i := 3) (v := ?_) rfl rfl (by kernel_rfl) (by kernel_rfl) (by kernel_rfl) (fun _ _ _ h => h) ⟨Or.inl ⟨by rfl, ?_⟩, fun _ => rfl⟩ ?_
       rotate_left
       ·intro w; go_simp; try rw [if_neg hnN]
        try with_reducible rfl
       refine wpAnyIn_take (i := 5) (v := ?_) rfl rfl (by kernel_rfl) (by kernel_rfl) (by kernel_rfl) (fun _ _ _ h => h) ⟨Or.inl ⟨by rfl, ?_⟩, fun _ => rfl⟩ ?_
       rotate_left
       ·intro w; go_simp; try rw [if_neg hnN]
        try with_reducible rfl
       refine wpAnyIn_ready (rs := [6]) (by kernel_rfl) (by simp) ?_
       refine AllReadyIn.cons rfl (fun K hK => ?_) ?_
       ·go_simp
        refine hK _ _ ?_
        clear hK K
        refine wpAnyIn_take (i := 7) (v := ?_) rfl rfl (by kernel_rfl) (by kernel_rfl) (by kernel_rfl) (fun _ _ _ h => h) ⟨Or.inl ⟨by rfl, ?_⟩, fun _ => rfl⟩ ?_
        rotate_left
        ·intro w; go_simp; try rw [if_neg hnN]
         try with_reducible rfl
        refine wpAnyIn_ready (rs := [9]) (by kernel_rfl) (by simp) ?_
        refine AllReadyIn.cons rfl (fun K hK => ?_) ?_
        ·go_simp
         refine hK _ _ ?_
         clear hK K
         refine wpAnyIn_done (by kernel_rfl) ?_ _
         first
          | (have hp := finO_1 g pre.length k4 k5 hsz1; generalize (((W1.alloc (.cells #[.int .i64 (pre.length : Int), .iface 66 (.pointer (some ⟨g, 0, none⟩))] 69)).setCell ⟨w.heap.size + 1 + 1, 0, none⟩ (.slice none 0 0)).setCell ⟨w.heap.size + 1 + 1 + 1, 0, none⟩ (.iface 66 (.pointer (some ⟨W1.heap.size, 0, none⟩)))).drew = WX at hp ⊢; generalize W1.heap.size = gX at hp ⊢; exact key WX gX hp)
          | (have hp := finO_2 g pre.length k4 k5 hsz1; generalize (((W1.setCell ⟨w.heap.size + 1 + 1, 0, none⟩ (.slice none 0 0)).alloc (.cells #[.int .i64 (pre.length : Int), .iface 66 (.pointer (some ⟨g, 0, none⟩))] 69)).setCell ⟨w.heap.size + 1 + 1 + 1, 0, none⟩ (.iface 66 (.pointer (some ⟨W1.heap.size, 0, none⟩)))).drew = WX at hp ⊢; generalize W1.heap.size = gX at hp ⊢; exact key WX gX hp)
        exact AllReadyIn.nil
       exact AllReadyIn.nil
      exact AllReadyIn.nil
     exact AllReadyIn.nil
    exact AllReadyIn.nil
   intro WX f hF
   obtain ⟨hBel, hsz, hsame, f2, f3, f1⟩ := hF
   try dsimp only
   gi_wp2
   have hH := h7.trans hK1
   refine ⟨KeepsFrom.trans (Y := W1) ⟨hK1.size, fun k o hB hk _ => (hK1.block k (Array.getElem?_eq_some_iff.1 hk).1 (hnS _ (by omega))).trans hk⟩ ⟨hsz, fun k o hB hk _ => (hsame k (Array.getElem?_eq_some_iff.1 hk).1 (by omega) (by omega)).trans hk⟩, rfl, pre, j, ru, f, g, xv, rfl, HRU.out, hoy, f2, f3, f1, (hsame g hg.lt (fun e => ?_) (fun e => ?_)).trans hg, by omega, hdepF _ W1 WX hI1 hBel (fun b t cs hb ht => (hsame b hb.lt (fun e => ?_) (fun e => ?_)).trans hb), ⟨hBel.os.trans hH.os, hBel.tape.trans hH.tape, hBel.output.trans hH.output, Nat.le_trans hH.size hBel.size, fun k hk hs => (hBel.block k hk).trans (hH.block k hk hs)⟩⟩
   ·rw [e] at hg
    have := hg.out.symm.trans k4.out
    simp at this
   ·rw [e] at hg
    have := hg.out.symm.trans k5.out
    simp at this
   ·rw [e] at hb
    have := hb.out.symm.trans k4.out
    simp at this
    rcases ht with rfl | rfl <;> exact absurd this.2 (by decide)
   rw [e] at hb
   have := hb.out.symm.trans k5.out
   simp at this
   rcases ht with rfl | rfl <;> exact absurd this.2 (by decide)
  have hnS : ∀ k, w.heap.size ≤ k → k ∉ S := fun k hk e => by have := hS k e; omega
  have k1 := KeptS.blk hK1 h1 (hnS _ (by omega))
  have k2 := own_keptS h2 hK1 hS
  have hc5 : W1.cell? ⟨w.heap.size + 1 + 1 + 1 + 1 + 1, 0, none⟩ = some v := k1.cell 0
  gi_wp2_with (gi_at_builtin; refine wpi_app rfl _ _ 22 rfl w.heap.size 5 Tryz.underlying22 info8 v (pre.length * n) _ rfl k2 n n g _ t hg rfl hn0 (by omega) (by have := hK1.size; omega) ?_; intro g' c' W2 hown2 hgrow; have q1 := k1.grown hgrow (ne_own k2 k1 (by decide)); have hc6 : W2.cell? ⟨w.heap.size + 1 + 1 + 1 + 1 + 1, 0, none⟩ = some v := q1.cell 0; have hf6 := q1.free 0)
  have hs1 := hK1.size
  have hgr : W2.grownBy (W2.setCell ⟨w.heap.size + 1 + 1 + 1 + 1 + 1, 0, none⟩ (.slice (some ⟨g', 0, none⟩) (pre.length * n + n) c')) (some (w.heap.size + 1 + 1 + 1 + 1 + 1)) := grownBy_setCell' _ _ _
  have hown3 : ∀ r, v.ownBlock = some r → w.heap.size ≤ r := fun r e => (own_ge k2 e).1
  have car1 : ∀ k t cs, Blk W1 k t cs → t ≠ 5 → k ≠ w.heap.size + 1 + 1 + 1 + 1 + 1 → Blk (W2.setCell ⟨w.heap.size + 1 + 1 + 1 + 1 + 1, 0, none⟩ (.slice (some ⟨g', 0, none⟩) (pre.length * n + n) c')) k t cs := fun k t cs hb ht hk =>
   (hb.grown hgrow (ne_own k2 hb ht)).other _ _ hk
  have car : ∀ k t cs, Blk W k t cs → w.heap.size ≤ k → t ≠ 5 → k ≠ w.heap.size + 1 + 1 + 1 + 1 + 1 → Blk (W2.setCell ⟨w.heap.size + 1 + 1 + 1 + 1 + 1, 0, none⟩ (.slice (some ⟨g', 0, none⟩) (pre.length * n + n) c')) k t cs := fun k t cs hb hw ht hk =>
   car1 k t cs (KeptS.blk hK1 hb (hnS _ hw)) ht hk
  have e3 := car _ _ _ h3 (by omega) (by decide) (by omega)
  have e4 := car _ _ _ h4 (by omega) (by decide) (by omega)
  have e5 := car _ _ _ h5 (by omega) (by decide) (by omega)
  have e8 := car _ _ _ h8 (by omega) (by decide) (by omega)
  have e9 := car _ _ _ h9 (by omega) (by decide) (by omega)
  have e11 := car _ _ _ h11 (by omega) (by decide) (by omega)
  have hKF : KeepsFrom W0.heap.size W (W2.setCell ⟨w.heap.size + 1 + 1 + 1 + 1 + 1, 0, none⟩ (.slice (some ⟨g', 0, none⟩) (pre.length * n + n) c')) := by
   refine (KeepsFrom.trans (Y := W1) ⟨hK1.size, fun k o hB hk _ => (hK1.block k (Array.getElem?_eq_some_iff.1 hk).1 (hnS _ (by omega))).trans hk⟩ ?_).trans ((KeepsOthers.setCell _ _ _).from _)
   refine ⟨hgrow.size, fun k o hB hk ho => (hgrow.block k (Array.getElem?_eq_some_iff.1 hk).1 fun e => ?_).trans hk⟩
   obtain ⟨-, cs, hcs⟩ := own_ge k2 e.symm
   rw [hcs.out] at hk
   cases hk
   cases ho
  refine ⟨hKF, ?_, ?_⟩
  ·intro q hq
   simp only [List.mem_cons, List.not_mem_nil, or_false] at hq
   rcases hq with rfl | rfl
   ·exact e8.out.trans h8.out.symm
   exact e9.out.trans h9.out.symm
  have hlen : (pre ++ [j]).length * n = pre.length * n + n := by simp [Nat.succ_mul]
  unfold EIo
  rw [hlen, List.map_append, List.map_cons, List.map_nil, HRS.out]
  refine ⟨_, show nextO st n ru (fun i => x (j.1 * n + i)) = some ((st ru.1 (fun i => x (j.1 * n + i))).2, cat ru.2.2 ru.2.1 oy, ru.2.2 + n) by unfold nextO; rw [hoy], ⟨_, q1.setCell 0 _, own_blks (by rw [hrl]; exact hown2) fun b cs hb => hb.other _ _ ?_⟩, ⟨e3, e4, e5, e8, e9, e11, by have := hKF.size; omega⟩, ?_, ?_⟩
  ·intro e
   have e' : b = w.heap.size + 1 + 1 + 1 + 1 + 1 := e
   subst e'
   have := hb.out.symm.trans q1.out
   simp at this
  ·refine hdep _ W1 _ hI1 ?_ fun b t cs hb ht => ?_
   ·exact (below_grown (by omega) hgrow hown3).trans (below_grown (by have := hgrow.size; omega) hgr fun r e => by cases e; omega)
   by_cases hk : b = w.heap.size + 1 + 1 + 1 + 1 + 1
   ·subst hk
    have := hb.out.symm.trans k1.out
    simp at this
    rcases ht with rfl | rfl <;> exact absurd this.2 (by decide)
   exact car1 b t cs hb (by rcases ht with rfl | rfl <;> decide) hk
  exact keptS_grown (keptS_grown (h7.trans hK1) hgrow hown3) hgr fun r e => by cases e; omega
 case done =>
  rintro D ys W hD rfl ⟨ru, hru, ⟨v, h1, h2⟩, ⟨h3, h4, h5, h8, h9, h11, h10⟩, h6, h7⟩ hK
  rw [ixs_map N (Nat.le_refl _)] at hru
  rw [ixs_len N (Nat.le_refl _), ← HM.out] at h2
  have hc5 : W.cell? ⟨w.heap.size + 1 + 1 + 1 + 1 + 1, 0, none⟩ = some v := h1.cell 0
  have hc2 : W.cell? ⟨w.heap.size + 1 + 1, 0, none⟩ = some (.slice none 0 0) := h4.cell 0
  have hf2 := h4.free 0
  obtain ⟨Av, cv, rfl, hcv⟩ := h2.slice
  have m2 : Blk (W.setCell ⟨w.heap.size + 1 + 1, 0, none⟩ (.slice Av M cv)) (w.heap.size + 1 + 1) 22 #[.slice Av M cv] := h4.setCell 0 (.slice Av M cv)
  have m3 := h5.other ⟨w.heap.size + 1 + 1, 0, none⟩ (.slice Av M cv) (by simp)
  have hc3 : (W.setCell ⟨w.heap.size + 1 + 1, 0, none⟩ (.slice Av M cv)).cell? ⟨w.heap.size + 1 + 1 + 1, 0, none⟩ = some .nilIface := m3.cell 0
  have hf3 := m3.free 0
  gi_wp2
  have hK1 := (KeepsOthers.setCell W ⟨w.heap.size + 1 + 1, 0, none⟩ (.slice Av M cv)).same D _ hK rfl
  have hK2 := (KeepsOthers.setCell (W.setCell ⟨w.heap.size + 1 + 1, 0, none⟩ (.slice Av M cv)) ⟨w.heap.size + 1 + 1 + 1, 0, none⟩ .nilIface).same D _ hK1 rfl
  have g1 : W.grownBy (W.setCell ⟨w.heap.size + 1 + 1, 0, none⟩ (.slice Av M cv)) (some (w.heap.size + 1 + 1)) := grownBy_setCell' _ _ _
  have g2 : (W.setCell ⟨w.heap.size + 1 + 1, 0, none⟩ (.slice Av M cv)).grownBy ((W.setCell ⟨w.heap.size + 1 + 1, 0, none⟩ (.slice Av M cv)).setCell ⟨w.heap.size + 1 + 1 + 1, 0, none⟩ .nilIface) (some (w.heap.size + 1 + 1 + 1)) := grownBy_setCell' _ _ _
  refine ⟨by simp, .inl ⟨_, _, rfl, run_takeDeferred hK2, ?_⟩⟩
  have n2 : Blk ((W.setCell ⟨w.heap.size + 1 + 1, 0, none⟩ (.slice Av M cv)).setCell ⟨w.heap.size + 1 + 1 + 1, 0, none⟩ .nilIface) (w.heap.size + 1 + 1) 22 #[.slice Av M cv] := m2.other _ _ (by simp)
  have n3 : Blk ((W.setCell ⟨w.heap.size + 1 + 1, 0, none⟩ (.slice Av M cv)).setCell ⟨w.heap.size + 1 + 1 + 1, 0, none⟩ .nilIface) (w.heap.size + 1 + 1 + 1) 29 #[.nilIface] := m3.setCell 0 _
  have g3 := grownBy_putObj' ((W.setCell ⟨w.heap.size + 1 + 1, 0, none⟩ (.slice Av M cv)).setCell ⟨w.heap.size + 1 + 1 + 1, 0, none⟩ .nilIface) D (.deferred none)
  have hr3 : ∀ r, some D = some r → W0.heap.size ≤ r ∧ ∃ o : Obj, ((W.setCell ⟨w.heap.size + 1 + 1, 0, none⟩ (.slice Av M cv)).setCell ⟨w.heap.size + 1 + 1 + 1, 0, none⟩ .nilIface).heap[r]? = some o ∧ o.isCells = false := fun r e => by cases e; exact ⟨hD, _, hK2, rfl⟩
  have o2 := blk_nonc n2 g3 hr3
  have o3 := blk_nonc n3 g3 hr3
  have oc2 := o2.cell 0
  have oc3 := o3.cell 0
  have all3 : ∀ b t cs, Blk W b t cs → (t = 103 ∨ t = 134 ∨ t = 5) → Blk (((W.setCell ⟨w.heap.size + 1 + 1, 0, none⟩ (.slice Av M cv)).setCell ⟨w.heap.size + 1 + 1 + 1, 0, none⟩ .nilIface).putObj D (.deferred none)) b t cs := by
   intro b t cs hb ht
   refine blk_nonc ((hb.other _ _ ?_).other _ _ ?_) g3 hr3
   ·intro e
    have e' : b = w.heap.size + 1 + 1 := e
    subst e'
    have := hb.out.symm.trans h4.out
    simp at this
    rcases ht with rfl | rfl | rfl <;> exact absurd this.2 (by decide)
   intro e
   have e' : b = w.heap.size + 1 + 1 + 1 := e
   subst e'
   have := hb.out.symm.trans h5.out
   simp at this
   rcases ht with rfl | rfl | rfl <;> exact absurd this.2 (by decide)
  have hsz2 := g1.size
  have hsz3 := g2.size
  refine ⟨.tuple #[.slice Av M cv, .nilIface], ?_, keptS_grown (keptS_grown (keptS_grown h7 g1 fun r e => by cases e; omega) g2 fun r e => by cases e; omega) g3 (fun r e => by cases e; omega), .inl ⟨ru, .slice Av M cv, hru, rfl, own_blks h2 (fun b cs hb => all3 b _ cs hb (.inr (.inr rfl))), hdep _ W _ h6 ?_ (fun b t cs hb ht => all3 b t cs hb (by rcases ht with h | h; exact .inl h; exact .inr (.inl h)))⟩⟩
  ·simp [results, Tryz.f24, go_sem, oc2, oc3]
  exact ((below_grown (by omega) g1 fun r e => by cases e; omega).trans (below_grown (by omega) g2 fun r e => by cases e; omega)).trans (below_grown (by omega) g3 fun r e => by cases e; omega)
 case stop =>
  rintro D c pre W hD ⟨k, hk, hpre⟩ ⟨rfl, pre', j, r, f, g, xv, e1, e2, e3, h4, h5, h6, h7, h8, h9, h10⟩ hK
  have hlen : pre'.length + 1 = k := by
   have := congrArg List.length (hpre.symm.trans e1)
   rw [ixs_len k hk] at this
   simpa using this.symm
  obtain ⟨k', rfl⟩ : ∃ k', k = k' + 1 := ⟨pre'.length, hlen.symm⟩
  have hk' : k' < N := by omega
  have hpp : pre' = ixs N k' ∧ j = ⟨k', hk'⟩ := by
   have h := hpre.symm.trans e1
   rw [ixs_succ hk'] at h
   have := List.append_inj' h (by simp)
   exact ⟨this.1.symm, by simpa using this.2.symm⟩
  obtain ⟨rfl, rfl⟩ := hpp
  rw [ixs_map k' (by omega)] at e2
  rw [ixs_len k' (by omega)] at h6
  have hc2 : W.cell? ⟨w.heap.size + 1 + 1, 0, none⟩ = some (.slice none 0 0) := h4.cell 0
  have hc3 : W.cell? ⟨w.heap.size + 1 + 1 + 1, 0, none⟩ = some (.iface 66 (.pointer (some ⟨f, 0, none⟩))) := h5.cell 0
  gi_wp2
  have g3 := grownBy_putObj' W D (.deferred none)
  have hr3 : ∀ r, some D = some r → W0.heap.size ≤ r ∧ ∃ o : Obj, W.heap[r]? = some o ∧ o.isCells = false := fun r e => by cases e; exact ⟨hD, _, hK, rfl⟩
  have o2 := blk_nonc h4 g3 hr3
  have o3 := blk_nonc h5 g3 hr3
  have oc2 := o2.cell 0
  have oc3 := o3.cell 0
  refine ⟨by simp, .inl ⟨_, _, rfl, run_takeDeferred hK, ?_⟩⟩
  refine ⟨.tuple #[.slice none 0 0, .iface 66 (.pointer (some ⟨f, 0, none⟩))], ?_, keptS_grown h10 g3 (fun r e => by cases e; omega), .inr ?_⟩
  rotate_left
  ·refine ⟨k', hk', ?_⟩
   exact ⟨r.1, ⟨r.2.1, r.2.2, e2⟩, e3, f, rfl, g, blk_nonc h6 g3 hr3, ⟨xv, blk_nonc h7 g3 hr3⟩, hdepF _ W _ h9 (below_grown (by omega) g3 fun r e => by cases e; omega) (fun b t cs hb _ => blk_nonc hb g3 hr3)⟩
  simp [results, Tryz.f24, go_sem, oc2, oc3]
end Go.Proofs.YtlmnoapoofmmnaaGreatDoor.Md
namespace Go.Proofs.YtlmnoapoofmmnaaGreatDoor.Md
open Mem Bk Go.ChangeShapes Go.WideShapes Go.ChangeAt Go.RowKit
theorem doOut_two {p : Pl} {k d' : Nat} {o : Option (Nat → Nat)} {R' : List Rw} {w w' : World} {e : Ending} (h : DoOut p k o R' d' w e w') : ∃ v1 v2, e = .returned (.tuple #[v1, v2]) := by
 obtain ⟨-, -, ⟨_, _, -, rfl, -⟩ | ⟨_, _, -, rfl, -⟩⟩ := h
 ·exact ⟨_, _, rfl⟩
 exact ⟨_, _, rfl⟩
theorem kept_below {S : List Nat} {w W W' : World} (hK : KeptS S w W) (hB : Below w.heap.size W W') : KeptS S w W' :=
 ⟨hB.os.trans hK.os, hB.tape.trans hK.tape, hB.output.trans hK.output, Nat.le_trans hK.size hB.size, fun k hk hs => (hB.block k hk).trans (hK.block k hk hs)⟩
theorem book_below {w W W' : World} {p : Pl} {d0 d : Nat} {R0 R : List Rw} (h0 : BookAt w p d0 R0) (h : BookAt W p d R) (hK : KeptS p.S w W) (hB : Below w.heap.size W W') : BookAt W' p d R := by
 have hH := kept_below hK hB
 exact ⟨h.book.below hB h0.book.lt, h.tape.below hB h0.tape.lt, hH.own h0.own (fun g cs hg => h0.free hg (by decide)), fun bk => (hB.block _ (h0.maps bk).lt).trans (h.maps bk), h.ne, h.inv, h.lo⟩
set_option maxRecDepth 100000 in
theorem al_all (W : World) (p : Pl) (d : Nat) (R : List Rw) (k gc base L : Nat) (key : Nat → Nat) (ad : Addr) (c kc kb : Nat) (bk : Bool) (y : Nat → Nat) (h : CiAt W p k gc base L key) (hb : BookAt W p d R) (hkc : Blk W kc 25 #[.pointer (some ⟨gc, 0, none⟩)]) (hkb : Blk W kb 4 #[.bool bk]) (had : ad.block < W.heap.size) (hadS : ad.block ∉ p.S) (hc : ∀ i, i < sz k → W.cell? (ad.add i) = some (.int .u8 ((y i : Nat) : Int))) (hy : ∀ i, i < sz k → y i < 256)
  (o : Option (Nat → Nat)) (R' : List Rw) (d' : Nat) (ht : turnC k L key p R d bk y = (o, R', d')) :
  Calls Tryz.prog 25 #[.slice (some ad) (sz k) c, .pointer (some ⟨kc, 0, none⟩), .pointer (some ⟨kb, 0, none⟩)] W (DoOut p k o R' d' W) := by
 have HD := hid (do_any W p d R k gc base L key ad c bk y h hb had hadS hc hy o R' d' ht)
 have hc1 : W.cell? ⟨kc, 0, none⟩ = some (.pointer (some ⟨gc, 0, none⟩)) := hkc.cell 0
 have hc2 : W.cell? ⟨kb, 0, none⟩ = some (.bool bk) := hkb.cell 0
 clear h hb hc hy ht
 go_enter Tryz.func25, Tryz.ntmps25
 go_wp2_with (go_at_call 26; refine HD.out.mono ?_; rintro e w1 hD; obtain ⟨v1, v2, rfl⟩ := doOut_two hD)
 go_ret2
 exact hD
def stO (k L : Nat) (key : Nat → Nat) (p : Pl) (bk : Bool) : List Rw × Nat → (Nat → Nat) → Option (Nat → Nat) × (List Rw × Nat) := fun s y => turnC k L key p s.1 s.2 bk y
def AloneOut (p : Pl) (k L : Nat) (key : Nat → Nat) (bk : Bool) (N : Nat) (x : Nat → Nat) (s0 : List Rw × Nat) (w : World) (e : Ending) (w' : World) : Prop :=
 KeptS p.S w w' ∧ ((∃ r v, runO (stO k L key p bk) (sz k) (fun j i => x (j * sz k + i)) s0 (List.range N) = some r ∧ e = .returned (.tuple #[v, .nilIface]) ∧ Mem.Own w' w.heap.size 5 1 v (N * sz k) r.2.1 ∧ BookAt w' p r.1.2 r.1.1) ∨
  (∃ K r f g xv, K < N ∧ runO (stO k L key p bk) (sz k) (fun j i => x (j * sz k + i)) s0 (List.range K) = some r ∧ (stO k L key p bk r.1 (fun i => x (K * sz k + i))).1 = none ∧ e = .returned (.tuple #[.slice none 0 0, .iface 66 (.pointer (some ⟨f, 0, none⟩))]) ∧ Blk w' f 69 #[.int .i64 (K : Int), .iface 66 (.pointer (some ⟨g, 0, none⟩))] ∧ Blk w' g 69 #[xv, .iface 56 (.int .i64 13)] ∧ BookAt w' p (stO k L key p bk r.1 (fun i => x (K * sz k + i))).2.2 (stO k L key p bk r.1 (fun i => x (K * sz k + i))).2.1))
set_option maxRecDepth 100000 in
set_option maxHeartbeats 1000000 in
theorem alone_all (w : World) (p : Pl) (d : Nat) (R : List Rw) (k gc base L : Nat) (key : Nat → Nat) (A : Option Addr) (N M c : Nat) (bk : Bool) (x : Nat → Nat) (h : CiAt w p k gc base L key) (hb : BookAt w p d R) (hM : M = N * sz k) (hN : M ≤ 100000) (hc : M ≤ c) (hA : A = none → M = 0) (hAS : ∀ ad, A = some ad → 0 < M → ad.block ∉ p.S) (hx : ∀ i, i < M → x i < 256) (hR : Reads w w.heap.size A M x) :
  Calls Tryz.prog 8 #[.pointer (some ⟨gc, 0, none⟩), .slice A M c, .bool bk] w (AloneOut p k L key bk N x (R, d) w) := by
 have hB1 : Below w.heap.size w ((w.alloc (.cells #[.pointer (some ⟨gc, 0, none⟩)] 25)).alloc (.cells #[.bool bk] 4)) := ((Below.refl _ w).alloc (Nat.le_refl _) _).alloc (by simp) _
 have hkc : Blk ((w.alloc (.cells #[.pointer (some ⟨gc, 0, none⟩)] 25)).alloc (.cells #[.bool bk] 4)) w.heap.size 25 #[.pointer (some ⟨gc, 0, none⟩)] := (Blk.fresh _ _ _).alloc _
 have hkb : Blk ((w.alloc (.cells #[.pointer (some ⟨gc, 0, none⟩)] 25)).alloc (.cells #[.bool bk] 4)) (w.heap.size + 1) 4 #[.bool bk] := blk_fresh (by simp) _ _
 have hs1 : ((w.alloc (.cells #[.pointer (some ⟨gc, 0, none⟩)] 25)).alloc (.cells #[.bool bk] 4)).heap.size = w.heap.size + 2 := by simp
 have hSw : ∀ g ∈ p.S, g < w.heap.size := fun g hg => by
  simp only [Pl.S, List.mem_cons, List.not_mem_nil, or_false] at hg
  rcases hg with rfl | rfl | rfl
  ·exact hb.tape.lt
  ·exact (hb.maps false).lt
  exact (hb.maps true).lt
 have HE := hid (each_opt (fun (s : List Rw × Nat) W => BookAt W p s.2 s.1 ∧ KeptS p.S w W ∧ Blk W w.heap.size 25 #[.pointer (some ⟨gc, 0, none⟩)] ∧ Blk W (w.heap.size + 1) 4 #[.bool bk]) (fun (s : List Rw × Nat) W => BookAt W p s.2 s.1 ∧ KeptS p.S w W ∧ Blk W w.heap.size 25 #[.pointer (some ⟨gc, 0, none⟩)] ∧ Blk W (w.heap.size + 1) 4 #[.bool bk]) (stO k L key p bk) p.S 25 #[.pointer (some ⟨w.heap.size, 0, none⟩), .pointer (some ⟨w.heap.size + 1, 0, none⟩)] (sz k) N M c A x (R, d) ((w.alloc (.cells #[.pointer (some ⟨gc, 0, none⟩)] 25)).alloc (.cells #[.bool bk] 4))
  (sz_or k) hM hN hc hA hx ((hR.below hB1).more (by omega)) hAS (fun g hg => by have := hSw g hg; omega)
  (fun _ W W' hW hB _ => ⟨book_below hb hW.1 hW.2.1 (hB.mono (by omega)), kept_below hW.2.1 (hB.mono (by omega)), hW.2.2.1.below hB (by omega), hW.2.2.2.below hB (by omega)⟩)
  (fun _ W W' hW hB _ => ⟨book_below hb hW.1 hW.2.1 (hB.mono (by omega)), kept_below hW.2.1 (hB.mono (by omega)), hW.2.2.1.below hB (by omega), hW.2.2.2.below hB (by omega)⟩) ⟨hb.keep hB1, KeptS.of _ hB1, hkc, hkb⟩ (enters_of Tryz.func25 (by kernel_rfl) rfl)
  (fun s W ad y hW hws had hadS hcl hy => by
   rw [show #[Value.slice (some ad) (sz k) (sz k)] ++ #[.pointer (some ⟨w.heap.size, 0, none⟩), .pointer (some ⟨w.heap.size + 1, 0, none⟩)] = #[.slice (some ad) (sz k) (sz k), .pointer (some ⟨w.heap.size, 0, none⟩), .pointer (some ⟨w.heap.size + 1, 0, none⟩)] by simp]
   refine (al_all W p s.2 s.1 k gc base L key ad (sz k) _ _ bk y (h.keepS hb hW.2.1) hW.1 hW.2.2.1 hW.2.2.2 (by omega) hadS hcl hy _ _ _ rfl).mono ?_
   rintro e W' ⟨hK, hB, ho⟩
   have hI := And.intro hB (And.intro (hW.2.1.trans hK) (And.intro (hK.blk hW.2.2.1 (fun e => by have := hSw _ e; omega)) (hK.blk hW.2.2.2 (fun e => by have := hSw _ e; omega))))
   refine ⟨hK, ?_⟩
   rcases ho with ⟨yy, g, ho, rfl, hbg, -⟩ | ⟨j, xx, ho, rfl, hj, -⟩
   ·exact .inl ⟨yy, g, _, ho, rfl, hbg, hI⟩
   exact .inr ⟨j, xx, ho, rfl, hj, hI⟩))
 have HC := hid (h.keep hB1)
 have HM : M % sz k = 0 := by rw [hM]; exact Nat.mul_mod_left _ _
 have hHM : decide (M % sz k = 0) = true := decide_eq_true HM
 have HMN := hid hM
 clear h hb hM hx hR hkc hkb HM hSw
 go_enter Tryz.func8, Tryz.ntmps8
 go_wp2_with (first
  | (go_at_call 22; refine (sizeOf_any _ p k gc base L key HC.out).mono ?_; rintro e w1 ⟨rfl, rfl⟩)
  | (go_at_call 23; refine (whole_any A M c (sz k) (sz_or k) hN _).mono ?_; rintro e w1 ⟨rfl, rfl⟩; rw [hHM])
  | (go_at_call 24; refine HE.out.mono ?_; rintro e w1 ⟨hK, hO⟩; obtain ⟨v1, v2, rfl⟩ : ∃ v1 v2, e = .returned (.tuple #[v1, v2]) := (by rcases hO with ⟨_, _, -, rfl, -⟩ | ⟨_, _, _, _, _, -, -, -, rfl, -⟩ <;> exact ⟨_, _, rfl⟩)))
 go_ret2
 refine ⟨(KeptS.of _ hB1).trans hK, ?_⟩
 rcases hO with ⟨r, v, h1, h2, h3, h4⟩ | ⟨K, r, f, g, xv, h0, h1, h2, h3, h4, h5, h6⟩
 ·exact .inl ⟨r, v, h1, h2, by rw [← HMN.out]; exact own_base h3 (by omega), h4.1⟩
 exact .inr ⟨K, r, f, g, xv, h0, h1, h2, h3, h4, h5, h6.1⟩
end Go.Proofs.YtlmnoapoofmmnaaGreatDoor.Md
namespace Go.Proofs.YtlmnoapoofmmnaaGreatDoor.Md
open Mem Bk Go.ChangeShapes Go.WideShapes Go.ChangeAt Go.RowKit
theorem doOut_slice {p : Pl} {k d' : Nat} {o : Option (Nat → Nat)} {R' : List Rw} {w w' : World} {e : Ending} (h : DoOut p k o R' d' w e w') : ∃ Az nz cz v2, e = .returned (.tuple #[.slice Az nz cz, v2]) := by
 obtain ⟨-, -, ⟨_, _, -, rfl, -⟩ | ⟨_, _, -, rfl, -⟩⟩ := h
 ·exact ⟨_, _, _, _, rfl⟩
 exact ⟨_, _, _, _, rfl⟩
set_option maxRecDepth 100000 in
set_option maxHeartbeats 1000000 in
theorem ch_all (W : World) (p : Pl) (d : Nat) (R : List Rw) (k gc base L : Nat) (key : Nat → Nat) (ad : Addr) (c kc gA B : Nat) (s y : Nat → Nat) (h : CiAt W p k gc base L key) (hb : BookAt W p d R) (hkc : Blk W kc 25 #[.pointer (some ⟨gc, 0, none⟩)]) (hA : AhAt B gA (sz k) s W) (hB : B ≤ W.heap.size) (had : ad.block < W.heap.size) (hc : ∀ i, i < sz k → W.cell? (ad.add i) = some (.int .u8 ((y i : Nat) : Int))) (hy : ∀ i, i < sz k → y i < 256)
  (o : Option (Nat → Nat)) (R' : List Rw) (d' : Nat) (ht : turnC k L key p R d false (xr y s) = (o, R', d')) (hol : ∀ z, o = some z → ∀ i, i < sz k → z i < 256) :
  Calls Tryz.prog 48 #[.slice (some ad) (sz k) c, .pointer (some ⟨gA, 0, none⟩), .pointer (some ⟨kc, 0, none⟩)] W fun e w' => KeptS (gA :: p.S) W w' ∧ BookAt w' p d' R' ∧ ((∃ z g, o = some z ∧ e = .returned (.tuple #[.slice (some ⟨g, 0, none⟩) (sz k) (sz k), .nilIface]) ∧ Blk w' g (tyOf k) (row (sz k) (b8 z)) ∧ AhAt B gA (sz k) z w') ∨ (∃ j xv, o = none ∧ e = .returned (.tuple #[.slice none 0 0, .iface 66 (.pointer (some ⟨j, 0, none⟩))]) ∧ Blk w' j 69 #[xv, .iface 56 (.int .i64 13)])) := by
 obtain ⟨ad0, c0, hb0, hs, hR0⟩ := hA.reads hB
 have hszk : sz k ≤ 100000 := by rcases sz_or k with h | h <;> omega
 have HX := hid (xor_any (some ad) (some ad0) (sz k) c c0 y s W hszk hy hs (fun _ => ⟨ad, rfl, had, hc⟩) hR0)
 have hc1 : W.cell? ⟨gA, 0, none⟩ = some (.slice (some ad0) (sz k) c0) := hb0.cell 0
 have HI := hid h
 have HB := hid hb
 have Hk := hid hkc
 have HL := hid hol
 have HT := hid ht
 have HY := hid (xr_by hy hs)
 have hgS := hb.free hb0 (by decide)
 have hSw : ∀ g ∈ p.S, g < W.heap.size := fun g hg => by
  simp only [Pl.S, List.mem_cons, List.not_mem_nil, or_false] at hg
  rcases hg with rfl | rfl | rfl
  ·exact hb.tape.lt
  ·exact (hb.maps false).lt
  exact (hb.maps true).lt
 clear h hb hkc hA hR0 hc hy hs hol ht
 go_enter Tryz.func48, Tryz.ntmps48
 go_wp2_with (first
  | (go_at_call 47; refine HX.out.mono ?_; rintro e w1 ⟨rfl, hx1, hB1⟩; have hs1 := hB1.size; have hk1 : w1.cell? ⟨kc, 0, none⟩ = some (.pointer (some ⟨gc, 0, none⟩)) := (Hk.out.below hB1 Hk.out.lt).cell 0; have HD := hid (do_any w1 p d R k gc base L key ⟨W.heap.size, 0, none⟩ (sz k) false (xr y s) (HI.out.keep hB1) (HB.out.keep hB1) hx1.lt (fun hm => Nat.lt_irrefl _ (hSw _ hm)) (fun i hi => by rw [add_zero_off]; exact hx1.val i hi) HY.out o R' d' HT.out))
  | (go_at_call 26; refine HD.out.mono ?_; rintro e w2 hO; obtain ⟨Az, nz, cz, v2, rfl⟩ := doOut_slice hO; have hbA := hO.1.blk (hb0.below hB1 hb0.lt) hgS; have hcA : w2.cell? ⟨gA, 0, none⟩ = some (.slice (some ad0) (sz k) c0) := hbA.cell 0; have hfA := hbA.free 0; have hbA2 : Blk (w2.setCell ⟨gA, 0, none⟩ (.slice Az nz cz)) gA 22 #[.slice Az nz cz] := hbA.setCell 0 _; have hcA2 : (w2.setCell ⟨gA, 0, none⟩ (.slice Az nz cz)).cell? ⟨gA, 0, none⟩ = some (.slice Az nz cz) := hbA2.cell 0))
 go_ret2
 have hgA := hb0.lt
 obtain ⟨hK2, hBk, ho⟩ := hO
 have hK3 : KeptS [gA] w2 (w2.setCell ⟨gA, 0, none⟩ (.slice Az nz cz)) := ⟨rfl, rfl, rfl, (grownBy_setCell' w2 gA _).size, fun q hq hn => (grownBy_setCell' w2 gA _).block q hq (fun e => hn (by cases e; simp))⟩
 refine ⟨((KeptS.of _ hB1).trans (hK2.more (by simp +contextual))).trans (hK3.more (by simp)), ?_, ?_⟩
 ·exact ⟨hK3.blk hBk.book (by simpa using (hbA.ne hBk.book (by decide))), hK3.blk hBk.tape (by simpa using (hbA.ne hBk.tape (by decide))), hK3.own hBk.own (fun g cs hg => by simpa using (hbA.ne hg (by decide))), fun bk => hK3.map (hBk.maps bk) (by simpa using (hBk.maps bk).ne_blk hbA), hBk.ne, hBk.inv, hBk.lo⟩
 rcases ho with ⟨z, g, ho, he, hbg, hgs⟩ | ⟨j, xx, ho, he, hj, hgs⟩
 ·cases he
  have hbg2 := hK3.blk hbg (by simp; omega)
  exact .inl ⟨z, g, ho, rfl, hbg2, _, _, hbA2, HL.out z ho, .inr ⟨g, _, rfl, tyOf_or k, hbg2⟩⟩
 cases he
 exact .inr ⟨j, xx, ho, rfl, hK3.blk hj (by simp; omega)⟩
end Go.Proofs.YtlmnoapoofmmnaaGreatDoor.Md
namespace Go.Proofs.YtlmnoapoofmmnaaGreatDoor.Md
open Mem Bk Go.ChangeShapes Go.WideShapes Go.ChangeAt Go.RowKit
theorem kept_new {S : List Nat} {w W W' : World} {g : Nat} (h : KeptS S w W) (h' : KeptS (g :: S) W W') (hg : w.heap.size ≤ g) : KeptS S w W' :=
 ⟨h'.os.trans h.os, h'.tape.trans h.tape, h'.output.trans h.output, Nat.le_trans h.size h'.size, fun k hk hs => (h'.block k (Nat.lt_of_lt_of_le hk h.size) (by simp only [List.mem_cons, not_or]; exact ⟨by omega, hs⟩)).trans (h.block k hk hs)⟩
def stOF (k L : Nat) (key : Nat → Nat) (p : Pl) : (List Rw × Nat) × (Nat → Nat) → (Nat → Nat) → Option (Nat → Nat) × ((List Rw × Nat) × (Nat → Nat)) := fun s y =>
 match turnC k L key p s.1.1 s.1.2 false (xr y s.2) with
 | (some z, R', d') => (some z, ((R', d'), z))
 | (none, R', d') => (none, ((R', d'), s.2))
def ChainOut (p : Pl) (st : (List Rw × Nat) × (Nat → Nat) → (Nat → Nat) → Option (Nat → Nat) × ((List Rw × Nat) × (Nat → Nat))) (n N : Nat) (x : Nat → Nat) (s0 : (List Rw × Nat) × (Nat → Nat)) (w : World) (e : Ending) (w' : World) : Prop :=
 KeptS p.S w w' ∧ ((∃ r v, runO st n (fun j i => x (j * n + i)) s0 (List.range N) = some r ∧ e = .returned (.tuple #[v, .nilIface]) ∧ Mem.Own w' w.heap.size 5 1 v (N * n) r.2.1 ∧ BookAt w' p r.1.1.2 r.1.1.1) ∨
  (∃ K r f g xv, K < N ∧ runO st n (fun j i => x (j * n + i)) s0 (List.range K) = some r ∧ (st r.1 (fun i => x (K * n + i))).1 = none ∧ e = .returned (.tuple #[.slice none 0 0, .iface 66 (.pointer (some ⟨f, 0, none⟩))]) ∧ Blk w' f 69 #[.int .i64 (K : Int), .iface 66 (.pointer (some ⟨g, 0, none⟩))] ∧ Blk w' g 69 #[xv, .iface 56 (.int .i64 13)] ∧ BookAt w' p (st r.1 (fun i => x (K * n + i))).2.1.2 (st r.1 (fun i => x (K * n + i))).2.1.1))
set_option maxRecDepth 100000 in
set_option maxHeartbeats 1000000 in
theorem chained_forth (w : World) (p : Pl) (d : Nat) (R : List Rw) (k gc base L : Nat) (key : Nat → Nat) (ads : Addr) (cs : Nat) (s : Nat → Nat) (A : Option Addr) (N M c : Nat) (x : Nat → Nat) (h : CiAt w p k gc base L key) (hb : BookAt w p d R) (hM : M = N * sz k) (hN : M ≤ 100000) (hc : M ≤ c) (hA : A = none → M = 0) (hAS : ∀ ad, A = some ad → 0 < M → ad.block ∉ p.S) (hx : ∀ i, i < M → x i < 256) (hR : Reads w w.heap.size A M x)
  (has : ads.block < w.heap.size) (hsc : ∀ i, i < sz k → w.cell? (ads.add i) = some (.int .u8 ((s i : Nat) : Int))) (hs : ∀ i, i < sz k → s i < 256) :
  Calls Tryz.prog 9 #[.pointer (some ⟨gc, 0, none⟩), .slice (some ads) (sz k) cs, .slice A M c, .bool false] w (ChainOut p (stOF k L key p) (sz k) N x ((R, d), s) w) := by
 have hfit := Md.CiAt.fits h
 have hkey := h.1
 have hB1 : Below w.heap.size w ((w.alloc (.cells #[.pointer (some ⟨gc, 0, none⟩)] 25)).alloc (.cells #[.slice (some ads) (sz k) cs] 22)) := ((Below.refl _ w).alloc (Nat.le_refl _) _).alloc (by simp) _
 have hkc : Blk ((w.alloc (.cells #[.pointer (some ⟨gc, 0, none⟩)] 25)).alloc (.cells #[.slice (some ads) (sz k) cs] 22)) w.heap.size 25 #[.pointer (some ⟨gc, 0, none⟩)] := (Blk.fresh _ _ _).alloc _
 have hkb : Blk ((w.alloc (.cells #[.pointer (some ⟨gc, 0, none⟩)] 25)).alloc (.cells #[.slice (some ads) (sz k) cs] 22)) (w.heap.size + 1) 22 #[.slice (some ads) (sz k) cs] := blk_fresh (by simp) _ _
 have hs1 : ((w.alloc (.cells #[.pointer (some ⟨gc, 0, none⟩)] 25)).alloc (.cells #[.slice (some ads) (sz k) cs] 22)).heap.size = w.heap.size + 2 := by simp
 have hAh : AhAt (w.heap.size + 2) (w.heap.size + 1) (sz k) s ((w.alloc (.cells #[.pointer (some ⟨gc, 0, none⟩)] 25)).alloc (.cells #[.slice (some ads) (sz k) cs] 22)) :=
  ⟨ads, cs, hkb, hs, .inl ⟨by omega, by omega, fun i hi => (hB1.cell (p := ads.add i) (by rw [add_block]; exact has)).trans (hsc i hi)⟩⟩
 have hSw : ∀ g ∈ p.S, g < w.heap.size := fun g hg => by
  simp only [Pl.S, List.mem_cons, List.not_mem_nil, or_false] at hg
  rcases hg with rfl | rfl | rfl
  ·exact hb.tape.lt
  ·exact (hb.maps false).lt
  exact (hb.maps true).lt
 have hnS : ∀ g, w.heap.size ≤ g → g ∉ p.S := fun g hg hm => by have := hSw g hm; omega
 have hAS2 : ∀ ad, A = some ad → 0 < M → ad.block ∉ (w.heap.size + 1) :: p.S := fun ad e h0 => by
  obtain ⟨ad', e', hb', -⟩ := hR h0
  rw [e] at e'
  cases e'
  simp only [List.mem_cons, not_or]
  exact ⟨by omega, hAS ad e h0⟩
 have HE := hid (each_opt (fun (s : (List Rw × Nat) × (Nat → Nat)) W => BookAt W p s.1.2 s.1.1 ∧ KeptS p.S w W ∧ Blk W w.heap.size 25 #[.pointer (some ⟨gc, 0, none⟩)] ∧ AhAt (w.heap.size + 2) (w.heap.size + 1) (sz k) s.2 W) (fun (s : (List Rw × Nat) × (Nat → Nat)) W => BookAt W p s.1.2 s.1.1 ∧ KeptS p.S w W) (stOF k L key p) ((w.heap.size + 1) :: p.S) 48 #[.pointer (some ⟨w.heap.size + 1, 0, none⟩), .pointer (some ⟨w.heap.size, 0, none⟩)] (sz k) N M c A x ((R, d), s) ((w.alloc (.cells #[.pointer (some ⟨gc, 0, none⟩)] 25)).alloc (.cells #[.slice (some ads) (sz k) cs] 22))
  (sz_or k) hM hN hc hA hx ((hR.below hB1).more (by omega)) hAS2 (fun g hg => by rw [hs1]; simp only [List.mem_cons] at hg; rcases hg with rfl | hg; omega; have := hSw g hg; omega)
  (fun _ W W' hW hB ha => by rw [hs1] at hB; exact ⟨book_below hb hW.1 hW.2.1 (hB.mono (by omega)), kept_below hW.2.1 (hB.mono (by omega)), hW.2.2.1.below hB (by omega), hW.2.2.2.keep (by omega) hB ha⟩)
  (fun _ W W' hW hB _ => by rw [hs1] at hB; exact ⟨book_below hb hW.1 hW.2 (hB.mono (by omega)), kept_below hW.2 (hB.mono (by omega))⟩) ⟨hb.keep hB1, KeptS.of _ hB1, hkc, hAh⟩ (enters_of Tryz.func48 (by kernel_rfl) rfl)
  (fun s W ad y hW hws had hadS hcl hy => by
   rw [hs1] at hws had
   rw [show #[Value.slice (some ad) (sz k) (sz k)] ++ #[.pointer (some ⟨w.heap.size + 1, 0, none⟩), .pointer (some ⟨w.heap.size, 0, none⟩)] = #[.slice (some ad) (sz k) (sz k), .pointer (some ⟨w.heap.size + 1, 0, none⟩), .pointer (some ⟨w.heap.size, 0, none⟩)] by simp]
   rcases ht : turnC k L key p s.1.1 s.1.2 false (xr y s.2) with ⟨o, R', d'⟩
   obtain ⟨_, _, _, hsb, _⟩ := hW.2.2.2
   have hti := turn_inv hfit hkey hW.1.inv (xr_by hy hsb) ht
   refine (ch_all W p s.1.2 s.1.1 k gc base L key ad (sz k) _ _ (w.heap.size + 2) s.2 y (h.keepS hb hW.2.1) hW.1 hW.2.2.1 hW.2.2.2 (by omega) (by omega) hcl hy o R' d' ht hti.2.1).mono ?_
   rintro e W' ⟨hK, hB, ho⟩
   have hKp := kept_new hW.2.1 hK (by omega)
   refine ⟨hK, ?_⟩
   rcases ho with ⟨z, g, rfl, rfl, hbg, hA'⟩ | ⟨j, xv, rfl, rfl, hj⟩
   ·have hst : stOF k L key p s y = (some z, ((R', d'), z)) := by unfold stOF; rw [ht]
    refine .inl ⟨z, g, _, by rw [hst], rfl, hbg, ?_⟩
    rw [hst]
    exact ⟨hB, hKp, hK.blk hW.2.2.1 (by simp only [List.mem_cons, not_or]; exact ⟨by omega, hnS _ (Nat.le_refl _)⟩), hA'⟩
   have hst : stOF k L key p s y = (none, ((R', d'), s.2)) := by unfold stOF; rw [ht]
   refine .inr ⟨j, xv, by rw [hst], rfl, hj, ?_⟩
   rw [hst]
   exact ⟨hB, hKp⟩))
 have HC := hid h
 have HM : M % sz k = 0 := by rw [hM]; exact Nat.mul_mod_left _ _
 have hHM : decide (M % sz k = 0) = true := decide_eq_true HM
 have HMN := hid hM
 clear h hb hM hx hR hkc hkb HM hAh hSw hnS hAS hAS2 hsc hs hfit hkey
 go_enter Tryz.func9, Tryz.ntmps9
 go_wp2_with (first
  | (go_at_call 22; refine (sizeOf_any _ p k gc base L key HC.out).mono ?_; rintro e w1 ⟨rfl, rfl⟩)
  | (go_at_call 23; refine (whole_any A M c (sz k) (sz_or k) hN _).mono ?_; rintro e w1 ⟨rfl, rfl⟩; rw [hHM])
  | (go_at_call 28; refine (chain_mk _ _ _ _ _).mono ?_; rintro e w1 ⟨rfl, rfl⟩)
  | (go_at_call 24; refine HE.out.mono ?_; rintro e w1 ⟨hK, hO⟩; obtain ⟨v1, v2, rfl⟩ : ∃ v1 v2, e = .returned (.tuple #[v1, v2]) := (by rcases hO with ⟨_, _, -, rfl, -⟩ | ⟨_, _, _, _, _, -, -, -, rfl, -⟩ <;> exact ⟨_, _, rfl⟩)))
 go_ret2
 refine ⟨kept_new (KeptS.of _ hB1) hK (by omega), ?_⟩
 rcases hO with ⟨r, v, h1, h2, h3, h4⟩ | ⟨K, r, f, g, xv, h0, h1, h2, h3, h4, h5, h6⟩
 ·exact .inl ⟨r, v, h1, h2, by rw [← HMN.out]; exact own_base h3 (by omega), h4.1⟩
 exact .inr ⟨K, r, f, g, xv, h0, h1, h2, h3, h4, h5, h6.1⟩
end Go.Proofs.YtlmnoapoofmmnaaGreatDoor.Md
