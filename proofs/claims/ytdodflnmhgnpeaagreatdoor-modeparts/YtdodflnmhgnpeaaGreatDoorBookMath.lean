/-
  The oracle's book, without memory: rows, draws till a block is new, what is asked. Rows of one key stay a permutation.
-/
import Derived.Test.YtdodflnmhgnpeaaGreatDoorMem2
namespace Go.Proofs.YtdodflnmhgnpeaaGreatDoor.Bk
open Mem
/-- a row: its key, the block, what it is enciphered to -/
structure Rw where
  k : ByteArray
  x : Nat → Nat
  y : Nat → Nat
/-- the side that is asked (bk: deciphered) -/
def fr (bk : Bool) (r : Rw) : Nat → Nat := if bk then r.y else r.x
def mk (bk : Bool) (s : ByteArray) (a b : Nat → Nat) : Rw := if bk then ⟨s, b, a⟩ else ⟨s, a, b⟩
theorem fr_mk (bk : Bool) (s : ByteArray) (a b : Nat → Nat) : fr bk (mk bk s a b) = a := by cases bk <;> rfl
theorem fr_mk' (bk : Bool) (s : ByteArray) (a b : Nat → Nat) : fr (!bk) (mk bk s a b) = b := by cases bk <;> rfl
theorem mk_k (bk : Bool) (s : ByteArray) (a b : Nat → Nat) : (mk bk s a b).k = s := by cases bk <;> rfl
theorem eqB_refl (n : Nat) (f : Nat → Nat) : eqB n f f = true := eqB_true fun _ _ => rfl
theorem eqB_symm {n : Nat} {f g : Nat → Nat} (h : eqB n f g = true) : eqB n g f = true := eqB_true fun i hi => (eqB_iff.1 h i hi).symm
theorem eqB_trans {n : Nat} {f g h : Nat → Nat} (a : eqB n f g = true) (b : eqB n g h = true) : eqB n f h = true := eqB_true fun i hi => (eqB_iff.1 a i hi).trans (eqB_iff.1 b i hi)
theorem eqB_bool {n m : Nat} {f g p q : Nat → Nat} (h : eqB n f g = true ↔ eqB m p q = true) : eqB n f g = eqB m p q := by
  cases h1 : eqB n f g <;> cases h2 : eqB m p q <;> simp_all
/-- the row r answers this -/
def hitR (bk : Bool) (s : ByteArray) (f : Nat → Nat) (r : Rw) : Bool := decide (r.k = s) && eqB 16 (fr bk r) f
theorem hitR_iff {bk : Bool} {s : ByteArray} {f : Nat → Nat} {r : Rw} : hitR bk s f r = true ↔ r.k = s ∧ eqB 16 (fr bk r) f = true := by simp [hitR]
def hit (bk : Bool) (L : List Rw) (s : ByteArray) (f : Nat → Nat) : Bool := L.any (hitR bk s f)
theorem hit_false {bk : Bool} {L : List Rw} {s : ByteArray} {f : Nat → Nat} : hit bk L s f = false ↔ ∀ r ∈ L, hitR bk s f r = false := by simp [hit]
/-- draws till a block is new: whether there is one, and where it begins, or where draws end -/
def drawTo (F : Nat → Nat) (n : Nat) (tk : (Nat → Nat) → Bool) (d : Nat) : Bool × Nat :=
  if d + 16 ≤ n then (if tk (fun i => F (d + i)) then drawTo F n tk (d + 16) else (true, d)) else (false, d)
termination_by n - d
theorem drawTo_end {F : Nat → Nat} {n : Nat} {tk : (Nat → Nat) → Bool} {d : Nat} (h : n < d + 16) : drawTo F n tk d = (false, d) := by
  rw [drawTo, if_neg (by omega)]
theorem drawTo_new {F : Nat → Nat} {n : Nat} {tk : (Nat → Nat) → Bool} {d : Nat} (h : d + 16 ≤ n) (ht : tk (fun i => F (d + i)) = false) : drawTo F n tk d = (true, d) := by
  rw [drawTo, if_pos h, ht]; rfl
theorem drawTo_old {F : Nat → Nat} {n : Nat} {tk : (Nat → Nat) → Bool} {d : Nat} (h : d + 16 ≤ n) (ht : tk (fun i => F (d + i)) = true) : drawTo F n tk d = drawTo F n tk (d + 16) := by
  rw [drawTo, if_pos h, ht]; rfl
theorem drawTo_spec (F : Nat → Nat) (n : Nat) (tk : (Nat → Nat) → Bool) (d : Nat) (hd : d ≤ n) : ∀ b e, drawTo F n tk d = (b, e) → d ≤ e ∧ e ≤ n ∧ (b = true → e + 16 ≤ n ∧ tk (fun i => F (e + i)) = false) ∧ (b = false → n < e + 16) := by
  induction hm : (n - d) using Nat.strongRecOn generalizing d with
  | _ m ih =>
  intro b e h
  by_cases h16 : d + 16 ≤ n
  · cases ht : tk (fun i => F (d + i))
    · rw [drawTo_new h16 ht] at h
      cases h
      exact ⟨Nat.le_refl _, hd, fun _ => ⟨h16, ht⟩, fun h => by cases h⟩
    · rw [drawTo_old h16 ht] at h
      have := ih (n - (d + 16)) (by omega) (d + 16) (by omega) rfl b e h
      exact ⟨by omega, this.2⟩
  · rw [drawTo_end (by omega)] at h
    cases h
    exact ⟨Nat.le_refl _, hd, fun h => (by cases h), fun _ => by omega⟩
/-- what is asked: the answer, the rows then, where the tape stands -/
def askL (F : Nat → Nat) (n : Nat) (s : ByteArray) (L : List Rw) (d : Nat) (bk : Bool) (x : Nat → Nat) : Option (Nat → Nat) × List Rw × Nat :=
  match L.find? (hitR bk s x) with
  | some r => (some (fr (!bk) r), L, d)
  | none => match drawTo F n (hit (!bk) L s) d with
    | (true, e) => (some (fun i => F (e + i)), L ++ [mk bk s x (fun i => F (e + i))], e + 16)
    | (false, e) => (none, L, e)
def Good (r : Rw) : Prop := r.k.size ≤ 32 ∧ (∀ i, i < 16 → r.x i < 256) ∧ ∀ i, i < 16 → r.y i < 256
theorem Good.fr {r : Rw} (h : Good r) (bk : Bool) : ∀ i, i < 16 → fr bk r i < 256 := by cases bk; exact h.2.1; exact h.2.2
theorem good_mk {bk : Bool} {s : ByteArray} {a b : Nat → Nat} (hs : s.size ≤ 32) (ha : ∀ i, i < 16 → a i < 256) (hb : ∀ i, i < 16 → b i < 256) : Good (mk bk s a b) := by
  cases bk
  · exact ⟨hs, ha, hb⟩
  · exact ⟨hs, hb, ha⟩
/-- rows of one key are a permutation -/
def Uniq (L : List Rw) : Prop := L.Pairwise fun r r' => r.k = r'.k → ∀ bk, eqB 16 (fr bk r) (fr bk r') = false
theorem Uniq.one {L : List Rw} (h : Uniq L) {bk : Bool} {s : ByteArray} {f : Nat → Nat} {r r' : Rw} (hr : r ∈ L) (hr' : r' ∈ L) (h1 : hitR bk s f r = true) (h2 : hitR bk s f r' = true) : r = r' := by
  obtain ⟨k1, e1⟩ := hitR_iff.1 h1
  obtain ⟨k2, e2⟩ := hitR_iff.1 h2
  have e12 := eqB_trans e1 (eqB_symm e2)
  obtain ⟨i, hi, rfl⟩ := List.getElem_of_mem hr
  obtain ⟨j, hj, rfl⟩ := List.getElem_of_mem hr'
  have hp := List.pairwise_iff_getElem.1 h
  rcases Nat.lt_trichotomy i j with hij | hij | hij
  · have := hp i j hi hj hij (k1.trans k2.symm) bk
    rw [e12] at this; cases this
  · subst hij; rfl
  · have := hp j i hj hi hij (k2.trans k1.symm) bk
    rw [eqB_symm e12] at this; cases this
theorem find_of {L : List Rw} (h : Uniq L) {bk : Bool} {s : ByteArray} {f : Nat → Nat} {r : Rw} (hr : r ∈ L) (h1 : hitR bk s f r = true) : L.find? (hitR bk s f) = some r := by
  cases hq : L.find? (hitR bk s f) with
  | none => rw [List.find?_eq_none] at hq; exact absurd h1 (hq r hr)
  | some r' => rw [h.one (List.mem_of_find?_eq_some hq) hr (List.find?_some hq) h1]
theorem find_none_hit {L : List Rw} {bk : Bool} {s : ByteArray} {f : Nat → Nat} (h : L.find? (hitR bk s f) = none) : hit bk L s f = false := by
  rw [hit_false]; intro r hr; rw [List.find?_eq_none] at h; simpa using h r hr
theorem uniq_push {L : List Rw} (h : Uniq L) {bk : Bool} {s : ByteArray} {x y : Nat → Nat} (h1 : hit bk L s x = false) (h2 : hit (!bk) L s y = false) : Uniq (L ++ [mk bk s x y]) := by
  unfold Uniq
  rw [List.pairwise_append]
  refine ⟨h, List.pairwise_singleton _ _, ?_⟩
  intro r hr r' hr' hk b
  rw [List.mem_singleton] at hr'
  subst hr'
  rw [mk_k] at hk
  have a1 := hit_false.1 h1 r hr
  have a2 := hit_false.1 h2 r hr
  simp only [hitR, hk, decide_true, Bool.true_and] at a1 a2
  by_cases hb : b = bk
  · subst hb; rw [fr_mk]; exact a1
  · have : b = !bk := by cases b <;> cases bk <;> simp_all
    subst this; rw [fr_mk']; exact a2
section
variable {F : Nat → Nat} {n : Nat} {s : ByteArray} {L : List Rw} {d : Nat} {bk : Bool} {x : Nat → Nat}
theorem askL_old {r : Rw} (h : L.find? (hitR bk s x) = some r) : askL F n s L d bk x = (some (fr (!bk) r), L, d) := by unfold askL; rw [h]
theorem askL_new {e : Nat} (h : L.find? (hitR bk s x) = none) (hd : drawTo F n (hit (!bk) L s) d = (true, e)) : askL F n s L d bk x = (some (fun i => F (e + i)), L ++ [mk bk s x (fun i => F (e + i))], e + 16) := by unfold askL; rw [h, hd]
theorem askL_end {e : Nat} (h : L.find? (hitR bk s x) = none) (hd : drawTo F n (hit (!bk) L s) d = (false, e)) : askL F n s L d bk x = (none, L, e) := by unfold askL; rw [h, hd]
/-- the book's invariant -/
structure Inv (F : Nat → Nat) (n : Nat) (L : List Rw) (d : Nat) : Prop where
  hd : d ≤ n
  hn : n ≤ 65536
  hF : ∀ i, i < n → F i < 256
  rows : 16 * L.length ≤ d
  good : ∀ r ∈ L, Good r
  uniq : Uniq L
theorem Inv.start (hn : n ≤ 65536) (hF : ∀ i, i < n → F i < 256) : Inv F n [] 0 := ⟨by omega, hn, hF, by simp, by simp, List.Pairwise.nil⟩
theorem askL_inv (h : Inv F n L d) (hs : s.size ≤ 32) (hx : ∀ i, i < 16 → x i < 256) {o : Option (Nat → Nat)} {L' : List Rw} {d' : Nat} (ha : askL F n s L d bk x = (o, L', d')) :
    Inv F n L' d' ∧ (∀ y, o = some y → ∀ i, i < 16 → y i < 256) ∧ (o = none → L' = L) ∧ (L' = L ∨ L'.length = L.length + 1) := by
  cases hf : L.find? (hitR bk s x) with
  | some r =>
    rw [askL_old hf] at ha
    cases ha
    exact ⟨h, fun y hy => by cases hy; exact (h.good r (List.mem_of_find?_eq_some hf)).fr _, fun _ => rfl, .inl rfl⟩
  | none =>
    rcases hd : drawTo F n (hit (!bk) L s) d with ⟨_ | _, e⟩
    · rw [askL_end hf hd] at ha
      cases ha
      obtain ⟨h1, h2, _, _⟩ := drawTo_spec F n _ d h.hd _ _ hd
      exact ⟨⟨h2, h.hn, h.hF, by have := h.rows; omega, h.good, h.uniq⟩, fun y hy => (by cases hy), fun _ => rfl, .inl rfl⟩
    · rw [askL_new hf hd] at ha
      cases ha
      obtain ⟨h1, h2, h3, _⟩ := drawTo_spec F n _ d h.hd _ _ hd
      obtain ⟨h4, h5⟩ := h3 rfl
      have hy : ∀ i, i < 16 → F (e + i) < 256 := fun i hi => h.hF _ (by omega)
      refine ⟨⟨h4, h.hn, h.hF, by have := h.rows; simp; omega, ?_, uniq_push h.uniq (find_none_hit hf) h5⟩, fun y hy' => by cases hy'; exact hy, fun h => (by cases h), .inr (by simp)⟩
      intro r hr
      rw [List.mem_append, List.mem_singleton] at hr
      rcases hr with hr | rfl
      · exact h.good r hr
      · exact good_mk hs hx hy
/-- what was answered stands in a row -/
theorem askL_row {y : Nat → Nat} {L' : List Rw} {d' : Nat} (ha : askL F n s L d bk x = (some y, L', d')) :
    ∃ r ∈ L', r.k = s ∧ eqB 16 (fr bk r) x = true ∧ fr (!bk) r = y := by
  cases hf : L.find? (hitR bk s x) with
  | some r =>
    rw [askL_old hf] at ha
    cases ha
    have := hitR_iff.1 (List.find?_some hf)
    exact ⟨r, List.mem_of_find?_eq_some hf, this.1, this.2, rfl⟩
  | none =>
    rcases hd : drawTo F n (hit (!bk) L s) d with ⟨_ | _, e⟩
    · rw [askL_end hf hd] at ha; cases ha
    · rw [askL_new hf hd] at ha
      cases ha
      exact ⟨mk bk s x (fun i => F (e + i)), by simp, mk_k _ _ _ _, by rw [fr_mk]; exact eqB_refl _ _, fr_mk' _ _ _ _⟩
/-- the same is answered again -/
theorem askL_again (h : Inv F n L d) (hs : s.size ≤ 32) (hx : ∀ i, i < 16 → x i < 256) {y : Nat → Nat} {L' : List Rw} {d' : Nat} (ha : askL F n s L d bk x = (some y, L', d')) {x' : Nat → Nat} (he : eqB 16 x x' = true) :
    askL F n s L' d' bk x' = (some y, L', d') := by
  obtain ⟨r, hr, hk, h1, h2⟩ := askL_row ha
  have hi := (askL_inv h hs hx ha).1
  rw [askL_old (find_of hi.uniq hr (hitR_iff.2 ⟨hk, eqB_trans h1 he⟩)), h2]
/-- and back -/
theorem askL_back (h : Inv F n L d) (hs : s.size ≤ 32) (hx : ∀ i, i < 16 → x i < 256) {y : Nat → Nat} {L' : List Rw} {d' : Nat} (ha : askL F n s L d bk x = (some y, L', d')) {y' : Nat → Nat} (he : eqB 16 y y' = true) :
    ∃ z, askL F n s L' d' (!bk) y' = (some z, L', d') ∧ eqB 16 z x = true := by
  obtain ⟨r, hr, hk, h1, h2⟩ := askL_row ha
  have hi := (askL_inv h hs hx ha).1
  refine ⟨fr (!(!bk)) r, askL_old (find_of hi.uniq hr (hitR_iff.2 ⟨hk, by rw [h2]; exact he⟩)), ?_⟩
  rw [Bool.not_not]; exact h1
theorem askL_mem {o : Option (Nat → Nat)} {L' : List Rw} {d' : Nat} (ha : askL F n s L d bk x = (o, L', d')) {r : Rw} (hr : r ∈ L) : r ∈ L' := by
  cases hf : L.find? (hitR bk s x) with
  | some r => rw [askL_old hf] at ha; cases ha; exact hr
  | none =>
    rcases hd : drawTo F n (hit (!bk) L s) d with ⟨_ | _, e⟩
    · rw [askL_end hf hd] at ha; cases ha; exact hr
    · rw [askL_new hf hd] at ha; cases ha; simp [hr]
/-- unlike blocks are answered unlike -/
theorem askL_one (h : Inv F n L d) (hs : s.size ≤ 32) (hx : ∀ i, i < 16 → x i < 256) {u v z : Nat → Nat} (hz : ∀ i, i < 16 → z i < 256) {L1 L2 : List Rw} {d1 d2 : Nat} (ha : askL F n s L d bk x = (some u, L1, d1)) (hb : askL F n s L1 d1 bk z = (some v, L2, d2)) :
    eqB 16 u v = eqB 16 x z := by
  obtain ⟨r, hr, hk, h1, h2⟩ := askL_row ha
  have hi := (askL_inv h hs hx ha).1
  obtain ⟨r', hr', hk', h1', h2'⟩ := askL_row hb
  have hi2 := (askL_inv hi hs hz hb).1
  have hr2 := askL_mem hb hr
  apply eqB_bool
  constructor
  · intro e
    have := hi2.uniq.one (bk := !bk) (s := s) (f := u) hr2 hr' (hitR_iff.2 ⟨hk, by rw [h2]; exact eqB_refl _ _⟩) (hitR_iff.2 ⟨hk', by rw [h2']; exact eqB_symm e⟩)
    subst this
    exact eqB_trans (eqB_symm h1) h1'
  · intro e
    have := hi2.uniq.one (bk := bk) (s := s) (f := x) hr2 hr' (hitR_iff.2 ⟨hk, h1⟩) (hitR_iff.2 ⟨hk', eqB_trans h1' (eqB_symm e)⟩)
    subst this
    rw [← h2, ← h2']; exact eqB_refl _ _
/-- a new book answers, or the tape has too few bytes -/
theorem askL_first (hn : n < 16 ∨ 16 ≤ n) : (askL F n s [] 0 bk x).1 = none → n < 16 := by
  intro h
  rcases hn with hn | hn
  · exact hn
  · rw [askL_new (e := 0) rfl (drawTo_new (by omega) rfl)] at h
    cases h
end
end Go.Proofs.YtdodflnmhgnpeaaGreatDoor.Bk
