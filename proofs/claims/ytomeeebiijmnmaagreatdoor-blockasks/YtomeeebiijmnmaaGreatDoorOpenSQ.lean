/-
  A slice of questions (a bool, sixteen bytes, a bool) that came in.
-/
import Derived.Test.YtomeeebiijmnmaaGreatDoorMemX
import Derived.Deep.Slices
namespace Go.Proofs.YtomeeebiijmnmaaGreatDoor.Mem
open Go.ChangeShapes Go.WideShapes Go.ChangeAt Go.RowKit
/-- the questions: which key, which block, which way -/
def ReadsQ (w : World) (B : Nat) (A : Option Addr) (n : Nat) (one : Nat → Bool) (f : Nat → Nat → Nat) (back : Nat → Bool) : Prop :=
  ∀ i, i < n → ∃ ad, A = some ad ∧ ad.block < B ∧ w.cell? ((ad.add (i * 18)).add 0) = some (.bool (one i)) ∧ (∀ j, j < 16 → w.cell? ((ad.add (i * 18)).add (1 + j)) = some (.int .u8 ((f i j : Nat) : Int))) ∧ w.cell? ((ad.add (i * 18)).add 17) = some (.bool (back i))
theorem ReadsQ.below {w w' : World} {B n : Nat} {A : Option Addr} {one back : Nat → Bool} {f : Nat → Nat → Nat} (h : ReadsQ w B A n one f back) (hb : Below B w w') : ReadsQ w' B A n one f back := fun i hi => by
  obtain ⟨ad, h1, h2, h3, h4, h5⟩ := h i hi
  have hk : ∀ k, w'.cell? ((ad.add (i * 18)).add k) = w.cell? ((ad.add (i * 18)).add k) := fun k => hb.cell (by rw [add_block, add_block]; exact h2)
  exact ⟨ad, h1, h2, (hk 0).trans h3, fun j hj => (hk _).trans (h4 j hj), (hk 17).trans h5⟩
theorem cellsQ : Tryz.prog.cellsOf 39 = 18 := by kernel_rfl
theorem cellsA16q : Tryz.prog.cellsOf 37 = 16 := by kernel_rfl
theorem cellsBq : Tryz.prog.cellsOf 4 = 1 := by kernel_rfl
theorem cells8q : Tryz.prog.cellsOf 5 = 1 := by kernel_rfl
theorem open_one {H : Type} {enc : TypeId × Value → H} {W : World} {k : Nat} {cs : List Value} {y : DataW H × List MemPlace} (h : DataW.trod enc Tryz.prog W 0 (fun _ => true) true k 39 cs = some y) :
    ∃ (o : Bool) (f : Nat → Nat) (b : Bool), cs[0]? = some (.bool o) ∧ (∀ j, j < 16 → f j < 256 ∧ cs[1 + j]? = some (.int .u8 ((f j : Nat) : Int))) ∧ cs[17]? = some (.bool b) := by
  cases k with
  | zero => simp [DataW.trod] at h
  | succ k =>
    rw [DataW.trod_step] at h
    unfold DataW.trodStep at h
    simp only [Tryz.underlying39] at h
    split at h
    · rename_i hlen
      rw [cellsQ] at hlen
      simp only [List.mapM_cons, List.mapM_nil, bind, Option.bind_eq_some_iff, Option.map_eq_some_iff, pure, cellsBq, cellsA16q] at h
      obtain ⟨ys, ⟨y0, h0, zs, ⟨y1, h1, us, ⟨y2, h2, _⟩, _⟩, _⟩, _⟩ := h
      obtain ⟨o, ho, _⟩ := DataW.trod_bool Tryz.underlying4 h0
      obtain ⟨b, hb, _⟩ := DataW.trod_bool Tryz.underlying4 h2
      cases k with
      | zero => simp [DataW.trod] at h1
      | succ k =>
        rw [DataW.trod_step] at h1
        unfold DataW.trodStep at h1
        simp only [Tryz.underlying37] at h1
        split at h1
        · simp only [Option.map_eq_some_iff, cells8q] at h1
          obtain ⟨vs, hv, _⟩ := h1
          have hbytes : ∀ j, j < 16 → ∃ n : Nat, n < 256 ∧ cs[1 + j]? = some (.int .u8 (n : Int)) := fun j hj => by
            obtain ⟨n, hn, e⟩ := (mapM_bytes Tryz.underlying5 _ vs hv).1 j (List.mem_range.2 hj)
            rw [List.getElem?_take, if_pos hj, List.getElem?_drop] at e
            exact ⟨n, hn, e⟩
          refine ⟨o, fun j => if hj : j < 16 then Classical.choose (hbytes j hj) else 0, b, ?_, ?_, ?_⟩
          · have e := congrArg (fun l : List Value => l[0]?) ho
            simpa [List.getElem?_take, List.getElem?_drop] using e
          · intro j hj
            have hs := Classical.choose_spec (hbytes j hj)
            simp only [hj, dif_pos]
            exact hs
          · have e := congrArg (fun l : List Value => l[0]?) hb
            simpa [List.getElem?_take, List.getElem?_drop] using e
        · cases h1
    · cases h
set_option maxRecDepth 100000 in
theorem open_qs {H : Type} {enc : TypeId × Value → H} {W : World} {v : Value} {d : DataW H} {ps : List MemPlace} {r : Reach} {b0 : Nat}
    (hok : Value.okWide Tryz.prog W r b0 23 v) (hd : DataW.Trod enc Tryz.prog W 0 (fun _ => true) true 23 v d ps) : ∃ A len cap, ∃ (one : Nat → Bool) (f : Nat → Nat → Nat) (back : Nat → Bool), v = .slice A len cap ∧ len ≤ cap ∧ ReadsQ W W.heap.size A len one f back ∧ ∀ i, i < len → ∀ j, j < 16 → f i j < 256 := by
  obtain ⟨A, len, cap, rfl⟩ := okWide_slice Tryz.underlying23 hok
  obtain ⟨fuel, hf⟩ := hd
  rcases Go.Deep.open_slice Tryz.underlying23 hf with ⟨hcs, _⟩ | ⟨a, l, c, m, k, D, Pl, hcs, _, hl, _, hm, _, hall⟩
  · simp [Value.cells] at hcs
    obtain ⟨rfl, rfl, rfl⟩ := hcs
    exact ⟨none, 0, 0, fun _ => false, fun _ _ => 0, fun _ => false, rfl, Nat.le_refl _, fun i hi => by omega, fun i hi => by omega⟩
  · simp [Value.cells] at hcs
    obtain ⟨rfl, rfl, rfl⟩ := hcs
    simp only [if_true] at hm
    rw [hm, cellsQ] at hall
    have hb : ∀ i, i < len → ∃ (o : Bool) (f : Nat → Nat) (b : Bool), W.cell? ((a.add (i * 18)).add 0) = some (.bool o) ∧ (∀ j, j < 16 → f j < 256 ∧ W.cell? ((a.add (i * 18)).add (1 + j)) = some (.int .u8 ((f j : Nat) : Int))) ∧ W.cell? ((a.add (i * 18)).add 17) = some (.bool b) := by
      intro i hi
      obtain ⟨cs', h1, h2⟩ := hall i (by omega)
      have hget := (World.cells?_some h1).2.2
      obtain ⟨o, f, b, e1, e2, e3⟩ := open_one h2
      exact ⟨o, f, b, (hget 0 (by omega)).trans e1, fun j hj => ⟨(e2 j hj).1, (hget _ (by omega)).trans (e2 j hj).2⟩, (hget 17 (by omega)).trans e3⟩
    refine ⟨some a, len, cap, fun i => if h : i < len then Classical.choose (hb i h) else false, fun i => if h : i < len then Classical.choose (Classical.choose_spec (hb i h)) else fun _ => 0, fun i => if h : i < len then Classical.choose (Classical.choose_spec (Classical.choose_spec (hb i h))) else false, rfl, hl, fun i hi => ⟨a, rfl, ?_, ?_, ?_, ?_⟩, fun i hi j hj => ?_⟩
    · obtain ⟨o, f, b, e1, _⟩ := hb i hi
      have := block_lt_of_cell e1
      rwa [add_block, add_block] at this
    · simp only [hi, dif_pos]
      exact (Classical.choose_spec (Classical.choose_spec (Classical.choose_spec (hb i hi)))).1
    · intro j hj
      simp only [hi, dif_pos]
      exact ((Classical.choose_spec (Classical.choose_spec (Classical.choose_spec (hb i hi)))).2.1 j hj).2
    · simp only [hi, dif_pos]
      exact (Classical.choose_spec (Classical.choose_spec (Classical.choose_spec (hb i hi)))).2.2
    · simp only [hi, dif_pos]
      exact ((Classical.choose_spec (Classical.choose_spec (Classical.choose_spec (hb i hi)))).2.1 j hj).1
end Go.Proofs.YtomeeebiijmnmaaGreatDoor.Mem
