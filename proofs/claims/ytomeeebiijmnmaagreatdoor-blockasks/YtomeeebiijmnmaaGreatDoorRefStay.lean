/-
  Bytes and rows stay where a book is changed, or a book of the document's own is stored: by what the cells are.
-/
import Derived.Test.YtomeeebiijmnmaaGreatDoorRefDo3
namespace Go.Proofs.YtomeeebiijmnmaaGreatDoor.Bk
open Mem Go.ChangeShapes Go.WideShapes Go.ChangeAt Go.RowKit
/-- a cell that is there lies in a block of cells, at its place -/
theorem cell_in {w : World} {a : Addr} {v : Value} (h : w.cell? a = some v) : ∃ cs t fz, w.heap[a.block]? = some (.cells cs t fz) ∧ cs[a.off]? = some v := by
  unfold World.cell? at h
  split at h
  · next c t fz e =>
    split at h
    · cases h
    · exact ⟨c, t, fz, e, h⟩
  · cases h
theorem add_off (a : Addr) (n : Nat) : (a.add n).off = a.off + n := by
  unfold Addr.add
  split
  · next h => omega
  · rfl
/-- no two cells behind one another that are two slices, and no byte, lie in the book's own blocks -/
theorem BookAt.byte_out {w : World} {p : Pl} {d : Nat} {R : List Rw} (h : BookAt w p d R) {a : Addr} {x : Int} (hc : w.cell? a = some (.int .u8 x)) : a.block ∉ p.S := fun hm => by
  obtain ⟨cs, t, fz, hb, hv⟩ := cell_in hc
  simp only [Pl.S, List.mem_cons, List.not_mem_nil, or_false] at hm
  rcases hm with hm | hm | hm
  · rw [hm, h.tape.out] at hb
    cases hb
    obtain ⟨A, c, hpv, -⟩ := h.own.slice
    rw [hpv] at hv
    rcases a with ⟨b, off, sp⟩
    match off, hv with
    | 0, hv => simp at hv
    | 1, hv => simp at hv
    | o + 2, hv => simp at hv
  · have := (h.maps false).out
    rw [show p.m false = p.gf from rfl] at this
    rw [hm, this] at hb
    cases hb
  · have := (h.maps true).out
    rw [show p.m true = p.gk from rfl] at this
    rw [hm, this] at hb
    cases hb
theorem BookAt.slice_out {w : World} {p : Pl} {d : Nat} {R : List Rw} (h : BookAt w p d R) {a : Addr} {A B : Option Addr} {m n c e : Nat} (h0 : w.cell? a = some (.slice A m c)) (h1 : w.cell? (a.add 1) = some (.slice B n e)) : a.block ∉ p.S := fun hm => by
  obtain ⟨cs, t, fz, hb, hv⟩ := cell_in h0
  obtain ⟨cs1, t1, fz1, hb1, hv1⟩ := cell_in h1
  rw [add_block] at hb1
  rw [add_off] at hv1
  simp only [Pl.S, List.mem_cons, List.not_mem_nil, or_false] at hm
  rcases hm with hm | hm | hm
  · rw [hm, h.tape.out] at hb hb1
    cases hb
    cases hb1
    rcases a with ⟨b, off, sp⟩
    match off, hv, hv1 with
    | 0, hv, hv1 => simp at hv1
    | 1, hv, hv1 => simp at hv
    | o + 2, hv, hv1 => simp at hv
  · have := (h.maps false).out
    rw [show p.m false = p.gf from rfl] at this
    rw [hm, this] at hb
    cases hb
  · have := (h.maps true).out
    rw [show p.m true = p.gk from rfl] at this
    rw [hm, this] at hb
    cases hb
section
variable {w w' : World} {p : Pl} {d Lk : Nat} {R R' : List Rw} {A : Option Addr} {n : Nat} {f : Nat → Nat}
/-- bytes, where Do changes its book -/
theorem BookAt.reads (h : BookAt w p d R) (hk : KeptS p.S w w') (hr : Reads w w.heap.size A n f) : Reads w' w'.heap.size A n f := fun hn => by
  obtain ⟨ad, e, hb, hc⟩ := hr hn
  have ho := h.byte_out (hc 0 hn)
  rw [add_block] at ho
  refine ⟨ad, e, Nat.lt_of_lt_of_le hb hk.size, fun i hi => ?_⟩
  rw [World.cell?_of_block (w := w) (by rw [add_block]; exact hk.block _ hb ho)]
  exact hc i hi
theorem BookAt.rowC (h : BookAt w p d R) (hk : KeptS p.S w w') {r : Rw} {c : Nat → Value} (hr : RowC w w.heap.size Lk r c) : RowC w' w'.heap.size Lk r c := by
  obtain ⟨⟨Ak, cp, g, h1, h2, h3, h4⟩, ⟨A1, c1, h5, h6, h7⟩, ⟨A2, c2, h8, h9, h10⟩⟩ := hr
  exact ⟨⟨Ak, cp, g, h1, h.reads hk h2, h3, h4⟩, ⟨A1, c1, h5, h6, h.reads hk h7⟩, ⟨A2, c2, h8, h9, h.reads hk h10⟩⟩
/-- rows, where Do changes its book -/
theorem BookAt.rowsAt (h : BookAt w p d R) (hk : KeptS p.S w w') (hr : RowsAt w w.heap.size A Lk R') : RowsAt w' w'.heap.size A Lk R' := fun i hi => by
  obtain ⟨ad, e, hb, c, hc, hrc⟩ := hr i hi
  obtain ⟨⟨Ak, cp, g, k1, -⟩, ⟨A1, c1, k5, -⟩, -⟩ := id hrc
  have h0 := hc 0 (by omega)
  have h1 := hc 1 (by omega)
  rw [k1, show ((ad.add (i * 3)).add 0) = ad.add (i * 3) by simp [add_add]] at h0
  rw [k5] at h1
  have ho := h.slice_out h0 h1
  rw [add_block] at ho
  refine ⟨ad, e, Nat.lt_of_lt_of_le hb hk.size, c, fun j hj => ?_, h.rowC hk hrc⟩
  rw [World.cell?_of_block (w := w) (by rw [add_block, add_block]; exact hk.block _ hb ho)]
  exact hc j hj
end
section
variable {w : World} {gm Lk : Nat} {R' : List Rw} {A : Option Addr} {n : Nat} {f : Nat → Nat} {S T : Value}
/-- bytes, where the document's own book is stored -/
theorem reads_book {A1 A2 : Option Addr} {n1 c1 n2 c2 : Nat} (hm : Blk w gm 36 (row 2 (bookC (.slice A1 n1 c1) (.slice A2 n2 c2)))) (cs : Array Value) (hr : Reads w w.heap.size A n f) : Reads (w.setRow gm cs) (w.setRow gm cs).heap.size A n f := fun hn => by
  obtain ⟨ad, e, hb, hc⟩ := hr hn
  have hne : ad.block ≠ gm := fun he => by
    obtain ⟨ds, t, fz, hb1, hv⟩ := cell_in (hc 0 hn)
    rw [add_block, he, hm.out] at hb1
    cases hb1
    rw [row2] at hv
    generalize (ad.add 0).off = off at hv
    match off, hv with
    | 0, hv => simp at hv
    | 1, hv => simp at hv
    | o + 2, hv => simp at hv
  refine ⟨ad, e, by simpa using hb, fun i hi => ?_⟩
  rw [World.cell?_of_block (w := w) (by rw [add_block]; exact setRow_other w gm _ cs hne)]
  exact hc i hi
theorem rowC_book {A1 A2 : Option Addr} {n1 c1 n2 c2 : Nat} (hm : Blk w gm 36 (row 2 (bookC (.slice A1 n1 c1) (.slice A2 n2 c2)))) (cs : Array Value) {r : Rw} {c : Nat → Value} (hr : RowC w w.heap.size Lk r c) : RowC (w.setRow gm cs) (w.setRow gm cs).heap.size Lk r c := by
  obtain ⟨⟨Ak, cp, g, h1, h2, h3, h4⟩, ⟨B1, e1, h5, h6, h7⟩, ⟨B2, e2, h8, h9, h10⟩⟩ := hr
  exact ⟨⟨Ak, cp, g, h1, reads_book hm cs h2, h3, h4⟩, ⟨B1, e1, h5, h6, reads_book hm cs h7⟩, ⟨B2, e2, h8, h9, reads_book hm cs h10⟩⟩
/-- rows, where the document's own book is stored -/
theorem rows_book {A1 A2 : Option Addr} {n1 c1 n2 c2 : Nat} (hm : Blk w gm 36 (row 2 (bookC (.slice A1 n1 c1) (.slice A2 n2 c2)))) (cs : Array Value) (hr : RowsAt w w.heap.size A Lk R') : RowsAt (w.setRow gm cs) (w.setRow gm cs).heap.size A Lk R' := fun i hi => by
  obtain ⟨ad, e, hb, c, hc, hrc⟩ := hr i hi
  have hne : ad.block ≠ gm := fun he => by
    obtain ⟨ds, t, fz, hb1, hv⟩ := cell_in (hc 2 (by omega))
    rw [add_block, add_block, he, hm.out] at hb1
    cases hb1
    rw [row2, add_off] at hv
    generalize (ad.add (i * 3)).off = off at hv
    simp at hv
  refine ⟨ad, e, by simpa using hb, c, fun j hj => ?_, rowC_book hm cs hrc⟩
  rw [World.cell?_of_block (w := w) (by rw [add_block, add_block]; exact setRow_other w gm _ cs hne)]
  exact hc j hj
end
end Go.Proofs.YtomeeebiijmnmaaGreatDoor.Bk
