/-
  What a store into the book leaves as it was.
-/
import Derived.Test.YtaeleohjikheiaaGreatDoorRefHit
import Derived.Test.YtaeleohjikheiaaGreatDoorDraw
namespace Go.Proofs.YtaeleohjikheiaaGreatDoor.Bk
open Mem Go.ChangeShapes Go.WideShapes Go.ChangeAt Go.RowKit
theorem keptS_row {S : List Nat} {a w : World} (h : KeptS S a w) {g : Nat} (hg : g ∈ S) (cs : Array Value) : KeptS S a (w.setRow g cs) :=
  ⟨h.os, h.tape, h.output, (by simpa using h.size), fun j hj hs => (setRow_other w g j cs (fun e => hs (e ▸ hg))).trans (h.block j hj hs)⟩
theorem cell_in {w : World} {a : Addr} {v : Value} (h : w.cell? a = some v) : ∃ cs t fz, w.heap[a.block]? = some (.cells cs t fz) ∧ cs[a.off]? = some v := by
  unfold World.cell? at h
  split at h
  · next c t fz e =>
    split at h
    · cases h
    · exact ⟨c, t, fz, e, h⟩
  · cases h
theorem add_off (a : Addr) (n : Nat) : (a.add n).off = a.off + n := by
  unfold Addr.add
  split
  · next h => omega
  · rfl
section
variable {w : World} {gm Lk : Nat} {R' : List Rw} {A : Option Addr} {n : Nat} {f : Nat → Nat} {S T : Value}
/-- bytes, where the document's own book is stored -/
theorem reads_book {A1 A2 : Option Addr} {n1 c1 n2 c2 : Nat} (hm : Blk w gm 37 (row 2 (bookC (.slice A1 n1 c1) (.slice A2 n2 c2)))) (cs : Array Value) (hr : Reads w w.heap.size A n f) : Reads (w.setRow gm cs) (w.setRow gm cs).heap.size A n f := fun hn => by
  obtain ⟨ad, e, hb, hc⟩ := hr hn
  have hne : ad.block ≠ gm := fun he => by
    obtain ⟨ds, t, fz, hb1, hv⟩ := cell_in (hc 0 hn)
    rw [add_block, he, hm.out] at hb1
    cases hb1
    rw [row2] at hv
    generalize (ad.add 0).off = off at hv
    match off, hv with
    | 0, hv => simp at hv
    | 1, hv => simp at hv
    | o + 2, hv => simp at hv
  refine ⟨ad, e, by simpa using hb, fun i hi => ?_⟩
  rw [World.cell?_of_block (w := w) (by rw [add_block]; exact setRow_other w gm _ cs hne)]
  exact hc i hi
theorem rowC_book {A1 A2 : Option Addr} {n1 c1 n2 c2 : Nat} (hm : Blk w gm 37 (row 2 (bookC (.slice A1 n1 c1) (.slice A2 n2 c2)))) (cs : Array Value) {r : Rw} {c : Nat → Value} (hr : RowC w w.heap.size Lk r c) : RowC (w.setRow gm cs) (w.setRow gm cs).heap.size Lk r c := by
  obtain ⟨⟨Ak, cp, g, h1, h2, h3, h4⟩, ⟨B1, e1, h5, h6, h7⟩, ⟨B2, e2, h8, h9, h10⟩⟩ := hr
  exact ⟨⟨Ak, cp, g, h1, reads_book hm cs h2, h3, h4⟩, ⟨B1, e1, h5, h6, reads_book hm cs h7⟩, ⟨B2, e2, h8, h9, reads_book hm cs h10⟩⟩
/-- rows, where the document's own book is stored -/
theorem rows_book {A1 A2 : Option Addr} {n1 c1 n2 c2 : Nat} (hm : Blk w gm 37 (row 2 (bookC (.slice A1 n1 c1) (.slice A2 n2 c2)))) (cs : Array Value) (hr : RowsAt w w.heap.size A Lk R') : RowsAt (w.setRow gm cs) (w.setRow gm cs).heap.size A Lk R' := fun i hi => by
  obtain ⟨ad, e, hb, c, hc, hrc⟩ := hr i hi
  have hne : ad.block ≠ gm := fun he => by
    obtain ⟨ds, t, fz, hb1, hv⟩ := cell_in (hc 2 (by omega))
    rw [add_block, add_block, he, hm.out] at hb1
    cases hb1
    rw [row2, add_off] at hv
    generalize (ad.add (i * 3)).off = off at hv
    simp at hv
  refine ⟨ad, e, by simpa using hb, c, fun j hj => ?_, rowC_book hm cs hrc⟩
  rw [World.cell?_of_block (w := w) (by rw [add_block, add_block]; exact setRow_other w gm _ cs hne)]
  exact hc j hj
end
end Go.Proofs.YtaeleohjikheiaaGreatDoor.Bk
