/-
  A slice of byte slices that came in.
-/
import Derived.Test.YtaeleohjikheiaaGreatDoorMemX
import Derived.Test.YtaeleohjikheiaaGreatDoorPart2
import Derived.Deep.Slices
namespace Go.Proofs.YtaeleohjikheiaaGreatDoor.Pt
open Mem Go.ChangeShapes Go.WideShapes Go.ChangeAt Go.RowKit
theorem cellsS8 : Tryz.prog.cellsOf 22 = 1 := by kernel_rfl
theorem cellsU8 : Tryz.prog.cellsOf 5 = 1 := by kernel_rfl
set_option maxRecDepth 100000 in
theorem open_one {H : Type} {enc : TypeId × Value → H} {W : World} {k : Nat} {v : Value} {y : DataW H × List MemPlace} (hf : DataW.trod enc Tryz.prog W 0 (fun _ => true) true k 22 [v] = some y) :
    ∃ A len cap, ∃ f : Nat → Nat, v = .slice A len cap ∧ Reads W W.heap.size A len f ∧ ∀ i, i < len → f i < 256 := by
  rcases open_ints Tryz.underlying22 Tryz.underlying5 cellsU8 hf with ⟨hcs, _⟩ | ⟨x, l, c, zs, hcs, _, hl, hm, hz, _, hcell, hwz⟩
  · simp at hcs
    subst hcs
    exact ⟨none, 0, 0, fun _ => 0, rfl, fun h => absurd h (by omega), fun i hi => by omega⟩
  · simp at hcs
    subst hcs
    have hzl : zs.length = c := by simpa using hz
    have hb : ∀ i, i < l → ∃ n : Nat, n < 256 ∧ zs.getD i 0 = (n : Int) := fun i hi => by
      have hi' : i < zs.length := by omega
      have hmem : zs.getD i 0 ∈ zs := by rw [List.getD_eq_getElem?_getD, List.getElem?_eq_getElem hi']; simp
      exact Mem.byte_of (hwz _ hmem)
    refine ⟨some x, l, c, fun i => (zs.getD i 0).toNat, rfl, fun hn => ⟨x, rfl, ?_, fun i hi => ?_⟩, fun i hi => ?_⟩
    · have := block_lt_of_cell (hcell 0 (by omega))
      rwa [add_block] at this
    · obtain ⟨n, _, e⟩ := hb i hi
      show W.cell? (x.add i) = some (.int .u8 (((zs.getD i 0).toNat : Nat) : Int))
      rw [hcell i (by omega), e, Int.toNat_natCast]
    · obtain ⟨n, hn, e⟩ := hb i hi
      show (zs.getD i 0).toNat < 256
      rw [e, Int.toNat_natCast]; exact hn
set_option maxRecDepth 100000 in
theorem open_parts {H : Type} {enc : TypeId × Value → H} {W : World} {v : Value} {d : DataW H} {ps : List MemPlace} {r : Reach} {b0 : Nat}
    (hok : Value.okWide Tryz.prog W r b0 59 v) (hd : DataW.Trod enc Tryz.prog W 0 (fun _ => true) true 59 v d ps) :
    ∃ P len cap, ∃ (a : Nat → Option Addr) (l c : Nat → Nat) (f : Nat → Nat → Nat), v = .slice P len cap ∧ PartsAt W P len a l c f ∧ ∀ i, i < len → ∀ q, q < l i → f i q < 256 := by
  obtain ⟨A, len, cap, rfl⟩ := okWide_slice Tryz.underlying59 hok
  obtain ⟨fuel, hf⟩ := hd
  rcases Go.Deep.open_slice1 Tryz.underlying59 cellsS8 hf with ⟨hcs, _⟩ | ⟨ad, l0, c0, m, k, V, D, Pl, hcs, _, hl, _, hm, _, hall⟩
  · simp [Value.cells] at hcs
    obtain ⟨rfl, rfl, rfl⟩ := hcs
    exact ⟨none, 0, 0, fun _ => none, fun _ => 0, fun _ => 0, fun _ _ => 0, rfl, ⟨fun h => by omega, fun i hi => by omega⟩, fun i hi => by omega⟩
  · simp [Value.cells] at hcs
    obtain ⟨rfl, rfl, rfl⟩ := hcs
    simp only [if_true] at hm
    have h1 : ∀ i : Nat, ∃ X : Option Addr × Nat × Nat × (Nat → Nat), i < len → W.cell? (ad.add i) = some (.slice X.1 X.2.1 X.2.2.1) ∧ Reads W W.heap.size X.1 X.2.1 X.2.2.2 ∧ ∀ q, q < X.2.1 → X.2.2.2 q < 256 := fun i => by
      by_cases hi : i < len
      · obtain ⟨e1, e2⟩ := hall i (by omega)
        obtain ⟨A, ln, cp, f, hv, hR, hb⟩ := open_one e2
        exact ⟨(A, ln, cp, f), fun _ => ⟨by rw [e1, hv], hR, hb⟩⟩
      · exact ⟨(none, 0, 0, fun _ => 0), fun h => absurd h hi⟩
    obtain ⟨X, hX⟩ := Classical.axiomOfChoice h1
    refine ⟨some ad, len, cap, fun i => (X i).1, fun i => (X i).2.1, fun i => (X i).2.2.1, fun i => (X i).2.2.2, rfl, ⟨fun hn => ⟨ad, rfl, ?_, fun i hi => (hX i hi).1⟩, fun i hi => (hX i hi).2.1⟩, fun i hi => (hX i hi).2.2⟩
    have := block_lt_of_cell (hX 0 hn).1
    rwa [add_block] at this
end Go.Proofs.YtaeleohjikheiaaGreatDoor.Pt
