/-
  Arguments, more: an uint16, and a slice of ints.
-/
import Derived.Test.YtdodflnmhgnpeaaGreatDoorOpen
namespace Go.Proofs.YtdodflnmhgnpeaaGreatDoor.Mem
open Go.ChangeShapes Go.WideShapes Go.ChangeAt Go.RowKit
theorem u16_of {a : Int} (h : (Lit.int .u16 a).wf = true) : ∃ n : Nat, n < 65536 ∧ a = n := by
  have : 0 ≤ a ∧ a < 65536 := by
    simp [Lit.wf, IntKind.min, IntKind.max, IntKind.signed, IntKind.bits] at h
    omega
  exact ⟨a.toNat, by omega, by omega⟩
/-- a slice of ints reads as f -/
def ReadsI (w : World) (B : Nat) (A : Option Addr) (n : Nat) (f : Nat → Int) : Prop :=
  0 < n → ∃ ad, A = some ad ∧ ad.block < B ∧ ∀ i, i < n → w.cell? (ad.add i) = some (.int .i64 (f i))
theorem ReadsI.below {w w' : World} {B n : Nat} {A : Option Addr} {f : Nat → Int} (h : ReadsI w B A n f) (hb : Below B w w') : ReadsI w' B A n f := fun hn => by
  obtain ⟨ad, e, hB, hc⟩ := h hn
  exact ⟨ad, e, hB, fun i hi => (hb.cell (p := ad.add i) (by rw [add_block]; exact hB)).trans (hc i hi)⟩
theorem open_is {H : Type} {enc : TypeId × Value → H} {P : Program} {W : World} {t e : TypeId} (ht : P.underlying t = some (.slice e)) (he : P.underlying e = some (.int .i64)) (hc1 : P.cellsOf e = 1) {v : Value} {d : DataW H} {ps : List MemPlace} {r : Reach} {b0 : Nat}
    (hok : Value.okWide P W r b0 t v) (hd : DataW.Trod enc P W 0 (fun _ => true) true t v d ps) : ∃ A len cap, ∃ f : Nat → Int, v = .slice A len cap ∧ len ≤ cap ∧ ReadsI W W.heap.size A len f ∧ ∀ i, i < len → (Lit.int .i64 (f i)).wf = true := by
  obtain ⟨A, len, cap, rfl⟩ := okWide_slice ht hok
  obtain ⟨fuel, hf⟩ := hd
  rcases open_ints ht he hc1 hf with ⟨hcs, _⟩ | ⟨x, l, c, zs, hcs, _, hl, hm, hz, _, hcell, hwz⟩
  · simp [Value.cells] at hcs
    obtain ⟨rfl, rfl, rfl⟩ := hcs
    exact ⟨none, 0, 0, fun _ => 0, rfl, Nat.le_refl _, fun h => absurd h (by omega), fun i hi => by omega⟩
  · simp [Value.cells] at hcs
    obtain ⟨rfl, rfl, rfl⟩ := hcs
    have hzl : zs.length = cap := by simpa using hz
    refine ⟨some x, len, cap, fun i => zs.getD i 0, rfl, hl, fun hn => ⟨x, rfl, ?_, fun i hi => ?_⟩, fun i hi => ?_⟩
    · have := block_lt_of_cell (hcell 0 (by omega))
      rwa [add_block] at this
    · exact hcell i (by omega)
    · have hi' : i < zs.length := by omega
      have hmem : zs.getD i 0 ∈ zs := by rw [List.getD_eq_getElem?_getD, List.getElem?_eq_getElem hi']; simp
      exact hwz _ hmem
theorem i64_of {a : Int} (h : (Lit.int .i64 a).wf = true) : -9223372036854775808 ≤ a ∧ a < 9223372036854775808 := by
  simp [Lit.wf, IntKind.min, IntKind.max, IntKind.signed, IntKind.bits] at h
  omega
end Go.Proofs.YtdodflnmhgnpeaaGreatDoor.Mem
