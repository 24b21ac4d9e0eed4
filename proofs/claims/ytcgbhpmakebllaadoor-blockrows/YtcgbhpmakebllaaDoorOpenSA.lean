/-
  A slice of byte arrays that came in.
-/
import Derived.Test.YtcgbhpmakebllaaDoorOpen
import Derived.Deep.Slices
namespace Go.Proofs.YtcgbhpmakebllaaDoor.Mem
open Go.ChangeShapes Go.WideShapes Go.ChangeAt Go.RowKit
theorem open_arrs {H : Type} {enc : TypeId × Value → H} {P : Program} {W : World} {t ta e : TypeId} {n : Nat} (ht : P.underlying t = some (.slice ta)) (hta : P.underlying ta = some (.array n e)) (hc : P.cellsOf ta = n) (hc1 : P.cellsOf e = 1) (he : P.underlying e = some (.int .u8)) (hn : 0 < n) {v : Value} {d : DataW H} {ps : List MemPlace} {r : Reach} {b0 : Nat}
    (hok : Value.okWide P W r b0 t v) (hd : DataW.Trod enc P W 0 (fun _ => true) true t v d ps) : ∃ A len cap, ∃ f : Nat → Nat, v = .slice A len cap ∧ len ≤ cap ∧ Reads W W.heap.size A (len * n) f ∧ ∀ i, i < len * n → f i < 256 := by
  obtain ⟨A, len, cap, rfl⟩ := okWide_slice ht hok
  obtain ⟨fuel, hf⟩ := hd
  rcases Go.Deep.open_slice ht hf with ⟨hcs, _⟩ | ⟨a, l, c, m, k, D, Pl, hcs, _, hl, _, hm, _, hall⟩
  · simp [Value.cells] at hcs
    obtain ⟨rfl, rfl, rfl⟩ := hcs
    exact ⟨none, 0, 0, fun _ => 0, rfl, Nat.le_refl _, fun h => absurd h (by simp), fun i hi => by simp at hi⟩
  · simp [Value.cells] at hcs
    obtain ⟨rfl, rfl, rfl⟩ := hcs
    simp only [if_true] at hm
    rw [hm] at hall
    have hb : ∀ q, q < len * n → ∃ b : Nat, b < 256 ∧ W.cell? (a.add q) = some (.int .u8 (b : Int)) := by
      intro q hq
      have hi : q / n < len := Nat.div_lt_of_lt_mul (by rwa [Nat.mul_comm] at hq)
      have hj : q % n < n := Nat.mod_lt _ hn
      obtain ⟨cs', h1, h2⟩ := hall (q / n) (by omega)
      rw [hc] at h1
      have hget := (World.cells?_some h1).2.2 (q % n) hj
      cases k with
      | zero => simp [DataW.trod] at h2
      | succ k =>
        rw [DataW.trod_step] at h2
        unfold DataW.trodStep at h2
        simp only [hta] at h2
        split at h2
        · simp only [Option.map_eq_some_iff, hc1] at h2
          obtain ⟨ys, hy, _⟩ := h2
          obtain ⟨b, hb, hcb⟩ := (mapM_bytes he _ ys hy).1 (q % n) (List.mem_range.2 hj)
          refine ⟨b, hb, ?_⟩
          rw [hcb, add_add, Nat.mul_comm, Nat.div_add_mod] at hget
          exact hget
        · cases h2
    refine ⟨some a, len, cap, fun q => if h : q < len * n then Classical.choose (hb q h) else 0, rfl, hl, fun hp => ⟨a, rfl, ?_, fun i hi => ?_⟩, fun i hi => ?_⟩
    · obtain ⟨b, _, hcell⟩ := hb 0 hp
      have := block_lt_of_cell hcell
      rwa [add_block] at this
    · have := (Classical.choose_spec (hb i hi)).2
      simp only [hi, dif_pos]
      exact this
    · have := (Classical.choose_spec (hb i hi)).1
      simp only [hi, dif_pos]
      exact this
end Go.Proofs.YtcgbhpmakebllaaDoor.Mem
