/-
  What came in, opened: byte slices, arrays of bytes; the listed variable errors.errorType.
-/
import Derived.Test.YtdodflnmhgnpeaaGreatDoorAs
import Derived.ChangeSame
import Derived.ChangeVars
import Derived.JoinedOf
import Derived.RowKit
import Derived.LaidLaws
import Derived.LaidHandle
import Derived.Stop.Joined
import Derived.ChangeOld
import Derived.Below
namespace Go.Proofs.YtdodflnmhgnpeaaGreatDoor.Mem
open Go.ChangeShapes Go.WideShapes Go.ChangeAt Go.RowKit
section
variable {H : Type} {enc : TypeId × Value → H} {P : Program} {W : World}
theorem byte_of {a : Int} (h : (Lit.int .u8 a).wf = true) : ∃ n : Nat, n < 256 ∧ a = n := by
  have : 0 ≤ a ∧ a < 256 := by
    simp [Lit.wf, IntKind.min, IntKind.max, IntKind.signed, IntKind.bits] at h
    omega
  exact ⟨a.toNat, by omega, by omega⟩
theorem mapM_bytes {e : TypeId} (he : P.underlying e = some (.int .u8)) {base : Nat} {sp : Nat → Bool} {held : Bool} {m : Nat} {cs : List Value} : ∀ (L : List Nat) (ys : List (DataW H × List MemPlace)),
    (L.mapM fun i => DataW.trod enc P W base sp held m e ((cs.drop (i * 1)).take 1)) = some ys → (∀ i ∈ L, ∃ n : Nat, n < 256 ∧ cs[i]? = some (.int .u8 (n : Int))) ∧ ys.flatMap (·.2) = []
  | [], ys, h => by simp at h; subst h; simp
  | i :: L, ys, h => by
    rw [List.mapM_cons] at h
    simp only [bind, Option.bind_eq_some_iff, pure, Option.some.injEq] at h
    obtain ⟨y, hy, zs, hys, rfl⟩ := h
    obtain ⟨h1, h2⟩ := mapM_bytes he L zs hys
    obtain ⟨a, ea, rfl, wa⟩ := DataW.trod_int he hy
    refine ⟨fun j hj => ?_, by simp [h2]⟩
    rcases List.mem_cons.1 hj with rfl | hj
    · obtain ⟨n, hn, rfl⟩ := byte_of wa
      refine ⟨n, hn, ?_⟩
      have e2 := congrArg (fun l : List Value => l[0]?) ea
      simp at e2
      exact e2
    · exact h1 j hj
/-- an array of bytes that came in -/
theorem open_row {t e : TypeId} {n : Nat} (ht : P.underlying t = some (.array n e)) (hc : P.cellsOf t = n) (hc1 : P.cellsOf e = 1) (he : P.underlying e = some (.int .u8)) {base b0 : Nat} {sp : Nat → Bool} {held : Bool} {r : Reach} {v : Value} {d : DataW H} {ps : List MemPlace}
    (hok : Value.okWide P W r b0 t v) (hd : DataW.Trod enc P W base sp held t v d ps) : ∃ f : Nat → Nat, v = .agg (row n (b8 f)) ∧ ∀ i, i < n → f i < 256 := by
  simp only [Value.okWide, ht] at hok
  obtain ⟨cs, rfl, hs, _⟩ := hok
  rw [hc] at hs
  obtain ⟨fuel, hf⟩ := hd
  cases fuel with
  | zero => simp [DataW.trod] at hf
  | succ m =>
    rw [DataW.trod_step] at hf
    unfold DataW.trodStep at hf
    simp only [ht, Value.cells] at hf
    rw [if_pos (by rw [hc]; simpa using hs)] at hf
    simp only [Option.map_eq_some_iff, hc1] at hf
    obtain ⟨ys, hy, e1⟩ := hf
    obtain ⟨h1, h2⟩ := mapM_bytes he _ ys hy
    refine ⟨fun i => if h : i < n then Classical.choose (h1 i (List.mem_range.2 h)) else 0, ?_, ?_⟩
    · congr 1
      apply row_of hs
      intro i hi
      have := (Classical.choose_spec (h1 i (List.mem_range.2 hi))).2
      simp only [Array.getElem?_toList] at this
      rw [this]
      simp [b8, hi]
    · intro i hi
      simp only [hi, dif_pos]
      exact (Classical.choose_spec (h1 i (List.mem_range.2 hi))).1
/-- a byte slice that came in -/
theorem open_bytes {t e : TypeId} (ht : P.underlying t = some (.slice e)) (he : P.underlying e = some (.int .u8)) (hc1 : P.cellsOf e = 1) {v : Value} {d : DataW H} {ps : List MemPlace} {r : Reach} {b0 : Nat}
    (hok : Value.okWide P W r b0 t v) (hd : DataW.Trod enc P W 0 (fun _ => true) true t v d ps) : ∃ A len cap, ∃ f : Nat → Nat, v = .slice A len cap ∧ len ≤ cap ∧ Reads W W.heap.size A len f ∧ ∀ i, i < len → f i < 256 := by
  obtain ⟨A, len, cap, rfl⟩ := okWide_slice ht hok
  obtain ⟨fuel, hf⟩ := hd
  rcases open_ints ht he hc1 hf with ⟨hcs, _⟩ | ⟨x, l, c, zs, hcs, _, hl, hm, hz, _, hcell, hwz⟩
  · simp [Value.cells] at hcs
    obtain ⟨rfl, rfl, rfl⟩ := hcs
    exact ⟨none, 0, 0, fun _ => 0, rfl, Nat.le_refl _, fun h => absurd h (by omega), fun i hi => by omega⟩
  · simp [Value.cells] at hcs
    obtain ⟨rfl, rfl, rfl⟩ := hcs
    have hzl : zs.length = cap := by simpa using hz
    have hb : ∀ i, i < len → ∃ n : Nat, n < 256 ∧ zs.getD i 0 = (n : Int) := fun i hi => by
      have hi' : i < zs.length := by omega
      have hmem : zs.getD i 0 ∈ zs := by rw [List.getD_eq_getElem?_getD, List.getElem?_eq_getElem hi']; simp
      exact byte_of (hwz _ hmem)
    refine ⟨some x, len, cap, fun i => (zs.getD i 0).toNat, rfl, hl, fun hn => ⟨x, rfl, ?_, fun i hi => ?_⟩, fun i hi => ?_⟩
    · have := block_lt_of_cell (hcell 0 (by omega))
      rwa [add_block] at this
    · obtain ⟨n, _, e⟩ := hb i hi
      show W.cell? (x.add i) = some (.int .u8 (((zs.getD i 0).toNat : Nat) : Int))
      rw [hcell i (by omega), e, Int.toNat_natCast]
    · obtain ⟨n, hn, e⟩ := hb i hi
      show (zs.getD i 0).toNat < 256
      rw [e, Int.toNat_natCast]; exact hn
theorem trod_below {t : TypeId} {v : Value} {d : DataW H} {ps : List MemPlace} (hd : DataW.Trod enc P W 0 (fun _ => true) true t v d ps) : ∀ x ∈ ps, x.block < W.heap.size := by
  obtain ⟨m, hm⟩ := hd
  exact DataW.trod_lt m _ _ _ hm
end
end Go.Proofs.YtdodflnmhgnpeaaGreatDoor.Mem
namespace Go.Proofs.YtdodflnmhgnpeaaGreatDoor.Card
open Go.ChangeShapes Go.WideShapes Go.RowKit
theorem own : ownKnob Tryz.prog.godebug = none := by kernel_rfl
theorem laidOut : laidOutB Tryz.prog = true := by kernel_rfl
theorem et : Tryz.prog.globalNamed "errors.errorType" = some 0 := by kernel_rfl
theorem rt : (Tryz.prog.cutTypes.find? (·.1 == "internal/reflectlite.rtype")).map (·.2) = some 136 := by kernel_rfl
theorem oneRow : ((List.range 217).filter fun t => Tryz.prog.rowNamed t [101, 114, 114, 111, 114]) = [31] := by kernel_rfl
theorem size : Tryz.prog.types.size = 217 := by kernel_rfl
def laid : List (String × DataW Unit) := [("errors.errorType", Rows.laid_errors_errorType)]
theorem handle_of_laid {W : World} (h : laidMetH Tryz.prog laid W) : As.Laid W := by
  have h' : laidMet Tryz.prog [] W ∧ handlesMet Tryz.prog laid W := h
  obtain ⟨name, u, ty, e1, e2, e3, e4, e5⟩ := h'.2 _ (List.mem_singleton.2 rfl)
  have en : name = [101, 114, 114, 111, 114] := (Option.some.inj e1).symm
  subst en
  obtain rfl := Option.some.inj (rt.symm.trans e2)
  have hm : ty ∈ (List.range 217).filter fun t => Tryz.prog.rowNamed t [101, 114, 114, 111, 114] := List.mem_filter.2 ⟨List.mem_range.2 (by rw [← size]; exact e3), e4⟩
  rw [oneRow] at hm
  obtain rfl := List.mem_singleton.1 hm
  have hh : typeHandle Tryz.prog 31 = .pointer (some ⟨1, 31, none⟩) := by kernel_rfl
  rw [hh] at e5
  have := World.var?_cell et e5 0
  unfold As.Laid
  simpa using this
/-- a world that meets the condition -/
noncomputable def laidWorld (os : Os) : World :=
  let w0 := World.holding Tryz.prog os ⟨#[], #[], []⟩
  { w0 with heap := w0.heap.modify 0 fun
      | .cells _ t frozen => .cells #[.iface 136 (.agg #[.pointer (some ⟨1, 31, none⟩)])] t frozen
      | o => o }
theorem laidWorld_met (os : Os) (args : Array Value) : laidMetH Tryz.prog laid ((laidWorld os).forCall (fun _ _ => 0) ⟨#[], args, []⟩).memory :=
  laidMetH_of_parts (laidMet_nil _ _) (by kernel_rfl)
end Go.Proofs.YtdodflnmhgnpeaaGreatDoor.Card
