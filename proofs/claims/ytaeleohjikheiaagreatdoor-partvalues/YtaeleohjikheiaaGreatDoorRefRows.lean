/-
  The document's own book: rows of three slices, and what is left of the draws.
-/
import Derived.Test.YtaeleohjikheiaaGreatDoorLaw05
import Derived.Test.YtaeleohjikheiaaGreatDoorTurn
namespace Go.Proofs.YtaeleohjikheiaaGreatDoor.Bk
open Mem Go.ChangeShapes Go.WideShapes Go.ChangeAt Go.RowKit
theorem strF_succ (n : Nat) (f : Nat → Nat) : strF (n + 1) f = (strF n f).push (UInt8.ofNat (f n)) := by
  unfold strF
  rw [List.range_succ, List.map_append, List.foldl_append]
  simp
theorem strF_inj {f g : Nat → Nat} : ∀ n, strF n f = strF n g → (∀ i, i < n → f i < 256) → (∀ i, i < n → g i < 256) → ∀ i, i < n → f i = g i
  | 0, _, _, _, i, hi => by omega
  | n + 1, h, hf, hg, i, hi => by
    rw [strF_succ, strF_succ] at h
    have hd := congrArg ByteArray.data h
    simp only [ByteArray.data_push] at hd
    have h1 := (Array.push_eq_push.1 hd).2
    have h2 := (Array.push_eq_push.1 hd).1
    rcases Nat.lt_or_ge i n with hi' | hi'
    · exact strF_inj n (ByteArray.ext h1) (fun j hj => hf j (by omega)) (fun j hj => hg j (by omega)) i hi'
    · have : i = n := by omega
      subst this
      have := congrArg UInt8.toNat h2
      have e1 := hf i hi
      have e2 := hg i hi
      simp only [UInt8.toNat_ofNat'] at this
      omega
theorem strF_eqB {n : Nat} {f g : Nat → Nat} (hf : ∀ i, i < n → f i < 256) (hg : ∀ i, i < n → g i < 256) : decide (strF n f = strF n g) = eqB n f g := by
  cases h : eqB n f g
  · simp only [decide_eq_false_iff_not]
    intro e
    rw [eqB_true (strF_inj n e hf hg)] at h
    cases h
  · simp only [decide_eq_true_eq]
    exact strF_ext (eqB_iff.1 h)
/-- the three cells of a row -/
structure RowC (w : World) (B : Nat) (Lk : Nat) (r : Rw) (c : Nat → Value) : Prop where
  key : ∃ A cp, ∃ f : Nat → Nat, c 0 = .slice A Lk cp ∧ Reads w B A Lk f ∧ (∀ i, i < Lk → f i < 256) ∧ r.k = strF Lk f
  inn : ∃ A cp, c 1 = .slice A 16 cp ∧ 16 ≤ cp ∧ Reads w B A 16 r.x
  out : ∃ A cp, c 2 = .slice A 16 cp ∧ 16 ≤ cp ∧ Reads w B A 16 r.y
theorem RowC.below {w w' : World} {B Lk : Nat} {r : Rw} {c : Nat → Value} (h : RowC w B Lk r c) (hb : Below B w w') : RowC w' B Lk r c := by
  obtain ⟨⟨A, cp, f, h1, h2, h3, h4⟩, ⟨A1, c1, h5, h6, h7⟩, ⟨A2, c2, h8, h9, h10⟩⟩ := h
  exact ⟨⟨A, cp, f, h1, h2.below hb, h3, h4⟩, ⟨A1, c1, h5, h6, h7.below hb⟩, ⟨A2, c2, h8, h9, h10.below hb⟩⟩
theorem RowC.more {w : World} {B B' Lk : Nat} {r : Rw} {c : Nat → Value} (h : RowC w B Lk r c) (hb : B ≤ B') : RowC w B' Lk r c := by
  obtain ⟨⟨A, cp, f, h1, h2, h3, h4⟩, ⟨A1, c1, h5, h6, h7⟩, ⟨A2, c2, h8, h9, h10⟩⟩ := h
  exact ⟨⟨A, cp, f, h1, h2.more hb, h3, h4⟩, ⟨A1, c1, h5, h6, h7.more hb⟩, ⟨A2, c2, h8, h9, h10.more hb⟩⟩
/-- a slice of rows -/
def RowsAt (w : World) (B : Nat) (A : Option Addr) (Lk : Nat) (R : List Rw) : Prop :=
  ∀ i, ∀ hi : i < R.length, ∃ ad, A = some ad ∧ ad.block < B ∧ ∃ c : Nat → Value, (∀ j, j < 3 → w.cell? ((ad.add (i * 3)).add j) = some (c j)) ∧ RowC w B Lk R[i] c
theorem RowsAt.below {w w' : World} {B Lk : Nat} {A : Option Addr} {R : List Rw} (h : RowsAt w B A Lk R) (hb : Below B w w') : RowsAt w' B A Lk R := fun i hi => by
  obtain ⟨ad, h1, h2, c, h3, h4⟩ := h i hi
  exact ⟨ad, h1, h2, c, fun j hj => (hb.cell (by rw [add_block, add_block]; exact h2)).trans (h3 j hj), h4.below hb⟩
theorem RowsAt.more {w : World} {B B' Lk : Nat} {A : Option Addr} {R : List Rw} (h : RowsAt w B A Lk R) (hb : B ≤ B') : RowsAt w B' A Lk R := fun i hi => by
  obtain ⟨ad, h1, h2, c, h3, h4⟩ := h i hi
  exact ⟨ad, h1, Nat.lt_of_lt_of_le h2 hb, c, h3, h4.more hb⟩
section
variable {P : Program} {o : Oper} {a : Act} {w : World}
/-- a struct out of memory, wherever it lies -/
theorem exec_loadSt (ty : TypeId) (x : Operand) (ho : o.op = .load ty x) (p : Addr) (hx : a.eval x = .pointer (some p)) (n : Nat) (c : Nat → Value) (hc : ∀ i, i < n → w.cell? (p.add i) = some (c i))
    (fs : Array Field) (hu : P.underlying ty = some (.struct fs)) (hi : (P.info? ty).map (·.size) = some n) : (execOp a.eval o).run P w = .ok (.value (.agg (row n c))) w := by
  have h := run_loadCells (P := P) w p n c hc
  have e1 : ((List.range n).map c).toArray = row n c := by
    apply row_of (by simp)
    intro i hi
    simp [hi]
  rw [e1] at h
  unfold execOp
  simp [ho, hx, Instr.loadAt, Instr.sureAddr, loadVar, isAgg, run_underlying hu, run_size hi, h]
end
theorem zRow : (Tryz.prog.info? 144).map (·.zero) = some (some (.agg (row 3 fun _ => .slice none 0 0))) := by kernel_rfl
theorem iRow : (Tryz.prog.info? 144).map (·.size) = some 3 := by kernel_rfl
theorem zRB : (Tryz.prog.info? 37).map (·.zero) = some (some (.agg #[.slice none 0 0, .slice none 0 0])) := by kernel_rfl
end Go.Proofs.YtaeleohjikheiaaGreatDoor.Bk
