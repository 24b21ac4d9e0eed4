/-
  What slices.Reverse does to the round keys: a contract over the loaded program.
-/
import Derived.Test.YtdodflnmhgnpeaaGreatDoorMem5
import Derived.RegionTactic
import Derived.BigRegion
namespace Go.Proofs.YtdodflnmhgnpeaaGreatDoor.Des
open Go.ChangeShapes Go.WideShapes Go.ChangeAt Go.RowKit Mem
theorem iU64' : (Tryz.prog.info? 169).map (·.size) = some 1 := by kernel_rfl
/-- the first k and the last k are exchanged -/
def rv (f : Nat → Nat) (k : Nat) : Nat → Nat := fun i => if i < k ∨ 15 - i < k then f (15 - i) else f i
theorem rv_zero (f : Nat → Nat) : rv f 0 = f := by funext i; unfold rv; simp
theorem rv_end (f : Nat → Nat) (i : Nat) (hi : i < 16) : rv f 8 i = f (15 - i) := by unfold rv; rw [if_pos (by omega)]
theorem rv_step (f : Nat → Nat) (k : Nat) (hk : k < 8) (i : Nat) (hi : i < 16) : upd (upd (rv f k) k (rv f k (15 - k))) (15 - k) (rv f k k) i = rv f (k + 1) i := by
  have e1 : rv f k (15 - k) = f (15 - k) := by unfold rv; rw [if_neg (by omega)]
  have e2 : rv f k k = f k := by unfold rv; rw [if_neg (by omega)]
  rw [e1, e2]
  by_cases h1 : i = 15 - k
  · subst h1; rw [upd_same]; unfold rv; rw [if_pos (by omega), show 15 - (15 - k) = k by omega]
  · rw [upd_other _ _ _ _ h1]
    by_cases h2 : i = k
    · subst h2; rw [upd_same]; unfold rv; rw [if_pos (by omega)]
    · rw [upd_other _ _ _ _ h2]
      unfold rv
      by_cases h3 : i < k ∨ 15 - i < k
      · rw [if_pos h3, if_pos (by omega)]
      · rw [if_neg h3, if_neg (by omega)]
set_option maxRecDepth 100000 in
set_option maxHeartbeats 2000000 in
theorem rev_any (g : Nat) (f : Nat → Nat) (w : World) (hb : Blk w g 170 (row 16 (iv .u64 f))) :
    Calls Tryz.prog 102 #[.slice (some ⟨g, 0, none⟩) 16 16] w fun e w' => e = .returned (.tuple #[]) ∧ Blk w' g 170 (row 16 (iv .u64 fun i => f (15 - i))) ∧ Only g w w' := by
  go_enter Tryz.func102, Tryz.ntmps102
  go_wp2_with fail
  go_loopw [2, 3] (fun i j wr => ∃ k : Nat, k ≤ 8 ∧ i = .int .i64 k ∧ j = .int .i64 (15 - (k : Int)) ∧ Blk wr g 170 (row 16 (iv .u64 (rv f k))) ∧ Only g w wr) (fun i _ _ => 8 - (intOf i).toNat)
  case atStart => exact ⟨0, by omega, rfl, rfl, by rw [rv_zero]; exact hb, Only.refl _ _⟩
  case round =>
    obtain ⟨k, hk, rfl, rfl, hb1, hB⟩ := hrel
    by_cases hlt : k < 8
    · have h0 := hb1.vali k (by omega)
      have h1 := hb1.vali (15 - k) (by omega)
      have f0 := hb1.free k
      have f1 := hb1.free (15 - k)
      have n1 : ¬ k = 15 - k := by omega
      have n2 : ¬ 15 - k = k := by omega
      go_wp2_with fail
      go_region
      have hb2 := (hb1.puti k (rv f k (15 - k))).puti (15 - k) (rv f k k)
      have hB2 := (hB.setCell k (.int .u64 ((rv f k (15 - k) : Nat) : Int))).setCell (15 - k) (.int .u64 ((rv f k k : Nat) : Int))
      rw [iv_ext (fun i hi => rv_step f k hlt i hi)] at hb2
      have hb3 := hb2.drew
      have hB3 := hB2.drew
      clear h0 h1 f0 f1 hb1 hB hb2 hB2
      generalize ((wr.setCell ⟨g, k, none⟩ (.int .u64 ((rv f k (15 - k) : Nat) : Int))).setCell ⟨g, 15 - k, none⟩ (.int .u64 ((rv f k k : Nat) : Int))).drew = w2 at *
      go_wp2_with fail
      exact ⟨⟨k + 1, by omega, val_int (by omega), val_int (by omega), hb3, hB3⟩, by simp [intOf]; omega⟩
    · go_wp2_with fail
      obtain rfl : k = 8 := by omega
      go_end0
      refine ⟨rfl, ?_, hB⟩
      rwa [iv_ext (rv_end f)] at hb1
end Go.Proofs.YtdodflnmhgnpeaaGreatDoor.Des
