/-
 What slices.Reverse does to three keys: a contract over the loaded program.
-/
import Derived.Test.YtlmnoapoofmmnaaGreatDoorDesKeys
import Derived.RegionTactic
import Derived.BigRegion
namespace Go.Proofs.YtlmnoapoofmmnaaGreatDoor.Des
open Go.ChangeShapes Go.WideShapes Go.ChangeAt Go.RowKit Mem
def swap3 (f : Nat → Nat) : Nat → Nat := fun i => if i < 8 then f (16 + i) else if i < 16 then f i else f (i - 16)
theorem swap3_of (f : Nat → Nat) (i : Nat) (hi : i < 24) : (upd (upd (upd (upd (upd (upd (upd (upd (upd (upd (upd (upd (upd (upd (upd (upd (f) 0 (f 16)) 1 (f 17)) 2 (f 18)) 3 (f 19)) 4 (f 20)) 5 (f 21)) 6 (f 22)) 7 (f 23)) 16 (f 0)) 17 (f 1)) 18 (f 2)) 19 (f 3)) 20 (f 4)) 21 (f 5)) 22 (f 6)) 23 (f 7)) i = swap3 f i := by
 have all : i = 0 ∨ i = 1 ∨ i = 2 ∨ i = 3 ∨ i = 4 ∨ i = 5 ∨ i = 6 ∨ i = 7 ∨ i = 8 ∨ i = 9 ∨ i = 10 ∨ i = 11 ∨ i = 12 ∨ i = 13 ∨ i = 14 ∨ i = 15 ∨ i = 16 ∨ i = 17 ∨ i = 18 ∨ i = 19 ∨ i = 20 ∨ i = 21 ∨ i = 22 ∨ i = 23 := by omega
 rcases all with rfl | rfl | rfl | rfl | rfl | rfl | rfl | rfl | rfl | rfl | rfl | rfl | rfl | rfl | rfl | rfl | rfl | rfl | rfl | rfl | rfl | rfl | rfl | rfl <;> rfl
set_option maxRecDepth 100000 in
set_option maxHeartbeats 4000000 in
theorem rev3_any (g : Nat) (f : Nat → Nat) (w : World) (hb : Blk w g 154 (row 24 (b8 f))) :
  Calls Tryz.prog 94 #[.slice (some ⟨g, 0, none⟩) 3 3] w fun e w' => e = .returned (.tuple #[]) ∧ Blk w' g 154 (row 24 (b8 (swap3 f))) ∧ Only g w w' := by
 go_enter Tryz.func94, Tryz.ntmps94
 go_wp2_with fail
 go_loopw [2, 3] (fun i j wr => ∃ k : Nat, k ≤ 1 ∧ i = .int .i64 k ∧ j = .int .i64 (2 - (k : Int)) ∧ Blk wr g 154 (row 24 (b8 (if k = 0 then f else swap3 f))) ∧ Only g w wr) (fun i _ _ => 1 - (intOf i).toNat)
 case atStart => exact ⟨0, by omega, rfl, rfl, hb, Only.refl _ _⟩
 case round =>
  obtain ⟨k, hk, rfl, rfl, hb1, hO⟩ := hrel
  rcases (show k = 0 ∨ k = 1 by omega) with rfl | rfl
  ·simp only [if_true] at hb1
   have v0 := hb1.val 0 (by omega)
   have v1 := hb1.val 1 (by omega)
   have v2 := hb1.val 2 (by omega)
   have v3 := hb1.val 3 (by omega)
   have v4 := hb1.val 4 (by omega)
   have v5 := hb1.val 5 (by omega)
   have v6 := hb1.val 6 (by omega)
   have v7 := hb1.val 7 (by omega)
   have v16 := hb1.val 16 (by omega)
   have v17 := hb1.val 17 (by omega)
   have v18 := hb1.val 18 (by omega)
   have v19 := hb1.val 19 (by omega)
   have v20 := hb1.val 20 (by omega)
   have v21 := hb1.val 21 (by omega)
   have v22 := hb1.val 22 (by omega)
   have v23 := hb1.val 23 (by omega)
   have fr := fun i => hb1.free i
   go_wp2_with fail
   go_region
   have hb2 := ((((((((((((((((hb1.put 0 (f 16)).put 1 (f 17)).put 2 (f 18)).put 3 (f 19)).put 4 (f 20)).put 5 (f 21)).put 6 (f 22)).put 7 (f 23)).put 16 (f 0)).put 17 (f 1)).put 18 (f 2)).put 19 (f 3)).put 20 (f 4)).put 21 (f 5)).put 22 (f 6)).put 23 (f 7)).drew
   have hO2 := ((((((((((((((((hO.setCell 0 (.int .u8 ((f 16 : Nat) : Int))).setCell 1 (.int .u8 ((f 17 : Nat) : Int))).setCell 2 (.int .u8 ((f 18 : Nat) : Int))).setCell 3 (.int .u8 ((f 19 : Nat) : Int))).setCell 4 (.int .u8 ((f 20 : Nat) : Int))).setCell 5 (.int .u8 ((f 21 : Nat) : Int))).setCell 6 (.int .u8 ((f 22 : Nat) : Int))).setCell 7 (.int .u8 ((f 23 : Nat) : Int))).setCell 16 (.int .u8 ((f 0 : Nat) : Int))).setCell 17 (.int .u8 ((f 1 : Nat) : Int))).setCell 18 (.int .u8 ((f 2 : Nat) : Int))).setCell 19 (.int .u8 ((f 3 : Nat) : Int))).setCell 20 (.int .u8 ((f 4 : Nat) : Int))).setCell 21 (.int .u8 ((f 5 : Nat) : Int))).setCell 22 (.int .u8 ((f 6 : Nat) : Int))).setCell 23 (.int .u8 ((f 7 : Nat) : Int))).drew
   rw [row_b8_ext (fun i hi => swap3_of f i hi)] at hb2
   clear v0 v1 v2 v3 v4 v5 v6 v7 v16 v17 v18 v19 v20 v21 v22 v23 fr hb1 hO
   generalize ((((((((((((((((wr.setCell ⟨g, 0, none⟩ (.int .u8 ((f 16 : Nat) : Int))).setCell ⟨g, 1, none⟩ (.int .u8 ((f 17 : Nat) : Int))).setCell ⟨g, 2, none⟩ (.int .u8 ((f 18 : Nat) : Int))).setCell ⟨g, 3, none⟩ (.int .u8 ((f 19 : Nat) : Int))).setCell ⟨g, 4, none⟩ (.int .u8 ((f 20 : Nat) : Int))).setCell ⟨g, 5, none⟩ (.int .u8 ((f 21 : Nat) : Int))).setCell ⟨g, 6, none⟩ (.int .u8 ((f 22 : Nat) : Int))).setCell ⟨g, 7, none⟩ (.int .u8 ((f 23 : Nat) : Int))).setCell ⟨g, 16, none⟩ (.int .u8 ((f 0 : Nat) : Int))).setCell ⟨g, 17, none⟩ (.int .u8 ((f 1 : Nat) : Int))).setCell ⟨g, 18, none⟩ (.int .u8 ((f 2 : Nat) : Int))).setCell ⟨g, 19, none⟩ (.int .u8 ((f 3 : Nat) : Int))).setCell ⟨g, 20, none⟩ (.int .u8 ((f 4 : Nat) : Int))).setCell ⟨g, 21, none⟩ (.int .u8 ((f 5 : Nat) : Int))).setCell ⟨g, 22, none⟩ (.int .u8 ((f 6 : Nat) : Int))).setCell ⟨g, 23, none⟩ (.int .u8 ((f 7 : Nat) : Int))).drew = w2 at *
   go_wp2_with fail
   exact ⟨⟨1, by omega, rfl, rfl, hb2, hO2⟩, by simp [intOf]⟩
  go_wp2_with fail
  go_end0
  exact ⟨rfl, hb1, hO⟩
end Go.Proofs.YtlmnoapoofmmnaaGreatDoor.Des
