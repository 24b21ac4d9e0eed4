/-
 What lockboxref02.Same, and book and right of lockboxlaw05 return.
-/
import Derived.Test.YteapfdnjbgonmaaGreatDoorCiX
namespace Go.Proofs.YteapfdnjbgonmaaGreatDoor.Bk
open Mem Go.ChangeShapes Go.WideShapes Go.ChangeAt Go.RowKit
theorem i8q : (Tryz.prog.info? 5).map (·.size) = some 1 := by kernel_rfl
def rk (L : Nat) (key : Nat → Nat) : Nat → Nat := fun i => if 0 < L then key (i % L) else 0
theorem info_u8 : (Tryz.prog.info? 5).map (fun i => (i.zero, i.size, i.bytes)) = some (some (.int .u8 0), 1, 1) := by kernel_rfl
theorem Own.put {w : World} {base : Nat} {A : Option Addr} {n c : Nat} {f : Nat → Nat} (h : Own w base 5 1 (.slice A n c) n f) {i : Nat} (hi : i < n) (v : Nat) :
  ∃ g, A = some ⟨g, 0, none⟩ ∧ base ≤ g ∧ g < w.heap.size ∧ w.cell? ⟨g, i, none⟩ = some (.int .u8 ((f i : Nat) : Int)) ∧ w.frozen? ⟨g, i, none⟩ = false ∧ Own (w.setCell ⟨g, i, none⟩ (.int .u8 (v : Int))) base 5 1 (.slice A n c) n (upd f i v) := by
 obtain ⟨h1, ⟨hv, hn0⟩ | ⟨g, c', cur, hv, hbk, hblk, hnc, hcm, hsz, hcs⟩⟩ := h
 ·omega
 have e1 : A = some ⟨g, 0, none⟩ := by injection hv
 have e2 : c = c' := by injection hv
 subst e1 e2
 have hb : Blk w g 5 cur := hblk
 have hget : ∀ j, j < n → cur[j]? = some (b8 f j) := by
  intro j hj
  have e := congrArg (fun l : List Value => l[j]?) hcs
  simp only [List.getElem?_take, Nat.mul_one, hj, if_true, List.getElem?_map, List.getElem?_range, Option.map_some, Array.getElem?_toList] at e
  exact e
 refine ⟨g, rfl, hbk, hb.lt, ?_, hb.free i, ?_⟩
 ·rw [hb.cell, hget i hi]; rfl
 refine ⟨by simp, .inr ⟨g, c, cur.setIfInBounds i (.int .u8 (v : Int)), rfl, hbk, hb.setCell i _, hnc, hcm, by simpa using hsz, ?_⟩⟩
 apply List.ext_getElem?
 intro j
 rw [List.getElem?_take, Nat.mul_one]
 by_cases hj : j < n
 ·rw [if_pos hj, Array.getElem?_toList, Array.getElem?_setIfInBounds]
  simp only [List.getElem?_map, List.getElem?_range hj, Option.map_some]
  have hcz : j < cur.size := by rw [hsz]; omega
  by_cases hij : i = j
  ·subst hij
   rw [if_pos rfl, if_pos hcz]
   unfold b8; rw [upd_same]
  rw [if_neg hij, hget j hj]
  unfold b8; rw [upd_other _ _ _ _ (fun e => hij e.symm)]
 rw [if_neg hj, List.getElem?_eq_none (by simp; omega)]
end Go.Proofs.YteapfdnjbgonmaaGreatDoor.Bk
