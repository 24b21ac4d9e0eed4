/-
  What lockboxref05.Do returns of TDES.
-/
import Derived.Test.YtomeeebiijmnmaaGreatDoorRefHit
import Derived.Test.YtomeeebiijmnmaaGreatDoorRef03T
import Derived.Test.YtomeeebiijmnmaaGreatDoorDraw
namespace Go.Proofs.YtomeeebiijmnmaaGreatDoor.Bk
open Mem Go.ChangeShapes Go.WideShapes Go.ChangeAt Go.RowKit
theorem keptS_row {S : List Nat} {a w : World} (h : KeptS S a w) {g : Nat} (hg : g ∈ S) (cs : Array Value) : KeptS S a (w.setRow g cs) :=
  ⟨h.os, h.tape, h.output, (by simpa using h.size), fun j hj hs => (setRow_other w g j cs (fun e => hs (e ▸ hg))).trans (h.block j hj hs)⟩
theorem Lst.readsU8 {w : World} {A : Option Addr} {n : Nat} {f : Nat → Nat} (h : Lst w 5 A n (iv .u8 f)) : Reads w w.heap.size A n f := fun _ => by
  obtain ⟨g, off, cur, rfl, hb, hc⟩ := h
  refine ⟨_, rfl, hb.lt, fun i hi => ?_⟩
  have h2 : Lst w 5 (some ⟨g, off, none⟩) n (iv .u8 f) := ⟨g, off, cur, rfl, hb, hc⟩
  exact h2.at i hi
theorem Lst.rowRB {w : World} {A : Option Addr} {n : Nat} {c : Nat → Value} {g : Nat} {cs : Array Value} (h : Lst w 5 A n c) (hg : Blk w g 36 cs) (ds : Array Value) : Lst (w.setRow g ds) 5 A n c := by
  obtain ⟨k, off, cur, rfl, hb, hc⟩ := h
  exact ⟨k, off, cur, rfl, hb.otherRow _ _ (hg.ne hb (by decide)), hc⟩
set_option linter.unusedSimpArgs false in
set_option maxRecDepth 100000 in
set_option maxHeartbeats 1000000 in
theorem rdo_tdes (Ar : Option Addr) (lr cr : Nat) (At : Option Addr) (lt ct : Nat) (Ak : Option Addr) (Lk ck : Nat) (key : Nat → Nat) (Ax : Option Addr) (cx : Nat) (x : Nat → Nat) (back : Bool) (w : World)
    (hL : Des.IsTKey Lk) (hck : Lk ≤ ck) (hkey : Reads w w.heap.size Ak Lk key) (hkb : ∀ i, i < Lk → key i < 256) (hx : Reads w w.heap.size Ax 8 x) (hxb : ∀ i, i < 8 → x i < 256) (y : Nat → Nat) (hy : Des.tdes Lk key x back = y) :
    Calls Tryz.prog 12 #[.int .i64 2, .slice Ak Lk ck, .agg (row 2 (bookC (.slice Ar lr cr) (.slice At lt ct))), .slice Ax 8 cx, .bool back] w fun e w' => ∃ A c, e = .returned (.tuple #[.agg #[.slice Ar lr cr, .slice At lt ct], .slice A 8 c, .bool true]) ∧ Lst w' 5 A 8 (iv .u8 y) ∧ Below w.heap.size w w' := by
  have HL := hid hL
  have HK := hid hkey
  have Hkb := hid hkb
  have HX := hid hx
  have Hxb := hid hxb
  have HY := hid hy
  have hB0 : Below w.heap.size w ((w.alloc (.cells (row 2 (bookC (.slice Ar lr cr) (.slice At lt ct))) 36)).alloc (.cells (row 2 (bookC (.slice none 0 0) (.slice none 0 0))) 36)) := ((Below.refl _ _).alloc (Nat.le_refl _) _).alloc (by simp) _
  have h7 : Blk ((w.alloc (.cells (row 2 (bookC (.slice Ar lr cr) (.slice At lt ct))) 36)).alloc (.cells (row 2 (bookC (.slice none 0 0) (.slice none 0 0))) 36)) w.heap.size 36 (row 2 (bookC (.slice Ar lr cr) (.slice At lt ct))) := (Blk.fresh _ _ _).alloc _
  have h10 : Blk ((w.alloc (.cells (row 2 (bookC (.slice Ar lr cr) (.slice At lt ct))) 36)).alloc (.cells (row 2 (bookC (.slice none 0 0) (.slice none 0 0))) 36)) (w.heap.size + 1) 36 (row 2 (bookC (.slice none 0 0) (.slice none 0 0))) := by
    have := Blk.fresh (w.alloc (.cells (row 2 (bookC (.slice Ar lr cr) (.slice At lt ct))) 36)) 36 (row 2 (bookC (.slice none 0 0) (.slice none 0 0)))
    simpa using this
  clear hL hkey hkb hx hxb hy
  go_enter Tryz.func12, Tryz.ntmps12
  go_wp2_with (first
    | (with_reducible refine wpl_alloc rfl 36 rfl _ zRB2 ?_))
  generalize ((w.alloc (.cells (row 2 (bookC (.slice Ar lr cr) (.slice At lt ct))) 36)).alloc (.cells (row 2 (bookC (.slice none 0 0) (.slice none 0 0))) 36)) = w1 at *
  have H7 := hid h7
  have H10 := hid h10
  have HB0 := hid hB0
  clear h7 h10 hB0
  have d7 : ∀ W, KeptS [w.heap.size + 1] w1 W → ∀ j, j < 2 → W.cell? ((⟨w.heap.size, 0, none⟩ : Addr).add j) = some (bookC (.slice Ar lr cr) (.slice At lt ct) j) := fun W hW j hj => by
    rw [add_zero_off]
    exact ((hW.blk H7.out (by simp)).cell j).trans (row_get 2 _ j hj)
  refine wp_region_held_drew (S := fun W => KeptS [w.heap.size + 1] w1 W) (by kernel_rfl) (KeptS.of _ (Below.refl _ _).drew) (fun hS0 => ?_)
  refine wpAnyH_take (i := 0) (v := .agg (row 2 (bookC (.slice Ar lr cr) (.slice At lt ct)))) rfl (by kernel_rfl) (by kernel_rfl) (by kernel_rfl) (fun _ _ _ h => h) (Or.inl ⟨rfl, fun W hW => exec_loadSt 36 _ rfl ⟨w.heap.size, 0, none⟩ rfl 2 _ (d7 W hW) _ Tryz.underlying36 iRB⟩) hS0 ?_
  (try simp only [Act.put, List.getElem_toArray, List.getElem_cons_zero, List.getElem_cons_succ, List.setIfInBounds_toArray, List.set_cons_zero, List.set_cons_succ])
  refine wpAnyH_take (i := 1) (v := .slice Ak Lk ck) rfl (by kernel_rfl) (by kernel_rfl) (by kernel_rfl) (fun _ _ _ h => h) (Or.inl ⟨rfl, fun _ _ => exec_move _ rfl _ rfl⟩) hS0 ?_
  (try simp only [Act.put, List.getElem_toArray, List.getElem_cons_zero, List.getElem_cons_succ, List.setIfInBounds_toArray, List.set_cons_zero, List.set_cons_succ])
  refine wpAnyH_take (i := 2) (v := .slice Ax 8 cx) rfl (by kernel_rfl) (by kernel_rfl) (by kernel_rfl) (fun _ _ _ h => h) (Or.inl ⟨rfl, fun _ _ => exec_move _ rfl _ rfl⟩) hS0 ?_
  (try simp only [Act.put, List.getElem_toArray, List.getElem_cons_zero, List.getElem_cons_succ, List.setIfInBounds_toArray, List.set_cons_zero, List.set_cons_succ])
  refine wpAnyH_take (i := 3) (v := .bool back) rfl (by kernel_rfl) (by kernel_rfl) (by kernel_rfl) (fun _ _ _ h => h) (Or.inl ⟨rfl, fun _ _ => exec_move _ rfl _ rfl⟩) hS0 ?_
  (try simp only [Act.put, List.getElem_toArray, List.getElem_cons_zero, List.getElem_cons_succ, List.setIfInBounds_toArray, List.set_cons_zero, List.set_cons_succ])
  refine wpAnyH_ready (rs := [4]) (by kernel_rfl) (by simp) (ready_one rfl rfl (fun K hK => ?_))
  (try simp only [Act.put, List.getElem_toArray, List.getElem_cons_zero, List.getElem_cons_succ, List.setIfInBounds_toArray, List.set_cons_zero, List.set_cons_succ])
  go_simp
  have HBd := hid HB0.out.drew
  have H10d : Hid (Blk w1.drew (w.heap.size + 1) 36 (row 2 (bookC (.slice none 0 0) (.slice none 0 0)))) := hid H10.out
  refine (Des.rtriple_any Ak Lk ck HL.out hck Ax cx key x back Hkb.out Hxb.out _ ((HK.out.below HBd.out).more HBd.out.size) ((HX.out.below HBd.out).more HBd.out.size)).mono ?_
  rintro e w2 ⟨A2, c2, rfl, hc2, hl2, hB2⟩
  rw [HY.out] at hl2
  have h10b := H10d.out.below hB2 H10d.out.lt
  have hBb := HBd.out.trans (hB2.mono HBd.out.size)
  refine hK.out _ _ (hS0.trans (KeptS.of _ hB2)) (fun hS1 => ?_)
  (try simp only [Act.put, List.getElem_toArray, List.getElem_cons_zero, List.getElem_cons_succ, List.setIfInBounds_toArray, List.set_cons_zero, List.set_cons_succ])
  clear hK
  refine wpAnyH_ready (rs := [5]) (by kernel_rfl) (by simp) (ready_one rfl rfl (fun K hK => ?_))
  (try simp only [Act.put, List.getElem_toArray, List.getElem_cons_zero, List.getElem_cons_succ, List.setIfInBounds_toArray, List.set_cons_zero, List.set_cons_succ])
  with_reducible refine wp_store_blk 36 _ _ rfl (w.heap.size + 1) (row 2 (bookC (.slice Ar lr cr) (.slice At lt ct))) rfl rfl 36 _ h10b (iRB' _) (by simp [row_size]) (one2 _ _ _ _ _ _) ?_
  (try simp only [Act.put, List.getElem_toArray, List.getElem_cons_zero, List.getElem_cons_succ, List.setIfInBounds_toArray, List.set_cons_zero, List.set_cons_succ])
  refine hK.out _ _ (keptS_row hS1 (by simp) _) (fun hSz => ?_)
  (try simp only [Act.put, List.getElem_toArray, List.getElem_cons_zero, List.getElem_cons_succ, List.setIfInBounds_toArray, List.set_cons_zero, List.set_cons_succ])
  refine wpAnyH_take (i := 6) (v := .slice A2 8 c2) rfl (by kernel_rfl) (by kernel_rfl) (by kernel_rfl) (fun _ _ _ h => h) (Or.inl ⟨rfl, fun _ _ => exec_assign _ rfl _ rfl⟩) hSz ?_
  (try simp only [Act.put, List.getElem_toArray, List.getElem_cons_zero, List.getElem_cons_succ, List.setIfInBounds_toArray, List.set_cons_zero, List.set_cons_succ])
  refine wpAnyH_take (i := 7) (v := .bool true) rfl (by kernel_rfl) (by kernel_rfl) (by kernel_rfl) (fun _ _ _ h => h) (Or.inl ⟨rfl, fun _ _ => exec_assign _ rfl _ rfl⟩) hSz ?_
  (try simp only [Act.put, List.getElem_toArray, List.getElem_cons_zero, List.getElem_cons_succ, List.setIfInBounds_toArray, List.set_cons_zero, List.set_cons_succ])
  refine wpAnyH_done (by kernel_rfl) ?_ _
  clear hK
  have hBf := below_setRow' hBb (Nat.le_succ w.heap.size) (row 2 (bookC (.slice Ar lr cr) (.slice At lt ct)))
  have hlf := Lst.rowRB hl2 h10b (row 2 (bookC (.slice Ar lr cr) (.slice At lt ct)))
  go_wp2_with fail
  exact ret_row3 Tryz.results12 rfl (w.heap.size + 1) rfl _ rfl _ rfl 36 2 _ (h10b.setRow _) _ Tryz.underlying36 iRB ⟨A2, c2, by rw [row2]; rfl, hlf, hBf⟩
end Go.Proofs.YtomeeebiijmnmaaGreatDoor.Bk
