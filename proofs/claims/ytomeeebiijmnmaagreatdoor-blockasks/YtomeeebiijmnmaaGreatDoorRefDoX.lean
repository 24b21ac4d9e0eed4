/-
  RefDo1 RefDo2 RefDo3 RefStay
-/
import Derived.Test.YtomeeebiijmnmaaGreatDoorRefHit
import Derived.Test.YtomeeebiijmnmaaGreatDoorRef02E
import Derived.Test.YtomeeebiijmnmaaGreatDoorRef05D
import Derived.Test.YtomeeebiijmnmaaGreatDoorDraw
import Derived.Test.YtomeeebiijmnmaaGreatDoorRef03X
import Derived.Test.YtomeeebiijmnmaaGreatDoorRefAsk
/-
  What lockboxref05.Do returns of AES.
-/
namespace Go.Proofs.YtomeeebiijmnmaaGreatDoor.Bk
open Mem Go.ChangeShapes Go.WideShapes Go.ChangeAt Go.RowKit
set_option linter.unusedSimpArgs false in
set_option maxRecDepth 100000 in
set_option maxHeartbeats 1000000 in
theorem rdo_forth (Ar : Option Addr) (lr cr : Nat) (At : Option Addr) (lt ct : Nat) (Ak : Option Addr) (Lk ck : Nat) (key : Nat → Nat) (Ax : Option Addr) (cx : Nat) (x : Nat → Nat) (w : World)
    (hL : Aes.IsKey Lk) (hkey : Reads w w.heap.size Ak Lk key) (hkb : ∀ i, i < Lk → key i < 256) (hx : Reads w w.heap.size Ax 16 x) (hxb : ∀ i, i < 16 → x i < 256) (y : Nat → Nat) (hy : Aes.enc (Aes.words Lk key) (Aes.rnd Lk) x = y) :
    Calls Tryz.prog 12 #[.int .i64 1, .slice Ak Lk ck, .agg (row 2 (bookC (.slice Ar lr cr) (.slice At lt ct))), .slice Ax 16 cx, .bool false] w fun e w' => ∃ g, e = .returned (.tuple #[.agg #[.slice Ar lr cr, .slice At lt ct], .slice (some ⟨g, 0, none⟩) 16 16, .bool true]) ∧ Blk w' g 37 (row 16 (b8 y)) ∧ w.heap.size ≤ g ∧ Below w.heap.size w w' := by
  have HL := hid hL
  have HK := hid hkey
  have Hkb := hid hkb
  have HX := hid hx
  have Hxb := hid hxb
  have HY := hid hy
  have hB0 : Below w.heap.size w (((w.alloc (.cells (row 2 (bookC (.slice Ar lr cr) (.slice At lt ct))) 36)).alloc (.cells (row 2 (bookC (.slice none 0 0) (.slice none 0 0))) 36)).alloc (.cells (row 16 (b8 fun _ => 0)) 37)) := (((Below.refl _ _).alloc (Nat.le_refl _) _).alloc (by simp) _).alloc (by simp; omega) _
  have h7 : Blk (((w.alloc (.cells (row 2 (bookC (.slice Ar lr cr) (.slice At lt ct))) 36)).alloc (.cells (row 2 (bookC (.slice none 0 0) (.slice none 0 0))) 36)).alloc (.cells (row 16 (b8 fun _ => 0)) 37)) w.heap.size 36 (row 2 (bookC (.slice Ar lr cr) (.slice At lt ct))) := ((Blk.fresh _ _ _).alloc _).alloc _
  have h10 : Blk (((w.alloc (.cells (row 2 (bookC (.slice Ar lr cr) (.slice At lt ct))) 36)).alloc (.cells (row 2 (bookC (.slice none 0 0) (.slice none 0 0))) 36)).alloc (.cells (row 16 (b8 fun _ => 0)) 37)) (w.heap.size + 1) 36 (row 2 (bookC (.slice none 0 0) (.slice none 0 0))) := by
    have := (Blk.fresh (w.alloc (.cells (row 2 (bookC (.slice Ar lr cr) (.slice At lt ct))) 36)) 36 (row 2 (bookC (.slice none 0 0) (.slice none 0 0)))).alloc (.cells (row 16 (b8 fun _ => 0)) 37)
    simpa using this
  have h13 : Blk (((w.alloc (.cells (row 2 (bookC (.slice Ar lr cr) (.slice At lt ct))) 36)).alloc (.cells (row 2 (bookC (.slice none 0 0) (.slice none 0 0))) 36)).alloc (.cells (row 16 (b8 fun _ => 0)) 37)) (w.heap.size + 1 + 1) 37 (row 16 (b8 fun _ => 0)) := by
    have := Blk.fresh ((w.alloc (.cells (row 2 (bookC (.slice Ar lr cr) (.slice At lt ct))) 36)).alloc (.cells (row 2 (bookC (.slice none 0 0) (.slice none 0 0))) 36)) 37 (row 16 (b8 fun _ => 0))
    simpa using this
  clear hL hkey hkb hx hxb hy
  go_enter Tryz.func12, Tryz.ntmps12
  go_wp2_with (first
    | (with_reducible refine wpl_alloc rfl 36 rfl _ zRB2 ?_)
    | (with_reducible refine wpl_alloc rfl 37 rfl _ z16 ?_))
  generalize (((w.alloc (.cells (row 2 (bookC (.slice Ar lr cr) (.slice At lt ct))) 36)).alloc (.cells (row 2 (bookC (.slice none 0 0) (.slice none 0 0))) 36)).alloc (.cells (row 16 (b8 fun _ => 0)) 37)) = w1 at *
  go_loopw [14] (fun vi wr => ∃ (q : Nat) (m : Nat → Nat), q ≤ 16 ∧ vi = .int .i64 q ∧ Hid (∀ j, m j = if j < q then x j else 0) ∧ Blk wr w.heap.size 36 (row 2 (bookC (.slice Ar lr cr) (.slice At lt ct))) ∧ Blk wr (w.heap.size + 1) 36 (row 2 (bookC (.slice none 0 0) (.slice none 0 0))) ∧ Blk wr (w.heap.size + 1 + 1) 37 (row 16 (b8 m)) ∧ Below w.heap.size w wr) (fun vi _ => 16 - (intOf vi).toNat)
  case atStart => exact ⟨0, fun _ => 0, by omega, rfl, hid (by simp), h7, h10, h13, hB0⟩
  case round =>
    clear h7 h10 h13 hB0
    obtain ⟨q, m, hq, rfl, HM, h7, h10, h13, hB⟩ := hrel
    by_cases hlt : q < 16
    · obtain ⟨ad, rfl, had, hcs⟩ := HX.out (by omega)
      have hcx := (hB.cell (p := ad.add q) (by rw [add_block]; exact had)).trans (hcs q hlt)
      clear hcs
      go_wp2_with (first
        | (with_reducible refine wpl_sl1 rfl 22 _ _ rfl ad 16 cx rfl .i64 _ rfl q rfl 5 Tryz.underlying22 hlt i8q ?_)
        | (with_reducible refine wpl_ld rfl 5 _ rfl _ rfl .u8 Tryz.underlying5 _ hcx ?_)
        | (with_reducible refine wpl_at rfl 37 _ _ rfl _ rfl .i64 _ rfl q rfl 16 5 Tryz.underlying37 hlt i8q ?_)
        | (with_reducible refine wpl_st rfl 5 _ _ rfl _ rfl .u8 _ rfl i8q _ (h13.val q hlt) (h13.free q) ?_))
      go_round
      case rel => exact ⟨q + 1, upd m q (x q), by omega, val_int (by omega), hid (fill_step (F := x) HM.out), h7.other _ _ (by simp; omega), h10.other _ _ (by simp), h13.put q _, hB.setCell (by simp; omega) _⟩
      case measure => simp [intOf]; omega
    · have h13x : Blk wr (w.heap.size + 1 + 1) 37 (row 16 (b8 x)) := by rw [← row_b8_ext (fill_end HM.out (n := 16) (by omega))]; exact h13
      have H7 := hid h7
      have H10 := hid h10
      have H13 := hid h13x
      have HB := hid hB
      clear h7 h10 h13 h13x hB HM
      go_wp2_with (with_reducible refine wpl_load rfl 37 _ rfl _ rfl 37 _ H13.out 16 5 Tryz.underlying37 (i16' _) ?_)
      refine (Aes.renc_any Ak Lk ck HL.out key x _ Hkb.out Hxb.out ((HK.out.below HB.out).more HB.out.size)).mono ?_
      rintro e w2 ⟨rfl, hB2⟩
      rw [HY.out]
      have h7a := H7.out.below hB2 H7.out.lt
      have h10a := H10.out.below hB2 H10.out.lt
      have h13a := H13.out.below hB2 H13.out.lt
      have hBa := HB.out.trans (hB2.mono HB.out.size)
      have H7b := hid (h7a.otherRow (w.heap.size + 1 + 1) (row 16 (b8 y)) (by omega))
      have H10b := hid (h10a.otherRow (w.heap.size + 1 + 1) (row 16 (b8 y)) (by omega))
      have H13b := hid (h13a.setRow (row 16 (b8 y)))
      have HBb := hid (below_setRow' hBa (show w.heap.size ≤ w.heap.size + 1 + 1 by omega) (row 16 (b8 y)))
      have H13a := hid h13a
      clear h7a h10a h13a hBa hB2 H7 H10 H13 HB
      go_wp2_with (with_reducible refine wpl_store rfl 37 _ _ rfl _ _ rfl rfl 37 _ H13a.out (i16' _) (by simp [row_size]) (one_b8 _ _) ?_)
      generalize w2.setRow (w.heap.size + 1 + 1) (row 16 (b8 y)) = w3 at *
      have d7 : ∀ W, Only (w.heap.size + 1) w3 W → ∀ j, j < 2 → W.cell? ((⟨w.heap.size, 0, none⟩ : Addr).add j) = some (bookC (.slice Ar lr cr) (.slice At lt ct) j) := fun W hW j hj => by
        rw [add_zero_off]
        exact ((hW.blk H7b.out (by omega)).cell j).trans (row_get 2 _ j hj)
      refine wp_region_held_drew (S := fun W => Only (w.heap.size + 1) w3 W) (by kernel_rfl) (Only.refl _ _).drew (fun hS0 => ?_)
      refine wpAnyH_take (i := 0) (v := .agg (row 2 (bookC (.slice Ar lr cr) (.slice At lt ct)))) rfl (by kernel_rfl) (by kernel_rfl) (by kernel_rfl) (fun _ _ _ h => h) (Or.inl ⟨rfl, fun W hW => exec_loadSt 36 _ rfl ⟨w.heap.size, 0, none⟩ rfl 2 _ (d7 W hW) _ Tryz.underlying36 iRB⟩) hS0 ?_
      (try simp only [Act.put, List.getElem_toArray, List.getElem_cons_zero, List.getElem_cons_succ, List.setIfInBounds_toArray, List.set_cons_zero, List.set_cons_succ])
      refine wpAnyH_take (i := 1) (v := .slice (some ⟨w.heap.size + 1 + 1, 0, none⟩) 16 16) rfl (by kernel_rfl) (by kernel_rfl) (by kernel_rfl) (fun _ _ _ h => h) (Or.inl ⟨rfl, fun W _ => by go_simp⟩) hS0 ?_
      (try simp only [Act.put, List.getElem_toArray, List.getElem_cons_zero, List.getElem_cons_succ, List.setIfInBounds_toArray, List.set_cons_zero, List.set_cons_succ])
      refine wpAnyH_ready (rs := [2]) (by kernel_rfl) (by simp) (ready_one rfl rfl (fun K hK => ?_))
      (try simp only [Act.put, List.getElem_toArray, List.getElem_cons_zero, List.getElem_cons_succ, List.setIfInBounds_toArray, List.set_cons_zero, List.set_cons_succ])
      have d10 : Blk w3.drew (w.heap.size + 1) 36 (row 2 (bookC (.slice none 0 0) (.slice none 0 0))) := H10b.out
      with_reducible refine wp_store_blk 36 _ _ rfl (w.heap.size + 1) (row 2 (bookC (.slice Ar lr cr) (.slice At lt ct))) rfl rfl 36 _ d10 (iRB' _) (by simp [row_size]) (one2 _ _ _ _ _ _) ?_
      (try simp only [Act.put, List.getElem_toArray, List.getElem_cons_zero, List.getElem_cons_succ, List.setIfInBounds_toArray, List.set_cons_zero, List.set_cons_succ])
      refine hK.out _ _ (hS0.setRow _) (fun hSz => ?_)
      (try simp only [Act.put, List.getElem_toArray, List.getElem_cons_zero, List.getElem_cons_succ, List.setIfInBounds_toArray, List.set_cons_zero, List.set_cons_succ])
      refine wpAnyH_take (i := 3) (v := .slice (some ⟨w.heap.size + 1 + 1, 0, none⟩) 16 16) rfl (by kernel_rfl) (by kernel_rfl) (by kernel_rfl) (fun _ _ _ h => h) (Or.inl ⟨rfl, fun _ _ => exec_assign _ rfl _ rfl⟩) hSz ?_
      (try simp only [Act.put, List.getElem_toArray, List.getElem_cons_zero, List.getElem_cons_succ, List.setIfInBounds_toArray, List.set_cons_zero, List.set_cons_succ])
      refine wpAnyH_take (i := 4) (v := .bool true) rfl (by kernel_rfl) (by kernel_rfl) (by kernel_rfl) (fun _ _ _ h => h) (Or.inl ⟨rfl, fun _ _ => exec_assign _ rfl _ rfl⟩) hSz ?_
      (try simp only [Act.put, List.getElem_toArray, List.getElem_cons_zero, List.getElem_cons_succ, List.setIfInBounds_toArray, List.set_cons_zero, List.set_cons_succ])
      refine wpAnyH_done (by kernel_rfl) ?_ _
      clear hK
      have dB := HBb.out.drew
      have d13 : Blk w3.drew (w.heap.size + 1 + 1) 37 (row 16 (b8 y)) := H13b.out
      generalize w3.drew = w4 at *
      have hBf := below_setRow' dB (Nat.le_succ w.heap.size) (row 2 (bookC (.slice Ar lr cr) (.slice At lt ct)))
      go_wp2_with fail
      exact ret_row3 Tryz.results12 rfl (w.heap.size + 1) rfl _ rfl _ rfl 36 2 _ (d10.setRow _) _ Tryz.underlying36 iRB ⟨w.heap.size + 1 + 1, by rw [row2]; rfl, d13.otherRow _ _ (by omega), by omega, hBf⟩
set_option linter.unusedSimpArgs false in
set_option maxRecDepth 100000 in
set_option maxHeartbeats 1000000 in
theorem rdo_back (Ar : Option Addr) (lr cr : Nat) (At : Option Addr) (lt ct : Nat) (Ak : Option Addr) (Lk ck : Nat) (key : Nat → Nat) (Ax : Option Addr) (cx : Nat) (x : Nat → Nat) (w : World)
    (hL : Aes.IsKey Lk) (hkey : Reads w w.heap.size Ak Lk key) (hkb : ∀ i, i < Lk → key i < 256) (hx : Reads w w.heap.size Ax 16 x) (hxb : ∀ i, i < 16 → x i < 256) (y : Nat → Nat) (hy : Aes.dec (Aes.words Lk key) (Aes.rnd Lk) x = y) :
    Calls Tryz.prog 12 #[.int .i64 1, .slice Ak Lk ck, .agg (row 2 (bookC (.slice Ar lr cr) (.slice At lt ct))), .slice Ax 16 cx, .bool true] w fun e w' => ∃ g, e = .returned (.tuple #[.agg #[.slice Ar lr cr, .slice At lt ct], .slice (some ⟨g, 0, none⟩) 16 16, .bool true]) ∧ Blk w' g 37 (row 16 (b8 y)) ∧ w.heap.size ≤ g ∧ Below w.heap.size w w' := by
  have HL := hid hL
  have HK := hid hkey
  have Hkb := hid hkb
  have HX := hid hx
  have Hxb := hid hxb
  have HY := hid hy
  have hB0 : Below w.heap.size w (((w.alloc (.cells (row 2 (bookC (.slice Ar lr cr) (.slice At lt ct))) 36)).alloc (.cells (row 2 (bookC (.slice none 0 0) (.slice none 0 0))) 36)).alloc (.cells (row 16 (b8 fun _ => 0)) 37)) := (((Below.refl _ _).alloc (Nat.le_refl _) _).alloc (by simp) _).alloc (by simp; omega) _
  have h7 : Blk (((w.alloc (.cells (row 2 (bookC (.slice Ar lr cr) (.slice At lt ct))) 36)).alloc (.cells (row 2 (bookC (.slice none 0 0) (.slice none 0 0))) 36)).alloc (.cells (row 16 (b8 fun _ => 0)) 37)) w.heap.size 36 (row 2 (bookC (.slice Ar lr cr) (.slice At lt ct))) := ((Blk.fresh _ _ _).alloc _).alloc _
  have h10 : Blk (((w.alloc (.cells (row 2 (bookC (.slice Ar lr cr) (.slice At lt ct))) 36)).alloc (.cells (row 2 (bookC (.slice none 0 0) (.slice none 0 0))) 36)).alloc (.cells (row 16 (b8 fun _ => 0)) 37)) (w.heap.size + 1) 36 (row 2 (bookC (.slice none 0 0) (.slice none 0 0))) := by
    have := (Blk.fresh (w.alloc (.cells (row 2 (bookC (.slice Ar lr cr) (.slice At lt ct))) 36)) 36 (row 2 (bookC (.slice none 0 0) (.slice none 0 0)))).alloc (.cells (row 16 (b8 fun _ => 0)) 37)
    simpa using this
  have h13 : Blk (((w.alloc (.cells (row 2 (bookC (.slice Ar lr cr) (.slice At lt ct))) 36)).alloc (.cells (row 2 (bookC (.slice none 0 0) (.slice none 0 0))) 36)).alloc (.cells (row 16 (b8 fun _ => 0)) 37)) (w.heap.size + 1 + 1) 37 (row 16 (b8 fun _ => 0)) := by
    have := Blk.fresh ((w.alloc (.cells (row 2 (bookC (.slice Ar lr cr) (.slice At lt ct))) 36)).alloc (.cells (row 2 (bookC (.slice none 0 0) (.slice none 0 0))) 36)) 37 (row 16 (b8 fun _ => 0))
    simpa using this
  clear hL hkey hkb hx hxb hy
  go_enter Tryz.func12, Tryz.ntmps12
  go_wp2_with (first
    | (with_reducible refine wpl_alloc rfl 36 rfl _ zRB2 ?_)
    | (with_reducible refine wpl_alloc rfl 37 rfl _ z16 ?_))
  generalize (((w.alloc (.cells (row 2 (bookC (.slice Ar lr cr) (.slice At lt ct))) 36)).alloc (.cells (row 2 (bookC (.slice none 0 0) (.slice none 0 0))) 36)).alloc (.cells (row 16 (b8 fun _ => 0)) 37)) = w1 at *
  go_loopw [14] (fun vi wr => ∃ (q : Nat) (m : Nat → Nat), q ≤ 16 ∧ vi = .int .i64 q ∧ Hid (∀ j, m j = if j < q then x j else 0) ∧ Blk wr w.heap.size 36 (row 2 (bookC (.slice Ar lr cr) (.slice At lt ct))) ∧ Blk wr (w.heap.size + 1) 36 (row 2 (bookC (.slice none 0 0) (.slice none 0 0))) ∧ Blk wr (w.heap.size + 1 + 1) 37 (row 16 (b8 m)) ∧ Below w.heap.size w wr) (fun vi _ => 16 - (intOf vi).toNat)
  case atStart => exact ⟨0, fun _ => 0, by omega, rfl, hid (by simp), h7, h10, h13, hB0⟩
  case round =>
    clear h7 h10 h13 hB0
    obtain ⟨q, m, hq, rfl, HM, h7, h10, h13, hB⟩ := hrel
    by_cases hlt : q < 16
    · obtain ⟨ad, rfl, had, hcs⟩ := HX.out (by omega)
      have hcx := (hB.cell (p := ad.add q) (by rw [add_block]; exact had)).trans (hcs q hlt)
      clear hcs
      go_wp2_with (first
        | (with_reducible refine wpl_sl1 rfl 22 _ _ rfl ad 16 cx rfl .i64 _ rfl q rfl 5 Tryz.underlying22 hlt i8q ?_)
        | (with_reducible refine wpl_ld rfl 5 _ rfl _ rfl .u8 Tryz.underlying5 _ hcx ?_)
        | (with_reducible refine wpl_at rfl 37 _ _ rfl _ rfl .i64 _ rfl q rfl 16 5 Tryz.underlying37 hlt i8q ?_)
        | (with_reducible refine wpl_st rfl 5 _ _ rfl _ rfl .u8 _ rfl i8q _ (h13.val q hlt) (h13.free q) ?_))
      go_round
      case rel => exact ⟨q + 1, upd m q (x q), by omega, val_int (by omega), hid (fill_step (F := x) HM.out), h7.other _ _ (by simp; omega), h10.other _ _ (by simp), h13.put q _, hB.setCell (by simp; omega) _⟩
      case measure => simp [intOf]; omega
    · have h13x : Blk wr (w.heap.size + 1 + 1) 37 (row 16 (b8 x)) := by rw [← row_b8_ext (fill_end HM.out (n := 16) (by omega))]; exact h13
      have H7 := hid h7
      have H10 := hid h10
      have H13 := hid h13x
      have HB := hid hB
      clear h7 h10 h13 h13x hB HM
      go_wp2_with (with_reducible refine wpl_load rfl 37 _ rfl _ rfl 37 _ H13.out 16 5 Tryz.underlying37 (i16' _) ?_)
      refine (Aes.rdec_any Ak Lk ck HL.out key x _ Hkb.out Hxb.out ((HK.out.below HB.out).more HB.out.size)).mono ?_
      rintro e w2 ⟨rfl, hB2⟩
      rw [HY.out]
      have h7a := H7.out.below hB2 H7.out.lt
      have h10a := H10.out.below hB2 H10.out.lt
      have h13a := H13.out.below hB2 H13.out.lt
      have hBa := HB.out.trans (hB2.mono HB.out.size)
      have H7b := hid (h7a.otherRow (w.heap.size + 1 + 1) (row 16 (b8 y)) (by omega))
      have H10b := hid (h10a.otherRow (w.heap.size + 1 + 1) (row 16 (b8 y)) (by omega))
      have H13b := hid (h13a.setRow (row 16 (b8 y)))
      have HBb := hid (below_setRow' hBa (show w.heap.size ≤ w.heap.size + 1 + 1 by omega) (row 16 (b8 y)))
      have H13a := hid h13a
      clear h7a h10a h13a hBa hB2 H7 H10 H13 HB
      go_wp2_with (with_reducible refine wpl_store rfl 37 _ _ rfl _ _ rfl rfl 37 _ H13a.out (i16' _) (by simp [row_size]) (one_b8 _ _) ?_)
      generalize w2.setRow (w.heap.size + 1 + 1) (row 16 (b8 y)) = w3 at *
      have d7 : ∀ W, Only (w.heap.size + 1) w3 W → ∀ j, j < 2 → W.cell? ((⟨w.heap.size, 0, none⟩ : Addr).add j) = some (bookC (.slice Ar lr cr) (.slice At lt ct) j) := fun W hW j hj => by
        rw [add_zero_off]
        exact ((hW.blk H7b.out (by omega)).cell j).trans (row_get 2 _ j hj)
      refine wp_region_held_drew (S := fun W => Only (w.heap.size + 1) w3 W) (by kernel_rfl) (Only.refl _ _).drew (fun hS0 => ?_)
      refine wpAnyH_take (i := 0) (v := .agg (row 2 (bookC (.slice Ar lr cr) (.slice At lt ct)))) rfl (by kernel_rfl) (by kernel_rfl) (by kernel_rfl) (fun _ _ _ h => h) (Or.inl ⟨rfl, fun W hW => exec_loadSt 36 _ rfl ⟨w.heap.size, 0, none⟩ rfl 2 _ (d7 W hW) _ Tryz.underlying36 iRB⟩) hS0 ?_
      (try simp only [Act.put, List.getElem_toArray, List.getElem_cons_zero, List.getElem_cons_succ, List.setIfInBounds_toArray, List.set_cons_zero, List.set_cons_succ])
      refine wpAnyH_take (i := 1) (v := .slice (some ⟨w.heap.size + 1 + 1, 0, none⟩) 16 16) rfl (by kernel_rfl) (by kernel_rfl) (by kernel_rfl) (fun _ _ _ h => h) (Or.inl ⟨rfl, fun W _ => by go_simp⟩) hS0 ?_
      (try simp only [Act.put, List.getElem_toArray, List.getElem_cons_zero, List.getElem_cons_succ, List.setIfInBounds_toArray, List.set_cons_zero, List.set_cons_succ])
      refine wpAnyH_ready (rs := [2]) (by kernel_rfl) (by simp) (ready_one rfl rfl (fun K hK => ?_))
      (try simp only [Act.put, List.getElem_toArray, List.getElem_cons_zero, List.getElem_cons_succ, List.setIfInBounds_toArray, List.set_cons_zero, List.set_cons_succ])
      have d10 : Blk w3.drew (w.heap.size + 1) 36 (row 2 (bookC (.slice none 0 0) (.slice none 0 0))) := H10b.out
      with_reducible refine wp_store_blk 36 _ _ rfl (w.heap.size + 1) (row 2 (bookC (.slice Ar lr cr) (.slice At lt ct))) rfl rfl 36 _ d10 (iRB' _) (by simp [row_size]) (one2 _ _ _ _ _ _) ?_
      (try simp only [Act.put, List.getElem_toArray, List.getElem_cons_zero, List.getElem_cons_succ, List.setIfInBounds_toArray, List.set_cons_zero, List.set_cons_succ])
      refine hK.out _ _ (hS0.setRow _) (fun hSz => ?_)
      (try simp only [Act.put, List.getElem_toArray, List.getElem_cons_zero, List.getElem_cons_succ, List.setIfInBounds_toArray, List.set_cons_zero, List.set_cons_succ])
      refine wpAnyH_take (i := 3) (v := .slice (some ⟨w.heap.size + 1 + 1, 0, none⟩) 16 16) rfl (by kernel_rfl) (by kernel_rfl) (by kernel_rfl) (fun _ _ _ h => h) (Or.inl ⟨rfl, fun _ _ => exec_assign _ rfl _ rfl⟩) hSz ?_
      (try simp only [Act.put, List.getElem_toArray, List.getElem_cons_zero, List.getElem_cons_succ, List.setIfInBounds_toArray, List.set_cons_zero, List.set_cons_succ])
      refine wpAnyH_take (i := 4) (v := .bool true) rfl (by kernel_rfl) (by kernel_rfl) (by kernel_rfl) (fun _ _ _ h => h) (Or.inl ⟨rfl, fun _ _ => exec_assign _ rfl _ rfl⟩) hSz ?_
      (try simp only [Act.put, List.getElem_toArray, List.getElem_cons_zero, List.getElem_cons_succ, List.setIfInBounds_toArray, List.set_cons_zero, List.set_cons_succ])
      refine wpAnyH_done (by kernel_rfl) ?_ _
      clear hK
      have dB := HBb.out.drew
      have d13 : Blk w3.drew (w.heap.size + 1 + 1) 37 (row 16 (b8 y)) := H13b.out
      generalize w3.drew = w4 at *
      have hBf := below_setRow' dB (Nat.le_succ w.heap.size) (row 2 (bookC (.slice Ar lr cr) (.slice At lt ct)))
      go_wp2_with fail
      exact ret_row3 Tryz.results12 rfl (w.heap.size + 1) rfl _ rfl _ rfl 36 2 _ (d10.setRow _) _ Tryz.underlying36 iRB ⟨w.heap.size + 1 + 1, by rw [row2]; rfl, d13.otherRow _ _ (by omega), by omega, hBf⟩
end Go.Proofs.YtomeeebiijmnmaaGreatDoor.Bk

/-
  What lockboxref05.Do returns of TDES.
-/
namespace Go.Proofs.YtomeeebiijmnmaaGreatDoor.Bk
open Mem Go.ChangeShapes Go.WideShapes Go.ChangeAt Go.RowKit
theorem keptS_row {S : List Nat} {a w : World} (h : KeptS S a w) {g : Nat} (hg : g ∈ S) (cs : Array Value) : KeptS S a (w.setRow g cs) :=
  ⟨h.os, h.tape, h.output, (by simpa using h.size), fun j hj hs => (setRow_other w g j cs (fun e => hs (e ▸ hg))).trans (h.block j hj hs)⟩
theorem Lst.readsU8 {w : World} {A : Option Addr} {n : Nat} {f : Nat → Nat} (h : Lst w 5 A n (iv .u8 f)) : Reads w w.heap.size A n f := fun _ => by
  obtain ⟨g, off, cur, rfl, hb, hc⟩ := h
  refine ⟨_, rfl, hb.lt, fun i hi => ?_⟩
  have h2 : Lst w 5 (some ⟨g, off, none⟩) n (iv .u8 f) := ⟨g, off, cur, rfl, hb, hc⟩
  exact h2.at i hi
theorem Lst.rowRB {w : World} {A : Option Addr} {n : Nat} {c : Nat → Value} {g : Nat} {cs : Array Value} (h : Lst w 5 A n c) (hg : Blk w g 36 cs) (ds : Array Value) : Lst (w.setRow g ds) 5 A n c := by
  obtain ⟨k, off, cur, rfl, hb, hc⟩ := h
  exact ⟨k, off, cur, rfl, hb.otherRow _ _ (hg.ne hb (by decide)), hc⟩
set_option linter.unusedSimpArgs false in
set_option maxRecDepth 100000 in
set_option maxHeartbeats 1000000 in
theorem rdo_tdes (Ar : Option Addr) (lr cr : Nat) (At : Option Addr) (lt ct : Nat) (Ak : Option Addr) (Lk ck : Nat) (key : Nat → Nat) (Ax : Option Addr) (cx : Nat) (x : Nat → Nat) (back : Bool) (w : World)
    (hL : Des.IsTKey Lk) (hck : Lk ≤ ck) (hkey : Reads w w.heap.size Ak Lk key) (hkb : ∀ i, i < Lk → key i < 256) (hx : Reads w w.heap.size Ax 8 x) (hxb : ∀ i, i < 8 → x i < 256) (y : Nat → Nat) (hy : Des.tdes Lk key x back = y) :
    Calls Tryz.prog 12 #[.int .i64 2, .slice Ak Lk ck, .agg (row 2 (bookC (.slice Ar lr cr) (.slice At lt ct))), .slice Ax 8 cx, .bool back] w fun e w' => ∃ A c, e = .returned (.tuple #[.agg #[.slice Ar lr cr, .slice At lt ct], .slice A 8 c, .bool true]) ∧ Lst w' 5 A 8 (iv .u8 y) ∧ Below w.heap.size w w' := by
  have HL := hid hL
  have HK := hid hkey
  have Hkb := hid hkb
  have HX := hid hx
  have Hxb := hid hxb
  have HY := hid hy
  have hB0 : Below w.heap.size w ((w.alloc (.cells (row 2 (bookC (.slice Ar lr cr) (.slice At lt ct))) 36)).alloc (.cells (row 2 (bookC (.slice none 0 0) (.slice none 0 0))) 36)) := ((Below.refl _ _).alloc (Nat.le_refl _) _).alloc (by simp) _
  have h7 : Blk ((w.alloc (.cells (row 2 (bookC (.slice Ar lr cr) (.slice At lt ct))) 36)).alloc (.cells (row 2 (bookC (.slice none 0 0) (.slice none 0 0))) 36)) w.heap.size 36 (row 2 (bookC (.slice Ar lr cr) (.slice At lt ct))) := (Blk.fresh _ _ _).alloc _
  have h10 : Blk ((w.alloc (.cells (row 2 (bookC (.slice Ar lr cr) (.slice At lt ct))) 36)).alloc (.cells (row 2 (bookC (.slice none 0 0) (.slice none 0 0))) 36)) (w.heap.size + 1) 36 (row 2 (bookC (.slice none 0 0) (.slice none 0 0))) := by
    have := Blk.fresh (w.alloc (.cells (row 2 (bookC (.slice Ar lr cr) (.slice At lt ct))) 36)) 36 (row 2 (bookC (.slice none 0 0) (.slice none 0 0)))
    simpa using this
  clear hL hkey hkb hx hxb hy
  go_enter Tryz.func12, Tryz.ntmps12
  go_wp2_with (first
    | (with_reducible refine wpl_alloc rfl 36 rfl _ zRB2 ?_))
  generalize ((w.alloc (.cells (row 2 (bookC (.slice Ar lr cr) (.slice At lt ct))) 36)).alloc (.cells (row 2 (bookC (.slice none 0 0) (.slice none 0 0))) 36)) = w1 at *
  have H7 := hid h7
  have H10 := hid h10
  have HB0 := hid hB0
  clear h7 h10 hB0
  have d7 : ∀ W, KeptS [w.heap.size + 1] w1 W → ∀ j, j < 2 → W.cell? ((⟨w.heap.size, 0, none⟩ : Addr).add j) = some (bookC (.slice Ar lr cr) (.slice At lt ct) j) := fun W hW j hj => by
    rw [add_zero_off]
    exact ((hW.blk H7.out (by simp)).cell j).trans (row_get 2 _ j hj)
  refine wp_region_held_drew (S := fun W => KeptS [w.heap.size + 1] w1 W) (by kernel_rfl) (KeptS.of _ (Below.refl _ _).drew) (fun hS0 => ?_)
  refine wpAnyH_take (i := 0) (v := .agg (row 2 (bookC (.slice Ar lr cr) (.slice At lt ct)))) rfl (by kernel_rfl) (by kernel_rfl) (by kernel_rfl) (fun _ _ _ h => h) (Or.inl ⟨rfl, fun W hW => exec_loadSt 36 _ rfl ⟨w.heap.size, 0, none⟩ rfl 2 _ (d7 W hW) _ Tryz.underlying36 iRB⟩) hS0 ?_
  (try simp only [Act.put, List.getElem_toArray, List.getElem_cons_zero, List.getElem_cons_succ, List.setIfInBounds_toArray, List.set_cons_zero, List.set_cons_succ])
  refine wpAnyH_take (i := 1) (v := .slice Ak Lk ck) rfl (by kernel_rfl) (by kernel_rfl) (by kernel_rfl) (fun _ _ _ h => h) (Or.inl ⟨rfl, fun _ _ => exec_move _ rfl _ rfl⟩) hS0 ?_
  (try simp only [Act.put, List.getElem_toArray, List.getElem_cons_zero, List.getElem_cons_succ, List.setIfInBounds_toArray, List.set_cons_zero, List.set_cons_succ])
  refine wpAnyH_take (i := 2) (v := .slice Ax 8 cx) rfl (by kernel_rfl) (by kernel_rfl) (by kernel_rfl) (fun _ _ _ h => h) (Or.inl ⟨rfl, fun _ _ => exec_move _ rfl _ rfl⟩) hS0 ?_
  (try simp only [Act.put, List.getElem_toArray, List.getElem_cons_zero, List.getElem_cons_succ, List.setIfInBounds_toArray, List.set_cons_zero, List.set_cons_succ])
  refine wpAnyH_take (i := 3) (v := .bool back) rfl (by kernel_rfl) (by kernel_rfl) (by kernel_rfl) (fun _ _ _ h => h) (Or.inl ⟨rfl, fun _ _ => exec_move _ rfl _ rfl⟩) hS0 ?_
  (try simp only [Act.put, List.getElem_toArray, List.getElem_cons_zero, List.getElem_cons_succ, List.setIfInBounds_toArray, List.set_cons_zero, List.set_cons_succ])
  refine wpAnyH_ready (rs := [4]) (by kernel_rfl) (by simp) (ready_one rfl rfl (fun K hK => ?_))
  (try simp only [Act.put, List.getElem_toArray, List.getElem_cons_zero, List.getElem_cons_succ, List.setIfInBounds_toArray, List.set_cons_zero, List.set_cons_succ])
  go_simp
  have HBd := hid HB0.out.drew
  have H10d : Hid (Blk w1.drew (w.heap.size + 1) 36 (row 2 (bookC (.slice none 0 0) (.slice none 0 0)))) := hid H10.out
  refine (Des.rtriple_any Ak Lk ck HL.out hck Ax cx key x back Hkb.out Hxb.out _ ((HK.out.below HBd.out).more HBd.out.size) ((HX.out.below HBd.out).more HBd.out.size)).mono ?_
  rintro e w2 ⟨A2, c2, rfl, hc2, hl2, hB2⟩
  rw [HY.out] at hl2
  have h10b := H10d.out.below hB2 H10d.out.lt
  have hBb := HBd.out.trans (hB2.mono HBd.out.size)
  refine hK.out _ _ (hS0.trans (KeptS.of _ hB2)) (fun hS1 => ?_)
  (try simp only [Act.put, List.getElem_toArray, List.getElem_cons_zero, List.getElem_cons_succ, List.setIfInBounds_toArray, List.set_cons_zero, List.set_cons_succ])
  clear hK
  refine wpAnyH_ready (rs := [5]) (by kernel_rfl) (by simp) (ready_one rfl rfl (fun K hK => ?_))
  (try simp only [Act.put, List.getElem_toArray, List.getElem_cons_zero, List.getElem_cons_succ, List.setIfInBounds_toArray, List.set_cons_zero, List.set_cons_succ])
  with_reducible refine wp_store_blk 36 _ _ rfl (w.heap.size + 1) (row 2 (bookC (.slice Ar lr cr) (.slice At lt ct))) rfl rfl 36 _ h10b (iRB' _) (by simp [row_size]) (one2 _ _ _ _ _ _) ?_
  (try simp only [Act.put, List.getElem_toArray, List.getElem_cons_zero, List.getElem_cons_succ, List.setIfInBounds_toArray, List.set_cons_zero, List.set_cons_succ])
  refine hK.out _ _ (keptS_row hS1 (by simp) _) (fun hSz => ?_)
  (try simp only [Act.put, List.getElem_toArray, List.getElem_cons_zero, List.getElem_cons_succ, List.setIfInBounds_toArray, List.set_cons_zero, List.set_cons_succ])
  refine wpAnyH_take (i := 6) (v := .slice A2 8 c2) rfl (by kernel_rfl) (by kernel_rfl) (by kernel_rfl) (fun _ _ _ h => h) (Or.inl ⟨rfl, fun _ _ => exec_assign _ rfl _ rfl⟩) hSz ?_
  (try simp only [Act.put, List.getElem_toArray, List.getElem_cons_zero, List.getElem_cons_succ, List.setIfInBounds_toArray, List.set_cons_zero, List.set_cons_succ])
  refine wpAnyH_take (i := 7) (v := .bool true) rfl (by kernel_rfl) (by kernel_rfl) (by kernel_rfl) (fun _ _ _ h => h) (Or.inl ⟨rfl, fun _ _ => exec_assign _ rfl _ rfl⟩) hSz ?_
  (try simp only [Act.put, List.getElem_toArray, List.getElem_cons_zero, List.getElem_cons_succ, List.setIfInBounds_toArray, List.set_cons_zero, List.set_cons_succ])
  refine wpAnyH_done (by kernel_rfl) ?_ _
  clear hK
  have hBf := below_setRow' hBb (Nat.le_succ w.heap.size) (row 2 (bookC (.slice Ar lr cr) (.slice At lt ct)))
  have hlf := Lst.rowRB hl2 h10b (row 2 (bookC (.slice Ar lr cr) (.slice At lt ct)))
  go_wp2_with fail
  exact ret_row3 Tryz.results12 rfl (w.heap.size + 1) rfl _ rfl _ rfl 36 2 _ (h10b.setRow _) _ Tryz.underlying36 iRB ⟨A2, c2, by rw [row2]; rfl, hlf, hBf⟩
end Go.Proofs.YtomeeebiijmnmaaGreatDoor.Bk

/-
  What lockboxref05.Do returns, whatever the kind.
-/
namespace Go.Proofs.YtomeeebiijmnmaaGreatDoor.Bk
open Mem Go.ChangeShapes Go.WideShapes Go.ChangeAt Go.RowKit
/-- W has the blocks of bytes as w' has them -/
def KeepU8 (w' W : World) : Prop := ∀ g cs, Blk w' g 5 cs → W.heap[g]? = w'.heap[g]?
/-- what Do does, whatever the kind -/
def RDo (F : Nat → Nat) (n k Lk B0 : Nat) (o : Option (Nat → Nat)) (R' : List Rw) (d' : Nat) (w : World) (e : Ending) (w' : World) : Prop :=
  Below w.heap.size w w' ∧ ∃ Ar cr At ct v ok, e = .returned (.tuple #[.agg #[.slice Ar R'.length cr, .slice At (n - d') ct], v, .bool ok]) ∧ (∀ W, Agree B0 w w' W → RowsAt W W.heap.size Ar Lk R' ∧ Reads W W.heap.size At (n - d') (fun i => F (d' + i))) ∧ n - d' ≤ ct ∧ (Ar = none → R'.length = 0 ∧ cr = 0) ∧
    ((∃ y A c, o = some y ∧ ok = true ∧ v = .slice A (sz k) c ∧ ∀ W, Agree B0 w w' W → KeepU8 w' W → Reads W W.heap.size A (sz k) y) ∨ (o = none ∧ ok = false))
theorem rdo_any (p : Pl) (k d Lk : Nat) (R : List Rw) (Ar : Option Addr) (cr : Nat) (At : Option Addr) (ct : Nat) (Ak : Option Addr) (ck : Nat) (key : Nat → Nat) (Ax : Option Addr) (cx : Nat) (x : Nat → Nat) (bk : Bool) (w : World)
    (hf : fits k Lk) (B0 : Nat) (hB0 : B0 ≤ w.heap.size) (hR : RowsAt w B0 Ar Lk R) (hT : Reads w B0 At (p.n - d) (fun i => p.F (d + i))) (hct : p.n - d ≤ ct) (hn : p.n ≤ 100000) (hd : d ≤ p.n) (hLk : Lk ≤ 1000) (hck : Lk ≤ ck) (hlen : R.length ≤ 1000) (hkey : Reads w w.heap.size Ak Lk key) (hkb : ∀ i, i < Lk → key i < 256) (hx : Reads w w.heap.size Ax (sz k) x) (hxb : ∀ i, i < sz k → x i < 256)
    (hAr : Ar = none → R.length = 0 ∧ cr = 0) (hAk : Ak = none → Lk = 0 ∧ ck = 0) (o : Option (Nat → Nat)) (R' : List Rw) (d' : Nat) (ht : turnC k Lk key p R d bk x = (o, R', d')) :
    Calls Tryz.prog 12 #[.int .i64 (k : Int), .slice Ak Lk ck, .agg (row 2 (bookC (.slice Ar R.length cr) (.slice At (p.n - d) ct))), .slice Ax (sz k) cx, .bool bk] w (RDo p.F p.n k Lk B0 o R' d' w) := by
  rcases hf with ⟨rfl, hL⟩ | ⟨rfl, hL⟩ | ⟨rfl, hL⟩
  · unfold turnC at ht
    rw [if_pos rfl] at ht
    cases bk
    · rw [if_neg (by simp)] at ht
      cases ht
      refine (rdo_forth Ar R.length cr At (p.n - d) ct Ak Lk ck key Ax cx x w hL hkey hkb hx hxb _ rfl).mono ?_
      rintro e w' ⟨g, rfl, hb, hg, hB⟩
      exact ⟨hB, Ar, cr, At, ct, _, true, rfl, fun W ha => ⟨ha.rows hB0 hB hR, ha.reads hB0 hB hT⟩, hct, hAr, .inl ⟨_, _, 16, rfl, rfl, rfl, fun W ha _ => fun _ => ⟨_, rfl, Nat.lt_of_lt_of_le hb.lt ha.size, fun i hi => by
        rw [add_zero_off, World.cell?_of_block (w := w') (a := ⟨g, i, none⟩) (ha.block g hb.lt (.inr hg))]
        exact hb.val i hi⟩⟩⟩
    · rw [if_pos rfl] at ht
      cases ht
      refine (rdo_back Ar R.length cr At (p.n - d) ct Ak Lk ck key Ax cx x w hL hkey hkb hx hxb _ rfl).mono ?_
      rintro e w' ⟨g, rfl, hb, hg, hB⟩
      exact ⟨hB, Ar, cr, At, ct, _, true, rfl, fun W ha => ⟨ha.rows hB0 hB hR, ha.reads hB0 hB hT⟩, hct, hAr, .inl ⟨_, _, 16, rfl, rfl, rfl, fun W ha _ => fun _ => ⟨_, rfl, Nat.lt_of_lt_of_le hb.lt ha.size, fun i hi => by
        rw [add_zero_off, World.cell?_of_block (w := w') (a := ⟨g, i, none⟩) (ha.block g hb.lt (.inr hg))]
        exact hb.val i hi⟩⟩⟩
  · unfold turnC at ht
    rw [if_neg (by omega), if_pos rfl] at ht
    cases ht
    refine (rdo_tdes Ar R.length cr At (p.n - d) ct Ak Lk ck key Ax cx x bk w hL hck hkey hkb hx hxb _ rfl).mono ?_
    rintro e w' ⟨A, c, rfl, hl, hB⟩
    obtain ⟨g, off, cur, rfl, hb, hc⟩ := hl
    exact ⟨hB, Ar, cr, At, ct, _, true, rfl, fun W ha => ⟨ha.rows hB0 hB hR, ha.reads hB0 hB hT⟩, hct, hAr, .inl ⟨_, _, c, rfl, rfl, rfl, fun W ha hu => fun _ => ⟨_, rfl, Nat.lt_of_lt_of_le hb.lt ha.size, fun i hi => by
      have h2 : Lst w' 5 (some ⟨g, off, none⟩) 8 (iv .u8 (Des.tdes Lk key x bk)) := ⟨g, off, cur, rfl, hb, hc⟩
      rw [World.cell?_of_block (w := w') (by rw [add_block]; exact hu g cur hb)]
      exact h2.at i hi⟩⟩⟩
  · unfold turnC at ht
    rw [if_neg (by omega), if_neg (by omega)] at ht
    refine (rdo_ask p.F p.n d Lk R Ar cr At ct Ak ck key Ax cx x bk w B0 hB0 hR hT hct hn hd hLk hlen hkey hkb hx hAr hAk o R' d' ht).mono ?_
    rintro e w' ⟨hB, Ar2, cr2, At2, ct2, v2, ok2, he, hst, hle, hA2, hor⟩
    refine ⟨hB, Ar2, cr2, At2, ct2, v2, ok2, he, hst, hle, hA2, ?_⟩
    rcases hor with ⟨y, A, c, h1, h2, h3, h4⟩ | h
    · exact .inl ⟨y, A, c, h1, h2, h3, fun W ha _ => h4 W ha⟩
    · exact .inr h
end Go.Proofs.YtomeeebiijmnmaaGreatDoor.Bk

/-
  Bytes and rows stay where a book is changed, or a book of the document's own is stored: by what the cells are.
-/
namespace Go.Proofs.YtomeeebiijmnmaaGreatDoor.Bk
open Mem Go.ChangeShapes Go.WideShapes Go.ChangeAt Go.RowKit
/-- a cell that is there lies in a block of cells, at its place -/
theorem cell_in {w : World} {a : Addr} {v : Value} (h : w.cell? a = some v) : ∃ cs t fz, w.heap[a.block]? = some (.cells cs t fz) ∧ cs[a.off]? = some v := by
  unfold World.cell? at h
  split at h
  · next c t fz e =>
    split at h
    · cases h
    · exact ⟨c, t, fz, e, h⟩
  · cases h
theorem add_off (a : Addr) (n : Nat) : (a.add n).off = a.off + n := by
  unfold Addr.add
  split
  · next h => omega
  · rfl
/-- no two cells behind one another that are two slices, and no byte, lie in the book's own blocks -/
theorem BookAt.byte_out {w : World} {p : Pl} {d : Nat} {R : List Rw} (h : BookAt w p d R) {a : Addr} {x : Int} (hc : w.cell? a = some (.int .u8 x)) : a.block ∉ p.S := fun hm => by
  obtain ⟨cs, t, fz, hb, hv⟩ := cell_in hc
  simp only [Pl.S, List.mem_cons, List.not_mem_nil, or_false] at hm
  rcases hm with hm | hm | hm
  · rw [hm, h.tape.out] at hb
    cases hb
    obtain ⟨A, c, hpv, -⟩ := h.own.slice
    rw [hpv] at hv
    rcases a with ⟨b, off, sp⟩
    match off, hv with
    | 0, hv => simp at hv
    | 1, hv => simp at hv
    | o + 2, hv => simp at hv
  · have := (h.maps false).out
    rw [show p.m false = p.gf from rfl] at this
    rw [hm, this] at hb
    cases hb
  · have := (h.maps true).out
    rw [show p.m true = p.gk from rfl] at this
    rw [hm, this] at hb
    cases hb
theorem BookAt.slice_out {w : World} {p : Pl} {d : Nat} {R : List Rw} (h : BookAt w p d R) {a : Addr} {A B : Option Addr} {m n c e : Nat} (h0 : w.cell? a = some (.slice A m c)) (h1 : w.cell? (a.add 1) = some (.slice B n e)) : a.block ∉ p.S := fun hm => by
  obtain ⟨cs, t, fz, hb, hv⟩ := cell_in h0
  obtain ⟨cs1, t1, fz1, hb1, hv1⟩ := cell_in h1
  rw [add_block] at hb1
  rw [add_off] at hv1
  simp only [Pl.S, List.mem_cons, List.not_mem_nil, or_false] at hm
  rcases hm with hm | hm | hm
  · rw [hm, h.tape.out] at hb hb1
    cases hb
    cases hb1
    rcases a with ⟨b, off, sp⟩
    match off, hv, hv1 with
    | 0, hv, hv1 => simp at hv1
    | 1, hv, hv1 => simp at hv
    | o + 2, hv, hv1 => simp at hv
  · have := (h.maps false).out
    rw [show p.m false = p.gf from rfl] at this
    rw [hm, this] at hb
    cases hb
  · have := (h.maps true).out
    rw [show p.m true = p.gk from rfl] at this
    rw [hm, this] at hb
    cases hb
section
variable {w w' : World} {p : Pl} {d Lk : Nat} {R R' : List Rw} {A : Option Addr} {n : Nat} {f : Nat → Nat}
/-- bytes, where Do changes its book -/
theorem BookAt.reads (h : BookAt w p d R) (hk : KeptS p.S w w') (hr : Reads w w.heap.size A n f) : Reads w' w'.heap.size A n f := fun hn => by
  obtain ⟨ad, e, hb, hc⟩ := hr hn
  have ho := h.byte_out (hc 0 hn)
  rw [add_block] at ho
  refine ⟨ad, e, Nat.lt_of_lt_of_le hb hk.size, fun i hi => ?_⟩
  rw [World.cell?_of_block (w := w) (by rw [add_block]; exact hk.block _ hb ho)]
  exact hc i hi
theorem BookAt.rowC (h : BookAt w p d R) (hk : KeptS p.S w w') {r : Rw} {c : Nat → Value} (hr : RowC w w.heap.size Lk r c) : RowC w' w'.heap.size Lk r c := by
  obtain ⟨⟨Ak, cp, g, h1, h2, h3, h4⟩, ⟨A1, c1, h5, h6, h7⟩, ⟨A2, c2, h8, h9, h10⟩⟩ := hr
  exact ⟨⟨Ak, cp, g, h1, h.reads hk h2, h3, h4⟩, ⟨A1, c1, h5, h6, h.reads hk h7⟩, ⟨A2, c2, h8, h9, h.reads hk h10⟩⟩
/-- rows, where Do changes its book -/
theorem BookAt.rowsAt (h : BookAt w p d R) (hk : KeptS p.S w w') (hr : RowsAt w w.heap.size A Lk R') : RowsAt w' w'.heap.size A Lk R' := fun i hi => by
  obtain ⟨ad, e, hb, c, hc, hrc⟩ := hr i hi
  obtain ⟨⟨Ak, cp, g, k1, -⟩, ⟨A1, c1, k5, -⟩, -⟩ := id hrc
  have h0 := hc 0 (by omega)
  have h1 := hc 1 (by omega)
  rw [k1, show ((ad.add (i * 3)).add 0) = ad.add (i * 3) by simp [add_add]] at h0
  rw [k5] at h1
  have ho := h.slice_out h0 h1
  rw [add_block] at ho
  refine ⟨ad, e, Nat.lt_of_lt_of_le hb hk.size, c, fun j hj => ?_, h.rowC hk hrc⟩
  rw [World.cell?_of_block (w := w) (by rw [add_block, add_block]; exact hk.block _ hb ho)]
  exact hc j hj
end
section
variable {w : World} {gm Lk : Nat} {R' : List Rw} {A : Option Addr} {n : Nat} {f : Nat → Nat} {S T : Value}
/-- bytes, where the document's own book is stored -/
theorem reads_book {A1 A2 : Option Addr} {n1 c1 n2 c2 : Nat} (hm : Blk w gm 36 (row 2 (bookC (.slice A1 n1 c1) (.slice A2 n2 c2)))) (cs : Array Value) (hr : Reads w w.heap.size A n f) : Reads (w.setRow gm cs) (w.setRow gm cs).heap.size A n f := fun hn => by
  obtain ⟨ad, e, hb, hc⟩ := hr hn
  have hne : ad.block ≠ gm := fun he => by
    obtain ⟨ds, t, fz, hb1, hv⟩ := cell_in (hc 0 hn)
    rw [add_block, he, hm.out] at hb1
    cases hb1
    rw [row2] at hv
    generalize (ad.add 0).off = off at hv
    match off, hv with
    | 0, hv => simp at hv
    | 1, hv => simp at hv
    | o + 2, hv => simp at hv
  refine ⟨ad, e, by simpa using hb, fun i hi => ?_⟩
  rw [World.cell?_of_block (w := w) (by rw [add_block]; exact setRow_other w gm _ cs hne)]
  exact hc i hi
theorem rowC_book {A1 A2 : Option Addr} {n1 c1 n2 c2 : Nat} (hm : Blk w gm 36 (row 2 (bookC (.slice A1 n1 c1) (.slice A2 n2 c2)))) (cs : Array Value) {r : Rw} {c : Nat → Value} (hr : RowC w w.heap.size Lk r c) : RowC (w.setRow gm cs) (w.setRow gm cs).heap.size Lk r c := by
  obtain ⟨⟨Ak, cp, g, h1, h2, h3, h4⟩, ⟨B1, e1, h5, h6, h7⟩, ⟨B2, e2, h8, h9, h10⟩⟩ := hr
  exact ⟨⟨Ak, cp, g, h1, reads_book hm cs h2, h3, h4⟩, ⟨B1, e1, h5, h6, reads_book hm cs h7⟩, ⟨B2, e2, h8, h9, reads_book hm cs h10⟩⟩
/-- rows, where the document's own book is stored -/
theorem rows_book {A1 A2 : Option Addr} {n1 c1 n2 c2 : Nat} (hm : Blk w gm 36 (row 2 (bookC (.slice A1 n1 c1) (.slice A2 n2 c2)))) (cs : Array Value) (hr : RowsAt w w.heap.size A Lk R') : RowsAt (w.setRow gm cs) (w.setRow gm cs).heap.size A Lk R' := fun i hi => by
  obtain ⟨ad, e, hb, c, hc, hrc⟩ := hr i hi
  have hne : ad.block ≠ gm := fun he => by
    obtain ⟨ds, t, fz, hb1, hv⟩ := cell_in (hc 2 (by omega))
    rw [add_block, add_block, he, hm.out] at hb1
    cases hb1
    rw [row2, add_off] at hv
    generalize (ad.add (i * 3)).off = off at hv
    simp at hv
  refine ⟨ad, e, by simpa using hb, c, fun j hj => ?_, rowC_book hm cs hrc⟩
  rw [World.cell?_of_block (w := w) (by rw [add_block, add_block]; exact setRow_other w gm _ cs hne)]
  exact hc j hj
end
end Go.Proofs.YtomeeebiijmnmaaGreatDoor.Bk
