/-
  What lockboxref02.Boxes returns: the boxes of all bytes, by the powers of 3.
-/
import Derived.Test.YtaeleohjikheiaaGreatDoorGfRefA
import Derived.Test.YtaeleohjikheiaaGreatDoorAesCipher
import Derived.Test.YtaeleohjikheiaaGreatDoorMemX
namespace Go.Proofs.YtaeleohjikheiaaGreatDoor.Aes
open Go.ChangeShapes Go.WideShapes Go.ChangeAt Go.RowKit Mem
def l3 : List Nat := [1, 3, 5, 15, 17, 51, 85, 255, 26, 46, 114, 150, 161, 248, 19, 53, 95, 225, 56, 72, 216, 115, 149, 164, 247, 2, 6, 10, 30, 34, 102, 170, 229, 52, 92, 228, 55, 89, 235, 38, 106, 190, 217, 112, 144, 171, 230, 49, 83, 245, 4, 12, 20, 60, 68, 204, 79, 209, 104, 184, 211, 110, 178, 205, 76, 212, 103, 169, 224, 59, 77, 215, 98, 166, 241, 8, 24, 40, 120, 136, 131, 158, 185, 208, 107, 189, 220, 127, 129, 152, 179, 206, 73, 219, 118, 154, 181, 196, 87, 249, 16, 48, 80, 240, 11, 29, 39, 105, 187, 214, 97, 163, 254, 25, 43, 125, 135, 146, 173, 236, 47, 113, 147, 174, 233, 32, 96, 160, 251, 22, 58, 78, 210, 109, 183, 194, 93, 231, 50, 86, 250, 21, 63, 65, 195, 94, 226, 61, 71, 201, 64, 192, 91, 237, 44, 116, 156, 191, 218, 117, 159, 186, 213, 100, 172, 239, 42, 126, 130, 157, 188, 223, 122, 142, 137, 128, 155, 182, 193, 88, 232, 35, 101, 175, 234, 37, 111, 177, 200, 67, 197, 84, 252, 31, 33, 99, 165, 244, 7, 9, 27, 45, 119, 153, 176, 203, 70, 202, 69, 207, 74, 222, 121, 139, 134, 145, 168, 227, 62, 66, 198, 81, 243, 14, 18, 54, 90, 238, 41, 123, 141, 140, 143, 138, 133, 148, 167, 242, 13, 23, 57, 75, 221, 124, 132, 151, 162, 253, 28, 36, 108, 180, 199, 82, 246, 1]
def lg3 : List Nat := [0, 0, 25, 1, 50, 2, 26, 198, 75, 199, 27, 104, 51, 238, 223, 3, 100, 4, 224, 14, 52, 141, 129, 239, 76, 113, 8, 200, 248, 105, 28, 193, 125, 194, 29, 181, 249, 185, 39, 106, 77, 228, 166, 114, 154, 201, 9, 120, 101, 47, 138, 5, 33, 15, 225, 36, 18, 240, 130, 69, 53, 147, 218, 142, 150, 143, 219, 189, 54, 208, 206, 148, 19, 92, 210, 241, 64, 70, 131, 56, 102, 221, 253, 48, 191, 6, 139, 98, 179, 37, 226, 152, 34, 136, 145, 16, 126, 110, 72, 195, 163, 182, 30, 66, 58, 107, 40, 84, 250, 133, 61, 186, 43, 121, 10, 21, 155, 159, 94, 202, 78, 212, 172, 229, 243, 115, 167, 87, 175, 88, 168, 80, 244, 234, 214, 116, 79, 174, 233, 213, 231, 230, 173, 232, 44, 215, 117, 122, 235, 22, 11, 245, 89, 203, 95, 176, 156, 169, 81, 160, 127, 12, 246, 111, 23, 196, 73, 236, 216, 67, 31, 45, 164, 118, 123, 183, 204, 187, 62, 90, 251, 96, 177, 134, 59, 82, 161, 108, 170, 85, 41, 157, 151, 178, 135, 144, 97, 190, 220, 252, 188, 149, 207, 205, 55, 63, 91, 209, 83, 57, 132, 60, 65, 162, 109, 71, 20, 42, 158, 93, 86, 242, 211, 171, 68, 17, 146, 217, 35, 32, 46, 137, 180, 124, 184, 38, 119, 153, 227, 165, 103, 74, 237, 222, 197, 49, 254, 24, 13, 99, 140, 128, 192, 247, 112, 7]
/-- the powers of 3, and which power a byte is -/
def p3 (k : Nat) : Nat := l3.getD k 0
def g3 (j : Nat) : Nat := lg3.getD j 0
theorem p3_lt : ∀ k, k < 256 → p3 k < 256 := by decide +kernel
theorem p3_step : ∀ k, k < 255 → p3 (k + 1) = Gf.mul (p3 k) 3 := by decide +kernel
theorem p3_all : ∀ j, j < 256 → j = 0 ∨ (g3 j < 255 ∧ p3 (g3 j) = j) := by decide +kernel
theorem p3_box : ∀ k, k < 255 → Gf.aff (p3 ((255 - k) % 255)) = Gf.box (p3 k) := by decide +kernel
theorem aff_zero : Gf.aff 0 = Gf.box 0 := by decide +kernel
theorem z255 : (Tryz.prog.info? 163).map (·.zero) = some (some (.agg (row 255 (b8 fun _ => 0)))) := by kernel_rfl
theorem z256 : (Tryz.prog.info? 145).map (·.zero) = some (some (.agg (row 256 (b8 fun _ => 0)))) := by kernel_rfl
theorem i256 : (Tryz.prog.info? 145).map (·.size) = some 256 := by kernel_rfl
theorem i256' (f : Nat → Value) : (Tryz.prog.info? 145).map (·.size) = some (row 256 f).size := by rw [row_size]; exact i256
theorem rmul (a b : Nat) (ha : a < 256) (hb : b < 256) (w : World) : Calls Tryz.prog 94 #[.int .u8 a, .int .u8 b] w fun e w' => e = .returned (.int .u8 (Gf.mul a b : Nat)) ∧ w = w' := by
  rw [Gf.mul_ref a b ha hb]; exact Gf.refMul_any a b ha hb w
theorem aff_still (b : Nat) (hb : b < 256) (w : World) : Calls Tryz.prog 106 #[.int .u8 b] w fun e w' => e = .returned (.int .u8 (Gf.aff b : Nat)) ∧ w' = w := (Gf.affine_any b hb w).mono fun _ _ ⟨h1, h2⟩ => ⟨h1, h2.symm⟩
def pre3 (k : Nat) : Nat → Nat := fun j => if j < k then p3 j else 0
/-- the boxes of 0 and of the first k powers are there -/
def Bx (k : Nat) (o : Nat → Nat) : Prop := o 0 = Gf.box 0 ∧ ∀ i, i < k → o (p3 i) = Gf.box (p3 i)
theorem Bx.step {k : Nat} {o : Nat → Nat} (h : Bx k o) : Bx (k + 1) (upd o (p3 k) (Gf.box (p3 k))) := by
  refine ⟨?_, fun i hi => ?_⟩
  · unfold upd
    by_cases h0 : 0 = p3 k
    · rw [if_pos h0, ← h0]
    · rw [if_neg h0, h.1]
  · unfold upd
    by_cases h0 : p3 i = p3 k
    · rw [if_pos h0, h0]
    · rw [if_neg h0]
      have : i ≠ k := fun e => h0 (by rw [e])
      exact h.2 i (by omega)
theorem Bx.all {o : Nat → Nat} (h : Bx 255 o) (j : Nat) (hj : j < 256) : o j = Gf.box j := by
  rcases p3_all j hj with rfl | ⟨h1, h2⟩
  · exact h.1
  · have := h.2 (g3 j) h1
    rwa [h2] at this
set_option maxRecDepth 100000 in
set_option maxHeartbeats 4000000 in
theorem boxes_any (w : World) : Calls Tryz.prog 93 #[] w fun e w' => e = .returned (.agg (row 256 (b8 Gf.box))) ∧ Below w.heap.size w w' := by
  go_enter Tryz.func93, Tryz.ntmps93
  go_wp2_with (first | (with_reducible refine wpl_alloc rfl 145 rfl _ z256 ?_) | (with_reducible refine wpl_alloc rfl 163 rfl _ z255 ?_))
  go_loopw [2, 3] (fun x i wr => ∃ (k : Nat), k ≤ 255 ∧ x = .int .u8 (p3 k : Nat) ∧ i = .int .i64 k ∧ Blk wr w.heap.size 145 (row 256 (b8 fun _ => 0)) ∧ Blk wr (w.heap.size + 1) 163 (row 255 (b8 (pre3 k))) ∧ Below w.heap.size w wr ∧ Hid (wr.heap.size = w.heap.size + 2)) (fun _ i _ => 255 - (intOf i).toNat)
  case atStart =>
    refine ⟨0, by omega, rfl, rfl, (Blk.fresh _ _ _).alloc _, ?_, ((Below.refl _ _).alloc (Nat.le_refl _) _).alloc (by simp) _, hid (by simp)⟩
    have := Blk.fresh (w.alloc (.cells (row 256 (b8 fun _ => 0)) 145)) 163 (row 255 (b8 fun _ => 0))
    rw [row_b8_ext (f := pre3 0) (g := fun _ => 0) (fun j _ => by unfold pre3; rw [if_neg (by omega)])]
    simpa using this
  case round =>
    obtain ⟨k, hk, rfl, rfl, hb1, hb2, hB, HZ⟩ := hrel
    by_cases hlt : k < 255
    · have hp := p3_lt k (by omega)
      have Hs := hid (p3_step k hlt)
      go_wp2_with (first
        | (with_reducible refine wpl_at rfl 163 _ _ rfl _ rfl .i64 _ rfl k rfl 255 5 Tryz.underlying163 hlt i8 ?_)
        | (with_reducible refine wpl_st rfl 5 _ _ rfl _ rfl .u8 _ rfl i8 _ (hb2.val k hlt) (hb2.free k) ?_))
      refine (rmul _ 3 hp (by omega) _).mono ?_
      rintro e w' ⟨rfl, rfl⟩
      rw [← Hs.out]
      go_wp2_with fail
      go_round
      case rel =>
        refine ⟨k + 1, by omega, rfl, val_int (by omega), hb1.other _ _ (by simp), ?_, hB.setCell (by simp) _, hid (by simpa using HZ.out)⟩
        have := hb2.put k (p3 k)
        rwa [row_b8_ext (f := upd (pre3 k) k (p3 k)) (g := pre3 (k + 1)) (fun j _ => fill_step (F := p3) (f := fun _ => 0) (fun j => rfl) j)] at this
      case measure => simp [intOf]; omega
    · obtain rfl : k = 255 := by omega
      have hsz := HZ.out
      go_wp2_with (first | (with_reducible refine wpl_alloc rfl 145 rfl _ z256 ?_))
      have hb1' := hb1.alloc (.cells (row 256 (b8 fun _ => 0)) 145)
      have hb2' := hb2.alloc (.cells (row 256 (b8 fun _ => 0)) 145)
      have hb3 := Blk.fresh wr 145 (row 256 (b8 fun _ => 0))
      rw [hsz] at hb3
      have hB' := hB.alloc (by omega) (.cells (row 256 (b8 fun _ => 0)) 145)
      clear hb1 hb2 hB hsz HZ
      generalize wr.alloc (.cells (row 256 (b8 fun _ => 0)) 145) = w1 at *
      refine (Gf.affine_any 0 (by omega) _).mono ?_
      rintro e w' ⟨rfl, rfl⟩
      go_wp2_with (first
        | (with_reducible refine wpl_at rfl 145 _ _ rfl _ rfl .i64 _ rfl 0 rfl 256 5 Tryz.underlying145 (by omega) i8 ?_)
        | (with_reducible refine wpl_st rfl 5 _ _ rfl _ rfl .u8 _ rfl i8 _ (hb3.val 0 (by omega)) (hb3.free 0) ?_))
      go_loopw [5] (fun i wr => ∃ (k : Nat) (o : Nat → Nat), k ≤ 255 ∧ i = .int .i64 k ∧ Hid (Bx k o) ∧ Blk wr w.heap.size 145 (row 256 (b8 fun _ => 0)) ∧ Blk wr (w.heap.size + 1) 163 (row 255 (b8 (pre3 255))) ∧ Blk wr (w.heap.size + 2) 145 (row 256 (b8 o)) ∧ Below w.heap.size w wr) (fun i _ => 255 - (intOf i).toNat)
      case atStart =>
        exact ⟨0, upd (fun _ => 0) 0 (Gf.aff 0), by omega, rfl, hid ⟨by rw [upd_same, aff_zero], fun i hi => by omega⟩, hb1'.other _ _ (by simp), hb2'.other _ _ (by simp), hb3.put 0 _, hB'.setCell (by simp) _⟩
      case round =>
        clear hb1' hb2' hb3 hB'
        obtain ⟨k, o, hk, rfl, HB, hb1, hb2, hb3, hB⟩ := hrel
        by_cases hlt : k < 255
        · have hp := p3_lt k (by omega)
          have hq : (255 - k) % 255 < 255 := Nat.mod_lt _ (by omega)
          have hp2 := p3_lt ((255 - k) % 255) (by omega)
          have Hbox := hid (p3_box k hlt)
          have v1 := hid (show pre3 255 k = p3 k by unfold pre3; rw [if_pos hlt])
          have v2 := hid (show pre3 255 ((255 - k) % 255) = p3 ((255 - k) % 255) by unfold pre3; rw [if_pos hq])
          go_wp2_with fail
          refine wp_region_still_tail 10 (by kernel_rfl) (by kernel_rfl) ?_
          simp only [List.take_succ_cons, List.take_zero, List.drop_succ_cons, List.drop_zero]
          change wpStill _ _ wr.drew (fun a' => wpList _ _ _ _ a' wr.drew) _ _
          have hb1' : Blk wr.drew w.heap.size 145 (row 256 (b8 fun _ => 0)) := hb1
          have hb2' : Blk wr.drew (w.heap.size + 1) 163 (row 255 (b8 (pre3 255))) := hb2
          have hb3' : Blk wr.drew (w.heap.size + 2) 145 (row 256 (b8 o)) := hb3
          have hB' := hB.drew
          clear hb1 hb2 hb3 hB
          generalize wr.drew = w2 at *
          have hd1 := hb2'.val k hlt
          rw [v1.out] at hd1
          have hd2 := hb2'.val ((255 - k) % 255) hq
          rw [v2.out] at hd2
          have hw1 := wrap_i64 (255 - (k : Int)) _ rfl (by omega) (by omega)
          have ht1 : (255 - (k : Int)).tmod 255 = (255 - (k : Int)) % 255 := Int.tmod_eq_emod_of_nonneg (by omega)
          repeat (first
            | (with_reducible refine wps_at rfl 163 _ _ rfl _ rfl .i64 _ rfl k rfl 255 5 Tryz.underlying163 hlt i8 ?_)
            | (with_reducible refine wps_at rfl 163 _ _ rfl _ rfl .i64 _ rfl ((255 - k) % 255) (by omega) 255 5 Tryz.underlying163 hq i8 ?_)
            | (with_reducible refine wps_at rfl 145 _ _ rfl _ rfl .u8 _ rfl (p3 k) rfl 256 5 Tryz.underlying145 hp i8 ?_)
            | (with_reducible refine wps_ld rfl 5 _ rfl _ rfl .u8 Tryz.underlying5 _ hd1 ?_)
            | (with_reducible refine wps_ld rfl 5 _ rfl _ rfl .u8 Tryz.underlying5 _ hd2 ?_)
            | still_step
            | still_call (aff_still _ hp2 _))
          refine wpStill_nil ?_
          clear hw1 ht1
          go_wp2_with (with_reducible refine wpl_st rfl 5 _ _ rfl _ rfl .u8 _ rfl i8 _ (hb3'.val _ hp) (hb3'.free _) ?_)
          go_round
          case rel =>
            rw [Hbox.out]
            exact ⟨k + 1, _, by omega, val_int (by omega), hid HB.out.step, hb1'.other _ _ (by simp), hb2'.other _ _ (by simp), hb3'.put _ _, hB'.setCell (by simp) _⟩
          case measure => simp [intOf]; omega
        · obtain rfl : k = 255 := by omega
          go_wp2_with (first
            | (with_reducible refine wpl_load rfl 145 _ rfl _ rfl 145 _ hb3 256 5 Tryz.underlying145 (i256' _) ?_)
            | (with_reducible refine wpl_store rfl 145 _ _ rfl _ _ rfl rfl 145 _ hb1 (i256' _) (by simp [row_size]) (one_b8 _ _) ?_))
          exact ret_row Tryz.results93 rfl w.heap.size rfl 145 256 _ (hb1.setRow _) 5 Tryz.underlying145 i256 ⟨ret_agg HB.out.all, below_setRow' hB (Nat.le_refl _) _⟩
end Go.Proofs.YtaeleohjikheiaaGreatDoor.Aes
