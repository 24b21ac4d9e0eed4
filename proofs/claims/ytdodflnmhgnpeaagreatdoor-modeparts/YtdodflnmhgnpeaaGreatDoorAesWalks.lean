/-
  What the small functions of package aes return, of whatever bytes: contracts over the loaded program.
-/
import Derived.Test.YtdodflnmhgnpeaaGreatDoorGfWalks
import Derived.Test.YtdodflnmhgnpeaaGreatDoorAesMath
import Derived.Test.YtdodflnmhgnpeaaGreatDoorMem
namespace Go.Proofs.YtdodflnmhgnpeaaGreatDoor.Aes
open Go.ChangeShapes Go.WideShapes Go.ChangeAt Go.RowKit Mem

theorem z16 : (Tryz.prog.info? 37).map (·.zero) = some (some (.agg (row 16 (b8 fun _ => 0)))) := by kernel_rfl
theorem z4 : (Tryz.prog.info? 131).map (·.zero) = some (some (.agg (row 4 (b8 fun _ => 0)))) := by kernel_rfl
theorem i16 : (Tryz.prog.info? 37).map (·.size) = some 16 := by kernel_rfl
theorem i4 : (Tryz.prog.info? 131).map (·.size) = some 4 := by kernel_rfl
theorem i8 : (Tryz.prog.info? 5).map (·.size) = some 1 := by kernel_rfl
theorem i16' (f : Nat → Value) : (Tryz.prog.info? 37).map (·.size) = some (row 16 f).size := by rw [row_size]; exact i16
theorem i4' (f : Nat → Value) : (Tryz.prog.info? 131).map (·.size) = some (row 4 f).size := by rw [row_size]; exact i4
theorem two_new (w : World) (f g : Nat → Nat) (n t : Nat) : Blk ((w.alloc (.cells (row n (b8 f)) t)).alloc (.cells (row n (b8 g)) t)) (w.heap.size + 1) t (row n (b8 g)) := by simpa using Blk.fresh (w.alloc (.cells (row n (b8 f)) t)) t (row n (b8 g))
theorem three_new (w : World) (o p : Obj) (c : Array Value) (t : TypeId) : Blk (((w.alloc o).alloc p).alloc (.cells c t)) (w.heap.size + 2) t c := by simpa using Blk.fresh ((w.alloc o).alloc p) t c

set_option maxHeartbeats 1000000 in
theorem eachBox (f : Nat → Nat) (w : World) (hf : By16 f) :
    Calls Tryz.prog 82 #[.agg (row 16 (b8 f)), .func (.func 83) #[] #[]] w fun e w' => e = .returned (.agg (row 16 (b8 (each Gf.box f)))) ∧ Below w.heap.size w w' := by
  have Hf := hid hf
  clear hf
  go_enter Tryz.func82, Tryz.ntmps82
  go_wp2_with (first | (with_reducible refine wpl_alloc rfl 37 rfl _ z16 ?_) | (with_reducible refine wpl_load rfl 37 _ rfl w.heap.size rfl 37 _ ((Blk.fresh _ _ _).alloc _) 16 5 Tryz.underlying37 (i16' _) ?_))
  go_loopw [5, 6, 8] (fun _ _ i wr => ∃ (k : Nat) (m m' : Nat → Nat), k ≤ 16 ∧ i = .int .i64 k ∧ Hid (∀ j, m j = if j < k then each Gf.box f j else f j) ∧ Blk wr w.heap.size 37 (row 16 (b8 m)) ∧ Blk wr (w.heap.size + 1) 37 (row 16 (b8 m')) ∧ Below w.heap.size w wr) (fun _ _ i _ => 16 - (intOf i).toNat)
  case atStart =>
    exact ⟨0, f, fun _ => 0, by omega, rfl, hid (by simp), (Blk.fresh _ _ _).alloc _, two_new _ _ _ _ _, ((Below.refl _ _).alloc (Nat.le_refl _) _).alloc (by simp) _⟩
  case round =>
    obtain ⟨k, m, m', hk, rfl, HM, hb1, hb2, hB⟩ := hrel
    by_cases hlt : k < 16
    · have hfk := Hf.out k hlt
      go_wp2_with (first
        | (with_reducible refine wpl_index rfl 37 _ _ rfl _ rfl .i64 _ rfl k rfl 16 5 Tryz.underlying37 hlt .u8 Tryz.underlying5 i8 _ (row_val 16 f k hlt) ?_)
        | (go_at_call 83; refine (Gf.box_any _ hfk _).mono ?_; rintro e w' ⟨rfl, q, rfl⟩)
        | (with_reducible refine wpl_at rfl 37 _ _ rfl _ rfl .i64 _ rfl k rfl 16 5 Tryz.underlying37 hlt i8 ?_)
        | (with_reducible refine wpl_st rfl 5 _ _ rfl _ rfl .u8 _ rfl i8 _ ((hb1.drewN q).val k hlt) ((hb1.drewN q).free k) ?_))
      go_round
      case rel => exact ⟨k + 1, upd m k (Gf.box (f k)), m', by omega, val_int (by omega), hid (fill_step (F := each Gf.box f) HM.out), (hb1.drewN q).put k _, (hb2.drewN q).other _ _ (by simp), (below_drewN hB q).setCell (by simp) _⟩
      case measure => simp [intOf]; omega
    · go_wp2_with (first
        | (with_reducible refine wpl_load rfl 37 _ rfl _ rfl 37 _ hb1 16 5 Tryz.underlying37 (i16' _) ?_)
        | (with_reducible refine wpl_store rfl 37 _ _ rfl _ _ rfl rfl 37 _ hb2 (i16' _) (by simp [row_size]) (one_b8 _ _) ?_))
      exact ret_row Tryz.results82 rfl (w.heap.size + 1) rfl 37 16 _ (hb2.setRow _) 5 Tryz.underlying37 i16 ⟨ret_agg (fill_end HM.out (by omega)), below_setRow' hB (by omega) _⟩

set_option maxHeartbeats 1000000 in
theorem eachUnbox (f : Nat → Nat) (w : World) (hf : By16 f) :
    Calls Tryz.prog 82 #[.agg (row 16 (b8 f)), .func (.func 86) #[] #[]] w fun e w' => e = .returned (.agg (row 16 (b8 (each Gf.unbox f)))) ∧ Below w.heap.size w w' := by
  have Hf := hid hf
  clear hf
  go_enter Tryz.func82, Tryz.ntmps82
  go_wp2_with (first | (with_reducible refine wpl_alloc rfl 37 rfl _ z16 ?_) | (with_reducible refine wpl_load rfl 37 _ rfl w.heap.size rfl 37 _ ((Blk.fresh _ _ _).alloc _) 16 5 Tryz.underlying37 (i16' _) ?_))
  go_loopw [5, 6, 8] (fun _ _ i wr => ∃ (k : Nat) (m m' : Nat → Nat), k ≤ 16 ∧ i = .int .i64 k ∧ Hid (∀ j, m j = if j < k then each Gf.unbox f j else f j) ∧ Blk wr w.heap.size 37 (row 16 (b8 m)) ∧ Blk wr (w.heap.size + 1) 37 (row 16 (b8 m')) ∧ Below w.heap.size w wr) (fun _ _ i _ => 16 - (intOf i).toNat)
  case atStart =>
    exact ⟨0, f, fun _ => 0, by omega, rfl, hid (by simp), (Blk.fresh _ _ _).alloc _, two_new _ _ _ _ _, ((Below.refl _ _).alloc (Nat.le_refl _) _).alloc (by simp) _⟩
  case round =>
    obtain ⟨k, m, m', hk, rfl, HM, hb1, hb2, hB⟩ := hrel
    by_cases hlt : k < 16
    · have hfk := Hf.out k hlt
      go_wp2_with (first
        | (with_reducible refine wpl_index rfl 37 _ _ rfl _ rfl .i64 _ rfl k rfl 16 5 Tryz.underlying37 hlt .u8 Tryz.underlying5 i8 _ (row_val 16 f k hlt) ?_)
        | (go_at_call 86; refine (Gf.unbox_any _ hfk _).mono ?_; rintro e w' ⟨rfl, q, rfl⟩)
        | (with_reducible refine wpl_at rfl 37 _ _ rfl _ rfl .i64 _ rfl k rfl 16 5 Tryz.underlying37 hlt i8 ?_)
        | (with_reducible refine wpl_st rfl 5 _ _ rfl _ rfl .u8 _ rfl i8 _ ((hb1.drewN q).val k hlt) ((hb1.drewN q).free k) ?_))
      go_round
      case rel => exact ⟨k + 1, upd m k (Gf.unbox (f k)), m', by omega, val_int (by omega), hid (fill_step (F := each Gf.unbox f) HM.out), (hb1.drewN q).put k _, (hb2.drewN q).other _ _ (by simp), (below_drewN hB q).setCell (by simp) _⟩
      case measure => simp [intOf]; omega
    · go_wp2_with (first
        | (with_reducible refine wpl_load rfl 37 _ rfl _ rfl 37 _ hb1 16 5 Tryz.underlying37 (i16' _) ?_)
        | (with_reducible refine wpl_store rfl 37 _ _ rfl _ _ rfl rfl 37 _ hb2 (i16' _) (by simp [row_size]) (one_b8 _ _) ?_))
      exact ret_row Tryz.results82 rfl (w.heap.size + 1) rfl 37 16 _ (hb2.setRow _) 5 Tryz.underlying37 i16 ⟨ret_agg (fill_end HM.out (by omega)), below_setRow' hB (by omega) _⟩

set_option maxRecDepth 100000 in
set_option maxHeartbeats 1000000 in
theorem rk_any (f : Nat → Nat) (A : Option Addr) (n c r : Nat) (ws : Nat → Nat) (w : World) (hf : By16 f) (hws : ∀ i, i < n → ws i < 256) (hr : r < 16) (hn : 16 * r + 16 ≤ n) (B : Nat) (hBs : B ≤ w.heap.size) (hR : Reads w B A n ws) :
    Calls Tryz.prog 80 #[.agg (row 16 (b8 f)), .slice A n c, .int .i64 r] w fun e w' => e = .returned (.agg (row 16 (b8 (rk ws r f)))) ∧ Below w.heap.size w w' := by
  have Hf := hid hf
  have Hw := hid hws
  clear hf hws
  obtain ⟨ad, rfl, hbl, hcs⟩ := hR (by omega)
  have Hcs := hid hcs
  clear hcs hR
  go_enter Tryz.func80, Tryz.ntmps80
  go_wp2_with (first | (with_reducible refine wpl_alloc rfl 37 rfl _ z16 ?_))
  go_loopw [7, 8] (fun _ i wr => ∃ (k : Nat) (m m' : Nat → Nat), k ≤ 16 ∧ i = .int .i64 k ∧ Hid (∀ j, m j = if j < k then rk ws r f j else f j) ∧ Blk wr w.heap.size 37 (row 16 (b8 m)) ∧ Blk wr (w.heap.size + 1) 37 (row 16 (b8 m')) ∧ Below w.heap.size w wr) (fun _ i _ => 16 - (intOf i).toNat)
  case atStart =>
    exact ⟨0, f, fun _ => 0, by omega, rfl, hid (by simp), (Blk.fresh _ _ _).alloc _, two_new _ _ _ _ _, ((Below.refl _ _).alloc (Nat.le_refl _) _).alloc (by simp) _⟩
  case round =>
    obtain ⟨k, m, m', hk, rfl, HM, hb1, hb2, hB⟩ := hrel
    by_cases hlt : k < 16
    · have hfk := Hf.out k hlt
      have hwk := Hw.out (16 * r + k) (by omega)
      have Hmk : Hid (m k = f k) := hid (by rw [HM.out k, if_neg (by omega)])
      have hc2 := (hB.cell (p := ad.add (16 * r + k)) (by rw [add_block]; omega)).trans (Hcs.out (16 * r + k) (by omega))
      go_wp2_with fail
      refine wp_region_still_tail 12 (by kernel_rfl) (by kernel_rfl) ?_
      simp only [List.take_succ_cons, List.take_zero, List.drop_succ_cons, List.drop_zero]
      change wpStill _ _ wr.drew (fun a' => wpList _ _ _ _ a' wr.drew) _ _
      have hd2 : wr.drew.cell? (ad.add ((16 * r + k) * 1)) = some (Value.int IntKind.u8 ↑(ws (16 * r + k))) := by rw [Nat.mul_one]; exact hc2
      have hb1' : Blk wr.drew w.heap.size 37 (row 16 (b8 m)) := hb1
      have hb2' : Blk wr.drew (w.heap.size + 1) 37 (row 16 (b8 m')) := hb2
      have hB' := hB.drew
      clear hb1 hb2 hc2 hB
      generalize wr.drew = w2 at *
      have hd1 := hb1'.val k hlt
      have hd3 := hb1'.free k
      have hw1 := wrap_i64 (16 * (r : Int)) _ rfl (by omega) (by omega)
      have hw2 := wrap_i64 (16 * (r : Int) + (k : Int)) _ rfl (by omega) (by omega)
      repeat (first
        | (with_reducible refine wps_at rfl 37 _ _ rfl _ rfl .i64 _ rfl k rfl 16 5 Tryz.underlying37 hlt i8 ?_)
        | (with_reducible refine wps_sl rfl 22 _ _ rfl ad n c rfl .i64 _ rfl (16 * r + k) (by omega) 5 Tryz.underlying22 (by omega) 1 i8 ?_)
        | (with_reducible refine wps_ld rfl 5 _ rfl _ rfl .u8 Tryz.underlying5 _ hd1 ?_)
        | (with_reducible refine wps_ld rfl 5 _ rfl _ rfl .u8 Tryz.underlying5 _ hd2 ?_)
        | still_step)
      refine wpStill_nil ?_
      clear hw1 hw2
      go_wp2_with (with_reducible refine wpl_st rfl 5 _ _ rfl _ rfl .u8 _ rfl i8 _ hd1 hd3 ?_)
      go_round
      case rel =>
        rw [Hmk.out, u8_xor_nat _ _ hfk hwk]
        exact ⟨k + 1, upd m k (rk ws r f k), m', by omega, val_int (by omega), hid (fill_step (F := rk ws r f) HM.out), hb1'.put k _, hb2'.other _ _ (by simp), hB'.setCell (by simp) _⟩
      case measure => simp [intOf]; omega
    · go_wp2_with (first
        | (with_reducible refine wpl_load rfl 37 _ rfl _ rfl 37 _ hb1 16 5 Tryz.underlying37 (i16' _) ?_)
        | (with_reducible refine wpl_store rfl 37 _ _ rfl _ _ rfl rfl 37 _ hb2 (i16' _) (by simp [row_size]) (one_b8 _ _) ?_))
      exact ret_row Tryz.results80 rfl (w.heap.size + 1) rfl 37 16 _ (hb2.setRow _) 5 Tryz.underlying37 i16 ⟨ret_agg (fill_end HM.out (by omega)), below_setRow' hB (by omega) _⟩

theorem from_any (i : Nat) (hi : i < 16) (w : World) : Calls Tryz.prog 97 #[.int .i64 i] w fun e w' => e = .returned (.int .i64 (src i : Nat)) ∧ w = w' := by
  go_enter Tryz.func97, Tryz.ntmps97
  go_wp2
  go_ret
  exact ⟨ret_int (by unfold src; omega), rfl⟩

end Go.Proofs.YtdodflnmhgnpeaaGreatDoor.Aes
