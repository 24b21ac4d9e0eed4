/-
  What the functions of package aes that turn rows and mix columns return: contracts over the loaded program.
-/
import Derived.Test.YtdodflnmhgnpeaaGreatDoorAesWalks
namespace Go.Proofs.YtdodflnmhgnpeaaGreatDoor.Aes
open Go.ChangeShapes Go.WideShapes Go.ChangeAt Go.RowKit Mem

set_option maxRecDepth 100000 in
theorem mul_still (a b : Nat) (ha : a < 256) (hb : b < 256) (w : World) :
    Calls Tryz.prog 96 #[.int .u8 a, .int .u8 b] w fun e w' => e = .returned (.int .u8 (Gf.mul a b : Nat)) ∧ w' = w := (Gf.mul_any a b ha hb w).mono fun _ _ ⟨h1, h2⟩ => ⟨h1, h2.symm⟩
set_option maxRecDepth 100000 in
theorem from_still (i : Nat) (hi : i < 16) (w : World) : Calls Tryz.prog 97 #[.int .i64 i] w fun e w' => e = .returned (.int .i64 (src i : Nat)) ∧ w' = w := (from_any i hi w).mono fun _ _ ⟨h1, h2⟩ => ⟨h1, h2.symm⟩

set_option maxRecDepth 100000 in
set_option maxHeartbeats 1000000 in
theorem rows_any (f : Nat → Nat) (w : World) :
    Calls Tryz.prog 81 #[.agg (row 16 (b8 f))] w fun e w' => e = .returned (.agg (row 16 (b8 (rows f)))) ∧ Below w.heap.size w w' := by
  go_enter Tryz.func81, Tryz.ntmps81
  go_wp2_with (first | (with_reducible refine wpl_alloc rfl 37 rfl _ z16 ?_))
  go_loopw [5] (fun i wr => ∃ (k : Nat) (m m' : Nat → Nat), k ≤ 16 ∧ i = .int .i64 k ∧ Hid (∀ j, m j = if j < k then rows f j else 0) ∧ Blk wr w.heap.size 37 (row 16 (b8 f)) ∧ Blk wr (w.heap.size + 1) 37 (row 16 (b8 m')) ∧ Blk wr (w.heap.size + 2) 37 (row 16 (b8 m)) ∧ Below w.heap.size w wr) (fun i _ => 16 - (intOf i).toNat)
  case atStart =>
    exact ⟨0, fun _ => 0, fun _ => 0, by omega, rfl, hid (by simp), ((Blk.fresh _ _ _).alloc _).alloc _, (two_new _ _ _ _ _).alloc _, three_new _ _ _ _ _, (((Below.refl _ _).alloc (Nat.le_refl _) _).alloc (by simp) _).alloc (by simp; omega) _⟩
  case round =>
    obtain ⟨k, m, m', hk, rfl, HM, hb1, hb2, hb3, hB⟩ := hrel
    by_cases hlt : k < 16
    · have hs := src_lt k
      have hc1 := hb1.val (src k) hs
      go_wp2_with (first
        | (go_at_call 97; refine (from_any _ hlt _).mono ?_; rintro e w' ⟨rfl, rfl⟩)
        | (with_reducible refine wpl_at rfl 37 _ _ rfl _ rfl .i64 _ rfl (src k) rfl 16 5 Tryz.underlying37 hs i8 ?_)
        | (with_reducible refine wpl_at rfl 37 _ _ rfl _ rfl .i64 _ rfl k rfl 16 5 Tryz.underlying37 hlt i8 ?_)
        | (with_reducible refine wpl_ld rfl 5 _ rfl _ rfl .u8 Tryz.underlying5 _ hc1 ?_)
        | (with_reducible refine wpl_st rfl 5 _ _ rfl _ rfl .u8 _ rfl i8 _ (hb3.val k hlt) (hb3.free k) ?_))
      go_round
      case rel => exact ⟨k + 1, upd m k (rows f k), m', by omega, val_int (by omega), hid (fill_step (F := rows f) HM.out), hb1.other _ _ (by simp), hb2.other _ _ (by simp), hb3.put k _, hB.setCell (by simp) _⟩
      case measure => simp [intOf]; omega
    · go_wp2_with (first
        | (with_reducible refine wpl_load rfl 37 _ rfl _ rfl 37 _ hb3 16 5 Tryz.underlying37 (i16' _) ?_)
        | (with_reducible refine wpl_store rfl 37 _ _ rfl _ _ rfl rfl 37 _ hb2 (i16' _) (by simp [row_size]) (one_b8 _ _) ?_))
      exact ret_row Tryz.results81 rfl (w.heap.size + 1) rfl 37 16 _ (hb2.setRow _) 5 Tryz.underlying37 i16 ⟨ret_agg (fill_end HM.out (by omega)), below_setRow' hB (by omega) _⟩

set_option maxRecDepth 100000 in
theorem back_step {m f : Nat → Nat} {k : Nat} (hk : k < 16) (h : ∀ j, m j = if dst j < k then f (dst j) else 0) : ∀ j, j < 16 → upd m (src k) (f k) j = if dst j < k + 1 then f (dst j) else 0 := by
  intro j hj
  by_cases e : j = src k
  · subst e; rw [upd_same, dst_src k hk, if_pos (by omega)]
  · have : dst j ≠ k := fun h2 => e (by rw [← h2, src_dst j hj])
    rw [upd_other _ _ _ _ e, h j]
    by_cases h2 : dst j < k
    · rw [if_pos h2, if_pos (by omega)]
    · rw [if_neg h2, if_neg (by omega)]
set_option maxRecDepth 100000 in
set_option maxHeartbeats 1000000 in
theorem rowsB_any (f : Nat → Nat) (w : World) :
    Calls Tryz.prog 85 #[.agg (row 16 (b8 f))] w fun e w' => e = .returned (.agg (row 16 (b8 (rowsB f)))) ∧ Below w.heap.size w w' := by
  go_enter Tryz.func85, Tryz.ntmps85
  go_wp2_with (first | (with_reducible refine wpl_alloc rfl 37 rfl _ z16 ?_))
  go_loopw [5] (fun i wr => ∃ (k : Nat) (m' : Nat → Nat), k ≤ 16 ∧ i = .int .i64 k ∧ Blk wr w.heap.size 37 (row 16 (b8 f)) ∧ Blk wr (w.heap.size + 1) 37 (row 16 (b8 m')) ∧ Blk wr (w.heap.size + 2) 37 (row 16 (b8 fun j => if dst j < k then f (dst j) else 0)) ∧ Below w.heap.size w wr) (fun i _ => 16 - (intOf i).toNat)
  case atStart =>
    exact ⟨0, fun _ => 0, by omega, rfl, ((Blk.fresh _ _ _).alloc _).alloc _, (two_new _ _ _ _ _).alloc _, three_new _ _ _ _ _, (((Below.refl _ _).alloc (Nat.le_refl _) _).alloc (by simp) _).alloc (by simp; omega) _⟩
  case round =>
    obtain ⟨k, m', hk, rfl, hb1, hb2, hb3, hB⟩ := hrel
    by_cases hlt : k < 16
    · have hs := src_lt k
      go_wp2_with fail
      refine wp_region_still_tail 6 (by kernel_rfl) (by kernel_rfl) ?_
      simp only [List.take_succ_cons, List.take_zero, List.drop_succ_cons, List.drop_zero]
      change wpStill _ _ wr.drew (fun a' => wpList _ _ _ _ a' wr.drew) _ _
      have hb1' : Blk wr.drew w.heap.size 37 (row 16 (b8 f)) := hb1
      have hb2' : Blk wr.drew (w.heap.size + 1) 37 (row 16 (b8 m')) := hb2
      have hb3' : Blk wr.drew (w.heap.size + 2) 37 _ := hb3
      have hB' := hB.drew
      clear hb1 hb2 hb3 hB
      generalize wr.drew = w2 at *
      have hd1 := hb1'.val k hlt
      repeat (first
        | (with_reducible refine wps_at rfl 37 _ _ rfl _ rfl .i64 _ rfl k rfl 16 5 Tryz.underlying37 hlt i8 ?_)
        | (with_reducible refine wps_at rfl 37 _ _ rfl _ rfl .i64 _ rfl (src k) rfl 16 5 Tryz.underlying37 hs i8 ?_)
        | (with_reducible refine wps_ld rfl 5 _ rfl _ rfl .u8 Tryz.underlying5 _ hd1 ?_)
        | still_step
        | still_call (from_still _ hlt _))
      refine wpStill_nil ?_
      go_wp2_with (with_reducible refine wpl_st rfl 5 _ _ rfl _ rfl .u8 _ rfl i8 _ (hb3'.val _ hs) (hb3'.free _) ?_)
      go_round
      case rel =>
        refine ⟨k + 1, m', by omega, val_int (by omega), hb1'.other _ _ (by simp), hb2'.other _ _ (by simp), ?_, hB'.setCell (by simp) _⟩
        have := hb3'.put (src k) (f k)
        rwa [row_b8_ext (back_step (f := f) hlt (fun _ => rfl))] at this
      case measure => simp [intOf]; omega
    · go_wp2_with (first
        | (with_reducible refine wpl_load rfl 37 _ rfl _ rfl 37 _ hb3 16 5 Tryz.underlying37 (i16' _) ?_)
        | (with_reducible refine wpl_store rfl 37 _ _ rfl _ _ rfl rfl 37 _ hb2 (i16' _) (by simp [row_size]) (one_b8 _ _) ?_))
      exact ret_row Tryz.results85 rfl (w.heap.size + 1) rfl 37 16 _ (hb2.setRow _) 5 Tryz.underlying37 i16 ⟨ret_agg (fun j hj => by rw [if_pos (by have := dst_lt j; omega)]; rfl), below_setRow' hB (by omega) _⟩

def mixAt (c f : Nat → Nat) (i k : Nat) : Nat → Nat := fun j => if j < i then mix c f j else if j = i then mixTo c f i k else 0
set_option maxRecDepth 100000 in
theorem mixAt_put (c f : Nat → Nat) (i k : Nat) : ∀ j, upd (mixAt c f i k) i (mixTo c f i k ^^^ Gf.mul (c k) (f (nxt i k))) j = mixAt c f i (k + 1) j := by
  intro j
  by_cases h : j = i
  · subst h; rw [upd_same]; unfold mixAt; rw [if_neg (by omega), if_pos rfl]; rfl
  · rw [upd_other _ _ _ _ h]; unfold mixAt; simp [h]
set_option maxRecDepth 100000 in
theorem mixAt_next (c f : Nat → Nat) (i : Nat) : ∀ j, mixAt c f i 4 j = mixAt c f (i + 1) 0 j := by
  intro j
  unfold mixAt
  by_cases h : j < i
  · rw [if_pos h, if_pos (by omega)]
  · by_cases h2 : j = i
    · subst h2; rw [if_neg h, if_pos rfl, if_pos (by omega)]; rfl
    · rw [if_neg h, if_neg h2, if_neg (by omega)]
      split
      · rfl
      · rfl
set_option maxRecDepth 100000 in
set_option maxHeartbeats 2000000 in
theorem mix_any (c f : Nat → Nat) (w : World) (hf : By16 f) (hc : ∀ k, c k < 256) :
    Calls Tryz.prog 84 #[.agg (row 16 (b8 f)), .agg (row 4 (b8 c))] w fun e w' => e = .returned (.agg (row 16 (b8 (mix c f)))) ∧ Below w.heap.size w w' := by
  have Hf := hid hf
  have Hc := hid hc
  clear hf hc
  go_enter Tryz.func84, Tryz.ntmps84
  go_wp2_with (first | (with_reducible refine wpl_alloc rfl 37 rfl _ z16 ?_))
  go_loopw [10] (fun i wr => ∃ (k : Nat) (m' : Nat → Nat), k ≤ 16 ∧ i = .int .i64 k ∧ Blk wr w.heap.size 37 (row 16 (b8 f)) ∧ Blk wr (w.heap.size + 1) 131 (row 4 (b8 c)) ∧ Blk wr (w.heap.size + 2) 37 (row 16 (b8 m')) ∧ Blk wr (w.heap.size + 3) 37 (row 16 (b8 (mixAt c f k 0))) ∧ Below w.heap.size w wr) (fun i _ => 16 - (intOf i).toNat)
  case atStart =>
    refine ⟨0, fun _ => 0, by omega, rfl, (((Blk.fresh _ _ _).alloc _).alloc _).alloc _, ?_, (three_new _ _ _ _ _).alloc _, ?_, ((((Below.refl _ _).alloc (Nat.le_refl _) _).alloc (by simp) _).alloc (by simp; omega) _).alloc (by simp; omega) _⟩
    · have := Blk.fresh (w.alloc (.cells (row 16 (b8 f)) 37)) 131 (row 4 (b8 c))
      rw [show (w.alloc (.cells (row 16 (b8 f)) 37)).heap.size = w.heap.size + 1 by simp] at this
      exact (this.alloc _).alloc _
    · rw [row_b8_ext (n := 16) (f := mixAt c f 0 0) (g := fun _ => 0) (fun j _ => by unfold mixAt; rw [if_neg (by omega)]; split <;> rfl)]
      have := Blk.fresh (((w.alloc (.cells (row 16 (b8 f)) 37)).alloc (.cells (row 4 (b8 c)) 131)).alloc (.cells (row 16 (b8 fun _ => 0)) 37)) 37 (row 16 (b8 fun _ => 0))
      simpa using this
  case round =>
    obtain ⟨i, m', hk, rfl, hb1, hb2, hb3, hb4, hB⟩ := hrel
    by_cases hlt : i < 16
    · go_wp2_with (with_reducible refine wpl_load rfl 131 _ rfl _ rfl 131 _ hb2 4 5 Tryz.underlying131 (i4' _) ?_)
      go_loopw [18] (fun y wr => ∃ (k : Nat) (m' : Nat → Nat), k ≤ 4 ∧ y = .int .i64 k ∧ Blk wr w.heap.size 37 (row 16 (b8 f)) ∧ Blk wr (w.heap.size + 1) 131 (row 4 (b8 c)) ∧ Blk wr (w.heap.size + 2) 37 (row 16 (b8 m')) ∧ Blk wr (w.heap.size + 3) 37 (row 16 (b8 (mixAt c f i k))) ∧ Below w.heap.size w wr) (fun y _ => 4 - (intOf y).toNat)
      case atStart => exact ⟨0, m', by omega, rfl, hb1, hb2, hb3, hb4, hB⟩
      case round =>
        clear hb1 hb2 hb3 hb4 hB
        obtain ⟨k, m', hk4, rfl, hb1, hb2, hb3, hb4, hB⟩ := hrel
        by_cases hlt4 : k < 4
        · have hn := nxt_lt i k hlt
          have hfn := Hf.out _ hn
          have hck := Hc.out k
          go_wp2_with (with_reducible refine wpl_index rfl 131 _ _ rfl _ rfl .i64 _ rfl k rfl 4 5 Tryz.underlying131 hlt4 .u8 Tryz.underlying5 i8 _ (row_val 4 c k hlt4) ?_)
          refine wp_region_still_tail 15 (by kernel_rfl) (by kernel_rfl) ?_
          simp only [List.take_succ_cons, List.take_zero, List.drop_succ_cons, List.drop_zero]
          change wpStill _ _ wr.drew (fun a' => wpList _ _ _ _ a' wr.drew) _ _
          have hb1' : Blk wr.drew w.heap.size 37 (row 16 (b8 f)) := hb1
          have hb2' : Blk wr.drew (w.heap.size + 1) 131 (row 4 (b8 c)) := hb2
          have hb3' : Blk wr.drew (w.heap.size + 2) 37 (row 16 (b8 m')) := hb3
          have hb4' : Blk wr.drew (w.heap.size + 3) 37 (row 16 (b8 (mixAt c f i k))) := hb4
          have hB' := hB.drew
          clear hb1 hb2 hb3 hb4 hB
          generalize wr.drew = w2 at *
          have Hm : Hid (mixAt c f i k i = mixTo c f i k) := hid (by unfold mixAt; rw [if_neg (by omega), if_pos rfl])
          have hlm := mixTo_lt c f i k Hc.out
          have Hn : Hid (nxt i k = i - i % 4 + (i + k) % 4) := hid rfl
          have hd1 := hb4'.val i hlt
          have hd2 := hb1'.val (nxt i k) hn
          have hw1 := wrap_i64 ((i : Int) + (k : Int)) _ rfl (by omega) (by omega)
          have hw2 := wrap_i64 ((i : Int) - (i : Int) % 4 + ((i : Int) + (k : Int)) % 4) _ rfl (by omega) (by omega)
          have ht1 : ((i : Int) + (k : Int)).tmod 4 = ((i : Int) + (k : Int)) % 4 := Int.tmod_eq_emod_of_nonneg (by omega)
          repeat (first
            | (with_reducible refine wps_at rfl 37 _ _ rfl _ rfl .i64 _ rfl i rfl 16 5 Tryz.underlying37 hlt i8 ?_)
            | (with_reducible refine wps_at rfl 37 _ _ rfl _ rfl .i64 _ rfl (nxt i k) (by rw [Hn.out]; omega) 16 5 Tryz.underlying37 hn i8 ?_)
            | (with_reducible refine wps_ld rfl 5 _ rfl _ rfl .u8 Tryz.underlying5 _ hd1 ?_)
            | (with_reducible refine wps_ld rfl 5 _ rfl _ rfl .u8 Tryz.underlying5 _ hd2 ?_)
            | still_step
            | still_call (mul_still _ _ hck hfn _))
          refine wpStill_nil ?_
          clear hw1 hw2 ht1
          go_wp2_with (with_reducible refine wpl_st rfl 5 _ _ rfl _ rfl .u8 _ rfl i8 _ (hb4'.val _ hlt) (hb4'.free _) ?_)
          go_round
          case rel =>
            rw [Hm.out, u8_xor_nat _ _ hlm (Gf.mul_lt _ _ hck)]
            refine ⟨k + 1, m', by omega, val_int (by omega), hb1'.other _ _ (by simp), hb2'.other _ _ (by simp), hb3'.other _ _ (by simp), ?_, hB'.setCell (by simp) _⟩
            have := hb4'.put i (mixTo c f i k ^^^ Gf.mul (c k) (f (nxt i k)))
            rwa [row_b8_ext (fun j _ => mixAt_put c f i k j)] at this
          case measure => simp [intOf]; omega
        · obtain rfl : k = 4 := by omega
          go_wp2_with fail
          go_round
          case rel =>
            refine ⟨i + 1, m', by omega, val_int (by omega), hb1, hb2, hb3, ?_, hB⟩
            rwa [row_b8_ext (fun j _ => mixAt_next c f i j)] at hb4
          case measure => simp [intOf]; omega
    · obtain rfl : i = 16 := by omega
      go_wp2_with (first
        | (with_reducible refine wpl_load rfl 37 _ rfl _ rfl 37 _ hb4 16 5 Tryz.underlying37 (i16' _) ?_)
        | (with_reducible refine wpl_store rfl 37 _ _ rfl _ _ rfl rfl 37 _ hb3 (i16' _) (by simp [row_size]) (one_b8 _ _) ?_))
      exact ret_row Tryz.results84 rfl (w.heap.size + 2) rfl 37 16 _ (hb3.setRow _) 5 Tryz.underlying37 i16 ⟨ret_agg (fun j hj => by unfold mixAt; rw [if_pos hj]), below_setRow' hB (by omega) _⟩
end Go.Proofs.YtdodflnmhgnpeaaGreatDoor.Aes
