/-
  What des.Rounds returns: a contract over the loaded program.
-/
import Derived.Test.YtdodflnmhgnpeaaGreatDoorDesMix
namespace Go.Proofs.YtdodflnmhgnpeaaGreatDoor.Des
open Go.ChangeShapes Go.WideShapes Go.ChangeAt Go.RowKit Mem
theorem zR16 : (Tryz.prog.info? 170).map (·.zero) = some (some (.agg (row 16 (iv .u64 fun _ => 0)))) := by kernel_rfl
theorem iR16 : (Tryz.prog.info? 170).map (·.size) = some 16 := by kernel_rfl
theorem iR16' (f : Nat → Value) : (Tryz.prog.info? 170).map (·.size) = some (row 16 f).size := by rw [row_size]; exact iR16
theorem iU64 : (Tryz.prog.info? 169).map (·.size) = some 1 := by kernel_rfl
theorem num_lt64 {f : Nat → Nat} (hf : By8 f) : num f 8 < 18446744073709551616 := num_lt hf 8 (by omega)
theorem or_half (a b : Nat) (ha : a < 2 ^ 28) (hb : b < 2 ^ 28) : bits .or .u64 ((a : Int) * 268435456) (b : Int) = ((a * 2 ^ 28 + b : Nat) : Int) := by
  rw [show (a : Int) * 268435456 = ((a * 2 ^ 28 : Nat) : Int) by omega, u64_or_nat _ _ (by omega) (by omega), or_add 28 _ _ hb]
set_option maxRecDepth 100000 in
set_option maxHeartbeats 2000000 in
theorem rounds_any (f : Nat → Nat) (hf : By8 f) (w : World) :
    Calls Tryz.prog 101 #[.agg (row 8 (b8 f))] w fun e w' => e = .returned (.agg (row 16 (iv .u64 (rounds (num f 8))))) ∧ Below w.heap.size w w' := by
  have Hf := hid hf
  clear hf
  have hb1 := (Blk.fresh w 117 (row 8 (b8 f))).alloc (.cells (row 16 (iv .u64 fun _ => 0)) 170)
  have hb2 := two_new w (.cells (row 8 (b8 f)) 117) (row 16 (iv .u64 fun _ => 0)) 170
  have hB2 : Below w.heap.size w ((w.alloc (.cells (row 8 (b8 f)) 117)).alloc (.cells (row 16 (iv .u64 fun _ => 0)) 170)) := ((Below.refl _ _).alloc (Nat.le_refl _) _).alloc (by simp) _
  go_enter Tryz.func101, Tryz.ntmps101
  go_wp2_with (first
    | (with_reducible refine wpl_alloc rfl 170 rfl _ zR16 ?_)
    | (with_reducible refine wpl_load rfl 117 _ rfl _ rfl 117 _ hb1 8 5 Tryz.underlying117 (i8a' _) ?_))
  refine (num_any f Hf.out _).mono ?_
  rintro e w1 ⟨rfl, hB3⟩
  have hb3 := hb2.below hB3 hb2.lt
  have hB4 := hB2.trans (hB3.mono hB2.size)
  clear hb1 hb2 hB2 hB3
  go_wp2_with fail
  refine (pick_any _ 56 pc1 (by decide +kernel) _ 64 (num_lt64 Hf.out) (by omega) (by omega) (fun i hi => (pc1_range i hi).2.1) _).mono ?_
  rintro e w2 ⟨rfl, q, rfl⟩
  have hb5 := hb3.drewN q
  have hB5 := below_drewN hB4 q
  clear hb3 hB4
  generalize w1.drewN q = w2 at *
  have hP : pk pc1 64 (num f 8) 56 < 72057594037927936 := pk_lt pc1 64 (num f 8) 56
  have HR : Hid (rounds (num f 8) = rkOf (pk pc1 64 (num f 8) 56)) := hid rfl
  generalize pk pc1 64 (num f 8) 56 = B at *
  have hm : bits .and .u64 (B : Int) 268435455 = ((B % 268435456 : Nat) : Int) := and_mask B 28 (by omega) (by omega)
  go_wp2_with (with_reducible refine wpl_alloc rfl 170 rfl _ zR16 ?_)
  have hb6 := hb5.alloc (.cells (row 16 (iv .u64 fun _ => 0)) 170)
  have hb7 := Blk.fresh w2 170 (row 16 (iv .u64 fun _ => 0))
  have hB7 := hB5.alloc hB5.size (.cells (row 16 (iv .u64 fun _ => 0)) 170)
  have hg : w.heap.size + 1 < w2.heap.size := hb5.lt
  clear hb5 hB5
  generalize w2.alloc (.cells (row 16 (iv .u64 fun _ => 0)) 170) = w3 at *
  generalize w2.heap.size = g at *
  have hL := fun k => hl_lt (c := B / 268435456) (by omega) k
  have hRt := fun k => hl_lt (c := B % 268435456) (by omega) k
  have HL := hid hL
  have HRt := hid hRt
  clear hL hRt
  go_loopw [4, 5, 16] (fun l r i wr => ∃ (k : Nat) (m : Nat → Nat), k ≤ 16 ∧ l = .int .u64 (hl (B / 268435456) k : Nat) ∧ r = .int .u64 (hl (B % 268435456) k : Nat) ∧ i = .int .i64 k ∧ Hid (∀ j, m j = if j < k then rkOf B j else 0) ∧ Blk wr g 170 (row 16 (iv .u64 m)) ∧ Blk wr (w.heap.size + 1) 170 (row 16 (iv .u64 fun _ => 0)) ∧ Below w.heap.size w wr) (fun _ _ i _ => 16 - (intOf i).toNat)
  case atStart => exact ⟨0, fun _ => 0, by omega, val_int (by rw [hl]; omega), val_int (by rw [hl]; omega), rfl, hid (by simp), hb7, hb6, hB7⟩
  case round =>
    clear hb7 hb6 hB7
    obtain ⟨k, m, hk, rfl, rfl, rfl, HM, hb7, hb6, hB7⟩ := hrel
    by_cases hlt : k < 16
    · have hl1 := HL.out k
      have hr1 := HRt.out k
      have htn : tn k = 1 ∨ tn k = 2 := by have := tn_le k; omega
      go_wp2_with (go_at_call 111; refine (turns_any k hlt _).mono ?_; rintro e w' ⟨rfl, rfl⟩)
      refine (turnHalf_any _ (tn k) hl1 htn _).mono ?_
      rintro e w' ⟨rfl, q1, rfl⟩
      have hb7a := hb7.drewN q1
      have hb6a := hb6.drewN q1
      have hB7a := below_drewN hB7 q1
      clear hb7 hb6 hB7
      generalize wr.drewN q1 = wa at *
      go_wp2_with fail
      refine (turnHalf_any _ (tn k) hr1 htn _).mono ?_
      rintro e w' ⟨rfl, q2, rfl⟩
      have hb7b := hb7a.drewN q2
      have hb6b := hb6a.drewN q2
      have hB7b := below_drewN hB7a q2
      clear hb7a hb6a hB7a
      generalize wa.drewN q2 = wb at *
      have hl2 := HL.out (k + 1)
      have hr2 := HRt.out (k + 1)
      have Hl2 : Hid (rt 28 (hl (B / 268435456) k) (tn k) = hl (B / 268435456) (k + 1)) := hid rfl
      have Hr2 : Hid (rt 28 (hl (B % 268435456) k) (tn k) = hl (B % 268435456) (k + 1)) := hid rfl
      rw [Hl2.out, Hr2.out]
      have hor := or_half _ _ hl2 hr2
      have hor2 : hl (B / 268435456) (k + 1) * 2 ^ 28 + hl (B % 268435456) (k + 1) < 18446744073709551616 := by omega
      have HK : Hid (pk pc2 56 (hl (B / 268435456) (k + 1) * 2 ^ 28 + hl (B % 268435456) (k + 1)) 48 = rkOf B k) := hid rfl
      clear hl1 hr1
      generalize hl (B / 268435456) (k + 1) = l2 at *
      generalize hl (B % 268435456) (k + 1) = r2 at *
      have Hor := hid hor
      clear hor
      go_wp2_with fail
      rw [Hor.out]
      refine (pick_any _ 48 pc2 (by decide +kernel) _ 56 hor2 (by omega) (by omega) (fun i hi => (pc2_range i hi).2) _).mono ?_
      rintro e w' ⟨rfl, q3, rfl⟩
      rw [HK.out]
      have hb7c := hb7b.drewN q3
      have hb6c := hb6b.drewN q3
      have hB7c := below_drewN hB7b q3
      clear hb7b hb6b hB7b HK hor2
      generalize wb.drewN q3 = wc at *
      go_wp2_with (first
        | (with_reducible refine wpl_at rfl 170 _ _ rfl _ rfl .i64 _ rfl k rfl 16 169 Tryz.underlying170 hlt iU64 ?_)
        | (with_reducible refine wpl_st rfl 169 _ _ rfl _ rfl .u64 _ rfl iU64 _ (hb7c.vali k hlt) (hb7c.free k) ?_))
      go_round
      case rel => exact ⟨k + 1, upd m k (rkOf B k), by omega, val_int (by rw [← Hl2.out]; rfl), val_int (by rw [← Hr2.out]; rfl), val_int (by omega), hid (fill_step (F := rkOf B) HM.out), hb7c.puti k _, hb6c.other _ _ (by simp; omega), hB7c.setCell (by simp; omega) _⟩
      case measure => simp [intOf]; omega
    · go_wp2_with (first
        | (with_reducible refine wpl_load rfl 170 _ rfl _ rfl 170 _ hb7 16 169 Tryz.underlying170 (iR16' _) ?_)
        | (with_reducible refine wpl_store rfl 170 _ _ rfl _ _ rfl rfl 170 _ hb6 (iR16' _) (by simp [row_size]) (one_iv _ _ _) ?_))
      refine ret_row Tryz.results101 rfl (w.heap.size + 1) rfl 170 16 _ (hb6.setRow _) 169 Tryz.underlying170 iR16 ⟨ret_iv fun i hi => ?_, below_setRow' hB7 (by omega) _⟩
      rw [HM.out i, if_pos (by omega), HR.out]
end Go.Proofs.YtdodflnmhgnpeaaGreatDoor.Des
