/-
  What the functions of package aes that serve the key's words return: contracts over the loaded program.
-/
import Derived.Test.YtdodflnmhgnpeaaGreatDoorAesWalks2
namespace Go.Proofs.YtdodflnmhgnpeaaGreatDoor.Aes
open Go.ChangeShapes Go.WideShapes Go.ChangeAt Go.RowKit Mem

theorem rnd_any (L : Nat) (w : World) : Calls Tryz.prog 92 #[.int .i64 L] w fun e w' => e = .returned (.int .i64 (rnd L : Nat)) ∧ w = w' := by
  by_cases h1 : L = 32
  · subst h1
    go_enter Tryz.func92, Tryz.ntmps92
    go_wp2
    go_ret
    exact ⟨ret_int rfl, rfl⟩
  · by_cases h2 : L = 24
    · subst h2
      go_enter Tryz.func92, Tryz.ntmps92
      go_wp2
      go_ret
      exact ⟨ret_int rfl, rfl⟩
    · by_cases h3 : L = 16
      · subst h3
        go_enter Tryz.func92, Tryz.ntmps92
        go_wp2
        go_ret
        exact ⟨ret_int rfl, rfl⟩
      · have Hr : Hid (rnd L = 0) := hid (by unfold rnd; rw [if_neg h1, if_neg h2, if_neg h3])
        have t1 : ((L : Int) == 32) = false := by simp; omega
        have t2 : ((L : Int) == 24) = false := by simp; omega
        have t3 : ((L : Int) == 16) = false := by simp; omega
        clear h1 h2 h3
        go_enter Tryz.func92, Tryz.ntmps92
        go_wp2
        go_ret
        exact ⟨ret_int (by rw [Hr.out]; rfl), rfl⟩
theorem last_any (A : Option Addr) (n c : Nat) (hn : n ≤ 1000) (w : World) : Calls Tryz.prog 79 #[.slice A n c] w fun e w' => e = .returned (.int .i64 ((n / 16 : Nat) - 1 : Int)) ∧ w = w' := by
  go_enter Tryz.func79, Tryz.ntmps79
  go_wp2
  go_ret
  exact ⟨ret_int (by omega), rfl⟩

theorem built4 (x y z u : Int) : Tryz.prog.built 131 [(0, .int .u8 x), (1, .int .u8 y), (2, .int .u8 z), (3, .int .u8 u)] = some #[.int .u8 x, .int .u8 y, .int .u8 z, .int .u8 u] := by kernel_rfl
set_option maxHeartbeats 1000000 in
theorem turn_any (f : Nat → Nat) (w : World) :
    Calls Tryz.prog 95 #[.agg (row 4 (b8 f))] w fun e w' => e = .returned (.agg (row 4 (b8 fun i => f ((i + 1) % 4)))) ∧ Below w.heap.size w w' := by
  go_enter Tryz.func95, Tryz.ntmps95
  have hb1 : Blk ((w.alloc (.cells (row 4 (b8 f)) 131)).alloc (.cells (row 4 (b8 fun _ => 0)) 131)) w.heap.size 131 (row 4 (b8 f)) := (Blk.fresh _ _ _).alloc _
  have hb2 := two_new w f (fun _ => 0) 4 131
  have r0 := row_val 4 f 0 (by omega)
  have r1 := row_val 4 f 1 (by omega)
  have r2 := row_val 4 f 2 (by omega)
  have r3 := row_val 4 f 3 (by omega)
  go_wp2_with (first
    | (with_reducible refine wpl_alloc rfl 131 rfl _ z4 ?_)
    | ((with_reducible refine wpl_build4 rfl 131 _ _ _ _ rfl (fun i => f ((i + 1) % 4)) _ _ _ _ rfl rfl rfl rfl ?_ ?_ ?_ ?_ built4 ?_); exact rfl; exact rfl; exact rfl; exact rfl)
    | (with_reducible refine wpl_store rfl 131 _ _ rfl _ _ rfl rfl 131 _ hb2 (i4' _) (by simp [row_size]) (one_b8 _ _) ?_))
  exact ret_row Tryz.results95 rfl (w.heap.size + 1) rfl 131 4 _ (hb2.setRow _) 5 Tryz.underlying131 i4 ⟨rfl, below_setRow' (((Below.refl _ _).alloc (Nat.le_refl _) _).alloc (by simp) _) (by omega) _⟩

set_option maxHeartbeats 1000000 in
theorem boxw_any (f : Nat → Nat) (w : World) (hf : ∀ i, i < 4 → f i < 256) :
    Calls Tryz.prog 94 #[.agg (row 4 (b8 f))] w fun e w' => e = .returned (.agg (row 4 (b8 fun i => Gf.box (f i)))) ∧ Below w.heap.size w w' := by
  have Hf := hid hf
  clear hf
  go_enter Tryz.func94, Tryz.ntmps94
  go_wp2_with (first | (with_reducible refine wpl_alloc rfl 131 rfl _ z4 ?_) | (with_reducible refine wpl_load rfl 131 _ rfl w.heap.size rfl 131 _ ((Blk.fresh _ _ _).alloc _) 4 5 Tryz.underlying131 (i4' _) ?_))
  go_loopw [6] (fun i wr => ∃ (k : Nat) (m m' : Nat → Nat), k ≤ 4 ∧ i = .int .i64 k ∧ Hid (∀ j, m j = if j < k then Gf.box (f j) else f j) ∧ Blk wr w.heap.size 131 (row 4 (b8 m)) ∧ Blk wr (w.heap.size + 1) 131 (row 4 (b8 m')) ∧ Below w.heap.size w wr) (fun i _ => 4 - (intOf i).toNat)
  case atStart =>
    exact ⟨0, f, fun _ => 0, by omega, rfl, hid (by simp), (Blk.fresh _ _ _).alloc _, two_new _ _ _ _ _, ((Below.refl _ _).alloc (Nat.le_refl _) _).alloc (by simp) _⟩
  case round =>
    obtain ⟨k, m, m', hk, rfl, HM, hb1, hb2, hB⟩ := hrel
    by_cases hlt : k < 4
    · have hfk := Hf.out k hlt
      go_wp2_with (first
        | (with_reducible refine wpl_index rfl 131 _ _ rfl _ rfl .i64 _ rfl k rfl 4 5 Tryz.underlying131 hlt .u8 Tryz.underlying5 i8 _ (row_val 4 f k hlt) ?_)
        | (go_at_call 83; refine (Gf.box_any _ hfk _).mono ?_; rintro e w' ⟨rfl, q, rfl⟩)
        | (with_reducible refine wpl_at rfl 131 _ _ rfl _ rfl .i64 _ rfl k rfl 4 5 Tryz.underlying131 hlt i8 ?_)
        | (with_reducible refine wpl_st rfl 5 _ _ rfl _ rfl .u8 _ rfl i8 _ ((hb1.drewN q).val k hlt) ((hb1.drewN q).free k) ?_))
      go_round
      case rel => exact ⟨k + 1, upd m k (Gf.box (f k)), m', by omega, val_int (by omega), hid (fill_step (F := fun j => Gf.box (f j)) HM.out), (hb1.drewN q).put k _, (hb2.drewN q).other _ _ (by simp), (below_drewN hB q).setCell (by simp) _⟩
      case measure => simp [intOf]; omega
    · go_wp2_with (first
        | (with_reducible refine wpl_load rfl 131 _ rfl _ rfl 131 _ hb1 4 5 Tryz.underlying131 (i4' _) ?_)
        | (with_reducible refine wpl_store rfl 131 _ _ rfl _ _ rfl rfl 131 _ hb2 (i4' _) (by simp [row_size]) (one_b8 _ _) ?_))
      exact ret_row Tryz.results94 rfl (w.heap.size + 1) rfl 131 4 _ (hb2.setRow _) 5 Tryz.underlying131 i4 ⟨ret_agg (fill_end (F := fun j => Gf.box (f j)) HM.out (by omega)), below_setRow' hB (by omega) _⟩

set_option maxRecDepth 100000 in
set_option maxHeartbeats 1000000 in
theorem wat_any (A : Option Addr) (n c p : Nat) (f : Nat → Nat) (w : World) (hp : p + 4 ≤ n) (hn : n ≤ 1000) (B : Nat) (hB0 : B ≤ w.heap.size) (hR : Reads w B A n f) :
    Calls Tryz.prog 93 #[.slice A n c, .int .i64 p] w fun e w' => e = .returned (.agg (row 4 (b8 fun i => f (p + i)))) ∧ Below w.heap.size w w' := by
  obtain ⟨ad, rfl, hbl, hcs⟩ := hR (by omega)
  have Hcs := hid hcs
  clear hcs hR
  go_enter Tryz.func93, Tryz.ntmps93
  go_wp2_with (with_reducible refine wpl_alloc rfl 131 rfl _ z4 ?_)
  refine wp_region_still_tail 20 (by kernel_rfl) (by kernel_rfl) ?_
  simp only [List.take_succ_cons, List.take_zero, List.drop_succ_cons, List.drop_zero]
  have hB1 : Below w.heap.size w (w.alloc (.cells (row 4 (b8 fun _ => 0)) 131)).drew := ((Below.refl _ _).alloc (Nat.le_refl _) _).drew
  have hb1 : Blk (w.alloc (.cells (row 4 (b8 fun _ => 0)) 131)).drew w.heap.size 131 (row 4 (b8 fun _ => 0)) := Blk.fresh _ _ _
  change wpStill _ _ (w.alloc (.cells (row 4 (b8 fun _ => 0)) 131)).drew (fun a' => wpList _ _ _ _ a' (w.alloc (.cells (row 4 (b8 fun _ => 0)) 131)).drew) _ _
  generalize (w.alloc (.cells (row 4 (b8 fun _ => 0)) 131)).drew = w2 at *
  have hc : ∀ i, i < 4 → w2.cell? (ad.add ((p + i) * 1)) = some (.int .u8 ((f (p + i) : Nat) : Int)) := fun i hi => by
    rw [Nat.mul_one]; exact (hB1.cell (by rw [add_block]; omega)).trans (Hcs.out (p + i) (by omega))
  have c0 := hc 0 (by omega)
  have c1 := hc 1 (by omega)
  have c2 := hc 2 (by omega)
  have c3 := hc 3 (by omega)
  clear hc
  have hw1 := wrap_i64 ((p : Int) + 1) _ rfl (by omega) (by omega)
  have hw2 := wrap_i64 ((p : Int) + 2) _ rfl (by omega) (by omega)
  have hw3 := wrap_i64 ((p : Int) + 3) _ rfl (by omega) (by omega)
  repeat (first
    | (with_reducible refine wps_sl rfl 22 _ _ rfl ad n c rfl .i64 _ rfl (p + 0) (by omega) 5 Tryz.underlying22 (by omega) 1 i8 ?_)
    | (with_reducible refine wps_sl rfl 22 _ _ rfl ad n c rfl .i64 _ rfl (p + 1) (by omega) 5 Tryz.underlying22 (by omega) 1 i8 ?_)
    | (with_reducible refine wps_sl rfl 22 _ _ rfl ad n c rfl .i64 _ rfl (p + 2) (by omega) 5 Tryz.underlying22 (by omega) 1 i8 ?_)
    | (with_reducible refine wps_sl rfl 22 _ _ rfl ad n c rfl .i64 _ rfl (p + 3) (by omega) 5 Tryz.underlying22 (by omega) 1 i8 ?_)
    | (with_reducible refine wps_ld rfl 5 _ rfl _ rfl .u8 Tryz.underlying5 _ c0 ?_)
    | (with_reducible refine wps_ld rfl 5 _ rfl _ rfl .u8 Tryz.underlying5 _ c1 ?_)
    | (with_reducible refine wps_ld rfl 5 _ rfl _ rfl .u8 Tryz.underlying5 _ c2 ?_)
    | (with_reducible refine wps_ld rfl 5 _ rfl _ rfl .u8 Tryz.underlying5 _ c3 ?_)
    | ((with_reducible refine wps_build4 rfl 131 _ _ _ _ rfl (fun i => f (p + i)) _ _ _ _ rfl rfl rfl rfl ?_ ?_ ?_ ?_ built4 ?_); exact rfl; exact rfl; exact rfl; exact rfl)
    | still_step)
  refine wpStill_nil ?_
  clear hw1 hw2 hw3 c0 c1 c2 c3
  go_wp2_with (with_reducible refine wpl_store rfl 131 _ _ rfl _ _ rfl rfl 131 _ hb1 (i4' _) (by simp [row_size]) (one_b8 _ _) ?_)
  exact ret_row Tryz.results93 rfl w.heap.size rfl 131 4 _ (hb1.setRow _) 5 Tryz.underlying131 i4 ⟨rfl, below_setRow' hB1 (Nat.le_refl _) _⟩
end Go.Proofs.YtdodflnmhgnpeaaGreatDoor.Aes
