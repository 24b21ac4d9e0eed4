/-
  DesBack returns true: its walk.
-/
import Derived.Test.YtknjboflkclglaaDoorAwake03
namespace Go.Proofs.YtknjboflkclglaaDoor.Des
open Go.ChangeShapes Go.WideShapes Go.ChangeAt Go.RowKit Mem
set_option linter.unusedSimpArgs false in
set_option maxRecDepth 100000 in
set_option maxHeartbeats 4000000 in
theorem desBack_8 (k b : Nat → Nat) (wh : Nat) (back : Bool) (w : World) (hg : As.Laid w) (hk : ∀ i, i < 24 → k i < 256) (hb : ∀ i, i < 8 → b i < 256) (hwh : wh < 256) (hm : wh % 3 = 0) :
    Calls Tryd.prog 7 #[.agg (row 24 (b8 k)), .agg (row 8 (b8 b)), .int .u8 wh, .bool back] w fun e w' => e = .returned (.bool true) ∧ Below w.heap.size w w' := by
  have Hk : Hid (∀ i, i < 8 → k i < 256) := hid (fun i hi => hk i (by omega))
  have Hb : Hid (By8 b) := hid hb
  have HL : Hid (IsTKey 8) := hid (.inl rfl)
  have hmi : (wh : Int) % 3 = 0 := by omega
  have hb1 := (Blk.fresh w 50 (row 24 (b8 k))).alloc (.cells (row 8 (b8 b)) 34)
  have hb2 := two_new w (.cells (row 24 (b8 k)) 50) (row 8 (b8 b)) 34
  have hB2 : Below w.heap.size w ((w.alloc (.cells (row 24 (b8 k)) 50)).alloc (.cells (row 8 (b8 b)) 34)) := ((Below.refl _ _).alloc (Nat.le_refl _) _).alloc (by simp) _
  have Hg := hid hg
  clear hk hb hm hg
  go_enter Tryd.func7, Tryd.ntmps7
  go_wp2_with fail
  generalize (w.alloc (.cells (row 24 (b8 k)) 50)).alloc (.cells (row 8 (b8 b)) 34) = w2 at *
  apply suff (F := Past w2 34 (row 8 (b8 (tdes 8 k b back))))
  case h1 =>
    intro key
    refine wp_region_held_drew (S := fun W => Below w2.heap.size w2 W) (by kernel_rfl) (Below.refl _ _).drew (fun hS0 => ?_)
    refine wpAnyH_take (i := 0) (v := .int .i64 8) rfl (by kernel_rfl) (by kernel_rfl) (by kernel_rfl) (fun _ _ _ h => h) (Or.inl ⟨rfl, fun _ _ => exec_move _ rfl _ rfl⟩) hS0 ?_
    (try simp only [Act.put, List.getElem_toArray, List.getElem_cons_zero, List.getElem_cons_succ, List.setIfInBounds_toArray, List.set_cons_zero, List.set_cons_succ])
    refine wpAnyH_take (i := 1) (v := .slice (some ⟨w.heap.size, 0, none⟩) 8 24) rfl (by kernel_rfl) (by kernel_rfl) (by kernel_rfl) (fun _ _ _ h => h) (Or.inl ⟨rfl, fun W _ => by go_simp⟩) hS0 ?_
    (try simp only [Act.put, List.getElem_toArray, List.getElem_cons_zero, List.getElem_cons_succ, List.setIfInBounds_toArray, List.set_cons_zero, List.set_cons_succ])
    refine wpAnyH_take (i := 2) (v := .agg (row 8 (b8 b))) rfl (by kernel_rfl) (by kernel_rfl) (by kernel_rfl) (fun _ _ _ h => h) (Or.inl ⟨rfl, fun W hW => exec_load 34 _ rfl _ rfl 34 8 _ (hb2.below hW hb2.lt) 5 Tryd.underlying34 i8a⟩) hS0 ?_
    (try simp only [Act.put, List.getElem_toArray, List.getElem_cons_zero, List.getElem_cons_succ, List.setIfInBounds_toArray, List.set_cons_zero, List.set_cons_succ])
    refine wpAnyH_take (i := 3) (v := .bool back) rfl (by kernel_rfl) (by kernel_rfl) (by kernel_rfl) (fun _ _ _ h => h) (Or.inl ⟨rfl, fun _ _ => exec_move _ rfl _ rfl⟩) hS0 ?_
    (try simp only [Act.put, List.getElem_toArray, List.getElem_cons_zero, List.getElem_cons_succ, List.setIfInBounds_toArray, List.set_cons_zero, List.set_cons_succ])
    refine wpAnyH_ready (rs := [4, 8]) (by kernel_rfl) (by simp) ?_
    refine AllReadyH.cons rfl (fun K hK => ?_) (AllReadyH.cons rfl (fun K hK => ?_) AllReadyH.nil)
    · (try simp only [Act.put, List.getElem_toArray, List.getElem_cons_zero, List.getElem_cons_succ, List.setIfInBounds_toArray, List.set_cons_zero, List.set_cons_succ])
      refine Eq.mpr (if_pos (by rfl)) ?_
      go_simp
      refine (triple_any _ 8 _ HL.out (by omega) k b back _ Hk.out Hb.out ((Blk.reads (hb1.below hS0 hb1.lt)).less (by omega))).mono ?_
      rintro e w3 ⟨rfl, hBc⟩
      refine hK.out _ _ (hS0.trans (hBc.mono hS0.size)) (fun hS3 => ?_)
      (try simp only [Act.put, List.getElem_toArray, List.getElem_cons_zero, List.getElem_cons_succ, List.setIfInBounds_toArray, List.set_cons_zero, List.set_cons_succ])
      refine wpAnyH_take (i := 5) (v := .tuple #[.agg (row 8 (b8 (tdes 8 k b back))), .nilIface]) rfl (by kernel_rfl) (by kernel_rfl) (by kernel_rfl) (fun _ _ _ h => h) (Or.inl ⟨rfl, fun _ _ => exec_move _ rfl _ rfl⟩) hS3 ?_
      (try simp only [Act.put, List.getElem_toArray, List.getElem_cons_zero, List.getElem_cons_succ, List.setIfInBounds_toArray, List.set_cons_zero, List.set_cons_succ])
      refine wpAnyH_take (i := 6) (v := .agg (row 8 (b8 (tdes 8 k b back)))) rfl (by kernel_rfl) (by kernel_rfl) (by kernel_rfl) (fun _ _ _ h => h) (Or.inl ⟨rfl, fun _ _ => exec_extract _ 0 rfl _ rfl _ rfl⟩) hS3 ?_
      (try simp only [Act.put, List.getElem_toArray, List.getElem_cons_zero, List.getElem_cons_succ, List.setIfInBounds_toArray, List.set_cons_zero, List.set_cons_succ])
      refine wpAnyH_take (i := 7) (v := .nilIface) rfl (by kernel_rfl) (by kernel_rfl) (by kernel_rfl) (fun _ _ _ h => h) (Or.inl ⟨rfl, fun _ _ => exec_extract _ 1 rfl _ rfl _ rfl⟩) hS3 ?_
      (try simp only [Act.put, List.getElem_toArray, List.getElem_cons_zero, List.getElem_cons_succ, List.setIfInBounds_toArray, List.set_cons_zero, List.set_cons_succ])
      refine wpAnyH_ready (rs := [8]) (by kernel_rfl) (by simp) (AllReadyH.cons rfl (fun K hK => ?_) AllReadyH.nil)
      (try simp only [Act.put, List.getElem_toArray, List.getElem_cons_zero, List.getElem_cons_succ, List.setIfInBounds_toArray, List.set_cons_zero, List.set_cons_succ])
      refine Eq.mpr (if_pos (by rfl)) ?_
      refine wp_new 34 rfl _ z8 ?_
      (try simp only [Act.put, List.getElem_toArray, List.getElem_cons_zero, List.getElem_cons_succ, List.setIfInBounds_toArray, List.set_cons_zero, List.set_cons_succ])
      refine hK.out _ _ (hS3.alloc hS3.size _) (fun hS4 => ?_)
      (try simp only [Act.put, List.getElem_toArray, List.getElem_cons_zero, List.getElem_cons_succ, List.setIfInBounds_toArray, List.set_cons_zero, List.set_cons_succ])
      refine wpAnyH_ready (rs := [9]) (by kernel_rfl) (by simp) (AllReadyH.cons rfl (fun K hK => ?_) AllReadyH.nil)
      (try simp only [Act.put, List.getElem_toArray, List.getElem_cons_zero, List.getElem_cons_succ, List.setIfInBounds_toArray, List.set_cons_zero, List.set_cons_succ])
      refine Eq.mpr (if_pos (by rfl)) ?_
      refine wp_store_row 34 _ _ rfl w3.heap.size (row 8 (b8 (tdes 8 k b back))) rfl rfl 34 _ (Blk.fresh _ _ _) (i8a' _) (by simp [row_size]) (one_b8 _ _) ?_
      (try simp only [Act.put, List.getElem_toArray, List.getElem_cons_zero, List.getElem_cons_succ, List.setIfInBounds_toArray, List.set_cons_zero, List.set_cons_succ])
      refine hK.out _ _ (below_setRow' hS4 hS3.size _) (fun hSz => ?_)
      (try simp only [Act.put, List.getElem_toArray, List.getElem_cons_zero, List.getElem_cons_succ, List.setIfInBounds_toArray, List.set_cons_zero, List.set_cons_succ])
      refine wpAnyH_take (i := 10) (v := .nilIface) rfl (by kernel_rfl) (by kernel_rfl) (by kernel_rfl) (fun _ _ _ h => h) (Or.inl ⟨rfl, fun _ _ => exec_assign _ rfl _ rfl⟩) hSz ?_
      (try simp only [Act.put, List.getElem_toArray, List.getElem_cons_zero, List.getElem_cons_succ, List.setIfInBounds_toArray, List.set_cons_zero, List.set_cons_succ])
      refine wpAnyH_done (by kernel_rfl) ?_ _
      clear hK
      have hp : Past w2 34 (row 8 (b8 (tdes 8 k b back))) _ _ := ⟨hSz, (Blk.fresh w3 34 (row 8 (b8 fun _ => 0))).setRow (row 8 (b8 (tdes 8 k b back))), hS3.size⟩
      clear hS0 hS3 hS4 hSz hBc
      generalize (w3.alloc (.cells (row 8 (b8 fun _ => 0)) 34)).setRow w3.heap.size (row 8 (b8 (tdes 8 k b back))) = wX at hp ⊢
      generalize w3.heap.size = gX at hp ⊢
      exact key wX gX hp
    · (try simp only [Act.put, List.getElem_toArray, List.getElem_cons_zero, List.getElem_cons_succ, List.setIfInBounds_toArray, List.set_cons_zero, List.set_cons_succ])
      refine Eq.mpr (if_pos (by rfl)) ?_
      refine wp_new 34 rfl _ z8 ?_
      (try simp only [Act.put, List.getElem_toArray, List.getElem_cons_zero, List.getElem_cons_succ, List.setIfInBounds_toArray, List.set_cons_zero, List.set_cons_succ])
      refine hK.out _ _ (hS0.alloc hS0.size _) (fun hS1 => ?_)
      (try simp only [Act.put, List.getElem_toArray, List.getElem_cons_zero, List.getElem_cons_succ, List.setIfInBounds_toArray, List.set_cons_zero, List.set_cons_succ])
      have hq0 : Blk (w2.drew.alloc (.cells (row 8 (b8 fun _ => 0)) 34)) w2.heap.size 34 (row 8 (b8 fun _ => 0)) := Blk.fresh w2.drew 34 (row 8 (b8 fun _ => 0))
      generalize hwa : w2.drew.alloc (.cells (row 8 (b8 fun _ => 0)) 34) = wa at hq0 hS1 ⊢
      clear hwa hK
      refine wpAnyH_ready (rs := [4]) (by kernel_rfl) (by simp) (AllReadyH.cons rfl (fun K hK => ?_) AllReadyH.nil)
      (try simp only [Act.put, List.getElem_toArray, List.getElem_cons_zero, List.getElem_cons_succ, List.setIfInBounds_toArray, List.set_cons_zero, List.set_cons_succ])
      refine Eq.mpr (if_pos (by rfl)) ?_
      go_simp
      refine (triple_any _ 8 _ HL.out (by omega) k b back _ Hk.out Hb.out ((Blk.reads (hb1.below hS1 hb1.lt)).less (by omega))).mono ?_
      rintro e w3 ⟨rfl, hBc⟩
      refine hK.out _ _ (hS1.trans (hBc.mono hS1.size)) (fun hS3 => ?_)
      (try simp only [Act.put, List.getElem_toArray, List.getElem_cons_zero, List.getElem_cons_succ, List.setIfInBounds_toArray, List.set_cons_zero, List.set_cons_succ])
      refine wpAnyH_take (i := 5) (v := .tuple #[.agg (row 8 (b8 (tdes 8 k b back))), .nilIface]) rfl (by kernel_rfl) (by kernel_rfl) (by kernel_rfl) (fun _ _ _ h => h) (Or.inl ⟨rfl, fun _ _ => exec_move _ rfl _ rfl⟩) hS3 ?_
      (try simp only [Act.put, List.getElem_toArray, List.getElem_cons_zero, List.getElem_cons_succ, List.setIfInBounds_toArray, List.set_cons_zero, List.set_cons_succ])
      refine wpAnyH_take (i := 6) (v := .agg (row 8 (b8 (tdes 8 k b back)))) rfl (by kernel_rfl) (by kernel_rfl) (by kernel_rfl) (fun _ _ _ h => h) (Or.inl ⟨rfl, fun _ _ => exec_extract _ 0 rfl _ rfl _ rfl⟩) hS3 ?_
      (try simp only [Act.put, List.getElem_toArray, List.getElem_cons_zero, List.getElem_cons_succ, List.setIfInBounds_toArray, List.set_cons_zero, List.set_cons_succ])
      refine wpAnyH_take (i := 7) (v := .nilIface) rfl (by kernel_rfl) (by kernel_rfl) (by kernel_rfl) (fun _ _ _ h => h) (Or.inl ⟨rfl, fun _ _ => exec_extract _ 1 rfl _ rfl _ rfl⟩) hS3 ?_
      (try simp only [Act.put, List.getElem_toArray, List.getElem_cons_zero, List.getElem_cons_succ, List.setIfInBounds_toArray, List.set_cons_zero, List.set_cons_succ])
      refine wpAnyH_ready (rs := [9]) (by kernel_rfl) (by simp) (AllReadyH.cons rfl (fun K hK => ?_) AllReadyH.nil)
      have hq := hq0.below hBc hq0.lt
      (try simp only [Act.put, List.getElem_toArray, List.getElem_cons_zero, List.getElem_cons_succ, List.setIfInBounds_toArray, List.set_cons_zero, List.set_cons_succ])
      refine Eq.mpr (if_pos (by rfl)) ?_
      refine wp_store_row 34 _ _ rfl w2.heap.size (row 8 (b8 (tdes 8 k b back))) rfl rfl 34 _ hq (i8a' _) (by simp [row_size]) (one_b8 _ _) ?_
      (try simp only [Act.put, List.getElem_toArray, List.getElem_cons_zero, List.getElem_cons_succ, List.setIfInBounds_toArray, List.set_cons_zero, List.set_cons_succ])
      refine hK.out _ _ (below_setRow' hS3 (Nat.le_refl _) _) (fun hSz => ?_)
      (try simp only [Act.put, List.getElem_toArray, List.getElem_cons_zero, List.getElem_cons_succ, List.setIfInBounds_toArray, List.set_cons_zero, List.set_cons_succ])
      refine wpAnyH_take (i := 10) (v := .nilIface) rfl (by kernel_rfl) (by kernel_rfl) (by kernel_rfl) (fun _ _ _ h => h) (Or.inl ⟨rfl, fun _ _ => exec_assign _ rfl _ rfl⟩) hSz ?_
      (try simp only [Act.put, List.getElem_toArray, List.getElem_cons_zero, List.getElem_cons_succ, List.setIfInBounds_toArray, List.set_cons_zero, List.set_cons_succ])
      refine wpAnyH_done (by kernel_rfl) ?_ _
      clear hK
      have hp : Past w2 34 (row 8 (b8 (tdes 8 k b back))) _ _ := ⟨hSz, hq.setRow _, Nat.le_refl _⟩
      clear hS0 hS1 hS3 hSz hBc hq hq0
      generalize w3.setRow w2.heap.size (row 8 (b8 (tdes 8 k b back))) = wX at hp ⊢
      have hp2 : ∃ g, g = w2.heap.size := ⟨_, rfl⟩
      obtain ⟨gX, hgX⟩ := hp2
      rw [← hgX] at ⊢
      exact key wX gX (hgX ▸ hp)
  intro w4 g4 ⟨hw4B, hw4b, hw4g⟩
  try dsimp only
  have hb1a := hb1.below hw4B hb1.lt
  have hb2a := hb2.below hw4B hb2.lt
  have hB4 := hB2.trans (hw4B.mono hB2.size)
  clear hb1 hb2 hB2 hw4B hw4g
  have Hby : Hid (By8 (tdes 8 k b back)) := hid (tdes_by _ _ _ _)
  have HE : Hid (∀ i, i < 8 → tdes 8 k (tdes 8 k b back) (!back) i = b i) := hid (tdes_back _ _ _ Hb.out back)
  generalize tdes 8 k b back = c at *
  go_wp2_with fail
  apply suff (F := Past w4 34 (row 8 (b8 (tdes 8 k c (!back)))))
  case h1 =>
    intro key
    refine wp_region_held_drew (S := fun W => Below w4.heap.size w4 W) (by kernel_rfl) (Below.refl _ _).drew (fun hS0 => ?_)
    refine wpAnyH_take (i := 0) (v := .int .i64 8) rfl (by kernel_rfl) (by kernel_rfl) (by kernel_rfl) (fun _ _ _ h => h) (Or.inl ⟨rfl, fun _ _ => exec_move _ rfl _ rfl⟩) hS0 ?_
    (try simp only [Act.put, List.getElem_toArray, List.getElem_cons_zero, List.getElem_cons_succ, List.setIfInBounds_toArray, List.set_cons_zero, List.set_cons_succ])
    refine wpAnyH_take (i := 1) (v := .slice (some ⟨w.heap.size, 0, none⟩) 8 24) rfl (by kernel_rfl) (by kernel_rfl) (by kernel_rfl) (fun _ _ _ h => h) (Or.inl ⟨rfl, fun W _ => by go_simp⟩) hS0 ?_
    (try simp only [Act.put, List.getElem_toArray, List.getElem_cons_zero, List.getElem_cons_succ, List.setIfInBounds_toArray, List.set_cons_zero, List.set_cons_succ])
    refine wpAnyH_take (i := 2) (v := .agg (row 8 (b8 c))) rfl (by kernel_rfl) (by kernel_rfl) (by kernel_rfl) (fun _ _ _ h => h) (Or.inl ⟨rfl, fun W hW => exec_load 34 _ rfl _ rfl 34 8 _ (hw4b.below hW hw4b.lt) 5 Tryd.underlying34 i8a⟩) hS0 ?_
    (try simp only [Act.put, List.getElem_toArray, List.getElem_cons_zero, List.getElem_cons_succ, List.setIfInBounds_toArray, List.set_cons_zero, List.set_cons_succ])
    refine wpAnyH_take (i := 3) (v := .bool back) rfl (by kernel_rfl) (by kernel_rfl) (by kernel_rfl) (fun _ _ _ h => h) (Or.inl ⟨rfl, fun _ _ => exec_move _ rfl _ rfl⟩) hS0 ?_
    (try simp only [Act.put, List.getElem_toArray, List.getElem_cons_zero, List.getElem_cons_succ, List.setIfInBounds_toArray, List.set_cons_zero, List.set_cons_succ])
    refine wpAnyH_take (i := 4) (v := .bool (!back)) rfl (by kernel_rfl) (by kernel_rfl) (by kernel_rfl) (fun _ _ _ h => h) (Or.inl ⟨rfl, fun _ _ => by go_simp⟩) hS0 ?_
    (try simp only [Act.put, List.getElem_toArray, List.getElem_cons_zero, List.getElem_cons_succ, List.setIfInBounds_toArray, List.set_cons_zero, List.set_cons_succ])
    refine wpAnyH_ready (rs := [5, 9]) (by kernel_rfl) (by simp) ?_
    refine AllReadyH.cons rfl (fun K hK => ?_) (AllReadyH.cons rfl (fun K hK => ?_) AllReadyH.nil)
    · (try simp only [Act.put, List.getElem_toArray, List.getElem_cons_zero, List.getElem_cons_succ, List.setIfInBounds_toArray, List.set_cons_zero, List.set_cons_succ])
      refine Eq.mpr (if_pos (by rfl)) ?_
      go_simp
      refine (triple_any _ 8 _ HL.out (by omega) k c (!back) _ Hk.out Hby.out ((Blk.reads (hb1a.below hS0 hb1a.lt)).less (by omega))).mono ?_
      rintro e w3 ⟨rfl, hBc⟩
      refine hK.out _ _ (hS0.trans (hBc.mono hS0.size)) (fun hS3 => ?_)
      (try simp only [Act.put, List.getElem_toArray, List.getElem_cons_zero, List.getElem_cons_succ, List.setIfInBounds_toArray, List.set_cons_zero, List.set_cons_succ])
      refine wpAnyH_take (i := 6) (v := .tuple #[.agg (row 8 (b8 (tdes 8 k c (!back)))), .nilIface]) rfl (by kernel_rfl) (by kernel_rfl) (by kernel_rfl) (fun _ _ _ h => h) (Or.inl ⟨rfl, fun _ _ => exec_move _ rfl _ rfl⟩) hS3 ?_
      (try simp only [Act.put, List.getElem_toArray, List.getElem_cons_zero, List.getElem_cons_succ, List.setIfInBounds_toArray, List.set_cons_zero, List.set_cons_succ])
      refine wpAnyH_take (i := 7) (v := .agg (row 8 (b8 (tdes 8 k c (!back))))) rfl (by kernel_rfl) (by kernel_rfl) (by kernel_rfl) (fun _ _ _ h => h) (Or.inl ⟨rfl, fun _ _ => exec_extract _ 0 rfl _ rfl _ rfl⟩) hS3 ?_
      (try simp only [Act.put, List.getElem_toArray, List.getElem_cons_zero, List.getElem_cons_succ, List.setIfInBounds_toArray, List.set_cons_zero, List.set_cons_succ])
      refine wpAnyH_take (i := 8) (v := .nilIface) rfl (by kernel_rfl) (by kernel_rfl) (by kernel_rfl) (fun _ _ _ h => h) (Or.inl ⟨rfl, fun _ _ => exec_extract _ 1 rfl _ rfl _ rfl⟩) hS3 ?_
      (try simp only [Act.put, List.getElem_toArray, List.getElem_cons_zero, List.getElem_cons_succ, List.setIfInBounds_toArray, List.set_cons_zero, List.set_cons_succ])
      refine wpAnyH_ready (rs := [9]) (by kernel_rfl) (by simp) (AllReadyH.cons rfl (fun K hK => ?_) AllReadyH.nil)
      (try simp only [Act.put, List.getElem_toArray, List.getElem_cons_zero, List.getElem_cons_succ, List.setIfInBounds_toArray, List.set_cons_zero, List.set_cons_succ])
      refine Eq.mpr (if_pos (by rfl)) ?_
      refine wp_new 34 rfl _ z8 ?_
      (try simp only [Act.put, List.getElem_toArray, List.getElem_cons_zero, List.getElem_cons_succ, List.setIfInBounds_toArray, List.set_cons_zero, List.set_cons_succ])
      refine hK.out _ _ (hS3.alloc hS3.size _) (fun hS4 => ?_)
      (try simp only [Act.put, List.getElem_toArray, List.getElem_cons_zero, List.getElem_cons_succ, List.setIfInBounds_toArray, List.set_cons_zero, List.set_cons_succ])
      refine wpAnyH_ready (rs := [10]) (by kernel_rfl) (by simp) (AllReadyH.cons rfl (fun K hK => ?_) AllReadyH.nil)
      (try simp only [Act.put, List.getElem_toArray, List.getElem_cons_zero, List.getElem_cons_succ, List.setIfInBounds_toArray, List.set_cons_zero, List.set_cons_succ])
      refine Eq.mpr (if_pos (by rfl)) ?_
      refine wp_store_row 34 _ _ rfl w3.heap.size (row 8 (b8 (tdes 8 k c (!back)))) rfl rfl 34 _ (Blk.fresh _ _ _) (i8a' _) (by simp [row_size]) (one_b8 _ _) ?_
      (try simp only [Act.put, List.getElem_toArray, List.getElem_cons_zero, List.getElem_cons_succ, List.setIfInBounds_toArray, List.set_cons_zero, List.set_cons_succ])
      refine hK.out _ _ (below_setRow' hS4 hS3.size _) (fun hSz => ?_)
      (try simp only [Act.put, List.getElem_toArray, List.getElem_cons_zero, List.getElem_cons_succ, List.setIfInBounds_toArray, List.set_cons_zero, List.set_cons_succ])
      refine wpAnyH_take (i := 11) (v := .nilIface) rfl (by kernel_rfl) (by kernel_rfl) (by kernel_rfl) (fun _ _ _ h => h) (Or.inl ⟨rfl, fun _ _ => exec_assign _ rfl _ rfl⟩) hSz ?_
      (try simp only [Act.put, List.getElem_toArray, List.getElem_cons_zero, List.getElem_cons_succ, List.setIfInBounds_toArray, List.set_cons_zero, List.set_cons_succ])
      refine wpAnyH_done (by kernel_rfl) ?_ _
      clear hK
      have hp : Past w4 34 (row 8 (b8 (tdes 8 k c (!back)))) _ _ := ⟨hSz, (Blk.fresh w3 34 (row 8 (b8 fun _ => 0))).setRow (row 8 (b8 (tdes 8 k c (!back)))), hS3.size⟩
      clear hS0 hS3 hS4 hSz hBc
      generalize (w3.alloc (.cells (row 8 (b8 fun _ => 0)) 34)).setRow w3.heap.size (row 8 (b8 (tdes 8 k c (!back)))) = wX at hp ⊢
      generalize w3.heap.size = gX at hp ⊢
      exact key wX gX hp
    · (try simp only [Act.put, List.getElem_toArray, List.getElem_cons_zero, List.getElem_cons_succ, List.setIfInBounds_toArray, List.set_cons_zero, List.set_cons_succ])
      refine Eq.mpr (if_pos (by rfl)) ?_
      refine wp_new 34 rfl _ z8 ?_
      (try simp only [Act.put, List.getElem_toArray, List.getElem_cons_zero, List.getElem_cons_succ, List.setIfInBounds_toArray, List.set_cons_zero, List.set_cons_succ])
      refine hK.out _ _ (hS0.alloc hS0.size _) (fun hS1 => ?_)
      (try simp only [Act.put, List.getElem_toArray, List.getElem_cons_zero, List.getElem_cons_succ, List.setIfInBounds_toArray, List.set_cons_zero, List.set_cons_succ])
      have hq0 : Blk (w4.drew.alloc (.cells (row 8 (b8 fun _ => 0)) 34)) w4.heap.size 34 (row 8 (b8 fun _ => 0)) := Blk.fresh w4.drew 34 (row 8 (b8 fun _ => 0))
      generalize hwa : w4.drew.alloc (.cells (row 8 (b8 fun _ => 0)) 34) = wa at hq0 hS1 ⊢
      clear hwa hK
      refine wpAnyH_ready (rs := [5]) (by kernel_rfl) (by simp) (AllReadyH.cons rfl (fun K hK => ?_) AllReadyH.nil)
      (try simp only [Act.put, List.getElem_toArray, List.getElem_cons_zero, List.getElem_cons_succ, List.setIfInBounds_toArray, List.set_cons_zero, List.set_cons_succ])
      refine Eq.mpr (if_pos (by rfl)) ?_
      go_simp
      refine (triple_any _ 8 _ HL.out (by omega) k c (!back) _ Hk.out Hby.out ((Blk.reads (hb1a.below hS1 hb1a.lt)).less (by omega))).mono ?_
      rintro e w3 ⟨rfl, hBc⟩
      refine hK.out _ _ (hS1.trans (hBc.mono hS1.size)) (fun hS3 => ?_)
      (try simp only [Act.put, List.getElem_toArray, List.getElem_cons_zero, List.getElem_cons_succ, List.setIfInBounds_toArray, List.set_cons_zero, List.set_cons_succ])
      refine wpAnyH_take (i := 6) (v := .tuple #[.agg (row 8 (b8 (tdes 8 k c (!back)))), .nilIface]) rfl (by kernel_rfl) (by kernel_rfl) (by kernel_rfl) (fun _ _ _ h => h) (Or.inl ⟨rfl, fun _ _ => exec_move _ rfl _ rfl⟩) hS3 ?_
      (try simp only [Act.put, List.getElem_toArray, List.getElem_cons_zero, List.getElem_cons_succ, List.setIfInBounds_toArray, List.set_cons_zero, List.set_cons_succ])
      refine wpAnyH_take (i := 7) (v := .agg (row 8 (b8 (tdes 8 k c (!back))))) rfl (by kernel_rfl) (by kernel_rfl) (by kernel_rfl) (fun _ _ _ h => h) (Or.inl ⟨rfl, fun _ _ => exec_extract _ 0 rfl _ rfl _ rfl⟩) hS3 ?_
      (try simp only [Act.put, List.getElem_toArray, List.getElem_cons_zero, List.getElem_cons_succ, List.setIfInBounds_toArray, List.set_cons_zero, List.set_cons_succ])
      refine wpAnyH_take (i := 8) (v := .nilIface) rfl (by kernel_rfl) (by kernel_rfl) (by kernel_rfl) (fun _ _ _ h => h) (Or.inl ⟨rfl, fun _ _ => exec_extract _ 1 rfl _ rfl _ rfl⟩) hS3 ?_
      (try simp only [Act.put, List.getElem_toArray, List.getElem_cons_zero, List.getElem_cons_succ, List.setIfInBounds_toArray, List.set_cons_zero, List.set_cons_succ])
      refine wpAnyH_ready (rs := [10]) (by kernel_rfl) (by simp) (AllReadyH.cons rfl (fun K hK => ?_) AllReadyH.nil)
      have hq := hq0.below hBc hq0.lt
      (try simp only [Act.put, List.getElem_toArray, List.getElem_cons_zero, List.getElem_cons_succ, List.setIfInBounds_toArray, List.set_cons_zero, List.set_cons_succ])
      refine Eq.mpr (if_pos (by rfl)) ?_
      refine wp_store_row 34 _ _ rfl w4.heap.size (row 8 (b8 (tdes 8 k c (!back)))) rfl rfl 34 _ hq (i8a' _) (by simp [row_size]) (one_b8 _ _) ?_
      (try simp only [Act.put, List.getElem_toArray, List.getElem_cons_zero, List.getElem_cons_succ, List.setIfInBounds_toArray, List.set_cons_zero, List.set_cons_succ])
      refine hK.out _ _ (below_setRow' hS3 (Nat.le_refl _) _) (fun hSz => ?_)
      (try simp only [Act.put, List.getElem_toArray, List.getElem_cons_zero, List.getElem_cons_succ, List.setIfInBounds_toArray, List.set_cons_zero, List.set_cons_succ])
      refine wpAnyH_take (i := 11) (v := .nilIface) rfl (by kernel_rfl) (by kernel_rfl) (by kernel_rfl) (fun _ _ _ h => h) (Or.inl ⟨rfl, fun _ _ => exec_assign _ rfl _ rfl⟩) hSz ?_
      (try simp only [Act.put, List.getElem_toArray, List.getElem_cons_zero, List.getElem_cons_succ, List.setIfInBounds_toArray, List.set_cons_zero, List.set_cons_succ])
      refine wpAnyH_done (by kernel_rfl) ?_ _
      clear hK
      have hp : Past w4 34 (row 8 (b8 (tdes 8 k c (!back)))) _ _ := ⟨hSz, hq.setRow _, Nat.le_refl _⟩
      clear hS0 hS1 hS3 hSz hBc hq hq0
      generalize w3.setRow w4.heap.size (row 8 (b8 (tdes 8 k c (!back)))) = wX at hp ⊢
      have hp2 : ∃ g, g = w4.heap.size := ⟨_, rfl⟩
      obtain ⟨gX, hgX⟩ := hp2
      rw [← hgX] at ⊢
      exact key wX gX (hgX ▸ hp)
  intro w6 g6 ⟨hw6B, hw6b, hw6g⟩
  try dsimp only
  have hb2b := hb2a.below hw6B hb2a.lt
  have hB6 := hB4.trans (hw6B.mono hB4.size)
  have hL := hid (Hg.out.below hB6)
  clear hb1a hb2a hB4 hw6B hw6g hw4b
  have HE1 : Hid (eqB 8 (tdes 8 k c (!back)) b = true) := hid (eqB_true HE.out)
  generalize tdes 8 k c (!back) = d at *
  go_wp2_with fail
  refine (awake_any _ hL.out).mono ?_
  rintro e w7 ⟨rfl, hB7⟩
  have hb2c := hb2b.below hB7 hb2b.lt
  have hdc := hw6b.below hB7 hw6b.lt
  have hB8 := hB6.trans (hB7.mono hB6.size)
  clear hb2b hw6b hB6 hB7
  go_wp2_with (first
    | ((with_reducible refine wpg_val ?_ _ (exec_load 34 _ rfl _ rfl 34 8 _ hb2c 5 Tryd.underlying34 i8a) ?_); exact rfl)
    | ((with_reducible refine wpg_val ?_ _ (exec_load 34 _ rfl _ rfl 34 8 _ hdc 5 Tryd.underlying34 i8a) ?_); exact rfl)
    | ((with_reducible refine wpg_val ?_ _ (exec_eqT 34 _ _ _ rfl 8 _ _ rfl rfl true HE1.out 5 Tryd.underlying34 Tryd.underlying5 i8 eqA8) ?_); exact rfl))
  go_ret
  exact ⟨rfl, hB8⟩
set_option linter.unusedSimpArgs false in
set_option maxRecDepth 100000 in
set_option maxHeartbeats 4000000 in
theorem desBack_16 (k b : Nat → Nat) (wh : Nat) (back : Bool) (w : World) (hg : As.Laid w) (hk : ∀ i, i < 24 → k i < 256) (hb : ∀ i, i < 8 → b i < 256) (hwh : wh < 256) (hm : wh % 3 = 1) :
    Calls Tryd.prog 7 #[.agg (row 24 (b8 k)), .agg (row 8 (b8 b)), .int .u8 wh, .bool back] w fun e w' => e = .returned (.bool true) ∧ Below w.heap.size w w' := by
  have Hk : Hid (∀ i, i < 16 → k i < 256) := hid (fun i hi => hk i (by omega))
  have Hb : Hid (By8 b) := hid hb
  have HL : Hid (IsTKey 16) := hid (.inr (.inl rfl))
  have hmi : (wh : Int) % 3 = 1 := by omega
  have hb1 := (Blk.fresh w 50 (row 24 (b8 k))).alloc (.cells (row 8 (b8 b)) 34)
  have hb2 := two_new w (.cells (row 24 (b8 k)) 50) (row 8 (b8 b)) 34
  have hB2 : Below w.heap.size w ((w.alloc (.cells (row 24 (b8 k)) 50)).alloc (.cells (row 8 (b8 b)) 34)) := ((Below.refl _ _).alloc (Nat.le_refl _) _).alloc (by simp) _
  have Hg := hid hg
  clear hk hb hm hg
  go_enter Tryd.func7, Tryd.ntmps7
  go_wp2_with fail
  generalize (w.alloc (.cells (row 24 (b8 k)) 50)).alloc (.cells (row 8 (b8 b)) 34) = w2 at *
  apply suff (F := Past w2 34 (row 8 (b8 (tdes 16 k b back))))
  case h1 =>
    intro key
    refine wp_region_held_drew (S := fun W => Below w2.heap.size w2 W) (by kernel_rfl) (Below.refl _ _).drew (fun hS0 => ?_)
    refine wpAnyH_take (i := 0) (v := .int .i64 16) rfl (by kernel_rfl) (by kernel_rfl) (by kernel_rfl) (fun _ _ _ h => h) (Or.inl ⟨rfl, fun _ _ => exec_move _ rfl _ rfl⟩) hS0 ?_
    (try simp only [Act.put, List.getElem_toArray, List.getElem_cons_zero, List.getElem_cons_succ, List.setIfInBounds_toArray, List.set_cons_zero, List.set_cons_succ])
    refine wpAnyH_take (i := 1) (v := .slice (some ⟨w.heap.size, 0, none⟩) 16 24) rfl (by kernel_rfl) (by kernel_rfl) (by kernel_rfl) (fun _ _ _ h => h) (Or.inl ⟨rfl, fun W _ => by go_simp⟩) hS0 ?_
    (try simp only [Act.put, List.getElem_toArray, List.getElem_cons_zero, List.getElem_cons_succ, List.setIfInBounds_toArray, List.set_cons_zero, List.set_cons_succ])
    refine wpAnyH_take (i := 2) (v := .agg (row 8 (b8 b))) rfl (by kernel_rfl) (by kernel_rfl) (by kernel_rfl) (fun _ _ _ h => h) (Or.inl ⟨rfl, fun W hW => exec_load 34 _ rfl _ rfl 34 8 _ (hb2.below hW hb2.lt) 5 Tryd.underlying34 i8a⟩) hS0 ?_
    (try simp only [Act.put, List.getElem_toArray, List.getElem_cons_zero, List.getElem_cons_succ, List.setIfInBounds_toArray, List.set_cons_zero, List.set_cons_succ])
    refine wpAnyH_take (i := 3) (v := .bool back) rfl (by kernel_rfl) (by kernel_rfl) (by kernel_rfl) (fun _ _ _ h => h) (Or.inl ⟨rfl, fun _ _ => exec_move _ rfl _ rfl⟩) hS0 ?_
    (try simp only [Act.put, List.getElem_toArray, List.getElem_cons_zero, List.getElem_cons_succ, List.setIfInBounds_toArray, List.set_cons_zero, List.set_cons_succ])
    refine wpAnyH_ready (rs := [4, 8]) (by kernel_rfl) (by simp) ?_
    refine AllReadyH.cons rfl (fun K hK => ?_) (AllReadyH.cons rfl (fun K hK => ?_) AllReadyH.nil)
    · (try simp only [Act.put, List.getElem_toArray, List.getElem_cons_zero, List.getElem_cons_succ, List.setIfInBounds_toArray, List.set_cons_zero, List.set_cons_succ])
      refine Eq.mpr (if_pos (by rfl)) ?_
      go_simp
      refine (triple_any _ 16 _ HL.out (by omega) k b back _ Hk.out Hb.out ((Blk.reads (hb1.below hS0 hb1.lt)).less (by omega))).mono ?_
      rintro e w3 ⟨rfl, hBc⟩
      refine hK.out _ _ (hS0.trans (hBc.mono hS0.size)) (fun hS3 => ?_)
      (try simp only [Act.put, List.getElem_toArray, List.getElem_cons_zero, List.getElem_cons_succ, List.setIfInBounds_toArray, List.set_cons_zero, List.set_cons_succ])
      refine wpAnyH_take (i := 5) (v := .tuple #[.agg (row 8 (b8 (tdes 16 k b back))), .nilIface]) rfl (by kernel_rfl) (by kernel_rfl) (by kernel_rfl) (fun _ _ _ h => h) (Or.inl ⟨rfl, fun _ _ => exec_move _ rfl _ rfl⟩) hS3 ?_
      (try simp only [Act.put, List.getElem_toArray, List.getElem_cons_zero, List.getElem_cons_succ, List.setIfInBounds_toArray, List.set_cons_zero, List.set_cons_succ])
      refine wpAnyH_take (i := 6) (v := .agg (row 8 (b8 (tdes 16 k b back)))) rfl (by kernel_rfl) (by kernel_rfl) (by kernel_rfl) (fun _ _ _ h => h) (Or.inl ⟨rfl, fun _ _ => exec_extract _ 0 rfl _ rfl _ rfl⟩) hS3 ?_
      (try simp only [Act.put, List.getElem_toArray, List.getElem_cons_zero, List.getElem_cons_succ, List.setIfInBounds_toArray, List.set_cons_zero, List.set_cons_succ])
      refine wpAnyH_take (i := 7) (v := .nilIface) rfl (by kernel_rfl) (by kernel_rfl) (by kernel_rfl) (fun _ _ _ h => h) (Or.inl ⟨rfl, fun _ _ => exec_extract _ 1 rfl _ rfl _ rfl⟩) hS3 ?_
      (try simp only [Act.put, List.getElem_toArray, List.getElem_cons_zero, List.getElem_cons_succ, List.setIfInBounds_toArray, List.set_cons_zero, List.set_cons_succ])
      refine wpAnyH_ready (rs := [8]) (by kernel_rfl) (by simp) (AllReadyH.cons rfl (fun K hK => ?_) AllReadyH.nil)
      (try simp only [Act.put, List.getElem_toArray, List.getElem_cons_zero, List.getElem_cons_succ, List.setIfInBounds_toArray, List.set_cons_zero, List.set_cons_succ])
      refine Eq.mpr (if_pos (by rfl)) ?_
      refine wp_new 34 rfl _ z8 ?_
      (try simp only [Act.put, List.getElem_toArray, List.getElem_cons_zero, List.getElem_cons_succ, List.setIfInBounds_toArray, List.set_cons_zero, List.set_cons_succ])
      refine hK.out _ _ (hS3.alloc hS3.size _) (fun hS4 => ?_)
      (try simp only [Act.put, List.getElem_toArray, List.getElem_cons_zero, List.getElem_cons_succ, List.setIfInBounds_toArray, List.set_cons_zero, List.set_cons_succ])
      refine wpAnyH_ready (rs := [9]) (by kernel_rfl) (by simp) (AllReadyH.cons rfl (fun K hK => ?_) AllReadyH.nil)
      (try simp only [Act.put, List.getElem_toArray, List.getElem_cons_zero, List.getElem_cons_succ, List.setIfInBounds_toArray, List.set_cons_zero, List.set_cons_succ])
      refine Eq.mpr (if_pos (by rfl)) ?_
      refine wp_store_row 34 _ _ rfl w3.heap.size (row 8 (b8 (tdes 16 k b back))) rfl rfl 34 _ (Blk.fresh _ _ _) (i8a' _) (by simp [row_size]) (one_b8 _ _) ?_
      (try simp only [Act.put, List.getElem_toArray, List.getElem_cons_zero, List.getElem_cons_succ, List.setIfInBounds_toArray, List.set_cons_zero, List.set_cons_succ])
      refine hK.out _ _ (below_setRow' hS4 hS3.size _) (fun hSz => ?_)
      (try simp only [Act.put, List.getElem_toArray, List.getElem_cons_zero, List.getElem_cons_succ, List.setIfInBounds_toArray, List.set_cons_zero, List.set_cons_succ])
      refine wpAnyH_take (i := 10) (v := .nilIface) rfl (by kernel_rfl) (by kernel_rfl) (by kernel_rfl) (fun _ _ _ h => h) (Or.inl ⟨rfl, fun _ _ => exec_assign _ rfl _ rfl⟩) hSz ?_
      (try simp only [Act.put, List.getElem_toArray, List.getElem_cons_zero, List.getElem_cons_succ, List.setIfInBounds_toArray, List.set_cons_zero, List.set_cons_succ])
      refine wpAnyH_done (by kernel_rfl) ?_ _
      clear hK
      have hp : Past w2 34 (row 8 (b8 (tdes 16 k b back))) _ _ := ⟨hSz, (Blk.fresh w3 34 (row 8 (b8 fun _ => 0))).setRow (row 8 (b8 (tdes 16 k b back))), hS3.size⟩
      clear hS0 hS3 hS4 hSz hBc
      generalize (w3.alloc (.cells (row 8 (b8 fun _ => 0)) 34)).setRow w3.heap.size (row 8 (b8 (tdes 16 k b back))) = wX at hp ⊢
      generalize w3.heap.size = gX at hp ⊢
      exact key wX gX hp
    · (try simp only [Act.put, List.getElem_toArray, List.getElem_cons_zero, List.getElem_cons_succ, List.setIfInBounds_toArray, List.set_cons_zero, List.set_cons_succ])
      refine Eq.mpr (if_pos (by rfl)) ?_
      refine wp_new 34 rfl _ z8 ?_
      (try simp only [Act.put, List.getElem_toArray, List.getElem_cons_zero, List.getElem_cons_succ, List.setIfInBounds_toArray, List.set_cons_zero, List.set_cons_succ])
      refine hK.out _ _ (hS0.alloc hS0.size _) (fun hS1 => ?_)
      (try simp only [Act.put, List.getElem_toArray, List.getElem_cons_zero, List.getElem_cons_succ, List.setIfInBounds_toArray, List.set_cons_zero, List.set_cons_succ])
      have hq0 : Blk (w2.drew.alloc (.cells (row 8 (b8 fun _ => 0)) 34)) w2.heap.size 34 (row 8 (b8 fun _ => 0)) := Blk.fresh w2.drew 34 (row 8 (b8 fun _ => 0))
      generalize hwa : w2.drew.alloc (.cells (row 8 (b8 fun _ => 0)) 34) = wa at hq0 hS1 ⊢
      clear hwa hK
      refine wpAnyH_ready (rs := [4]) (by kernel_rfl) (by simp) (AllReadyH.cons rfl (fun K hK => ?_) AllReadyH.nil)
      (try simp only [Act.put, List.getElem_toArray, List.getElem_cons_zero, List.getElem_cons_succ, List.setIfInBounds_toArray, List.set_cons_zero, List.set_cons_succ])
      refine Eq.mpr (if_pos (by rfl)) ?_
      go_simp
      refine (triple_any _ 16 _ HL.out (by omega) k b back _ Hk.out Hb.out ((Blk.reads (hb1.below hS1 hb1.lt)).less (by omega))).mono ?_
      rintro e w3 ⟨rfl, hBc⟩
      refine hK.out _ _ (hS1.trans (hBc.mono hS1.size)) (fun hS3 => ?_)
      (try simp only [Act.put, List.getElem_toArray, List.getElem_cons_zero, List.getElem_cons_succ, List.setIfInBounds_toArray, List.set_cons_zero, List.set_cons_succ])
      refine wpAnyH_take (i := 5) (v := .tuple #[.agg (row 8 (b8 (tdes 16 k b back))), .nilIface]) rfl (by kernel_rfl) (by kernel_rfl) (by kernel_rfl) (fun _ _ _ h => h) (Or.inl ⟨rfl, fun _ _ => exec_move _ rfl _ rfl⟩) hS3 ?_
      (try simp only [Act.put, List.getElem_toArray, List.getElem_cons_zero, List.getElem_cons_succ, List.setIfInBounds_toArray, List.set_cons_zero, List.set_cons_succ])
      refine wpAnyH_take (i := 6) (v := .agg (row 8 (b8 (tdes 16 k b back)))) rfl (by kernel_rfl) (by kernel_rfl) (by kernel_rfl) (fun _ _ _ h => h) (Or.inl ⟨rfl, fun _ _ => exec_extract _ 0 rfl _ rfl _ rfl⟩) hS3 ?_
      (try simp only [Act.put, List.getElem_toArray, List.getElem_cons_zero, List.getElem_cons_succ, List.setIfInBounds_toArray, List.set_cons_zero, List.set_cons_succ])
      refine wpAnyH_take (i := 7) (v := .nilIface) rfl (by kernel_rfl) (by kernel_rfl) (by kernel_rfl) (fun _ _ _ h => h) (Or.inl ⟨rfl, fun _ _ => exec_extract _ 1 rfl _ rfl _ rfl⟩) hS3 ?_
      (try simp only [Act.put, List.getElem_toArray, List.getElem_cons_zero, List.getElem_cons_succ, List.setIfInBounds_toArray, List.set_cons_zero, List.set_cons_succ])
      refine wpAnyH_ready (rs := [9]) (by kernel_rfl) (by simp) (AllReadyH.cons rfl (fun K hK => ?_) AllReadyH.nil)
      have hq := hq0.below hBc hq0.lt
      (try simp only [Act.put, List.getElem_toArray, List.getElem_cons_zero, List.getElem_cons_succ, List.setIfInBounds_toArray, List.set_cons_zero, List.set_cons_succ])
      refine Eq.mpr (if_pos (by rfl)) ?_
      refine wp_store_row 34 _ _ rfl w2.heap.size (row 8 (b8 (tdes 16 k b back))) rfl rfl 34 _ hq (i8a' _) (by simp [row_size]) (one_b8 _ _) ?_
      (try simp only [Act.put, List.getElem_toArray, List.getElem_cons_zero, List.getElem_cons_succ, List.setIfInBounds_toArray, List.set_cons_zero, List.set_cons_succ])
      refine hK.out _ _ (below_setRow' hS3 (Nat.le_refl _) _) (fun hSz => ?_)
      (try simp only [Act.put, List.getElem_toArray, List.getElem_cons_zero, List.getElem_cons_succ, List.setIfInBounds_toArray, List.set_cons_zero, List.set_cons_succ])
      refine wpAnyH_take (i := 10) (v := .nilIface) rfl (by kernel_rfl) (by kernel_rfl) (by kernel_rfl) (fun _ _ _ h => h) (Or.inl ⟨rfl, fun _ _ => exec_assign _ rfl _ rfl⟩) hSz ?_
      (try simp only [Act.put, List.getElem_toArray, List.getElem_cons_zero, List.getElem_cons_succ, List.setIfInBounds_toArray, List.set_cons_zero, List.set_cons_succ])
      refine wpAnyH_done (by kernel_rfl) ?_ _
      clear hK
      have hp : Past w2 34 (row 8 (b8 (tdes 16 k b back))) _ _ := ⟨hSz, hq.setRow _, Nat.le_refl _⟩
      clear hS0 hS1 hS3 hSz hBc hq hq0
      generalize w3.setRow w2.heap.size (row 8 (b8 (tdes 16 k b back))) = wX at hp ⊢
      have hp2 : ∃ g, g = w2.heap.size := ⟨_, rfl⟩
      obtain ⟨gX, hgX⟩ := hp2
      rw [← hgX] at ⊢
      exact key wX gX (hgX ▸ hp)
  intro w4 g4 ⟨hw4B, hw4b, hw4g⟩
  try dsimp only
  have hb1a := hb1.below hw4B hb1.lt
  have hb2a := hb2.below hw4B hb2.lt
  have hB4 := hB2.trans (hw4B.mono hB2.size)
  clear hb1 hb2 hB2 hw4B hw4g
  have Hby : Hid (By8 (tdes 16 k b back)) := hid (tdes_by _ _ _ _)
  have HE : Hid (∀ i, i < 8 → tdes 16 k (tdes 16 k b back) (!back) i = b i) := hid (tdes_back _ _ _ Hb.out back)
  generalize tdes 16 k b back = c at *
  go_wp2_with fail
  apply suff (F := Past w4 34 (row 8 (b8 (tdes 16 k c (!back)))))
  case h1 =>
    intro key
    refine wp_region_held_drew (S := fun W => Below w4.heap.size w4 W) (by kernel_rfl) (Below.refl _ _).drew (fun hS0 => ?_)
    refine wpAnyH_take (i := 0) (v := .int .i64 16) rfl (by kernel_rfl) (by kernel_rfl) (by kernel_rfl) (fun _ _ _ h => h) (Or.inl ⟨rfl, fun _ _ => exec_move _ rfl _ rfl⟩) hS0 ?_
    (try simp only [Act.put, List.getElem_toArray, List.getElem_cons_zero, List.getElem_cons_succ, List.setIfInBounds_toArray, List.set_cons_zero, List.set_cons_succ])
    refine wpAnyH_take (i := 1) (v := .slice (some ⟨w.heap.size, 0, none⟩) 16 24) rfl (by kernel_rfl) (by kernel_rfl) (by kernel_rfl) (fun _ _ _ h => h) (Or.inl ⟨rfl, fun W _ => by go_simp⟩) hS0 ?_
    (try simp only [Act.put, List.getElem_toArray, List.getElem_cons_zero, List.getElem_cons_succ, List.setIfInBounds_toArray, List.set_cons_zero, List.set_cons_succ])
    refine wpAnyH_take (i := 2) (v := .agg (row 8 (b8 c))) rfl (by kernel_rfl) (by kernel_rfl) (by kernel_rfl) (fun _ _ _ h => h) (Or.inl ⟨rfl, fun W hW => exec_load 34 _ rfl _ rfl 34 8 _ (hw4b.below hW hw4b.lt) 5 Tryd.underlying34 i8a⟩) hS0 ?_
    (try simp only [Act.put, List.getElem_toArray, List.getElem_cons_zero, List.getElem_cons_succ, List.setIfInBounds_toArray, List.set_cons_zero, List.set_cons_succ])
    refine wpAnyH_take (i := 3) (v := .bool back) rfl (by kernel_rfl) (by kernel_rfl) (by kernel_rfl) (fun _ _ _ h => h) (Or.inl ⟨rfl, fun _ _ => exec_move _ rfl _ rfl⟩) hS0 ?_
    (try simp only [Act.put, List.getElem_toArray, List.getElem_cons_zero, List.getElem_cons_succ, List.setIfInBounds_toArray, List.set_cons_zero, List.set_cons_succ])
    refine wpAnyH_take (i := 4) (v := .bool (!back)) rfl (by kernel_rfl) (by kernel_rfl) (by kernel_rfl) (fun _ _ _ h => h) (Or.inl ⟨rfl, fun _ _ => by go_simp⟩) hS0 ?_
    (try simp only [Act.put, List.getElem_toArray, List.getElem_cons_zero, List.getElem_cons_succ, List.setIfInBounds_toArray, List.set_cons_zero, List.set_cons_succ])
    refine wpAnyH_ready (rs := [5, 9]) (by kernel_rfl) (by simp) ?_
    refine AllReadyH.cons rfl (fun K hK => ?_) (AllReadyH.cons rfl (fun K hK => ?_) AllReadyH.nil)
    · (try simp only [Act.put, List.getElem_toArray, List.getElem_cons_zero, List.getElem_cons_succ, List.setIfInBounds_toArray, List.set_cons_zero, List.set_cons_succ])
      refine Eq.mpr (if_pos (by rfl)) ?_
      go_simp
      refine (triple_any _ 16 _ HL.out (by omega) k c (!back) _ Hk.out Hby.out ((Blk.reads (hb1a.below hS0 hb1a.lt)).less (by omega))).mono ?_
      rintro e w3 ⟨rfl, hBc⟩
      refine hK.out _ _ (hS0.trans (hBc.mono hS0.size)) (fun hS3 => ?_)
      (try simp only [Act.put, List.getElem_toArray, List.getElem_cons_zero, List.getElem_cons_succ, List.setIfInBounds_toArray, List.set_cons_zero, List.set_cons_succ])
      refine wpAnyH_take (i := 6) (v := .tuple #[.agg (row 8 (b8 (tdes 16 k c (!back)))), .nilIface]) rfl (by kernel_rfl) (by kernel_rfl) (by kernel_rfl) (fun _ _ _ h => h) (Or.inl ⟨rfl, fun _ _ => exec_move _ rfl _ rfl⟩) hS3 ?_
      (try simp only [Act.put, List.getElem_toArray, List.getElem_cons_zero, List.getElem_cons_succ, List.setIfInBounds_toArray, List.set_cons_zero, List.set_cons_succ])
      refine wpAnyH_take (i := 7) (v := .agg (row 8 (b8 (tdes 16 k c (!back))))) rfl (by kernel_rfl) (by kernel_rfl) (by kernel_rfl) (fun _ _ _ h => h) (Or.inl ⟨rfl, fun _ _ => exec_extract _ 0 rfl _ rfl _ rfl⟩) hS3 ?_
      (try simp only [Act.put, List.getElem_toArray, List.getElem_cons_zero, List.getElem_cons_succ, List.setIfInBounds_toArray, List.set_cons_zero, List.set_cons_succ])
      refine wpAnyH_take (i := 8) (v := .nilIface) rfl (by kernel_rfl) (by kernel_rfl) (by kernel_rfl) (fun _ _ _ h => h) (Or.inl ⟨rfl, fun _ _ => exec_extract _ 1 rfl _ rfl _ rfl⟩) hS3 ?_
      (try simp only [Act.put, List.getElem_toArray, List.getElem_cons_zero, List.getElem_cons_succ, List.setIfInBounds_toArray, List.set_cons_zero, List.set_cons_succ])
      refine wpAnyH_ready (rs := [9]) (by kernel_rfl) (by simp) (AllReadyH.cons rfl (fun K hK => ?_) AllReadyH.nil)
      (try simp only [Act.put, List.getElem_toArray, List.getElem_cons_zero, List.getElem_cons_succ, List.setIfInBounds_toArray, List.set_cons_zero, List.set_cons_succ])
      refine Eq.mpr (if_pos (by rfl)) ?_
      refine wp_new 34 rfl _ z8 ?_
      (try simp only [Act.put, List.getElem_toArray, List.getElem_cons_zero, List.getElem_cons_succ, List.setIfInBounds_toArray, List.set_cons_zero, List.set_cons_succ])
      refine hK.out _ _ (hS3.alloc hS3.size _) (fun hS4 => ?_)
      (try simp only [Act.put, List.getElem_toArray, List.getElem_cons_zero, List.getElem_cons_succ, List.setIfInBounds_toArray, List.set_cons_zero, List.set_cons_succ])
      refine wpAnyH_ready (rs := [10]) (by kernel_rfl) (by simp) (AllReadyH.cons rfl (fun K hK => ?_) AllReadyH.nil)
      (try simp only [Act.put, List.getElem_toArray, List.getElem_cons_zero, List.getElem_cons_succ, List.setIfInBounds_toArray, List.set_cons_zero, List.set_cons_succ])
      refine Eq.mpr (if_pos (by rfl)) ?_
      refine wp_store_row 34 _ _ rfl w3.heap.size (row 8 (b8 (tdes 16 k c (!back)))) rfl rfl 34 _ (Blk.fresh _ _ _) (i8a' _) (by simp [row_size]) (one_b8 _ _) ?_
      (try simp only [Act.put, List.getElem_toArray, List.getElem_cons_zero, List.getElem_cons_succ, List.setIfInBounds_toArray, List.set_cons_zero, List.set_cons_succ])
      refine hK.out _ _ (below_setRow' hS4 hS3.size _) (fun hSz => ?_)
      (try simp only [Act.put, List.getElem_toArray, List.getElem_cons_zero, List.getElem_cons_succ, List.setIfInBounds_toArray, List.set_cons_zero, List.set_cons_succ])
      refine wpAnyH_take (i := 11) (v := .nilIface) rfl (by kernel_rfl) (by kernel_rfl) (by kernel_rfl) (fun _ _ _ h => h) (Or.inl ⟨rfl, fun _ _ => exec_assign _ rfl _ rfl⟩) hSz ?_
      (try simp only [Act.put, List.getElem_toArray, List.getElem_cons_zero, List.getElem_cons_succ, List.setIfInBounds_toArray, List.set_cons_zero, List.set_cons_succ])
      refine wpAnyH_done (by kernel_rfl) ?_ _
      clear hK
      have hp : Past w4 34 (row 8 (b8 (tdes 16 k c (!back)))) _ _ := ⟨hSz, (Blk.fresh w3 34 (row 8 (b8 fun _ => 0))).setRow (row 8 (b8 (tdes 16 k c (!back)))), hS3.size⟩
      clear hS0 hS3 hS4 hSz hBc
      generalize (w3.alloc (.cells (row 8 (b8 fun _ => 0)) 34)).setRow w3.heap.size (row 8 (b8 (tdes 16 k c (!back)))) = wX at hp ⊢
      generalize w3.heap.size = gX at hp ⊢
      exact key wX gX hp
    · (try simp only [Act.put, List.getElem_toArray, List.getElem_cons_zero, List.getElem_cons_succ, List.setIfInBounds_toArray, List.set_cons_zero, List.set_cons_succ])
      refine Eq.mpr (if_pos (by rfl)) ?_
      refine wp_new 34 rfl _ z8 ?_
      (try simp only [Act.put, List.getElem_toArray, List.getElem_cons_zero, List.getElem_cons_succ, List.setIfInBounds_toArray, List.set_cons_zero, List.set_cons_succ])
      refine hK.out _ _ (hS0.alloc hS0.size _) (fun hS1 => ?_)
      (try simp only [Act.put, List.getElem_toArray, List.getElem_cons_zero, List.getElem_cons_succ, List.setIfInBounds_toArray, List.set_cons_zero, List.set_cons_succ])
      have hq0 : Blk (w4.drew.alloc (.cells (row 8 (b8 fun _ => 0)) 34)) w4.heap.size 34 (row 8 (b8 fun _ => 0)) := Blk.fresh w4.drew 34 (row 8 (b8 fun _ => 0))
      generalize hwa : w4.drew.alloc (.cells (row 8 (b8 fun _ => 0)) 34) = wa at hq0 hS1 ⊢
      clear hwa hK
      refine wpAnyH_ready (rs := [5]) (by kernel_rfl) (by simp) (AllReadyH.cons rfl (fun K hK => ?_) AllReadyH.nil)
      (try simp only [Act.put, List.getElem_toArray, List.getElem_cons_zero, List.getElem_cons_succ, List.setIfInBounds_toArray, List.set_cons_zero, List.set_cons_succ])
      refine Eq.mpr (if_pos (by rfl)) ?_
      go_simp
      refine (triple_any _ 16 _ HL.out (by omega) k c (!back) _ Hk.out Hby.out ((Blk.reads (hb1a.below hS1 hb1a.lt)).less (by omega))).mono ?_
      rintro e w3 ⟨rfl, hBc⟩
      refine hK.out _ _ (hS1.trans (hBc.mono hS1.size)) (fun hS3 => ?_)
      (try simp only [Act.put, List.getElem_toArray, List.getElem_cons_zero, List.getElem_cons_succ, List.setIfInBounds_toArray, List.set_cons_zero, List.set_cons_succ])
      refine wpAnyH_take (i := 6) (v := .tuple #[.agg (row 8 (b8 (tdes 16 k c (!back)))), .nilIface]) rfl (by kernel_rfl) (by kernel_rfl) (by kernel_rfl) (fun _ _ _ h => h) (Or.inl ⟨rfl, fun _ _ => exec_move _ rfl _ rfl⟩) hS3 ?_
      (try simp only [Act.put, List.getElem_toArray, List.getElem_cons_zero, List.getElem_cons_succ, List.setIfInBounds_toArray, List.set_cons_zero, List.set_cons_succ])
      refine wpAnyH_take (i := 7) (v := .agg (row 8 (b8 (tdes 16 k c (!back))))) rfl (by kernel_rfl) (by kernel_rfl) (by kernel_rfl) (fun _ _ _ h => h) (Or.inl ⟨rfl, fun _ _ => exec_extract _ 0 rfl _ rfl _ rfl⟩) hS3 ?_
      (try simp only [Act.put, List.getElem_toArray, List.getElem_cons_zero, List.getElem_cons_succ, List.setIfInBounds_toArray, List.set_cons_zero, List.set_cons_succ])
      refine wpAnyH_take (i := 8) (v := .nilIface) rfl (by kernel_rfl) (by kernel_rfl) (by kernel_rfl) (fun _ _ _ h => h) (Or.inl ⟨rfl, fun _ _ => exec_extract _ 1 rfl _ rfl _ rfl⟩) hS3 ?_
      (try simp only [Act.put, List.getElem_toArray, List.getElem_cons_zero, List.getElem_cons_succ, List.setIfInBounds_toArray, List.set_cons_zero, List.set_cons_succ])
      refine wpAnyH_ready (rs := [10]) (by kernel_rfl) (by simp) (AllReadyH.cons rfl (fun K hK => ?_) AllReadyH.nil)
      have hq := hq0.below hBc hq0.lt
      (try simp only [Act.put, List.getElem_toArray, List.getElem_cons_zero, List.getElem_cons_succ, List.setIfInBounds_toArray, List.set_cons_zero, List.set_cons_succ])
      refine Eq.mpr (if_pos (by rfl)) ?_
      refine wp_store_row 34 _ _ rfl w4.heap.size (row 8 (b8 (tdes 16 k c (!back)))) rfl rfl 34 _ hq (i8a' _) (by simp [row_size]) (one_b8 _ _) ?_
      (try simp only [Act.put, List.getElem_toArray, List.getElem_cons_zero, List.getElem_cons_succ, List.setIfInBounds_toArray, List.set_cons_zero, List.set_cons_succ])
      refine hK.out _ _ (below_setRow' hS3 (Nat.le_refl _) _) (fun hSz => ?_)
      (try simp only [Act.put, List.getElem_toArray, List.getElem_cons_zero, List.getElem_cons_succ, List.setIfInBounds_toArray, List.set_cons_zero, List.set_cons_succ])
      refine wpAnyH_take (i := 11) (v := .nilIface) rfl (by kernel_rfl) (by kernel_rfl) (by kernel_rfl) (fun _ _ _ h => h) (Or.inl ⟨rfl, fun _ _ => exec_assign _ rfl _ rfl⟩) hSz ?_
      (try simp only [Act.put, List.getElem_toArray, List.getElem_cons_zero, List.getElem_cons_succ, List.setIfInBounds_toArray, List.set_cons_zero, List.set_cons_succ])
      refine wpAnyH_done (by kernel_rfl) ?_ _
      clear hK
      have hp : Past w4 34 (row 8 (b8 (tdes 16 k c (!back)))) _ _ := ⟨hSz, hq.setRow _, Nat.le_refl _⟩
      clear hS0 hS1 hS3 hSz hBc hq hq0
      generalize w3.setRow w4.heap.size (row 8 (b8 (tdes 16 k c (!back)))) = wX at hp ⊢
      have hp2 : ∃ g, g = w4.heap.size := ⟨_, rfl⟩
      obtain ⟨gX, hgX⟩ := hp2
      rw [← hgX] at ⊢
      exact key wX gX (hgX ▸ hp)
  intro w6 g6 ⟨hw6B, hw6b, hw6g⟩
  try dsimp only
  have hb2b := hb2a.below hw6B hb2a.lt
  have hB6 := hB4.trans (hw6B.mono hB4.size)
  have hL := hid (Hg.out.below hB6)
  clear hb1a hb2a hB4 hw6B hw6g hw4b
  have HE1 : Hid (eqB 8 (tdes 16 k c (!back)) b = true) := hid (eqB_true HE.out)
  generalize tdes 16 k c (!back) = d at *
  go_wp2_with fail
  refine (awake_any _ hL.out).mono ?_
  rintro e w7 ⟨rfl, hB7⟩
  have hb2c := hb2b.below hB7 hb2b.lt
  have hdc := hw6b.below hB7 hw6b.lt
  have hB8 := hB6.trans (hB7.mono hB6.size)
  clear hb2b hw6b hB6 hB7
  go_wp2_with (first
    | ((with_reducible refine wpg_val ?_ _ (exec_load 34 _ rfl _ rfl 34 8 _ hb2c 5 Tryd.underlying34 i8a) ?_); exact rfl)
    | ((with_reducible refine wpg_val ?_ _ (exec_load 34 _ rfl _ rfl 34 8 _ hdc 5 Tryd.underlying34 i8a) ?_); exact rfl)
    | ((with_reducible refine wpg_val ?_ _ (exec_eqT 34 _ _ _ rfl 8 _ _ rfl rfl true HE1.out 5 Tryd.underlying34 Tryd.underlying5 i8 eqA8) ?_); exact rfl))
  go_ret
  exact ⟨rfl, hB8⟩
set_option linter.unusedSimpArgs false in
set_option maxRecDepth 100000 in
set_option maxHeartbeats 4000000 in
theorem desBack_24 (k b : Nat → Nat) (wh : Nat) (back : Bool) (w : World) (hg : As.Laid w) (hk : ∀ i, i < 24 → k i < 256) (hb : ∀ i, i < 8 → b i < 256) (hwh : wh < 256) (hm : wh % 3 = 2) :
    Calls Tryd.prog 7 #[.agg (row 24 (b8 k)), .agg (row 8 (b8 b)), .int .u8 wh, .bool back] w fun e w' => e = .returned (.bool true) ∧ Below w.heap.size w w' := by
  have Hk : Hid (∀ i, i < 24 → k i < 256) := hid (fun i hi => hk i (by omega))
  have Hb : Hid (By8 b) := hid hb
  have HL : Hid (IsTKey 24) := hid (.inr (.inr rfl))
  have hmi : (wh : Int) % 3 = 2 := by omega
  have hb1 := (Blk.fresh w 50 (row 24 (b8 k))).alloc (.cells (row 8 (b8 b)) 34)
  have hb2 := two_new w (.cells (row 24 (b8 k)) 50) (row 8 (b8 b)) 34
  have hB2 : Below w.heap.size w ((w.alloc (.cells (row 24 (b8 k)) 50)).alloc (.cells (row 8 (b8 b)) 34)) := ((Below.refl _ _).alloc (Nat.le_refl _) _).alloc (by simp) _
  have Hg := hid hg
  clear hk hb hm hg
  go_enter Tryd.func7, Tryd.ntmps7
  go_wp2_with fail
  generalize (w.alloc (.cells (row 24 (b8 k)) 50)).alloc (.cells (row 8 (b8 b)) 34) = w2 at *
  apply suff (F := Past w2 34 (row 8 (b8 (tdes 24 k b back))))
  case h1 =>
    intro key
    refine wp_region_held_drew (S := fun W => Below w2.heap.size w2 W) (by kernel_rfl) (Below.refl _ _).drew (fun hS0 => ?_)
    refine wpAnyH_take (i := 0) (v := .int .i64 24) rfl (by kernel_rfl) (by kernel_rfl) (by kernel_rfl) (fun _ _ _ h => h) (Or.inl ⟨rfl, fun _ _ => exec_move _ rfl _ rfl⟩) hS0 ?_
    (try simp only [Act.put, List.getElem_toArray, List.getElem_cons_zero, List.getElem_cons_succ, List.setIfInBounds_toArray, List.set_cons_zero, List.set_cons_succ])
    refine wpAnyH_take (i := 1) (v := .slice (some ⟨w.heap.size, 0, none⟩) 24 24) rfl (by kernel_rfl) (by kernel_rfl) (by kernel_rfl) (fun _ _ _ h => h) (Or.inl ⟨rfl, fun W _ => by go_simp⟩) hS0 ?_
    (try simp only [Act.put, List.getElem_toArray, List.getElem_cons_zero, List.getElem_cons_succ, List.setIfInBounds_toArray, List.set_cons_zero, List.set_cons_succ])
    refine wpAnyH_take (i := 2) (v := .agg (row 8 (b8 b))) rfl (by kernel_rfl) (by kernel_rfl) (by kernel_rfl) (fun _ _ _ h => h) (Or.inl ⟨rfl, fun W hW => exec_load 34 _ rfl _ rfl 34 8 _ (hb2.below hW hb2.lt) 5 Tryd.underlying34 i8a⟩) hS0 ?_
    (try simp only [Act.put, List.getElem_toArray, List.getElem_cons_zero, List.getElem_cons_succ, List.setIfInBounds_toArray, List.set_cons_zero, List.set_cons_succ])
    refine wpAnyH_take (i := 3) (v := .bool back) rfl (by kernel_rfl) (by kernel_rfl) (by kernel_rfl) (fun _ _ _ h => h) (Or.inl ⟨rfl, fun _ _ => exec_move _ rfl _ rfl⟩) hS0 ?_
    (try simp only [Act.put, List.getElem_toArray, List.getElem_cons_zero, List.getElem_cons_succ, List.setIfInBounds_toArray, List.set_cons_zero, List.set_cons_succ])
    refine wpAnyH_ready (rs := [4, 8]) (by kernel_rfl) (by simp) ?_
    refine AllReadyH.cons rfl (fun K hK => ?_) (AllReadyH.cons rfl (fun K hK => ?_) AllReadyH.nil)
    · (try simp only [Act.put, List.getElem_toArray, List.getElem_cons_zero, List.getElem_cons_succ, List.setIfInBounds_toArray, List.set_cons_zero, List.set_cons_succ])
      refine Eq.mpr (if_pos (by rfl)) ?_
      go_simp
      refine (triple_any _ 24 _ HL.out (by omega) k b back _ Hk.out Hb.out ((Blk.reads (hb1.below hS0 hb1.lt)).less (by omega))).mono ?_
      rintro e w3 ⟨rfl, hBc⟩
      refine hK.out _ _ (hS0.trans (hBc.mono hS0.size)) (fun hS3 => ?_)
      (try simp only [Act.put, List.getElem_toArray, List.getElem_cons_zero, List.getElem_cons_succ, List.setIfInBounds_toArray, List.set_cons_zero, List.set_cons_succ])
      refine wpAnyH_take (i := 5) (v := .tuple #[.agg (row 8 (b8 (tdes 24 k b back))), .nilIface]) rfl (by kernel_rfl) (by kernel_rfl) (by kernel_rfl) (fun _ _ _ h => h) (Or.inl ⟨rfl, fun _ _ => exec_move _ rfl _ rfl⟩) hS3 ?_
      (try simp only [Act.put, List.getElem_toArray, List.getElem_cons_zero, List.getElem_cons_succ, List.setIfInBounds_toArray, List.set_cons_zero, List.set_cons_succ])
      refine wpAnyH_take (i := 6) (v := .agg (row 8 (b8 (tdes 24 k b back)))) rfl (by kernel_rfl) (by kernel_rfl) (by kernel_rfl) (fun _ _ _ h => h) (Or.inl ⟨rfl, fun _ _ => exec_extract _ 0 rfl _ rfl _ rfl⟩) hS3 ?_
      (try simp only [Act.put, List.getElem_toArray, List.getElem_cons_zero, List.getElem_cons_succ, List.setIfInBounds_toArray, List.set_cons_zero, List.set_cons_succ])
      refine wpAnyH_take (i := 7) (v := .nilIface) rfl (by kernel_rfl) (by kernel_rfl) (by kernel_rfl) (fun _ _ _ h => h) (Or.inl ⟨rfl, fun _ _ => exec_extract _ 1 rfl _ rfl _ rfl⟩) hS3 ?_
      (try simp only [Act.put, List.getElem_toArray, List.getElem_cons_zero, List.getElem_cons_succ, List.setIfInBounds_toArray, List.set_cons_zero, List.set_cons_succ])
      refine wpAnyH_ready (rs := [8]) (by kernel_rfl) (by simp) (AllReadyH.cons rfl (fun K hK => ?_) AllReadyH.nil)
      (try simp only [Act.put, List.getElem_toArray, List.getElem_cons_zero, List.getElem_cons_succ, List.setIfInBounds_toArray, List.set_cons_zero, List.set_cons_succ])
      refine Eq.mpr (if_pos (by rfl)) ?_
      refine wp_new 34 rfl _ z8 ?_
      (try simp only [Act.put, List.getElem_toArray, List.getElem_cons_zero, List.getElem_cons_succ, List.setIfInBounds_toArray, List.set_cons_zero, List.set_cons_succ])
      refine hK.out _ _ (hS3.alloc hS3.size _) (fun hS4 => ?_)
      (try simp only [Act.put, List.getElem_toArray, List.getElem_cons_zero, List.getElem_cons_succ, List.setIfInBounds_toArray, List.set_cons_zero, List.set_cons_succ])
      refine wpAnyH_ready (rs := [9]) (by kernel_rfl) (by simp) (AllReadyH.cons rfl (fun K hK => ?_) AllReadyH.nil)
      (try simp only [Act.put, List.getElem_toArray, List.getElem_cons_zero, List.getElem_cons_succ, List.setIfInBounds_toArray, List.set_cons_zero, List.set_cons_succ])
      refine Eq.mpr (if_pos (by rfl)) ?_
      refine wp_store_row 34 _ _ rfl w3.heap.size (row 8 (b8 (tdes 24 k b back))) rfl rfl 34 _ (Blk.fresh _ _ _) (i8a' _) (by simp [row_size]) (one_b8 _ _) ?_
      (try simp only [Act.put, List.getElem_toArray, List.getElem_cons_zero, List.getElem_cons_succ, List.setIfInBounds_toArray, List.set_cons_zero, List.set_cons_succ])
      refine hK.out _ _ (below_setRow' hS4 hS3.size _) (fun hSz => ?_)
      (try simp only [Act.put, List.getElem_toArray, List.getElem_cons_zero, List.getElem_cons_succ, List.setIfInBounds_toArray, List.set_cons_zero, List.set_cons_succ])
      refine wpAnyH_take (i := 10) (v := .nilIface) rfl (by kernel_rfl) (by kernel_rfl) (by kernel_rfl) (fun _ _ _ h => h) (Or.inl ⟨rfl, fun _ _ => exec_assign _ rfl _ rfl⟩) hSz ?_
      (try simp only [Act.put, List.getElem_toArray, List.getElem_cons_zero, List.getElem_cons_succ, List.setIfInBounds_toArray, List.set_cons_zero, List.set_cons_succ])
      refine wpAnyH_done (by kernel_rfl) ?_ _
      clear hK
      have hp : Past w2 34 (row 8 (b8 (tdes 24 k b back))) _ _ := ⟨hSz, (Blk.fresh w3 34 (row 8 (b8 fun _ => 0))).setRow (row 8 (b8 (tdes 24 k b back))), hS3.size⟩
      clear hS0 hS3 hS4 hSz hBc
      generalize (w3.alloc (.cells (row 8 (b8 fun _ => 0)) 34)).setRow w3.heap.size (row 8 (b8 (tdes 24 k b back))) = wX at hp ⊢
      generalize w3.heap.size = gX at hp ⊢
      exact key wX gX hp
    · (try simp only [Act.put, List.getElem_toArray, List.getElem_cons_zero, List.getElem_cons_succ, List.setIfInBounds_toArray, List.set_cons_zero, List.set_cons_succ])
      refine Eq.mpr (if_pos (by rfl)) ?_
      refine wp_new 34 rfl _ z8 ?_
      (try simp only [Act.put, List.getElem_toArray, List.getElem_cons_zero, List.getElem_cons_succ, List.setIfInBounds_toArray, List.set_cons_zero, List.set_cons_succ])
      refine hK.out _ _ (hS0.alloc hS0.size _) (fun hS1 => ?_)
      (try simp only [Act.put, List.getElem_toArray, List.getElem_cons_zero, List.getElem_cons_succ, List.setIfInBounds_toArray, List.set_cons_zero, List.set_cons_succ])
      have hq0 : Blk (w2.drew.alloc (.cells (row 8 (b8 fun _ => 0)) 34)) w2.heap.size 34 (row 8 (b8 fun _ => 0)) := Blk.fresh w2.drew 34 (row 8 (b8 fun _ => 0))
      generalize hwa : w2.drew.alloc (.cells (row 8 (b8 fun _ => 0)) 34) = wa at hq0 hS1 ⊢
      clear hwa hK
      refine wpAnyH_ready (rs := [4]) (by kernel_rfl) (by simp) (AllReadyH.cons rfl (fun K hK => ?_) AllReadyH.nil)
      (try simp only [Act.put, List.getElem_toArray, List.getElem_cons_zero, List.getElem_cons_succ, List.setIfInBounds_toArray, List.set_cons_zero, List.set_cons_succ])
      refine Eq.mpr (if_pos (by rfl)) ?_
      go_simp
      refine (triple_any _ 24 _ HL.out (by omega) k b back _ Hk.out Hb.out ((Blk.reads (hb1.below hS1 hb1.lt)).less (by omega))).mono ?_
      rintro e w3 ⟨rfl, hBc⟩
      refine hK.out _ _ (hS1.trans (hBc.mono hS1.size)) (fun hS3 => ?_)
      (try simp only [Act.put, List.getElem_toArray, List.getElem_cons_zero, List.getElem_cons_succ, List.setIfInBounds_toArray, List.set_cons_zero, List.set_cons_succ])
      refine wpAnyH_take (i := 5) (v := .tuple #[.agg (row 8 (b8 (tdes 24 k b back))), .nilIface]) rfl (by kernel_rfl) (by kernel_rfl) (by kernel_rfl) (fun _ _ _ h => h) (Or.inl ⟨rfl, fun _ _ => exec_move _ rfl _ rfl⟩) hS3 ?_
      (try simp only [Act.put, List.getElem_toArray, List.getElem_cons_zero, List.getElem_cons_succ, List.setIfInBounds_toArray, List.set_cons_zero, List.set_cons_succ])
      refine wpAnyH_take (i := 6) (v := .agg (row 8 (b8 (tdes 24 k b back)))) rfl (by kernel_rfl) (by kernel_rfl) (by kernel_rfl) (fun _ _ _ h => h) (Or.inl ⟨rfl, fun _ _ => exec_extract _ 0 rfl _ rfl _ rfl⟩) hS3 ?_
      (try simp only [Act.put, List.getElem_toArray, List.getElem_cons_zero, List.getElem_cons_succ, List.setIfInBounds_toArray, List.set_cons_zero, List.set_cons_succ])
      refine wpAnyH_take (i := 7) (v := .nilIface) rfl (by kernel_rfl) (by kernel_rfl) (by kernel_rfl) (fun _ _ _ h => h) (Or.inl ⟨rfl, fun _ _ => exec_extract _ 1 rfl _ rfl _ rfl⟩) hS3 ?_
      (try simp only [Act.put, List.getElem_toArray, List.getElem_cons_zero, List.getElem_cons_succ, List.setIfInBounds_toArray, List.set_cons_zero, List.set_cons_succ])
      refine wpAnyH_ready (rs := [9]) (by kernel_rfl) (by simp) (AllReadyH.cons rfl (fun K hK => ?_) AllReadyH.nil)
      have hq := hq0.below hBc hq0.lt
      (try simp only [Act.put, List.getElem_toArray, List.getElem_cons_zero, List.getElem_cons_succ, List.setIfInBounds_toArray, List.set_cons_zero, List.set_cons_succ])
      refine Eq.mpr (if_pos (by rfl)) ?_
      refine wp_store_row 34 _ _ rfl w2.heap.size (row 8 (b8 (tdes 24 k b back))) rfl rfl 34 _ hq (i8a' _) (by simp [row_size]) (one_b8 _ _) ?_
      (try simp only [Act.put, List.getElem_toArray, List.getElem_cons_zero, List.getElem_cons_succ, List.setIfInBounds_toArray, List.set_cons_zero, List.set_cons_succ])
      refine hK.out _ _ (below_setRow' hS3 (Nat.le_refl _) _) (fun hSz => ?_)
      (try simp only [Act.put, List.getElem_toArray, List.getElem_cons_zero, List.getElem_cons_succ, List.setIfInBounds_toArray, List.set_cons_zero, List.set_cons_succ])
      refine wpAnyH_take (i := 10) (v := .nilIface) rfl (by kernel_rfl) (by kernel_rfl) (by kernel_rfl) (fun _ _ _ h => h) (Or.inl ⟨rfl, fun _ _ => exec_assign _ rfl _ rfl⟩) hSz ?_
      (try simp only [Act.put, List.getElem_toArray, List.getElem_cons_zero, List.getElem_cons_succ, List.setIfInBounds_toArray, List.set_cons_zero, List.set_cons_succ])
      refine wpAnyH_done (by kernel_rfl) ?_ _
      clear hK
      have hp : Past w2 34 (row 8 (b8 (tdes 24 k b back))) _ _ := ⟨hSz, hq.setRow _, Nat.le_refl _⟩
      clear hS0 hS1 hS3 hSz hBc hq hq0
      generalize w3.setRow w2.heap.size (row 8 (b8 (tdes 24 k b back))) = wX at hp ⊢
      have hp2 : ∃ g, g = w2.heap.size := ⟨_, rfl⟩
      obtain ⟨gX, hgX⟩ := hp2
      rw [← hgX] at ⊢
      exact key wX gX (hgX ▸ hp)
  intro w4 g4 ⟨hw4B, hw4b, hw4g⟩
  try dsimp only
  have hb1a := hb1.below hw4B hb1.lt
  have hb2a := hb2.below hw4B hb2.lt
  have hB4 := hB2.trans (hw4B.mono hB2.size)
  clear hb1 hb2 hB2 hw4B hw4g
  have Hby : Hid (By8 (tdes 24 k b back)) := hid (tdes_by _ _ _ _)
  have HE : Hid (∀ i, i < 8 → tdes 24 k (tdes 24 k b back) (!back) i = b i) := hid (tdes_back _ _ _ Hb.out back)
  generalize tdes 24 k b back = c at *
  go_wp2_with fail
  apply suff (F := Past w4 34 (row 8 (b8 (tdes 24 k c (!back)))))
  case h1 =>
    intro key
    refine wp_region_held_drew (S := fun W => Below w4.heap.size w4 W) (by kernel_rfl) (Below.refl _ _).drew (fun hS0 => ?_)
    refine wpAnyH_take (i := 0) (v := .int .i64 24) rfl (by kernel_rfl) (by kernel_rfl) (by kernel_rfl) (fun _ _ _ h => h) (Or.inl ⟨rfl, fun _ _ => exec_move _ rfl _ rfl⟩) hS0 ?_
    (try simp only [Act.put, List.getElem_toArray, List.getElem_cons_zero, List.getElem_cons_succ, List.setIfInBounds_toArray, List.set_cons_zero, List.set_cons_succ])
    refine wpAnyH_take (i := 1) (v := .slice (some ⟨w.heap.size, 0, none⟩) 24 24) rfl (by kernel_rfl) (by kernel_rfl) (by kernel_rfl) (fun _ _ _ h => h) (Or.inl ⟨rfl, fun W _ => by go_simp⟩) hS0 ?_
    (try simp only [Act.put, List.getElem_toArray, List.getElem_cons_zero, List.getElem_cons_succ, List.setIfInBounds_toArray, List.set_cons_zero, List.set_cons_succ])
    refine wpAnyH_take (i := 2) (v := .agg (row 8 (b8 c))) rfl (by kernel_rfl) (by kernel_rfl) (by kernel_rfl) (fun _ _ _ h => h) (Or.inl ⟨rfl, fun W hW => exec_load 34 _ rfl _ rfl 34 8 _ (hw4b.below hW hw4b.lt) 5 Tryd.underlying34 i8a⟩) hS0 ?_
    (try simp only [Act.put, List.getElem_toArray, List.getElem_cons_zero, List.getElem_cons_succ, List.setIfInBounds_toArray, List.set_cons_zero, List.set_cons_succ])
    refine wpAnyH_take (i := 3) (v := .bool back) rfl (by kernel_rfl) (by kernel_rfl) (by kernel_rfl) (fun _ _ _ h => h) (Or.inl ⟨rfl, fun _ _ => exec_move _ rfl _ rfl⟩) hS0 ?_
    (try simp only [Act.put, List.getElem_toArray, List.getElem_cons_zero, List.getElem_cons_succ, List.setIfInBounds_toArray, List.set_cons_zero, List.set_cons_succ])
    refine wpAnyH_take (i := 4) (v := .bool (!back)) rfl (by kernel_rfl) (by kernel_rfl) (by kernel_rfl) (fun _ _ _ h => h) (Or.inl ⟨rfl, fun _ _ => by go_simp⟩) hS0 ?_
    (try simp only [Act.put, List.getElem_toArray, List.getElem_cons_zero, List.getElem_cons_succ, List.setIfInBounds_toArray, List.set_cons_zero, List.set_cons_succ])
    refine wpAnyH_ready (rs := [5, 9]) (by kernel_rfl) (by simp) ?_
    refine AllReadyH.cons rfl (fun K hK => ?_) (AllReadyH.cons rfl (fun K hK => ?_) AllReadyH.nil)
    · (try simp only [Act.put, List.getElem_toArray, List.getElem_cons_zero, List.getElem_cons_succ, List.setIfInBounds_toArray, List.set_cons_zero, List.set_cons_succ])
      refine Eq.mpr (if_pos (by rfl)) ?_
      go_simp
      refine (triple_any _ 24 _ HL.out (by omega) k c (!back) _ Hk.out Hby.out ((Blk.reads (hb1a.below hS0 hb1a.lt)).less (by omega))).mono ?_
      rintro e w3 ⟨rfl, hBc⟩
      refine hK.out _ _ (hS0.trans (hBc.mono hS0.size)) (fun hS3 => ?_)
      (try simp only [Act.put, List.getElem_toArray, List.getElem_cons_zero, List.getElem_cons_succ, List.setIfInBounds_toArray, List.set_cons_zero, List.set_cons_succ])
      refine wpAnyH_take (i := 6) (v := .tuple #[.agg (row 8 (b8 (tdes 24 k c (!back)))), .nilIface]) rfl (by kernel_rfl) (by kernel_rfl) (by kernel_rfl) (fun _ _ _ h => h) (Or.inl ⟨rfl, fun _ _ => exec_move _ rfl _ rfl⟩) hS3 ?_
      (try simp only [Act.put, List.getElem_toArray, List.getElem_cons_zero, List.getElem_cons_succ, List.setIfInBounds_toArray, List.set_cons_zero, List.set_cons_succ])
      refine wpAnyH_take (i := 7) (v := .agg (row 8 (b8 (tdes 24 k c (!back))))) rfl (by kernel_rfl) (by kernel_rfl) (by kernel_rfl) (fun _ _ _ h => h) (Or.inl ⟨rfl, fun _ _ => exec_extract _ 0 rfl _ rfl _ rfl⟩) hS3 ?_
      (try simp only [Act.put, List.getElem_toArray, List.getElem_cons_zero, List.getElem_cons_succ, List.setIfInBounds_toArray, List.set_cons_zero, List.set_cons_succ])
      refine wpAnyH_take (i := 8) (v := .nilIface) rfl (by kernel_rfl) (by kernel_rfl) (by kernel_rfl) (fun _ _ _ h => h) (Or.inl ⟨rfl, fun _ _ => exec_extract _ 1 rfl _ rfl _ rfl⟩) hS3 ?_
      (try simp only [Act.put, List.getElem_toArray, List.getElem_cons_zero, List.getElem_cons_succ, List.setIfInBounds_toArray, List.set_cons_zero, List.set_cons_succ])
      refine wpAnyH_ready (rs := [9]) (by kernel_rfl) (by simp) (AllReadyH.cons rfl (fun K hK => ?_) AllReadyH.nil)
      (try simp only [Act.put, List.getElem_toArray, List.getElem_cons_zero, List.getElem_cons_succ, List.setIfInBounds_toArray, List.set_cons_zero, List.set_cons_succ])
      refine Eq.mpr (if_pos (by rfl)) ?_
      refine wp_new 34 rfl _ z8 ?_
      (try simp only [Act.put, List.getElem_toArray, List.getElem_cons_zero, List.getElem_cons_succ, List.setIfInBounds_toArray, List.set_cons_zero, List.set_cons_succ])
      refine hK.out _ _ (hS3.alloc hS3.size _) (fun hS4 => ?_)
      (try simp only [Act.put, List.getElem_toArray, List.getElem_cons_zero, List.getElem_cons_succ, List.setIfInBounds_toArray, List.set_cons_zero, List.set_cons_succ])
      refine wpAnyH_ready (rs := [10]) (by kernel_rfl) (by simp) (AllReadyH.cons rfl (fun K hK => ?_) AllReadyH.nil)
      (try simp only [Act.put, List.getElem_toArray, List.getElem_cons_zero, List.getElem_cons_succ, List.setIfInBounds_toArray, List.set_cons_zero, List.set_cons_succ])
      refine Eq.mpr (if_pos (by rfl)) ?_
      refine wp_store_row 34 _ _ rfl w3.heap.size (row 8 (b8 (tdes 24 k c (!back)))) rfl rfl 34 _ (Blk.fresh _ _ _) (i8a' _) (by simp [row_size]) (one_b8 _ _) ?_
      (try simp only [Act.put, List.getElem_toArray, List.getElem_cons_zero, List.getElem_cons_succ, List.setIfInBounds_toArray, List.set_cons_zero, List.set_cons_succ])
      refine hK.out _ _ (below_setRow' hS4 hS3.size _) (fun hSz => ?_)
      (try simp only [Act.put, List.getElem_toArray, List.getElem_cons_zero, List.getElem_cons_succ, List.setIfInBounds_toArray, List.set_cons_zero, List.set_cons_succ])
      refine wpAnyH_take (i := 11) (v := .nilIface) rfl (by kernel_rfl) (by kernel_rfl) (by kernel_rfl) (fun _ _ _ h => h) (Or.inl ⟨rfl, fun _ _ => exec_assign _ rfl _ rfl⟩) hSz ?_
      (try simp only [Act.put, List.getElem_toArray, List.getElem_cons_zero, List.getElem_cons_succ, List.setIfInBounds_toArray, List.set_cons_zero, List.set_cons_succ])
      refine wpAnyH_done (by kernel_rfl) ?_ _
      clear hK
      have hp : Past w4 34 (row 8 (b8 (tdes 24 k c (!back)))) _ _ := ⟨hSz, (Blk.fresh w3 34 (row 8 (b8 fun _ => 0))).setRow (row 8 (b8 (tdes 24 k c (!back)))), hS3.size⟩
      clear hS0 hS3 hS4 hSz hBc
      generalize (w3.alloc (.cells (row 8 (b8 fun _ => 0)) 34)).setRow w3.heap.size (row 8 (b8 (tdes 24 k c (!back)))) = wX at hp ⊢
      generalize w3.heap.size = gX at hp ⊢
      exact key wX gX hp
    · (try simp only [Act.put, List.getElem_toArray, List.getElem_cons_zero, List.getElem_cons_succ, List.setIfInBounds_toArray, List.set_cons_zero, List.set_cons_succ])
      refine Eq.mpr (if_pos (by rfl)) ?_
      refine wp_new 34 rfl _ z8 ?_
      (try simp only [Act.put, List.getElem_toArray, List.getElem_cons_zero, List.getElem_cons_succ, List.setIfInBounds_toArray, List.set_cons_zero, List.set_cons_succ])
      refine hK.out _ _ (hS0.alloc hS0.size _) (fun hS1 => ?_)
      (try simp only [Act.put, List.getElem_toArray, List.getElem_cons_zero, List.getElem_cons_succ, List.setIfInBounds_toArray, List.set_cons_zero, List.set_cons_succ])
      have hq0 : Blk (w4.drew.alloc (.cells (row 8 (b8 fun _ => 0)) 34)) w4.heap.size 34 (row 8 (b8 fun _ => 0)) := Blk.fresh w4.drew 34 (row 8 (b8 fun _ => 0))
      generalize hwa : w4.drew.alloc (.cells (row 8 (b8 fun _ => 0)) 34) = wa at hq0 hS1 ⊢
      clear hwa hK
      refine wpAnyH_ready (rs := [5]) (by kernel_rfl) (by simp) (AllReadyH.cons rfl (fun K hK => ?_) AllReadyH.nil)
      (try simp only [Act.put, List.getElem_toArray, List.getElem_cons_zero, List.getElem_cons_succ, List.setIfInBounds_toArray, List.set_cons_zero, List.set_cons_succ])
      refine Eq.mpr (if_pos (by rfl)) ?_
      go_simp
      refine (triple_any _ 24 _ HL.out (by omega) k c (!back) _ Hk.out Hby.out ((Blk.reads (hb1a.below hS1 hb1a.lt)).less (by omega))).mono ?_
      rintro e w3 ⟨rfl, hBc⟩
      refine hK.out _ _ (hS1.trans (hBc.mono hS1.size)) (fun hS3 => ?_)
      (try simp only [Act.put, List.getElem_toArray, List.getElem_cons_zero, List.getElem_cons_succ, List.setIfInBounds_toArray, List.set_cons_zero, List.set_cons_succ])
      refine wpAnyH_take (i := 6) (v := .tuple #[.agg (row 8 (b8 (tdes 24 k c (!back)))), .nilIface]) rfl (by kernel_rfl) (by kernel_rfl) (by kernel_rfl) (fun _ _ _ h => h) (Or.inl ⟨rfl, fun _ _ => exec_move _ rfl _ rfl⟩) hS3 ?_
      (try simp only [Act.put, List.getElem_toArray, List.getElem_cons_zero, List.getElem_cons_succ, List.setIfInBounds_toArray, List.set_cons_zero, List.set_cons_succ])
      refine wpAnyH_take (i := 7) (v := .agg (row 8 (b8 (tdes 24 k c (!back))))) rfl (by kernel_rfl) (by kernel_rfl) (by kernel_rfl) (fun _ _ _ h => h) (Or.inl ⟨rfl, fun _ _ => exec_extract _ 0 rfl _ rfl _ rfl⟩) hS3 ?_
      (try simp only [Act.put, List.getElem_toArray, List.getElem_cons_zero, List.getElem_cons_succ, List.setIfInBounds_toArray, List.set_cons_zero, List.set_cons_succ])
      refine wpAnyH_take (i := 8) (v := .nilIface) rfl (by kernel_rfl) (by kernel_rfl) (by kernel_rfl) (fun _ _ _ h => h) (Or.inl ⟨rfl, fun _ _ => exec_extract _ 1 rfl _ rfl _ rfl⟩) hS3 ?_
      (try simp only [Act.put, List.getElem_toArray, List.getElem_cons_zero, List.getElem_cons_succ, List.setIfInBounds_toArray, List.set_cons_zero, List.set_cons_succ])
      refine wpAnyH_ready (rs := [10]) (by kernel_rfl) (by simp) (AllReadyH.cons rfl (fun K hK => ?_) AllReadyH.nil)
      have hq := hq0.below hBc hq0.lt
      (try simp only [Act.put, List.getElem_toArray, List.getElem_cons_zero, List.getElem_cons_succ, List.setIfInBounds_toArray, List.set_cons_zero, List.set_cons_succ])
      refine Eq.mpr (if_pos (by rfl)) ?_
      refine wp_store_row 34 _ _ rfl w4.heap.size (row 8 (b8 (tdes 24 k c (!back)))) rfl rfl 34 _ hq (i8a' _) (by simp [row_size]) (one_b8 _ _) ?_
      (try simp only [Act.put, List.getElem_toArray, List.getElem_cons_zero, List.getElem_cons_succ, List.setIfInBounds_toArray, List.set_cons_zero, List.set_cons_succ])
      refine hK.out _ _ (below_setRow' hS3 (Nat.le_refl _) _) (fun hSz => ?_)
      (try simp only [Act.put, List.getElem_toArray, List.getElem_cons_zero, List.getElem_cons_succ, List.setIfInBounds_toArray, List.set_cons_zero, List.set_cons_succ])
      refine wpAnyH_take (i := 11) (v := .nilIface) rfl (by kernel_rfl) (by kernel_rfl) (by kernel_rfl) (fun _ _ _ h => h) (Or.inl ⟨rfl, fun _ _ => exec_assign _ rfl _ rfl⟩) hSz ?_
      (try simp only [Act.put, List.getElem_toArray, List.getElem_cons_zero, List.getElem_cons_succ, List.setIfInBounds_toArray, List.set_cons_zero, List.set_cons_succ])
      refine wpAnyH_done (by kernel_rfl) ?_ _
      clear hK
      have hp : Past w4 34 (row 8 (b8 (tdes 24 k c (!back)))) _ _ := ⟨hSz, hq.setRow _, Nat.le_refl _⟩
      clear hS0 hS1 hS3 hSz hBc hq hq0
      generalize w3.setRow w4.heap.size (row 8 (b8 (tdes 24 k c (!back)))) = wX at hp ⊢
      have hp2 : ∃ g, g = w4.heap.size := ⟨_, rfl⟩
      obtain ⟨gX, hgX⟩ := hp2
      rw [← hgX] at ⊢
      exact key wX gX (hgX ▸ hp)
  intro w6 g6 ⟨hw6B, hw6b, hw6g⟩
  try dsimp only
  have hb2b := hb2a.below hw6B hb2a.lt
  have hB6 := hB4.trans (hw6B.mono hB4.size)
  have hL := hid (Hg.out.below hB6)
  clear hb1a hb2a hB4 hw6B hw6g hw4b
  have HE1 : Hid (eqB 8 (tdes 24 k c (!back)) b = true) := hid (eqB_true HE.out)
  generalize tdes 24 k c (!back) = d at *
  go_wp2_with fail
  refine (awake_any _ hL.out).mono ?_
  rintro e w7 ⟨rfl, hB7⟩
  have hb2c := hb2b.below hB7 hb2b.lt
  have hdc := hw6b.below hB7 hw6b.lt
  have hB8 := hB6.trans (hB7.mono hB6.size)
  clear hb2b hw6b hB6 hB7
  go_wp2_with (first
    | ((with_reducible refine wpg_val ?_ _ (exec_load 34 _ rfl _ rfl 34 8 _ hb2c 5 Tryd.underlying34 i8a) ?_); exact rfl)
    | ((with_reducible refine wpg_val ?_ _ (exec_load 34 _ rfl _ rfl 34 8 _ hdc 5 Tryd.underlying34 i8a) ?_); exact rfl)
    | ((with_reducible refine wpg_val ?_ _ (exec_eqT 34 _ _ _ rfl 8 _ _ rfl rfl true HE1.out 5 Tryd.underlying34 Tryd.underlying5 i8 eqA8) ?_); exact rfl))
  go_ret
  exact ⟨rfl, hB8⟩
theorem desBack_walk (k b : Nat → Nat) (wh : Nat) (back : Bool) (w : World) (hg : As.Laid w) (hk : ∀ i, i < 24 → k i < 256) (hb : ∀ i, i < 8 → b i < 256) (hwh : wh < 256) :
    Calls Tryd.prog 7 #[.agg (row 24 (b8 k)), .agg (row 8 (b8 b)), .int .u8 wh, .bool back] w fun e w' => e = .returned (.bool true) ∧ Below w.heap.size w w' := by
  rcases (show wh % 3 = 0 ∨ wh % 3 = 1 ∨ wh % 3 = 2 by omega) with h | h | h
  · exact desBack_8 k b wh back w hg hk hb hwh h
  · exact desBack_16 k b wh back w hg hk hb hwh h
  · exact desBack_24 k b wh back w hg hk hb hwh h
end Go.Proofs.YtknjboflkclglaaDoor.Des
