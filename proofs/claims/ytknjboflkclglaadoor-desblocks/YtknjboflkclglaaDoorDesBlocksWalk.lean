/-
  DesBlocks returns true: its walk.
-/
import Derived.Test.YtknjboflkclglaaDoorAwake03
import Derived.Test.YtknjboflkclglaaDoorRef03B
import Derived.Test.YtknjboflkclglaaDoorSame
namespace Go.Proofs.YtknjboflkclglaaDoor.Des
open Go.ChangeShapes Go.WideShapes Go.ChangeAt Go.RowKit Mem
set_option linter.unusedSimpArgs false in
set_option maxRecDepth 100000 in
set_option maxHeartbeats 4000000 in
theorem desBlocks_walk (f b : Nat → Nat) (back : Bool) (w : World) (hg : As.Laid w) (hf : ∀ i, i < 8 → f i < 256) (hb : ∀ i, i < 8 → b i < 256) :
    Calls Tryd.prog 5 #[.agg (row 8 (b8 f)), .agg (row 8 (b8 b)), .bool back] w fun e w' => e = .returned (.bool true) ∧ Below w.heap.size w w' := by
  have Hf : Hid (By8 f) := hid hf
  have Hb : Hid (By8 b) := hid hb
  have Hg := hid hg
  clear hf hb hg
  have hb1 := (Blk.fresh w 34 (row 8 (b8 f))).alloc (.cells (row 8 (b8 b)) 34)
  have hb3 := two_new w (.cells (row 8 (b8 f)) 34) (row 8 (b8 b)) 34
  have hB1 : Below w.heap.size w ((w.alloc (.cells (row 8 (b8 f)) 34)).alloc (.cells (row 8 (b8 b)) 34)) := ((Below.refl _ _).alloc (Nat.le_refl _) _).alloc (by simp) _
  go_enter Tryd.func5, Tryd.ntmps5
  go_wp2_with (first
    | (with_reducible refine wpl_load rfl 34 _ rfl _ rfl 34 _ hb1 8 5 Tryd.underlying34 (i8a' _) ?_)
    | (with_reducible refine wpl_load rfl 34 _ rfl _ rfl 34 _ hb3 8 5 Tryd.underlying34 (i8a' _) ?_))
  refine (block_any f b back Hf.out Hb.out _).mono ?_
  rintro e w1 ⟨rfl, hBc⟩
  have hf2 := (hb1.below hBc hb1.lt).alloc (.cells (row 8 (b8 (des f b back))) 34)
  have hb2 := (hb3.below hBc hb3.lt).alloc (.cells (row 8 (b8 (des f b back))) 34)
  have hc2 := Blk.fresh w1 34 (row 8 (b8 (des f b back)))
  have hBd := hB1.trans (hBc.mono hB1.size)
  have hB2 := hBd.alloc hBd.size (.cells (row 8 (b8 (des f b back))) 34)
  clear hb1 hb3 hB1 hBc hBd
  go_wp2_with (first
    | (with_reducible refine wpl_alloc rfl 34 rfl _ z8 ?_)
    | (with_reducible refine wpl_store_new rfl 34 _ _ rfl _ _ 8 _ rfl rfl 34 i8a (row_size _ _) ?_))
  generalize w1.alloc (.cells (row 8 (b8 (des f b back))) 34) = w2 at *
  generalize w1.heap.size = gc at *
  refine wp_region_held_drew (S := fun W => Below w2.heap.size w2 W) (by kernel_rfl) (Below.refl _ _).drew (fun hS0 => ?_)
  refine wpAnyH_ready (rs := [0]) (by kernel_rfl) (by simp) (AllReadyH.cons rfl (fun K hK => ?_) AllReadyH.nil)
  (try simp only [Act.put, List.getElem_toArray, List.getElem_cons_zero, List.getElem_cons_succ, List.setIfInBounds_toArray, List.set_cons_zero, List.set_cons_succ])
  refine Eq.mpr (if_pos (by rfl)) ?_
  go_simp
  refine (awake_any _ (Hg.out.below (hB2.trans (hS0.mono hB2.size)))).mono ?_
  rintro e wx ⟨rfl, hBx⟩
  refine hK.out _ _ (hS0.trans (hBx.mono hS0.size)) (fun hS1 => ?_)
  (try simp only [Act.put, List.getElem_toArray, List.getElem_cons_zero, List.getElem_cons_succ, List.setIfInBounds_toArray, List.set_cons_zero, List.set_cons_succ])
  clear hK K
  refine wpAnyH_take (i := 1) (v := .bool true) rfl (by kernel_rfl) (by kernel_rfl) (by kernel_rfl) (fun _ _ _ h => h) (Or.inl ⟨rfl, fun _ _ => exec_move _ rfl _ rfl⟩) hS1 ?_
  (try simp only [Act.put, List.getElem_toArray, List.getElem_cons_zero, List.getElem_cons_succ, List.setIfInBounds_toArray, List.set_cons_zero, List.set_cons_succ])
  refine wpAnyH_take (i := 2) (v := .slice (some ⟨gc, 0, none⟩) 8 8) rfl (by kernel_rfl) (by kernel_rfl) (by kernel_rfl) (fun _ _ _ h => h) (Or.inl ⟨rfl, fun W _ => by go_simp⟩) hS1 ?_
  (try simp only [Act.put, List.getElem_toArray, List.getElem_cons_zero, List.getElem_cons_succ, List.setIfInBounds_toArray, List.set_cons_zero, List.set_cons_succ])
  refine wpAnyH_take (i := 3) (v := .slice (some ⟨w.heap.size, 0, none⟩) 8 8) rfl (by kernel_rfl) (by kernel_rfl) (by kernel_rfl) (fun _ _ _ h => h) (Or.inl ⟨rfl, fun W _ => by go_simp⟩) hS1 ?_
  (try simp only [Act.put, List.getElem_toArray, List.getElem_cons_zero, List.getElem_cons_succ, List.setIfInBounds_toArray, List.set_cons_zero, List.set_cons_succ])
  refine wpAnyH_take (i := 4) (v := .slice (some ⟨w.heap.size + 1, 0, none⟩) 8 8) rfl (by kernel_rfl) (by kernel_rfl) (by kernel_rfl) (fun _ _ _ h => h) (Or.inl ⟨rfl, fun W _ => by go_simp⟩) hS1 ?_
  (try simp only [Act.put, List.getElem_toArray, List.getElem_cons_zero, List.getElem_cons_succ, List.setIfInBounds_toArray, List.set_cons_zero, List.set_cons_succ])
  refine wpAnyH_take (i := 5) (v := .bool back) rfl (by kernel_rfl) (by kernel_rfl) (by kernel_rfl) (fun _ _ _ h => h) (Or.inl ⟨rfl, fun _ _ => exec_move _ rfl _ rfl⟩) hS1 ?_
  (try simp only [Act.put, List.getElem_toArray, List.getElem_cons_zero, List.getElem_cons_succ, List.setIfInBounds_toArray, List.set_cons_zero, List.set_cons_succ])
  refine wpAnyH_ready (rs := [6]) (by kernel_rfl) (by simp) (AllReadyH.cons rfl (fun K hK => ?_) AllReadyH.nil)
  (try simp only [Act.put, List.getElem_toArray, List.getElem_cons_zero, List.getElem_cons_succ, List.setIfInBounds_toArray, List.set_cons_zero, List.set_cons_succ])
  refine Eq.mpr (if_pos (by rfl)) ?_
  go_simp
  refine (rblock_any _ _ _ _ f b back Hf.out Hb.out _ (Blk.reads (hf2.below hS1 hf2.lt)) (Blk.reads (hb2.below hS1 hb2.lt))).mono ?_
  rintro e wy ⟨A', c', rfl, hc', hL', hBy⟩
  refine hK.out _ _ (hS1.trans (hBy.mono hS1.size)) (fun hS2 => ?_)
  (try simp only [Act.put, List.getElem_toArray, List.getElem_cons_zero, List.getElem_cons_succ, List.setIfInBounds_toArray, List.set_cons_zero, List.set_cons_succ])
  clear hK K
  refine wpAnyH_ready (rs := [7]) (by kernel_rfl) (by simp) (AllReadyH.cons rfl (fun K hK => ?_) AllReadyH.nil)
  (try simp only [Act.put, List.getElem_toArray, List.getElem_cons_zero, List.getElem_cons_succ, List.setIfInBounds_toArray, List.set_cons_zero, List.set_cons_succ])
  refine Eq.mpr (if_pos (by rfl)) ?_
  go_simp
  refine (same_yes _ _ 8 8 c' (des f b back) _ (by omega) (Blk.reads (hc2.below hS2 hc2.lt)) (Lst_reads hL')).mono ?_
  rintro e wz ⟨rfl, hBz⟩
  refine hK.out _ _ (hS2.trans (hBz.mono hS2.size)) (fun hS3 => ?_)
  (try simp only [Act.put, List.getElem_toArray, List.getElem_cons_zero, List.getElem_cons_succ, List.setIfInBounds_toArray, List.set_cons_zero, List.set_cons_succ])
  clear hK K
  refine wpAnyH_take (i := 8) (v := .bool true) rfl (by kernel_rfl) (by kernel_rfl) (by kernel_rfl) (fun _ _ _ h => h) (Or.inl ⟨rfl, fun W _ => by go_simp⟩) hS3 ?_
  (try simp only [Act.put, List.getElem_toArray, List.getElem_cons_zero, List.getElem_cons_succ, List.setIfInBounds_toArray, List.set_cons_zero, List.set_cons_succ])
  refine wpAnyH_take (i := 9) (v := .bool true) rfl (by kernel_rfl) (by kernel_rfl) (by kernel_rfl) (fun _ _ _ h => h) (Or.inl ⟨rfl, fun _ _ => exec_assign _ rfl _ rfl⟩) hS3 ?_
  (try simp only [Act.put, List.getElem_toArray, List.getElem_cons_zero, List.getElem_cons_succ, List.setIfInBounds_toArray, List.set_cons_zero, List.set_cons_succ])
  refine wpAnyH_done (by kernel_rfl) ?_ _
  go_wp2_with fail
  go_ret
  exact ⟨rfl, hB2.trans (hS3.mono hB2.size)⟩
end Go.Proofs.YtknjboflkclglaaDoor.Des
