/-
  'awake' of layer 2's statements returns true: the chapter's example, and a key of another length.
-/
import Derived.Test.YtlcllolfadlgfaaDoorShort02
import Derived.Test.YtlcllolfadlgfaaDoorAs
import Derived.Test.YtlcllolfadlgfaaDoorAesExample
import Derived.Deep.RegionHeld3
namespace Go.Proofs.YtlcllolfadlgfaaDoor.Aes
open Go.ChangeShapes Go.WideShapes Go.ChangeAt Go.RowKit Mem

def blk17 (k : Nat) : Nat → Nat := fun j => if j < k then 17 * j else 0
theorem id_step (k : Nat) : ∀ i, i < (k + 1) * 1 → cat (k * 1) (fun i => i) (fun _ => k) i = i := by
  intro i hi
  unfold cat
  by_cases h : i < k * 1
  · rw [if_pos h]
  · rw [if_neg h]; show k = i; omega
set_option linter.unusedSimpArgs false in
set_option maxRecDepth 100000 in
set_option maxHeartbeats 4000000 in
theorem awake_any (w : World) (hg : As.Laid w) :
    Calls Tryd.prog 8 #[] w fun e w' => e = .returned (.bool true) ∧ Below w.heap.size w w' := by
  have Hg := hid hg
  clear hg
  go_enter Tryd.func8, Tryd.ntmps8
  go_wp2_with (with_reducible refine wpl_alloc rfl 23 rfl _ z16 ?_)
  go_loopw [1, 3] (fun v i wr => ∃ (k : Nat), k ≤ 16 ∧ i = .int .i64 k ∧ Own wr (w.heap.size + 1) 5 1 v k (fun i => i) ∧ Blk wr w.heap.size 23 (row 16 (b8 (blk17 k))) ∧ Below w.heap.size w wr ∧ w.heap.size + 1 ≤ wr.heap.size) (fun _ i _ => 16 - (intOf i).toNat)
  case atStart => exact ⟨0, by omega, rfl, Own.nil _ _ _ _ _, Blk.fresh _ _ _, (Below.refl _ _).alloc (Nat.le_refl _) _, by simp⟩
  case round =>
    obtain ⟨k, hk, rfl, ho, hb, hB, hsz⟩ := hrel
    by_cases hlt : k < 16
    · go_wp2_with (at_builtin; refine wpl_app rfl _ _ 22 rfl (w.heap.size + 1) 5 1 (.int .u8 0) Tryd.underlying22 info8 rfl (by omega) _ k _ rfl ho 1 (fun _ => k) _ (row1 _ _ (by show _ = ((k : Nat) : Int); omega)) rfl (by omega) hsz ?_)
      intro v' w1 ho1 hB1
      have ho2 : Own w1 (w.heap.size + 1) 5 1 v' (k + 1) (fun i => i) := ho1.ext (fun i hi => by have := id_step k i hi; rwa [Nat.mul_one] at this)
      have hB2 := hB.trans (hB1.mono (by omega))
      have hs2 := Nat.le_trans hsz hB1.size
      have hb2 := hb.below hB1 (by omega)
      clear ho ho1 hB hB1 hb
      go_wp2_with (first
        | (with_reducible refine wpl_at rfl 23 _ _ rfl _ rfl .i64 _ rfl k rfl 16 5 Tryd.underlying23 hlt i8 ?_)
        | (with_reducible refine wpl_st rfl 5 _ _ rfl _ rfl .u8 _ rfl i8 _ (hb2.val k hlt) (hb2.free k) ?_))
      go_round
      case rel =>
        refine ⟨k + 1, by omega, val_int (by omega), ho2.setBelow (by simp) _, ?_, hB2.setCell (by simp) _, by simpa using hs2⟩
        have := hb2.put k (17 * k)
        rw [row_b8_ext (g := blk17 (k + 1)) (fun j hj => by
          unfold blk17
          by_cases h : j = k
          · subst h; rw [upd_same, if_pos (by omega)]
          · rw [upd_other _ _ _ _ h]
            by_cases h2 : j < k
            · rw [if_pos h2, if_pos (by omega)]
            · rw [if_neg h2, if_neg (by omega)])] at this
        rw [show (17 * (k : Int)) = ((17 * k : Nat) : Int) by omega]
        exact this
      case measure => simp [intOf]; omega
    · obtain rfl : k = 16 := by omega
      rcases ho.form with ⟨_, h0⟩ | ⟨g, c, cur, rfl, hgb, hgl, hcap, hbg, _, _⟩
      · omega
      have hR := ho.reads
      have hc1 : ¬ c = 1 := by omega
      have Hb17 : Hid (By16 (blk17 16)) := hid (fun i hi => by unfold blk17; rw [if_pos hi]; omega)
      clear ho hbg
      go_wp2_with (with_reducible refine wpl_load rfl 23 _ rfl _ rfl 23 _ hb 16 5 Tryd.underlying23 (i16' _) ?_)
      refine (enc_any _ 16 c (.inl rfl) (fun i => i) (blk17 16) _ (fun i hi => by omega) Hb17.out hR).mono ?_
      rintro e w1 ⟨rfl, hB1⟩
      have hb1 := (hb.below hB1 hb.lt).alloc (.cells (row 16 (b8 (enc (words 16 fun i => i) (rnd 16) (blk17 16)))) 23)
      have hc := Blk.fresh w1 23 (row 16 (b8 (enc (words 16 fun i => i) (rnd 16) (blk17 16))))
      have hB2 := (hB.trans (hB1.mono hB.size)).alloc (by have := hB.size; have := hB1.size; omega) (.cells (row 16 (b8 (enc (words 16 fun i => i) (rnd 16) (blk17 16)))) 23)
      have hlt1 : w.heap.size < w1.heap.size := by have := hB1.size; omega
      clear hb hB1 hB hR hsz hgl hgb
      go_wp2_with (first | (with_reducible refine wpl_alloc rfl 23 rfl _ z16 ?_) | (with_reducible refine wpl_store_new rfl 23 _ _ rfl w1 _ 16 _ rfl rfl 23 i16 (row_size _ _) ?_))
      generalize w1.alloc (.cells (row 16 (b8 (enc (words 16 fun i => i) (rnd 16) (blk17 16)))) 23) = w2 at *
      have hlt2 : w.heap.size < w2.heap.size := hb1.lt
      have E17 : Hid (∀ i, i < 16 → enc (words 16 fun i => i) (rnd 16) (blk17 16) i = enc (words 16 fun i => i) (rnd 16) (fun i => 17 * i) i) :=
        hid (fun i hi => encTo_ext (N := 10) (n := 176) (fun _ _ => rfl) (by omega) (fun j hj => by unfold blk17; rw [if_pos hj]) 10 (by omega) i hi)
      refine wp_region_held_drew (S := fun w' => Blk w' w.heap.size 23 (row 16 (b8 (blk17 16))) ∧ Below w2.heap.size w2 w') (by kernel_rfl) ⟨hb1, (Below.refl _ _).drew⟩ (fun hS0 => ?_)
      refine wpAnyH_take (i := 0) (v := .slice (some ⟨g, 0, none⟩) 16 c) rfl (by kernel_rfl) (by kernel_rfl) (by kernel_rfl) (fun _ _ _ h => h) (Or.inl ⟨rfl, fun _ _ => exec_move _ rfl _ rfl⟩) hS0 ?_
      (try simp only [Act.put, List.getElem_toArray, List.getElem_cons_zero, List.getElem_cons_succ, List.setIfInBounds_toArray, List.set_cons_zero, List.set_cons_succ])
      refine wpAnyH_take (i := 1) (v := .slice (some ⟨g, 1, none⟩) 15 (c - 1)) rfl (by kernel_rfl) (by kernel_rfl) (by kernel_rfl) (fun _ _ _ h => h) (Or.inl ⟨rfl, fun W _ => by go_simp⟩) hS0 ?_
      (try simp only [Act.put, List.getElem_toArray, List.getElem_cons_zero, List.getElem_cons_succ, List.setIfInBounds_toArray, List.set_cons_zero, List.set_cons_succ])
      refine wpAnyH_take (i := 2) (v := .agg (row 16 (b8 (blk17 16)))) rfl (by kernel_rfl) (by kernel_rfl) (by kernel_rfl) (fun _ _ _ h => h) (Or.inl ⟨rfl, fun W hW => exec_load 23 _ rfl w.heap.size rfl 23 16 _ hW.1 5 Tryd.underlying23 i16⟩) hS0 ?_
      (try simp only [Act.put, List.getElem_toArray, List.getElem_cons_zero, List.getElem_cons_succ, List.setIfInBounds_toArray, List.set_cons_zero, List.set_cons_succ])
      refine wpAnyH_ready (rs := [3, 7]) (by kernel_rfl) (by simp) ?_
      refine AllReadyH.cons rfl (fun K hK => ?_) (AllReadyH.cons rfl (fun K hK => ?_) AllReadyH.nil)
      · (try simp only [Act.put, List.getElem_toArray, List.getElem_cons_zero, List.getElem_cons_succ, List.setIfInBounds_toArray, List.set_cons_zero, List.set_cons_succ])
        refine Eq.mpr (if_pos (by rfl)) ?_
        go_simp
        refine (enc_bad _ 15 _ rfl _ _).mono ?_
        rintro e w3 ⟨rfl, hB3⟩
        refine hK.out _ _ ⟨hS0.1.below hB3 hS0.1.lt, hS0.2.trans (hB3.mono hS0.2.size)⟩ (fun hS3 => ?_)
        (try simp only [Act.put, List.getElem_toArray, List.getElem_cons_zero, List.getElem_cons_succ, List.setIfInBounds_toArray, List.set_cons_zero, List.set_cons_succ])
        refine wpAnyH_take (i := 4) (v := .tuple #[.agg (row 16 (b8 fun _ => 0)), .iface 61 (.int .i64 2)]) rfl (by kernel_rfl) (by kernel_rfl) (by kernel_rfl) (fun _ _ _ h => h) (Or.inl ⟨rfl, fun _ _ => exec_move _ rfl _ rfl⟩) hS3 ?_
        (try simp only [Act.put, List.getElem_toArray, List.getElem_cons_zero, List.getElem_cons_succ, List.setIfInBounds_toArray, List.set_cons_zero, List.set_cons_succ])
        refine wpAnyH_take (i := 5) (v := .agg (row 16 (b8 fun _ => 0))) rfl (by kernel_rfl) (by kernel_rfl) (by kernel_rfl) (fun _ _ _ h => h) (Or.inl ⟨rfl, fun _ _ => exec_extract _ 0 rfl _ rfl _ rfl⟩) hS3 ?_
        (try simp only [Act.put, List.getElem_toArray, List.getElem_cons_zero, List.getElem_cons_succ, List.setIfInBounds_toArray, List.set_cons_zero, List.set_cons_succ])
        refine wpAnyH_take (i := 6) (v := .iface 61 (.int .i64 2)) rfl (by kernel_rfl) (by kernel_rfl) (by kernel_rfl) (fun _ _ _ h => h) (Or.inl ⟨rfl, fun _ _ => exec_extract _ 1 rfl _ rfl _ rfl⟩) hS3 ?_
        (try simp only [Act.put, List.getElem_toArray, List.getElem_cons_zero, List.getElem_cons_succ, List.setIfInBounds_toArray, List.set_cons_zero, List.set_cons_succ])
        refine wpAnyH_ready (rs := [7]) (by kernel_rfl) (by simp) (AllReadyH.cons rfl (fun K hK => ?_) AllReadyH.nil)
        (try simp only [Act.put, List.getElem_toArray, List.getElem_cons_zero, List.getElem_cons_succ, List.setIfInBounds_toArray, List.set_cons_zero, List.set_cons_succ])
        refine Eq.mpr (if_pos (by rfl)) ?_
        refine wp_new 23 rfl _ z16 ?_
        (try simp only [Act.put, List.getElem_toArray, List.getElem_cons_zero, List.getElem_cons_succ, List.setIfInBounds_toArray, List.set_cons_zero, List.set_cons_succ])
        refine hK.out _ _ ⟨hS3.1.alloc _, hS3.2.alloc hS3.2.size _⟩ (fun hS4 => ?_)
        (try simp only [Act.put, List.getElem_toArray, List.getElem_cons_zero, List.getElem_cons_succ, List.setIfInBounds_toArray, List.set_cons_zero, List.set_cons_succ])
        refine wpAnyH_ready (rs := [8]) (by kernel_rfl) (by simp) (AllReadyH.cons rfl (fun K hK => ?_) AllReadyH.nil)
        (try simp only [Act.put, List.getElem_toArray, List.getElem_cons_zero, List.getElem_cons_succ, List.setIfInBounds_toArray, List.set_cons_zero, List.set_cons_succ])
        refine Eq.mpr (if_pos (by rfl)) ?_
        refine wp_store_row 23 _ _ rfl w3.heap.size (row 16 (b8 fun _ => 0)) rfl rfl 23 _ (Blk.fresh _ _ _) (i16' _) rfl (one_b8 _ _) ?_
        (try simp only [Act.put, List.getElem_toArray, List.getElem_cons_zero, List.getElem_cons_succ, List.setIfInBounds_toArray, List.set_cons_zero, List.set_cons_succ])
        refine hK.out _ _ ⟨hS4.1.otherRow _ _ (by have := hS3.1.lt; omega), below_setRow' hS4.2 hS3.2.size _⟩ (fun hSz => ?_)
        (try simp only [Act.put, List.getElem_toArray, List.getElem_cons_zero, List.getElem_cons_succ, List.setIfInBounds_toArray, List.set_cons_zero, List.set_cons_succ])
        refine wpAnyH_take (i := 9) (v := .iface 61 (.int .i64 2)) rfl (by kernel_rfl) (by kernel_rfl) (by kernel_rfl) (fun _ _ _ h => h) (Or.inl ⟨rfl, fun _ _ => exec_assign _ rfl _ rfl⟩) hSz ?_
        (try simp only [Act.put, List.getElem_toArray, List.getElem_cons_zero, List.getElem_cons_succ, List.setIfInBounds_toArray, List.set_cons_zero, List.set_cons_succ])
        refine wpAnyH_done (by kernel_rfl) ?_ _
        have hcW := hc.below hSz.2 hc.lt
        have hBW := hB2.trans (hSz.2.mono hB2.size)
        have hLW := hid (Hg.out.below hBW)
        have e0 := hcW.val 0 (by omega)
        rw [E17.out 0 (by omega), ex_c0, show ((105 : Nat) : Int) = 105 from rfl] at e0
        have e1 := hcW.val 1 (by omega)
        rw [E17.out 1 (by omega), ex_c1, show ((196 : Nat) : Int) = 196 from rfl] at e1
        have e15 := hcW.val 15 (by omega)
        rw [E17.out 15 (by omega), ex_c15, show ((90 : Nat) : Int) = 90 from rfl] at e15
        clear hS0 hSz hcW hB2 hB3
        generalize hWx : (w3.alloc (.cells (row 16 (b8 fun _ => 0)) 23)).setRow w3.heap.size (row 16 (b8 fun _ => 0)) = Wx at *
        clear hWx
        go_wp2_with (go_at_call 13; refine (As.code_hit 2 _ hLW.out).mono ?_; rintro e w' ⟨rfl, hBz⟩)
        go_ret
        exact ⟨rfl, hBW.trans (hBz.mono hBW.size)⟩
      · (try simp only [Act.put, List.getElem_toArray, List.getElem_cons_zero, List.getElem_cons_succ, List.setIfInBounds_toArray, List.set_cons_zero, List.set_cons_succ])
        refine Eq.mpr (if_pos (by rfl)) ?_
        refine wp_new 23 rfl _ z16 ?_
        (try simp only [Act.put, List.getElem_toArray, List.getElem_cons_zero, List.getElem_cons_succ, List.setIfInBounds_toArray, List.set_cons_zero, List.set_cons_succ])
        refine hK.out _ _ ⟨hS0.1.alloc _, hS0.2.alloc hS0.2.size _⟩ (fun hS1 => ?_)
        (try simp only [Act.put, List.getElem_toArray, List.getElem_cons_zero, List.getElem_cons_succ, List.setIfInBounds_toArray, List.set_cons_zero, List.set_cons_succ])
        have hq0 : Blk (w2.drew.alloc (.cells (row 16 (b8 fun _ => 0)) 23)) w2.heap.size 23 (row 16 (b8 fun _ => 0)) := Blk.fresh w2.drew 23 (row 16 (b8 fun _ => 0))
        generalize hwa : w2.drew.alloc (.cells (row 16 (b8 fun _ => 0)) 23) = wa at *
        clear hwa hK
        refine wpAnyH_ready (rs := [3]) (by kernel_rfl) (by simp) (AllReadyH.cons rfl (fun K hK => ?_) AllReadyH.nil)
        (try simp only [Act.put, List.getElem_toArray, List.getElem_cons_zero, List.getElem_cons_succ, List.setIfInBounds_toArray, List.set_cons_zero, List.set_cons_succ])
        refine Eq.mpr (if_pos (by rfl)) ?_
        go_simp
        refine (enc_bad _ 15 _ rfl _ _).mono ?_
        rintro e w3 ⟨rfl, hB3⟩
        refine hK.out _ _ ⟨hS1.1.below hB3 hS1.1.lt, hS1.2.trans (hB3.mono hS1.2.size)⟩ (fun hS3 => ?_)
        (try simp only [Act.put, List.getElem_toArray, List.getElem_cons_zero, List.getElem_cons_succ, List.setIfInBounds_toArray, List.set_cons_zero, List.set_cons_succ])
        refine wpAnyH_take (i := 4) (v := .tuple #[.agg (row 16 (b8 fun _ => 0)), .iface 61 (.int .i64 2)]) rfl (by kernel_rfl) (by kernel_rfl) (by kernel_rfl) (fun _ _ _ h => h) (Or.inl ⟨rfl, fun _ _ => exec_move _ rfl _ rfl⟩) hS3 ?_
        (try simp only [Act.put, List.getElem_toArray, List.getElem_cons_zero, List.getElem_cons_succ, List.setIfInBounds_toArray, List.set_cons_zero, List.set_cons_succ])
        refine wpAnyH_take (i := 5) (v := .agg (row 16 (b8 fun _ => 0))) rfl (by kernel_rfl) (by kernel_rfl) (by kernel_rfl) (fun _ _ _ h => h) (Or.inl ⟨rfl, fun _ _ => exec_extract _ 0 rfl _ rfl _ rfl⟩) hS3 ?_
        (try simp only [Act.put, List.getElem_toArray, List.getElem_cons_zero, List.getElem_cons_succ, List.setIfInBounds_toArray, List.set_cons_zero, List.set_cons_succ])
        refine wpAnyH_take (i := 6) (v := .iface 61 (.int .i64 2)) rfl (by kernel_rfl) (by kernel_rfl) (by kernel_rfl) (fun _ _ _ h => h) (Or.inl ⟨rfl, fun _ _ => exec_extract _ 1 rfl _ rfl _ rfl⟩) hS3 ?_
        (try simp only [Act.put, List.getElem_toArray, List.getElem_cons_zero, List.getElem_cons_succ, List.setIfInBounds_toArray, List.set_cons_zero, List.set_cons_succ])
        refine wpAnyH_ready (rs := [8]) (by kernel_rfl) (by simp) (AllReadyH.cons rfl (fun K hK => ?_) AllReadyH.nil)
        have hq := hq0.below hB3 hq0.lt
        (try simp only [Act.put, List.getElem_toArray, List.getElem_cons_zero, List.getElem_cons_succ, List.setIfInBounds_toArray, List.set_cons_zero, List.set_cons_succ])
        refine Eq.mpr (if_pos (by rfl)) ?_
        refine wp_store_row 23 _ _ rfl w2.heap.size (row 16 (b8 fun _ => 0)) rfl rfl 23 _ hq (i16' _) rfl (one_b8 _ _) ?_
        (try simp only [Act.put, List.getElem_toArray, List.getElem_cons_zero, List.getElem_cons_succ, List.setIfInBounds_toArray, List.set_cons_zero, List.set_cons_succ])
        refine hK.out _ _ ⟨hS3.1.otherRow _ _ (by omega), below_setRow' hS3.2 (Nat.le_refl _) _⟩ (fun hSz => ?_)
        (try simp only [Act.put, List.getElem_toArray, List.getElem_cons_zero, List.getElem_cons_succ, List.setIfInBounds_toArray, List.set_cons_zero, List.set_cons_succ])
        refine wpAnyH_take (i := 9) (v := .iface 61 (.int .i64 2)) rfl (by kernel_rfl) (by kernel_rfl) (by kernel_rfl) (fun _ _ _ h => h) (Or.inl ⟨rfl, fun _ _ => exec_assign _ rfl _ rfl⟩) hSz ?_
        (try simp only [Act.put, List.getElem_toArray, List.getElem_cons_zero, List.getElem_cons_succ, List.setIfInBounds_toArray, List.set_cons_zero, List.set_cons_succ])
        clear hq hq0
        refine wpAnyH_done (by kernel_rfl) ?_ _
        have hcW := hc.below hSz.2 hc.lt
        have hBW := hB2.trans (hSz.2.mono hB2.size)
        have hLW := hid (Hg.out.below hBW)
        have e0 := hcW.val 0 (by omega)
        rw [E17.out 0 (by omega), ex_c0, show ((105 : Nat) : Int) = 105 from rfl] at e0
        have e1 := hcW.val 1 (by omega)
        rw [E17.out 1 (by omega), ex_c1, show ((196 : Nat) : Int) = 196 from rfl] at e1
        have e15 := hcW.val 15 (by omega)
        rw [E17.out 15 (by omega), ex_c15, show ((90 : Nat) : Int) = 90 from rfl] at e15
        clear hS0 hSz hcW hB2 hB3
        generalize hWx : w3.setRow w2.heap.size (row 16 (b8 fun _ => 0)) = Wx at *
        clear hWx
        go_wp2_with (go_at_call 13; refine (As.code_hit 2 _ hLW.out).mono ?_; rintro e w' ⟨rfl, hBz⟩)
        go_ret
        exact ⟨rfl, hBW.trans (hBz.mono hBW.size)⟩
end Go.Proofs.YtlcllolfadlgfaaDoor.Aes
