/-
  'awake' of layer 3's statements returns true: the chapter's example, and a key of another length.
-/
import Derived.Test.YtknjboflkclglaaDoorDesTriple
import Derived.Test.YtknjboflkclglaaDoorDesExample
import Derived.Test.YtknjboflkclglaaDoorAs
import Derived.Test.YtknjboflkclglaaDoorDraw
namespace Go.Proofs.YtknjboflkclglaaDoor.Des
open Go.ChangeShapes Go.WideShapes Go.ChangeAt Go.RowKit Mem
theorem eqA8 : Tryd.prog.eqGuardType Tryd.prog.depth 34 = false := by kernel_rfl
theorem exec_eqT {P : Program} {o : Oper} {a : Act} {w : World} (ty : TypeId) (x y : Operand) (rt : TypeId) (ho : o.op = .binOp .eql ty x y rt) (n : Nat) (f g : Nat → Nat) (hx : a.eval x = .agg (row n (b8 f))) (hy : a.eval y = .agg (row n (b8 g))) (r : Bool) (h : eqB n f g = r) (e : TypeId)
    (ht : P.underlying ty = some (.array n e)) (he : P.underlying e = some (.int .u8)) (hs : (P.info? e).map (·.size) = some 1) (hm : P.eqGuardType P.depth ty = false) :
    (execOp a.eval o).run P w = .ok (.value (.bool r)) w := by
  subst h; exact exec_eq ty x y rt ho n f g hx hy e ht he hs hm
set_option linter.unusedSimpArgs false in
set_option maxRecDepth 100000 in
set_option maxHeartbeats 4000000 in
theorem awake_any (w : World) (hg : As.Laid w) :
    Calls Tryd.prog 18 #[] w fun e w' => e = .returned (.bool true) ∧ Below w.heap.size w w' := by
  have Hg := hid hg
  clear hg
  have hb1 := (Blk.fresh w 34 (row 8 (b8 exK))).alloc (.cells (row 8 (b8 exB)) 34)
  have hb2 := two_new w (.cells (row 8 (b8 exK)) 34) (row 8 (b8 exB)) 34
  have hB2 : Below w.heap.size w ((w.alloc (.cells (row 8 (b8 exK)) 34)).alloc (.cells (row 8 (b8 exB)) 34)) := ((Below.refl _ _).alloc (Nat.le_refl _) _).alloc (by simp) _
  go_enter Tryd.func18, Tryd.ntmps18
  go_wp2_with (first
    | (with_reducible refine wpl_build rfl 34 [(0, .const (.int .u8 19)), (1, .const (.int .u8 52)), (2, .const (.int .u8 87)), (3, .const (.int .u8 121)), (4, .const (.int .u8 155)), (5, .const (.int .u8 188)), (6, .const (.int .u8 223)), (7, .const (.int .u8 241))] rfl (row 8 (b8 exK)) (by kernel_rfl) ?_)
    | (with_reducible refine wpl_build rfl 34 [(0, .const (.int .u8 1)), (1, .const (.int .u8 35)), (2, .const (.int .u8 69)), (3, .const (.int .u8 103)), (4, .const (.int .u8 137)), (5, .const (.int .u8 171)), (6, .const (.int .u8 205)), (7, .const (.int .u8 239))] rfl (row 8 (b8 exB)) (by kernel_rfl) ?_)
    | (with_reducible refine wpl_alloc rfl 34 rfl _ z8 ?_)
    | (with_reducible refine wpl_store_new rfl 34 _ _ rfl _ _ 8 _ rfl rfl 34 i8a (row_size _ _) ?_)
    | (with_reducible refine wpl_load rfl 34 _ rfl _ rfl 34 _ hb1 8 5 Tryd.underlying34 (i8a' _) ?_)
    | (with_reducible refine wpl_load rfl 34 _ rfl _ rfl 34 _ hb2 8 5 Tryd.underlying34 (i8a' _) ?_)
    | (with_reducible refine wpl_load rfl 34 _ rfl _ rfl 34 _ (Blk.fresh _ _ _) 8 5 Tryd.underlying34 (i8a' _) ?_))
  refine (block_any exK exB false exK_by exB_by _).mono ?_
  rintro e w1 ⟨rfl, hB1⟩
  have hb1a := (hb1.below hB1 hb1.lt).alloc (.cells (row 8 (b8 (des exK exB false))) 34)
  have hb2a := (hb2.below hB1 hb2.lt).alloc (.cells (row 8 (b8 (des exK exB false))) 34)
  have hc := Blk.fresh w1 34 (row 8 (b8 (des exK exB false)))
  have hB3 := hB2.trans (hB1.mono hB2.size)
  have hB4 := hB3.alloc hB3.size (.cells (row 8 (b8 (des exK exB false))) 34)
  clear hb1 hb2 hB2 hB1 hB3
  have Hd : Hid (∀ i, i < 8 → des exK exB false i = exC i) := hid ex_des
  generalize des exK exB false = cd at *
  go_wp2_with (first
    | (with_reducible refine wpl_alloc rfl 34 rfl _ z8 ?_)
    | (with_reducible refine wpl_store_new rfl 34 _ _ rfl w1 _ 8 _ rfl rfl 34 i8a (row_size _ _) ?_))
  generalize w1.alloc (.cells (row 8 (b8 cd)) 34) = w2 at *
  generalize w1.heap.size = gc at *
  apply suff (F := Past w2 34 (row 8 (b8 (tdes 8 exK exB false))))
  case h1 =>
    intro key
    refine wp_region_held_drew (S := fun W => Below w2.heap.size w2 W) (by kernel_rfl) (Below.refl _ _).drew (fun hS0 => ?_)
    refine wpAnyH_take (i := 0) (v := .slice (some ⟨w.heap.size, 0, none⟩) 8 8) rfl (by kernel_rfl) (by kernel_rfl) (by kernel_rfl) (fun _ _ _ h => h) (Or.inl ⟨rfl, fun W _ => by go_simp⟩) hS0 ?_
    (try simp only [Act.put, List.getElem_toArray, List.getElem_cons_zero, List.getElem_cons_succ, List.setIfInBounds_toArray, List.set_cons_zero, List.set_cons_succ])
    refine wpAnyH_take (i := 1) (v := .agg (row 8 (b8 exB))) rfl (by kernel_rfl) (by kernel_rfl) (by kernel_rfl) (fun _ _ _ h => h) (Or.inl ⟨rfl, fun W hW => exec_load 34 _ rfl _ rfl 34 8 _ (hb2a.below hW hb2a.lt) 5 Tryd.underlying34 i8a⟩) hS0 ?_
    (try simp only [Act.put, List.getElem_toArray, List.getElem_cons_zero, List.getElem_cons_succ, List.setIfInBounds_toArray, List.set_cons_zero, List.set_cons_succ])
    refine wpAnyH_ready (rs := [2, 6]) (by kernel_rfl) (by simp) ?_
    refine AllReadyH.cons rfl (fun K hK => ?_) (AllReadyH.cons rfl (fun K hK => ?_) AllReadyH.nil)
    · (try simp only [Act.put, List.getElem_toArray, List.getElem_cons_zero, List.getElem_cons_succ, List.setIfInBounds_toArray, List.set_cons_zero, List.set_cons_succ])
      refine Eq.mpr (if_pos (by rfl)) ?_
      go_simp
      refine (triple_any _ 8 _ (.inl rfl) (Nat.le_refl _) exK exB false _ exK_by exB_by (Blk.reads (hb1a.below hS0 hb1a.lt))).mono ?_
      rintro e w3 ⟨rfl, hBc⟩
      refine hK.out _ _ (hS0.trans (hBc.mono hS0.size)) (fun hS3 => ?_)
      (try simp only [Act.put, List.getElem_toArray, List.getElem_cons_zero, List.getElem_cons_succ, List.setIfInBounds_toArray, List.set_cons_zero, List.set_cons_succ])
      refine wpAnyH_take (i := 3) (v := .tuple #[.agg (row 8 (b8 (tdes 8 exK exB false))), .nilIface]) rfl (by kernel_rfl) (by kernel_rfl) (by kernel_rfl) (fun _ _ _ h => h) (Or.inl ⟨rfl, fun _ _ => exec_move _ rfl _ rfl⟩) hS3 ?_
      (try simp only [Act.put, List.getElem_toArray, List.getElem_cons_zero, List.getElem_cons_succ, List.setIfInBounds_toArray, List.set_cons_zero, List.set_cons_succ])
      refine wpAnyH_take (i := 4) (v := .agg (row 8 (b8 (tdes 8 exK exB false)))) rfl (by kernel_rfl) (by kernel_rfl) (by kernel_rfl) (fun _ _ _ h => h) (Or.inl ⟨rfl, fun _ _ => exec_extract _ 0 rfl _ rfl _ rfl⟩) hS3 ?_
      (try simp only [Act.put, List.getElem_toArray, List.getElem_cons_zero, List.getElem_cons_succ, List.setIfInBounds_toArray, List.set_cons_zero, List.set_cons_succ])
      refine wpAnyH_take (i := 5) (v := .nilIface) rfl (by kernel_rfl) (by kernel_rfl) (by kernel_rfl) (fun _ _ _ h => h) (Or.inl ⟨rfl, fun _ _ => exec_extract _ 1 rfl _ rfl _ rfl⟩) hS3 ?_
      (try simp only [Act.put, List.getElem_toArray, List.getElem_cons_zero, List.getElem_cons_succ, List.setIfInBounds_toArray, List.set_cons_zero, List.set_cons_succ])
      refine wpAnyH_ready (rs := [6]) (by kernel_rfl) (by simp) (AllReadyH.cons rfl (fun K hK => ?_) AllReadyH.nil)
      (try simp only [Act.put, List.getElem_toArray, List.getElem_cons_zero, List.getElem_cons_succ, List.setIfInBounds_toArray, List.set_cons_zero, List.set_cons_succ])
      refine Eq.mpr (if_pos (by rfl)) ?_
      refine wp_new 34 rfl _ z8 ?_
      (try simp only [Act.put, List.getElem_toArray, List.getElem_cons_zero, List.getElem_cons_succ, List.setIfInBounds_toArray, List.set_cons_zero, List.set_cons_succ])
      refine hK.out _ _ (hS3.alloc hS3.size _) (fun hS4 => ?_)
      (try simp only [Act.put, List.getElem_toArray, List.getElem_cons_zero, List.getElem_cons_succ, List.setIfInBounds_toArray, List.set_cons_zero, List.set_cons_succ])
      refine wpAnyH_ready (rs := [7]) (by kernel_rfl) (by simp) (AllReadyH.cons rfl (fun K hK => ?_) AllReadyH.nil)
      (try simp only [Act.put, List.getElem_toArray, List.getElem_cons_zero, List.getElem_cons_succ, List.setIfInBounds_toArray, List.set_cons_zero, List.set_cons_succ])
      refine Eq.mpr (if_pos (by rfl)) ?_
      refine wp_store_row 34 _ _ rfl w3.heap.size (row 8 (b8 (tdes 8 exK exB false))) rfl rfl 34 _ (Blk.fresh _ _ _) (i8a' _) (by simp [row_size]) (one_b8 _ _) ?_
      (try simp only [Act.put, List.getElem_toArray, List.getElem_cons_zero, List.getElem_cons_succ, List.setIfInBounds_toArray, List.set_cons_zero, List.set_cons_succ])
      refine hK.out _ _ (below_setRow' hS4 hS3.size _) (fun hSz => ?_)
      (try simp only [Act.put, List.getElem_toArray, List.getElem_cons_zero, List.getElem_cons_succ, List.setIfInBounds_toArray, List.set_cons_zero, List.set_cons_succ])
      refine wpAnyH_take (i := 8) (v := .nilIface) rfl (by kernel_rfl) (by kernel_rfl) (by kernel_rfl) (fun _ _ _ h => h) (Or.inl ⟨rfl, fun _ _ => exec_assign _ rfl _ rfl⟩) hSz ?_
      (try simp only [Act.put, List.getElem_toArray, List.getElem_cons_zero, List.getElem_cons_succ, List.setIfInBounds_toArray, List.set_cons_zero, List.set_cons_succ])
      refine wpAnyH_done (by kernel_rfl) ?_ _
      clear hK
      have hp : Past w2 34 (row 8 (b8 (tdes 8 exK exB false))) _ _ := ⟨hSz, (Blk.fresh w3 34 (row 8 (b8 fun _ => 0))).setRow (row 8 (b8 (tdes 8 exK exB false))), hS3.size⟩
      clear hS0 hS3 hS4 hSz hBc
      generalize (w3.alloc (.cells (row 8 (b8 fun _ => 0)) 34)).setRow w3.heap.size (row 8 (b8 (tdes 8 exK exB false))) = wX at hp ⊢
      generalize w3.heap.size = gX at hp ⊢
      exact key wX gX hp
    · (try simp only [Act.put, List.getElem_toArray, List.getElem_cons_zero, List.getElem_cons_succ, List.setIfInBounds_toArray, List.set_cons_zero, List.set_cons_succ])
      refine Eq.mpr (if_pos (by rfl)) ?_
      refine wp_new 34 rfl _ z8 ?_
      (try simp only [Act.put, List.getElem_toArray, List.getElem_cons_zero, List.getElem_cons_succ, List.setIfInBounds_toArray, List.set_cons_zero, List.set_cons_succ])
      refine hK.out _ _ (hS0.alloc hS0.size _) (fun hS1 => ?_)
      (try simp only [Act.put, List.getElem_toArray, List.getElem_cons_zero, List.getElem_cons_succ, List.setIfInBounds_toArray, List.set_cons_zero, List.set_cons_succ])
      have hq0 : Blk (w2.drew.alloc (.cells (row 8 (b8 fun _ => 0)) 34)) w2.heap.size 34 (row 8 (b8 fun _ => 0)) := Blk.fresh w2.drew 34 (row 8 (b8 fun _ => 0))
      generalize hwa : w2.drew.alloc (.cells (row 8 (b8 fun _ => 0)) 34) = wa at hq0 hS1 ⊢
      clear hwa hK
      refine wpAnyH_ready (rs := [2]) (by kernel_rfl) (by simp) (AllReadyH.cons rfl (fun K hK => ?_) AllReadyH.nil)
      (try simp only [Act.put, List.getElem_toArray, List.getElem_cons_zero, List.getElem_cons_succ, List.setIfInBounds_toArray, List.set_cons_zero, List.set_cons_succ])
      refine Eq.mpr (if_pos (by rfl)) ?_
      go_simp
      refine (triple_any _ 8 _ (.inl rfl) (Nat.le_refl _) exK exB false _ exK_by exB_by (Blk.reads (hb1a.below hS1 hb1a.lt))).mono ?_
      rintro e w3 ⟨rfl, hBc⟩
      refine hK.out _ _ (hS1.trans (hBc.mono hS1.size)) (fun hS3 => ?_)
      (try simp only [Act.put, List.getElem_toArray, List.getElem_cons_zero, List.getElem_cons_succ, List.setIfInBounds_toArray, List.set_cons_zero, List.set_cons_succ])
      refine wpAnyH_take (i := 3) (v := .tuple #[.agg (row 8 (b8 (tdes 8 exK exB false))), .nilIface]) rfl (by kernel_rfl) (by kernel_rfl) (by kernel_rfl) (fun _ _ _ h => h) (Or.inl ⟨rfl, fun _ _ => exec_move _ rfl _ rfl⟩) hS3 ?_
      (try simp only [Act.put, List.getElem_toArray, List.getElem_cons_zero, List.getElem_cons_succ, List.setIfInBounds_toArray, List.set_cons_zero, List.set_cons_succ])
      refine wpAnyH_take (i := 4) (v := .agg (row 8 (b8 (tdes 8 exK exB false)))) rfl (by kernel_rfl) (by kernel_rfl) (by kernel_rfl) (fun _ _ _ h => h) (Or.inl ⟨rfl, fun _ _ => exec_extract _ 0 rfl _ rfl _ rfl⟩) hS3 ?_
      (try simp only [Act.put, List.getElem_toArray, List.getElem_cons_zero, List.getElem_cons_succ, List.setIfInBounds_toArray, List.set_cons_zero, List.set_cons_succ])
      refine wpAnyH_take (i := 5) (v := .nilIface) rfl (by kernel_rfl) (by kernel_rfl) (by kernel_rfl) (fun _ _ _ h => h) (Or.inl ⟨rfl, fun _ _ => exec_extract _ 1 rfl _ rfl _ rfl⟩) hS3 ?_
      (try simp only [Act.put, List.getElem_toArray, List.getElem_cons_zero, List.getElem_cons_succ, List.setIfInBounds_toArray, List.set_cons_zero, List.set_cons_succ])
      refine wpAnyH_ready (rs := [7]) (by kernel_rfl) (by simp) (AllReadyH.cons rfl (fun K hK => ?_) AllReadyH.nil)
      have hq := hq0.below hBc hq0.lt
      (try simp only [Act.put, List.getElem_toArray, List.getElem_cons_zero, List.getElem_cons_succ, List.setIfInBounds_toArray, List.set_cons_zero, List.set_cons_succ])
      refine Eq.mpr (if_pos (by rfl)) ?_
      refine wp_store_row 34 _ _ rfl w2.heap.size (row 8 (b8 (tdes 8 exK exB false))) rfl rfl 34 _ hq (i8a' _) (by simp [row_size]) (one_b8 _ _) ?_
      (try simp only [Act.put, List.getElem_toArray, List.getElem_cons_zero, List.getElem_cons_succ, List.setIfInBounds_toArray, List.set_cons_zero, List.set_cons_succ])
      refine hK.out _ _ (below_setRow' hS3 (Nat.le_refl _) _) (fun hSz => ?_)
      (try simp only [Act.put, List.getElem_toArray, List.getElem_cons_zero, List.getElem_cons_succ, List.setIfInBounds_toArray, List.set_cons_zero, List.set_cons_succ])
      refine wpAnyH_take (i := 8) (v := .nilIface) rfl (by kernel_rfl) (by kernel_rfl) (by kernel_rfl) (fun _ _ _ h => h) (Or.inl ⟨rfl, fun _ _ => exec_assign _ rfl _ rfl⟩) hSz ?_
      (try simp only [Act.put, List.getElem_toArray, List.getElem_cons_zero, List.getElem_cons_succ, List.setIfInBounds_toArray, List.set_cons_zero, List.set_cons_succ])
      refine wpAnyH_done (by kernel_rfl) ?_ _
      clear hK
      have hp : Past w2 34 (row 8 (b8 (tdes 8 exK exB false))) _ _ := ⟨hSz, hq.setRow _, Nat.le_refl _⟩
      clear hS0 hS1 hS3 hSz hBc hq hq0
      generalize w3.setRow w2.heap.size (row 8 (b8 (tdes 8 exK exB false))) = wX at hp ⊢
      have hp2 : ∃ g, g = w2.heap.size := ⟨_, rfl⟩
      obtain ⟨gX, hgX⟩ := hp2
      rw [← hgX] at ⊢
      exact key wX gX (hgX ▸ hp)
  intro w4 g4 ⟨hw4B, hw4b, hw4g⟩
  try dsimp only
  have hb1b := hb1a.below hw4B hb1a.lt
  have hb2b := hb2a.below hw4B hb2a.lt
  have hcb := hc.below hw4B hc.lt
  have hB5 := hB4.trans (hw4B.mono hB4.size)
  clear hb1a hb2a hc hB4 hw4B hw4g
  have Ht : Hid (∀ i, i < 8 → tdes 8 exK exB false i = exC i) := hid ex_tdes
  generalize tdes 8 exK exB false = td at *
  go_wp2_with fail
  apply suff (F := Past w4 34 (row 8 (b8 fun _ => 0)))
  case h1 =>
    intro key
    refine wp_region_held_drew (S := fun W => Below w4.heap.size w4 W) (by kernel_rfl) (Below.refl _ _).drew (fun hS0 => ?_)
    refine wpAnyH_take (i := 0) (v := .slice (some ⟨w.heap.size, 0, none⟩) 7 8) rfl (by kernel_rfl) (by kernel_rfl) (by kernel_rfl) (fun _ _ _ h => h) (Or.inl ⟨rfl, fun W _ => by go_simp⟩) hS0 ?_
    (try simp only [Act.put, List.getElem_toArray, List.getElem_cons_zero, List.getElem_cons_succ, List.setIfInBounds_toArray, List.set_cons_zero, List.set_cons_succ])
    refine wpAnyH_take (i := 1) (v := .agg (row 8 (b8 exB))) rfl (by kernel_rfl) (by kernel_rfl) (by kernel_rfl) (fun _ _ _ h => h) (Or.inl ⟨rfl, fun W hW => exec_load 34 _ rfl _ rfl 34 8 _ (hb2b.below hW hb2b.lt) 5 Tryd.underlying34 i8a⟩) hS0 ?_
    (try simp only [Act.put, List.getElem_toArray, List.getElem_cons_zero, List.getElem_cons_succ, List.setIfInBounds_toArray, List.set_cons_zero, List.set_cons_succ])
    refine wpAnyH_ready (rs := [2, 6]) (by kernel_rfl) (by simp) ?_
    refine AllReadyH.cons rfl (fun K hK => ?_) (AllReadyH.cons rfl (fun K hK => ?_) AllReadyH.nil)
    · (try simp only [Act.put, List.getElem_toArray, List.getElem_cons_zero, List.getElem_cons_succ, List.setIfInBounds_toArray, List.set_cons_zero, List.set_cons_succ])
      refine Eq.mpr (if_pos (by rfl)) ?_
      go_simp
      refine (triple_bad _ 7 _ (by omega) exB false _).mono ?_
      rintro e w3 ⟨rfl, hBc⟩
      refine hK.out _ _ (hS0.trans (hBc.mono hS0.size)) (fun hS3 => ?_)
      (try simp only [Act.put, List.getElem_toArray, List.getElem_cons_zero, List.getElem_cons_succ, List.setIfInBounds_toArray, List.set_cons_zero, List.set_cons_succ])
      refine wpAnyH_take (i := 3) (v := .tuple #[.agg (row 8 (b8 fun _ => 0)), .iface 66 (.int .i64 2)]) rfl (by kernel_rfl) (by kernel_rfl) (by kernel_rfl) (fun _ _ _ h => h) (Or.inl ⟨rfl, fun _ _ => exec_move _ rfl _ rfl⟩) hS3 ?_
      (try simp only [Act.put, List.getElem_toArray, List.getElem_cons_zero, List.getElem_cons_succ, List.setIfInBounds_toArray, List.set_cons_zero, List.set_cons_succ])
      refine wpAnyH_take (i := 4) (v := .agg (row 8 (b8 fun _ => 0))) rfl (by kernel_rfl) (by kernel_rfl) (by kernel_rfl) (fun _ _ _ h => h) (Or.inl ⟨rfl, fun _ _ => exec_extract _ 0 rfl _ rfl _ rfl⟩) hS3 ?_
      (try simp only [Act.put, List.getElem_toArray, List.getElem_cons_zero, List.getElem_cons_succ, List.setIfInBounds_toArray, List.set_cons_zero, List.set_cons_succ])
      refine wpAnyH_take (i := 5) (v := .iface 66 (.int .i64 2)) rfl (by kernel_rfl) (by kernel_rfl) (by kernel_rfl) (fun _ _ _ h => h) (Or.inl ⟨rfl, fun _ _ => exec_extract _ 1 rfl _ rfl _ rfl⟩) hS3 ?_
      (try simp only [Act.put, List.getElem_toArray, List.getElem_cons_zero, List.getElem_cons_succ, List.setIfInBounds_toArray, List.set_cons_zero, List.set_cons_succ])
      refine wpAnyH_ready (rs := [6]) (by kernel_rfl) (by simp) (AllReadyH.cons rfl (fun K hK => ?_) AllReadyH.nil)
      (try simp only [Act.put, List.getElem_toArray, List.getElem_cons_zero, List.getElem_cons_succ, List.setIfInBounds_toArray, List.set_cons_zero, List.set_cons_succ])
      refine Eq.mpr (if_pos (by rfl)) ?_
      refine wp_new 34 rfl _ z8 ?_
      (try simp only [Act.put, List.getElem_toArray, List.getElem_cons_zero, List.getElem_cons_succ, List.setIfInBounds_toArray, List.set_cons_zero, List.set_cons_succ])
      refine hK.out _ _ (hS3.alloc hS3.size _) (fun hS4 => ?_)
      (try simp only [Act.put, List.getElem_toArray, List.getElem_cons_zero, List.getElem_cons_succ, List.setIfInBounds_toArray, List.set_cons_zero, List.set_cons_succ])
      refine wpAnyH_ready (rs := [7]) (by kernel_rfl) (by simp) (AllReadyH.cons rfl (fun K hK => ?_) AllReadyH.nil)
      (try simp only [Act.put, List.getElem_toArray, List.getElem_cons_zero, List.getElem_cons_succ, List.setIfInBounds_toArray, List.set_cons_zero, List.set_cons_succ])
      refine Eq.mpr (if_pos (by rfl)) ?_
      refine wp_store_row 34 _ _ rfl w3.heap.size (row 8 (b8 fun _ => 0)) rfl rfl 34 _ (Blk.fresh _ _ _) (i8a' _) (by simp [row_size]) (one_b8 _ _) ?_
      (try simp only [Act.put, List.getElem_toArray, List.getElem_cons_zero, List.getElem_cons_succ, List.setIfInBounds_toArray, List.set_cons_zero, List.set_cons_succ])
      refine hK.out _ _ (below_setRow' hS4 hS3.size _) (fun hSz => ?_)
      (try simp only [Act.put, List.getElem_toArray, List.getElem_cons_zero, List.getElem_cons_succ, List.setIfInBounds_toArray, List.set_cons_zero, List.set_cons_succ])
      refine wpAnyH_take (i := 8) (v := .iface 66 (.int .i64 2)) rfl (by kernel_rfl) (by kernel_rfl) (by kernel_rfl) (fun _ _ _ h => h) (Or.inl ⟨rfl, fun _ _ => exec_assign _ rfl _ rfl⟩) hSz ?_
      (try simp only [Act.put, List.getElem_toArray, List.getElem_cons_zero, List.getElem_cons_succ, List.setIfInBounds_toArray, List.set_cons_zero, List.set_cons_succ])
      refine wpAnyH_done (by kernel_rfl) ?_ _
      clear hK
      have hp : Past w4 34 (row 8 (b8 fun _ => 0)) _ _ := ⟨hSz, (Blk.fresh w3 34 (row 8 (b8 fun _ => 0))).setRow (row 8 (b8 fun _ => 0)), hS3.size⟩
      clear hS0 hS3 hS4 hSz hBc
      generalize (w3.alloc (.cells (row 8 (b8 fun _ => 0)) 34)).setRow w3.heap.size (row 8 (b8 fun _ => 0)) = wX at hp ⊢
      generalize w3.heap.size = gX at hp ⊢
      exact key wX gX hp
    · (try simp only [Act.put, List.getElem_toArray, List.getElem_cons_zero, List.getElem_cons_succ, List.setIfInBounds_toArray, List.set_cons_zero, List.set_cons_succ])
      refine Eq.mpr (if_pos (by rfl)) ?_
      refine wp_new 34 rfl _ z8 ?_
      (try simp only [Act.put, List.getElem_toArray, List.getElem_cons_zero, List.getElem_cons_succ, List.setIfInBounds_toArray, List.set_cons_zero, List.set_cons_succ])
      refine hK.out _ _ (hS0.alloc hS0.size _) (fun hS1 => ?_)
      (try simp only [Act.put, List.getElem_toArray, List.getElem_cons_zero, List.getElem_cons_succ, List.setIfInBounds_toArray, List.set_cons_zero, List.set_cons_succ])
      have hq0 : Blk (w4.drew.alloc (.cells (row 8 (b8 fun _ => 0)) 34)) w4.heap.size 34 (row 8 (b8 fun _ => 0)) := Blk.fresh w4.drew 34 (row 8 (b8 fun _ => 0))
      generalize hwa : w4.drew.alloc (.cells (row 8 (b8 fun _ => 0)) 34) = wa at hq0 hS1 ⊢
      clear hwa hK
      refine wpAnyH_ready (rs := [2]) (by kernel_rfl) (by simp) (AllReadyH.cons rfl (fun K hK => ?_) AllReadyH.nil)
      (try simp only [Act.put, List.getElem_toArray, List.getElem_cons_zero, List.getElem_cons_succ, List.setIfInBounds_toArray, List.set_cons_zero, List.set_cons_succ])
      refine Eq.mpr (if_pos (by rfl)) ?_
      go_simp
      refine (triple_bad _ 7 _ (by omega) exB false _).mono ?_
      rintro e w3 ⟨rfl, hBc⟩
      refine hK.out _ _ (hS1.trans (hBc.mono hS1.size)) (fun hS3 => ?_)
      (try simp only [Act.put, List.getElem_toArray, List.getElem_cons_zero, List.getElem_cons_succ, List.setIfInBounds_toArray, List.set_cons_zero, List.set_cons_succ])
      refine wpAnyH_take (i := 3) (v := .tuple #[.agg (row 8 (b8 fun _ => 0)), .iface 66 (.int .i64 2)]) rfl (by kernel_rfl) (by kernel_rfl) (by kernel_rfl) (fun _ _ _ h => h) (Or.inl ⟨rfl, fun _ _ => exec_move _ rfl _ rfl⟩) hS3 ?_
      (try simp only [Act.put, List.getElem_toArray, List.getElem_cons_zero, List.getElem_cons_succ, List.setIfInBounds_toArray, List.set_cons_zero, List.set_cons_succ])
      refine wpAnyH_take (i := 4) (v := .agg (row 8 (b8 fun _ => 0))) rfl (by kernel_rfl) (by kernel_rfl) (by kernel_rfl) (fun _ _ _ h => h) (Or.inl ⟨rfl, fun _ _ => exec_extract _ 0 rfl _ rfl _ rfl⟩) hS3 ?_
      (try simp only [Act.put, List.getElem_toArray, List.getElem_cons_zero, List.getElem_cons_succ, List.setIfInBounds_toArray, List.set_cons_zero, List.set_cons_succ])
      refine wpAnyH_take (i := 5) (v := .iface 66 (.int .i64 2)) rfl (by kernel_rfl) (by kernel_rfl) (by kernel_rfl) (fun _ _ _ h => h) (Or.inl ⟨rfl, fun _ _ => exec_extract _ 1 rfl _ rfl _ rfl⟩) hS3 ?_
      (try simp only [Act.put, List.getElem_toArray, List.getElem_cons_zero, List.getElem_cons_succ, List.setIfInBounds_toArray, List.set_cons_zero, List.set_cons_succ])
      refine wpAnyH_ready (rs := [7]) (by kernel_rfl) (by simp) (AllReadyH.cons rfl (fun K hK => ?_) AllReadyH.nil)
      have hq := hq0.below hBc hq0.lt
      (try simp only [Act.put, List.getElem_toArray, List.getElem_cons_zero, List.getElem_cons_succ, List.setIfInBounds_toArray, List.set_cons_zero, List.set_cons_succ])
      refine Eq.mpr (if_pos (by rfl)) ?_
      refine wp_store_row 34 _ _ rfl w4.heap.size (row 8 (b8 fun _ => 0)) rfl rfl 34 _ hq (i8a' _) (by simp [row_size]) (one_b8 _ _) ?_
      (try simp only [Act.put, List.getElem_toArray, List.getElem_cons_zero, List.getElem_cons_succ, List.setIfInBounds_toArray, List.set_cons_zero, List.set_cons_succ])
      refine hK.out _ _ (below_setRow' hS3 (Nat.le_refl _) _) (fun hSz => ?_)
      (try simp only [Act.put, List.getElem_toArray, List.getElem_cons_zero, List.getElem_cons_succ, List.setIfInBounds_toArray, List.set_cons_zero, List.set_cons_succ])
      refine wpAnyH_take (i := 8) (v := .iface 66 (.int .i64 2)) rfl (by kernel_rfl) (by kernel_rfl) (by kernel_rfl) (fun _ _ _ h => h) (Or.inl ⟨rfl, fun _ _ => exec_assign _ rfl _ rfl⟩) hSz ?_
      (try simp only [Act.put, List.getElem_toArray, List.getElem_cons_zero, List.getElem_cons_succ, List.setIfInBounds_toArray, List.set_cons_zero, List.set_cons_succ])
      refine wpAnyH_done (by kernel_rfl) ?_ _
      clear hK
      have hp : Past w4 34 (row 8 (b8 fun _ => 0)) _ _ := ⟨hSz, hq.setRow _, Nat.le_refl _⟩
      clear hS0 hS1 hS3 hSz hBc hq hq0
      generalize w3.setRow w4.heap.size (row 8 (b8 fun _ => 0)) = wX at hp ⊢
      have hp2 : ∃ g, g = w4.heap.size := ⟨_, rfl⟩
      obtain ⟨gX, hgX⟩ := hp2
      rw [← hgX] at ⊢
      exact key wX gX (hgX ▸ hp)
  intro w6 g6 ⟨hw6B, hw6b, hw6g⟩
  try dsimp only
  have hcc := hcb.below hw6B hcb.lt
  have htc := hw4b.below hw6B hw4b.lt
  have hB7 := hB5.trans (hw6B.mono hB5.size)
  have hL := hid (Hg.out.below hB7)
  clear hb1b hb2b hcb hB5 hw6B hw6g hw4b hw6b
  have E1 : eqB 8 cd exC = true := eqB_true Hd.out
  have E2 : eqB 8 td cd = true := eqB_true (fun i hi => (Ht.out i hi).trans (Hd.out i hi).symm)
  have HE1 := hid E1
  have HE2 := hid E2
  clear E1 E2
  go_wp2_with (first
    | (with_reducible refine wpl_load rfl 34 _ rfl _ rfl 34 _ hcc 8 5 Tryd.underlying34 (i8a' _) ?_)
    | (with_reducible refine wpl_build rfl 34 [(0, .const (.int .u8 133)), (1, .const (.int .u8 232)), (2, .const (.int .u8 19)), (3, .const (.int .u8 84)), (4, .const (.int .u8 15)), (5, .const (.int .u8 10)), (6, .const (.int .u8 180)), (7, .const (.int .u8 5))] rfl (row 8 (b8 exC)) (by kernel_rfl) ?_)
    | ((with_reducible refine wpg_val ?_ _ (exec_load 34 _ rfl _ rfl 34 8 _ hcc 5 Tryd.underlying34 i8a) ?_); exact rfl)
    | ((with_reducible refine wpg_val ?_ _ (exec_load 34 _ rfl _ rfl 34 8 _ htc 5 Tryd.underlying34 i8a) ?_); exact rfl)
    | ((with_reducible refine wpg_val ?_ _ (exec_eqT 34 _ _ _ rfl 8 _ _ rfl rfl true HE1.out 5 Tryd.underlying34 Tryd.underlying5 i8 eqA8) ?_); exact rfl)
    | ((with_reducible refine wpg_val ?_ _ (exec_eqT 34 _ _ _ rfl 8 _ _ rfl rfl true HE2.out 5 Tryd.underlying34 Tryd.underlying5 i8 eqA8) ?_); exact rfl)
    | (go_at_call 14; refine (As.code_hit 2 _ hL.out).mono ?_; rintro e w' ⟨rfl, hBz⟩))
  go_ret
  exact ⟨rfl, hB7.trans (hBz.mono hB7.size)⟩
end Go.Proofs.YtknjboflkclglaaDoor.Des
