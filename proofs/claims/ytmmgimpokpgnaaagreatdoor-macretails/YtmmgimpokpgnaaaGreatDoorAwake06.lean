/-
  The example of chapter 6: lockboxlaw06's awake returns true.
-/
import Derived.Test.YtmmgimpokpgnaaaGreatDoorLaw06
import Derived.Test.YtmmgimpokpgnaaaGreatDoorAesZero
import Derived.Test.YtmmgimpokpgnaaaGreatDoorAsX
import Derived.Deep.RegionWith
namespace Go.Proofs.YtmmgimpokpgnaaaGreatDoor.Md
open Mem Bk As Go.ChangeShapes Go.WideShapes Go.ChangeAt Go.RowKit
theorem mk (n : Nat) (hn : n ≤ 1000) (w : World) : (Instr.makeSlice 22 (.int .i64 (n : Int)) (.int .i64 (n : Int))).run Tryz.prog w = .ok (.slice (some ⟨w.heap.size, 0, none⟩) n n) (w.alloc (.cells (row n (b8 fun _ => 0)) 5)) := by
  have hr := run_make_row' (P := Tryz.prog) 22 5 (.int .u8 0) 1 Tryz.underlying22 info8 rfl .i64 .i64 n (by omega) (by omega) w
  rwa [made_b8] at hr
theorem own_some {w : World} {base e n : Nat} {v : Value} {f : Nat → Nat} (ho : Mem.Own w base e 1 v n f) (hn : 0 < n) : ∃ g c, v = .slice (some ⟨g, 0, none⟩) n c ∧ n ≤ c := by
  rcases ho.form with ⟨_, h⟩ | ⟨g, c, cur, h, _, _, hc, _⟩
  · omega
  · exact ⟨g, c, h, hc⟩
theorem suffV {F G : World → Value → Value → Value → Prop} {R : Prop} (h1 : (∀ W v a b, F W v a b → G W v a b) → R) (h2 : ∀ W v a b, F W v a b → G W v a b) : R := h1 h2
theorem fits16 : fits 1 16 := .inl ⟨rfl, .inl rfl⟩
def zf : Nat → Nat := fun _ => 0
theorem zf_lt (n : Nat) : ∀ i, i < n → zf i < 256 := fun _ _ => by unfold zf; omega
theorem bl_zf (k j : Nat) : bl k zf j = zf := rfl
theorem xr_zf (f : Nat → Nat) : xr zf f = f := by funext i; unfold xr zf; exact Nat.zero_xor _
/-- a block of zeros, enciphered -/
def ez : Nat → Nat := tc 1 16 zf false zf
theorem ah1 : ah 1 16 zf zf zf 1 = ez := by rw [ah_next, ah_zero, bl_zf, xr_zf]; rfl
theorem ah2 : ah 1 16 zf zf zf 2 = tc 1 16 zf false ez := by rw [ah_next, ah1, bl_zf, xr_zf]
theorem ez_lt : ∀ i, i < sz 1 → ez i < 256 := tc_lt (by omega) fits16 (zf_lt 16) (zf_lt _)
theorem ez_first : ez 0 = 102 := by
  unfold ez tc
  rw [if_pos rfl, if_neg (by simp)]
  exact Aes.z_first
theorem sz1 : sz 1 = 16 := rfl
theorem al_z (i : Nat) (hi : i < 16) : aloneF 1 16 zf false zf 1 i = ez i := by
  have h := alone_at (k := 1) (L := 16) (key := zf) (bk := false) (x := zf) (N := 1) (i := i) (by rw [sz1]; omega)
  rw [sz1, Nat.div_eq_of_lt hi, Nat.mod_eq_of_lt hi, bl_zf] at h
  exact h
theorem ch_z (i : Nat) (hi : i < 32) : chainF 1 16 zf false zf zf 2 i = ah 1 16 zf zf zf (i / 16 + 1) (i % 16) := by
  have h := forth_at (k := 1) (L := 16) (key := zf) (s := zf) (x := zf) (N := 2) (i := i) (by rw [sz1]; omega)
  rw [sz1] at h
  exact h
theorem z_same : eqB 16 (chainF 1 16 zf false zf zf 2) (aloneF 1 16 zf false zf 1) = true := by
  refine eqB_true fun i hi => ?_
  rw [ch_z i (by omega), al_z i hi, Nat.div_eq_of_lt hi, Nat.mod_eq_of_lt hi, ah1]
theorem z_other : eqB 16 (fun i => chainF 1 16 zf false zf zf 2 (16 + i)) (aloneF 1 16 zf false zf 1) = false := by
  cases hq : eqB 16 (fun i => chainF 1 16 zf false zf zf 2 (16 + i)) (aloneF 1 16 zf false zf 1)
  · rfl
  · exfalso
    have h := eqB_iff.1 hq
    have h1 : Eqn (sz 1) (tc 1 16 zf false ez) (tc 1 16 zf false zf) := fun i hi => by
      rw [sz1] at hi
      have := h i hi
      rw [ch_z (16 + i) (by omega), al_z i hi, show (16 + i) / 16 = 1 by omega, show (16 + i) % 16 = i by omega, ah2] at this
      exact this
    have h2 : Eqn (sz 1) (tc 1 16 zf true (tc 1 16 zf false ez)) (tc 1 16 zf true (tc 1 16 zf false zf)) := tc_ext fits16 (by omega) h1
    have h3 : Eqn (sz 1) (tc 1 16 zf true (tc 1 16 zf false ez)) ez := tc_back (bk := false) fits16 (by omega) (zf_lt 16) ez_lt
    have h4 : Eqn (sz 1) (tc 1 16 zf true (tc 1 16 zf false zf)) zf := tc_back (bk := false) fits16 (by omega) (zf_lt 16) (zf_lt _)
    have h5 := (h3 0 (sz_pos 1)).symm.trans ((h2 0 (sz_pos 1)).trans (h4 0 (sz_pos 1)))
    rw [ez_first] at h5
    cases h5
set_option maxRecDepth 100000 in
set_option maxHeartbeats 1000000 in
theorem awake6_any (w : World) (hg : Laid w) : Calls Tryz.prog 18 #[] w fun e w' => e = .returned (.bool true) ∧ Below w.heap.size w w' := by
  have Hg := hid hg
  clear hg
  have hm16 : ∀ w, (Instr.makeSlice 22 (.int .i64 16) (.int .i64 16)).run Tryz.prog w = .ok (.slice (some ⟨w.heap.size, 0, none⟩) 16 16) (w.alloc (.cells (row 16 (b8 fun _ => 0)) 5)) := mk 16 (by omega)
  have hm32 : ∀ w, (Instr.makeSlice 22 (.int .i64 32) (.int .i64 32)).run Tryz.prog w = .ok (.slice (some ⟨w.heap.size, 0, none⟩) 32 32) (w.alloc (.cells (row 32 (b8 fun _ => 0)) 5)) := mk 32 (by omega)
  have hm15 : ∀ w, (Instr.makeSlice 22 (.int .i64 15) (.int .i64 15)).run Tryz.prog w = .ok (.slice (some ⟨w.heap.size, 0, none⟩) 15 15) (w.alloc (.cells (row 15 (b8 fun _ => 0)) 5)) := mk 15 (by omega)
  go_enter Tryz.func18, Tryz.ntmps18
  have hB0 := (Below.refl w.heap.size w).alloc (Nat.le_refl _) (.cells (row 16 (b8 fun _ => 0)) 5)
  have HN := hid (new1 (some ⟨w.heap.size, 0, none⟩) 16 16 zf ⟨0, 0, 0, 0, 0, .nilIface, 0, fun _ => 0⟩ none (w.alloc (.cells (row 16 (b8 fun _ => 0)) 5)) (by omega) (fun h => by cases h) (zf_lt 16) (Blk.fresh _ _ _).reads fits16)
  go_wp2_with (go_at_call 11; refine HN.out.mono ?_; rintro e w1 ⟨gc, rfl, hci, hgc, hB1⟩)
  have hBw : Below w.heap.size w w1 := hB0.trans (hB1.mono hB0.size)
  have hs1 := hBw.size
  have HCH : ∀ (W : World) (a b : Nat), Below w1.heap.size w1 W → Blk W a 5 (row 16 (b8 zf)) → Blk W b 5 (row 32 (b8 zf)) → Calls Tryz.prog 22 #[.pointer (some ⟨gc, 0, none⟩), .slice (some ⟨a, 0, none⟩) 16 16, .slice (some ⟨b, 0, none⟩) 32 32, .bool false] W fun e w' => ∃ v, e = .returned (.tuple #[v, .nilIface]) ∧ Mem.Own w' w1.heap.size 5 1 v 32 (chainF 1 16 zf false zf zf 2) ∧ Below w1.heap.size w1 w' := fun W a b hB ha hb => by
    refine (chained_any W _ 1 gc _ 16 zf ⟨a, 0, none⟩ 16 zf (some ⟨b, 0, none⟩) 2 32 32 false zf (by omega) (hci.keep hB) rfl (by omega) (by omega) (fun h => by cases h) (zf_lt _) hb.reads ha.lt (fun i hi => by rw [add_zero_off]; exact ha.val i hi) (zf_lt _)).mono ?_
    rintro e w' ⟨v, rfl, ho, hB'⟩
    exact ⟨v, rfl, own_base ho hB.size, hB.trans (hB'.mono hB.size)⟩
  have Hci := hid hci
  clear HN hci hB0 hB1
  apply suffV (F := fun W v _ _ => Below w1.heap.size w1 W ∧ Mem.Own W w1.heap.size 5 1 v 32 (chainF 1 16 zf false zf zf 2))
  case h1 =>
    intro key
    go_region_with (go_at_call 22; refine (HCH _ _ _ (((Below.refl w1.heap.size w1).drew.alloc (by simp) _).alloc (by simp) _) (by first | exact (Blk.fresh _ _ _).alloc _ | exact blk_fresh (by simp) _ _) (by first | exact (Blk.fresh _ _ _).alloc _ | exact blk_fresh (by simp) _ _)).mono ?_; rintro e w2 ⟨v, rfl, ho2, hB2⟩)
    · simp only [Act.put, List.getElem_toArray, List.getElem_cons_zero, List.getElem_cons_succ, List.setIfInBounds_toArray, List.set_cons_zero, List.set_cons_succ]
      generalize Value.slice (some ⟨w1.heap.size, 0, none⟩) 16 16 = va
      generalize Value.slice (some ⟨w1.heap.size + 1, 0, none⟩) 32 32 = vb
      exact key w2 v va vb ⟨hB2, ho2⟩
    · simp only [Act.put, List.getElem_toArray, List.getElem_cons_zero, List.getElem_cons_succ, List.setIfInBounds_toArray, List.set_cons_zero, List.set_cons_succ]
      generalize Value.slice (some ⟨w1.heap.size + 1, 0, none⟩) 16 16 = va
      generalize Value.slice (some ⟨w1.heap.size, 0, none⟩) 32 32 = vb
      exact key w2 v va vb ⟨hB2, ho2⟩
  intro w2 v va vb ⟨hB2, ho2⟩
  try dsimp only
  obtain ⟨gx, c2, rfl, hc2⟩ := own_some ho2 (by omega)
  have hsx := hB2.size
  have hBx := (Below.refl w2.heap.size w2).alloc (Nat.le_refl _) (.cells (row 16 (b8 fun _ => 0)) 5)
  have HAL := hid (alone_any (w2.alloc (.cells (row 16 (b8 fun _ => 0)) 5)) _ 1 gc _ 16 zf (some ⟨w2.heap.size, 0, none⟩) 1 16 16 false zf (by omega) ((Hci.out.keep hB2).keep hBx) rfl (by omega) (by omega) (fun h => by cases h) (zf_lt _) (Blk.fresh w2 5 (row 16 (b8 fun _ => 0))).reads)
  have Ho2 := hid ho2
  clear HCH ho2
  go_wp2_with (go_at_call 21; refine HAL.out.mono ?_; clear HAL; rintro e w3 ⟨v3, rfl, ho3, hB3⟩)
  have hB23 := hBx.trans (hB3.mono hBx.size)
  obtain ⟨A3, c3, rfl, hc3⟩ := ho3.slice
  have hs3 := hB23.size
  have hBy := (Below.refl w3.heap.size w3).alloc (Nat.le_refl _) (.cells (row 15 (b8 fun _ => 0)) 5)
  have HAS := hid (alone_size (w3.alloc (.cells (row 15 (b8 fun _ => 0)) 5)) _ 1 gc _ 16 zf (some ⟨w3.heap.size, 0, none⟩) 15 15 false (((Hci.out.keep hB2).keep hB23).keep hBy) (by decide) (by omega))
  have Ho3 := hid ho3
  clear ho3 hBx hB3
  go_wp2_with (go_at_call 21; refine HAS.out.mono ?_; clear HAS; rintro e w4 ⟨rfl, hB4⟩)
  have hB34 := hBy.trans (hB4.mono hBy.size)
  have hs4 := hB34.size
  have hR1 : Reads w4 w2.heap.size (some ⟨gx, 0, none⟩) 32 (chainF 1 16 zf false zf zf 2) := (Ho2.out.reads.below hB23).below (hB34.mono hs3)
  have hR3 : Reads w4 w3.heap.size A3 16 (aloneF 1 16 zf false zf 1) := Ho3.out.reads.below hB34
  have hBw4 : Below w.heap.size w w4 := ((hBw.trans (hB2.mono hs1)).trans (hB23.mono (by omega))).trans (hB34.mono (by omega))
  have hR2 : Reads w4 w2.heap.size (some ((⟨gx, 0, none⟩ : Addr).add 16)) 16 (fun i => chainF 1 16 zf false zf zf 2 (16 + i)) := by
    have := hR1.cut (k := 16) (cap := c2) (by omega) hc2
    rw [if_neg (by omega)] at this
    exact this
  have HS1 : Hid (∀ W, Below w4.heap.size w4 W → Calls Tryz.prog 15 #[.slice (some ⟨gx, 0, none⟩) 16 c2, .slice A3 16 c3] W fun e w' => e = .returned (.bool true) ∧ Below w4.heap.size w4 w') := hid fun W hB => by
    refine (same_any _ _ 16 c2 c3 _ _ W (by omega) (((hR1.less (by omega)).below (hB.mono (by omega))).more (by have := hB.size; omega)) ((hR3.below (hB.mono hs4)).more (by have := hB.size; omega))).mono ?_
    rintro e w' ⟨rfl, h⟩
    exact ⟨by rw [z_same], hB.trans (h.mono hB.size)⟩
  have HS2 : Hid (∀ W, Below w4.heap.size w4 W → Calls Tryz.prog 15 #[.slice (some ((⟨gx, 0, none⟩ : Addr).add 16)) 16 (c2 - 16), .slice A3 16 c3] W fun e w' => e = .returned (.bool false) ∧ Below w4.heap.size w4 w') := hid fun W hB => by
    refine (same_any _ _ 16 (c2 - 16) c3 _ _ W (by omega) ((hR2.below (hB.mono (by omega))).more (by have := hB.size; omega)) ((hR3.below (hB.mono hs4)).more (by have := hB.size; omega))).mono ?_
    rintro e w' ⟨rfl, h⟩
    exact ⟨by rw [z_other], hB.trans (h.mono hB.size)⟩
  have Hg4 := hid (Hg.out.below hBw4)
  have hcne : ¬ c2 = 16 := by omega
  clear hR1 hR2 hR3 hBy hB4 hB34 hB23 hB2 Ho2 Ho3 Hci
  go_wp2_with (first
    | (go_at_call 15; refine (HS1.out _ (Below.refl _ _)).mono ?_; clear HS1; rintro e w5 ⟨rfl, hB5⟩)
    | (go_at_call 15; refine (HS2.out _ hB5).mono ?_; clear HS2; rintro e w6 ⟨rfl, hB6⟩)
    | (go_at_call 16; refine (code_hit 2 _ (Hg4.out.below hB6)).mono ?_; rintro e w7 ⟨rfl, hB7⟩))
  go_ret
  exact ⟨rfl, hBw4.trans ((hB6.trans (hB7.mono hB6.size)).mono hBw4.size)⟩
end Go.Proofs.YtmmgimpokpgnaaaGreatDoor.Md
