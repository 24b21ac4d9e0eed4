/-
  What the document's own Triple of layer 3 returns: contracts over the loaded program.
-/
import Derived.Test.YtomeeebiijmnmaaGreatDoorRef03B
import Derived.Test.YtomeeebiijmnmaaGreatDoorDesKeys
namespace Go.Proofs.YtomeeebiijmnmaaGreatDoor.Des
open Go.ChangeShapes Go.WideShapes Go.ChangeAt Go.RowKit Mem
theorem Reads_off {w : World} {B n : Nat} {ad : Addr} {f : Nat → Nat} (h : Reads w B (some ad) n f) (k m : Nat) (hkm : (k + 1) + m ≤ n) : Reads w B (some ⟨ad.block, ad.off + (k + 1), none⟩) m (fun i => f ((k + 1) + i)) := fun hm => by
  obtain ⟨a, he, hb, hc⟩ := h (by omega)
  injection he with he
  subst he
  exact ⟨_, rfl, hb, fun i hi => by rw [add_off, add_add]; exact hc _ (by omega)⟩
theorem rtriple_bad (A : Option Addr) (L c : Nat) (hL : L ≠ 8 ∧ L ≠ 16 ∧ L ≠ 24) (A2 : Option Addr) (c2 : Nat) (back : Bool) (w : World) :
    Calls Tryz.prog 34 #[.slice A L c, .slice A2 8 c2, .bool back] w fun e w' => e = .returned (.slice none 0 0) ∧ w = w' := by
  have e1 : ((L : Int) == 8) = false := by simp; omega
  have e2 : ((L : Int) != 16) = true := by simp; omega
  have e3 : ((L : Int) != 24) = true := by simp; omega
  go_enter Tryz.func34, Tryz.ntmps34
  go_wp2_with fail
  go_ret
  exact ⟨rfl, rfl⟩
theorem rtriple8 (A : Option Addr) (c : Nat) (A2 : Option Addr) (c2 : Nat) (f b : Nat → Nat) (back : Bool) (hf : By8 f) (hb : By8 b) (w : World) (hR1 : Reads w w.heap.size A 8 f) (hR2 : Reads w w.heap.size A2 8 b) :
    Calls Tryz.prog 34 #[.slice A 8 c, .slice A2 8 c2, .bool back] w fun e w' => ∃ A' c', e = .returned (.slice A' 8 c') ∧ 8 ≤ c' ∧ Lst w' 5 A' 8 (iv .u8 (tdes 8 f b back)) ∧ Below w.heap.size w w' := by
  have Hf := hid hf
  have Hb := hid hb
  clear hf hb
  go_enter Tryz.func34, Tryz.ntmps34
  go_wp2_with fail
  refine (rblock_any A A2 c c2 f b back Hf.out Hb.out _ hR1 hR2).mono ?_
  rintro e w1 ⟨A', c', rfl, hc', hL', hB'⟩
  go_wp2_with fail
  go_ret
  exact ⟨A', c', rfl, hc', by rw [tdes_one (k := f) (fun j _ i _ => by unfold tkey; rw [if_pos rfl]) Hb.out]; exact hL', hB'⟩
set_option maxRecDepth 100000 in
theorem rtriple16false (A : Option Addr) (c : Nat) (hc : 16 ≤ c) (A2 : Option Addr) (c2 : Nat) (f b : Nat → Nat) (hf : ∀ i, i < 16 → f i < 256) (hb : By8 b) (w : World) (hR1 : Reads w w.heap.size A 16 f) (hR2 : Reads w w.heap.size A2 8 b) :
    Calls Tryz.prog 34 #[.slice A 16 c, .slice A2 8 c2, .bool false] w fun e w' => ∃ A' c', e = .returned (.slice A' 8 c') ∧ 8 ≤ c' ∧ Lst w' 5 A' 8 (iv .u8 (tdes 16 f b false)) ∧ Below w.heap.size w w' := by
  have Hb := hid hb
  have hRx := hR1
  obtain ⟨ad, rfl, had, hcell⟩ := hR1 (by omega)
  have HRk0 := hid (hRx.less (show 8 ≤ 16 by omega))
  have HRk1 := hid (Reads_off hRx 7 8 (by omega))
  have Hb0 : Hid (By8 f) := hid (fun i hi => hf i (by omega))
  have Hb1 : Hid (By8 fun i => f (7 + 1 + i)) := hid (fun i hi => hf _ (by omega))
  have Hres : Hid (des f (des (fun i => f (7 + 1 + i)) (des f b false) true) false = tdes 16 f b false) := hid (by
    unfold tdes
    rw [des_ext (k := f) (k' := tkey 16 f (if false = true then 2 else 0)) (b := b) (b' := b) (fun i hi => by simp only [tkey]; simp; try (congr 1; omega)) (fun _ _ => rfl), des_ext (k := (fun i => f (7 + 1 + i))) (k' := tkey 16 f 1) (fun i hi => by simp only [tkey]; simp; try (congr 1; omega)) (fun _ _ => rfl), des_ext (k := f) (k' := tkey 16 f (if false = true then 0 else 2)) (fun i hi => by simp only [tkey]; simp; try (congr 1; omega)) (fun _ _ => rfl)]
    rfl)
  have t8 : (8 : Int) ≤ (c : Int) := by omega
  have t16 : (16 : Int) ≤ (c : Int) := by omega
  have t24 : ¬ c = 8 := by omega
  clear hf hb hcell hRx
  go_enter Tryz.func34, Tryz.ntmps34
  go_wp2_with fail
  refine (rblock_any (some ad) A2 _ c2 f b false Hb0.out Hb.out _ HRk0.out hR2).mono ?_
  rintro e w1 ⟨A3, c3, rfl, hc3, hL3, hB3⟩
  have hRm := (HRk1.out.below hB3).more hB3.size
  have hRl := (HRk0.out.below hB3).more hB3.size
  go_wp2_with fail
  refine (rblock_any (some ⟨ad.block, ad.off + 8, none⟩) A3 _ c3 (fun i => f (7 + 1 + i)) _ true Hb1.out (des_by _ _ _) _ hRm (Lst_reads hL3)).mono ?_
  rintro e w2 ⟨A4, c4, rfl, hc4, hL4, hB4⟩
  have hRl2 := (hRl.below hB4).more hB4.size
  have hB5 := hB3.trans (hB4.mono hB3.size)
  go_wp2_with fail
  refine (rblock_any (some ad) A4 _ c4 f _ false Hb0.out (des_by _ _ _) _ hRl2 (Lst_reads hL4)).mono ?_
  rintro e w3 ⟨A5, c5, rfl, hc5, hL5, hB6⟩
  go_wp2_with fail
  go_ret
  exact ⟨A5, c5, rfl, hc5, by rw [← Hres.out]; exact hL5, hB5.trans (hB6.mono hB5.size)⟩
set_option maxRecDepth 100000 in
theorem rtriple16true (A : Option Addr) (c : Nat) (hc : 16 ≤ c) (A2 : Option Addr) (c2 : Nat) (f b : Nat → Nat) (hf : ∀ i, i < 16 → f i < 256) (hb : By8 b) (w : World) (hR1 : Reads w w.heap.size A 16 f) (hR2 : Reads w w.heap.size A2 8 b) :
    Calls Tryz.prog 34 #[.slice A 16 c, .slice A2 8 c2, .bool true] w fun e w' => ∃ A' c', e = .returned (.slice A' 8 c') ∧ 8 ≤ c' ∧ Lst w' 5 A' 8 (iv .u8 (tdes 16 f b true)) ∧ Below w.heap.size w w' := by
  have Hb := hid hb
  have hRx := hR1
  obtain ⟨ad, rfl, had, hcell⟩ := hR1 (by omega)
  have HRk0 := hid (hRx.less (show 8 ≤ 16 by omega))
  have HRk1 := hid (Reads_off hRx 7 8 (by omega))
  have Hb0 : Hid (By8 f) := hid (fun i hi => hf i (by omega))
  have Hb1 : Hid (By8 fun i => f (7 + 1 + i)) := hid (fun i hi => hf _ (by omega))
  have Hres : Hid (des f (des (fun i => f (7 + 1 + i)) (des f b true) false) true = tdes 16 f b true) := hid (by
    unfold tdes
    rw [des_ext (k := f) (k' := tkey 16 f (if true = true then 2 else 0)) (b := b) (b' := b) (fun i hi => by simp only [tkey]; simp; try (congr 1; omega)) (fun _ _ => rfl), des_ext (k := (fun i => f (7 + 1 + i))) (k' := tkey 16 f 1) (fun i hi => by simp only [tkey]; simp; try (congr 1; omega)) (fun _ _ => rfl), des_ext (k := f) (k' := tkey 16 f (if true = true then 0 else 2)) (fun i hi => by simp only [tkey]; simp; try (congr 1; omega)) (fun _ _ => rfl)]
    rfl)
  have t8 : (8 : Int) ≤ (c : Int) := by omega
  have t16 : (16 : Int) ≤ (c : Int) := by omega
  have t24 : ¬ c = 8 := by omega
  clear hf hb hcell hRx
  go_enter Tryz.func34, Tryz.ntmps34
  go_wp2_with fail
  refine (rblock_any (some ad) A2 _ c2 f b true Hb0.out Hb.out _ HRk0.out hR2).mono ?_
  rintro e w1 ⟨A3, c3, rfl, hc3, hL3, hB3⟩
  have hRm := (HRk1.out.below hB3).more hB3.size
  have hRl := (HRk0.out.below hB3).more hB3.size
  go_wp2_with fail
  refine (rblock_any (some ⟨ad.block, ad.off + 8, none⟩) A3 _ c3 (fun i => f (7 + 1 + i)) _ false Hb1.out (des_by _ _ _) _ hRm (Lst_reads hL3)).mono ?_
  rintro e w2 ⟨A4, c4, rfl, hc4, hL4, hB4⟩
  have hRl2 := (hRl.below hB4).more hB4.size
  have hB5 := hB3.trans (hB4.mono hB3.size)
  go_wp2_with fail
  refine (rblock_any (some ad) A4 _ c4 f _ true Hb0.out (des_by _ _ _) _ hRl2 (Lst_reads hL4)).mono ?_
  rintro e w3 ⟨A5, c5, rfl, hc5, hL5, hB6⟩
  go_wp2_with fail
  go_ret
  exact ⟨A5, c5, rfl, hc5, by rw [← Hres.out]; exact hL5, hB5.trans (hB6.mono hB5.size)⟩
set_option maxRecDepth 100000 in
theorem rtriple24false (A : Option Addr) (c : Nat) (hc : 24 ≤ c) (A2 : Option Addr) (c2 : Nat) (f b : Nat → Nat) (hf : ∀ i, i < 24 → f i < 256) (hb : By8 b) (w : World) (hR1 : Reads w w.heap.size A 24 f) (hR2 : Reads w w.heap.size A2 8 b) :
    Calls Tryz.prog 34 #[.slice A 24 c, .slice A2 8 c2, .bool false] w fun e w' => ∃ A' c', e = .returned (.slice A' 8 c') ∧ 8 ≤ c' ∧ Lst w' 5 A' 8 (iv .u8 (tdes 24 f b false)) ∧ Below w.heap.size w w' := by
  have Hb := hid hb
  have hRx := hR1
  obtain ⟨ad, rfl, had, hcell⟩ := hR1 (by omega)
  have HRk0 := hid (hRx.less (show 8 ≤ 24 by omega))
  have HRk1 := hid (Reads_off hRx 7 8 (by omega))
  have HRk2 := hid (Reads_off hRx 15 8 (by omega))
  have Hb0 : Hid (By8 f) := hid (fun i hi => hf i (by omega))
  have Hb1 : Hid (By8 fun i => f (7 + 1 + i)) := hid (fun i hi => hf _ (by omega))
  have Hb2 : Hid (By8 fun i => f (15 + 1 + i)) := hid (fun i hi => hf _ (by omega))
  have Hres : Hid (des (fun i => f (15 + 1 + i)) (des (fun i => f (7 + 1 + i)) (des f b false) true) false = tdes 24 f b false) := hid (by
    unfold tdes
    rw [des_ext (k := f) (k' := tkey 24 f (if false = true then 2 else 0)) (b := b) (b' := b) (fun i hi => by simp only [tkey]; simp; try (congr 1; omega)) (fun _ _ => rfl), des_ext (k := (fun i => f (7 + 1 + i))) (k' := tkey 24 f 1) (fun i hi => by simp only [tkey]; simp; try (congr 1; omega)) (fun _ _ => rfl), des_ext (k := (fun i => f (15 + 1 + i))) (k' := tkey 24 f (if false = true then 0 else 2)) (fun i hi => by simp only [tkey]; simp; try (congr 1; omega)) (fun _ _ => rfl)]
    rfl)
  have t8 : (8 : Int) ≤ (c : Int) := by omega
  have t16 : (16 : Int) ≤ (c : Int) := by omega
  have t24 : ¬ c = 8 := by omega
  have t24b : (24 : Int) ≤ (c : Int) := by omega
  have t16b : ¬ c = 16 := by omega
  clear hf hb hcell hRx
  go_enter Tryz.func34, Tryz.ntmps34
  go_wp2_with fail
  refine (rblock_any (some ad) A2 _ c2 f b false Hb0.out Hb.out _ HRk0.out hR2).mono ?_
  rintro e w1 ⟨A3, c3, rfl, hc3, hL3, hB3⟩
  have hRm := (HRk1.out.below hB3).more hB3.size
  have hRl := (HRk2.out.below hB3).more hB3.size
  go_wp2_with fail
  refine (rblock_any (some ⟨ad.block, ad.off + 8, none⟩) A3 _ c3 (fun i => f (7 + 1 + i)) _ true Hb1.out (des_by _ _ _) _ hRm (Lst_reads hL3)).mono ?_
  rintro e w2 ⟨A4, c4, rfl, hc4, hL4, hB4⟩
  have hRl2 := (hRl.below hB4).more hB4.size
  have hB5 := hB3.trans (hB4.mono hB3.size)
  go_wp2_with fail
  refine (rblock_any (some ⟨ad.block, ad.off + 16, none⟩) A4 _ c4 (fun i => f (15 + 1 + i)) _ false Hb2.out (des_by _ _ _) _ hRl2 (Lst_reads hL4)).mono ?_
  rintro e w3 ⟨A5, c5, rfl, hc5, hL5, hB6⟩
  go_wp2_with fail
  go_ret
  exact ⟨A5, c5, rfl, hc5, by rw [← Hres.out]; exact hL5, hB5.trans (hB6.mono hB5.size)⟩
set_option maxRecDepth 100000 in
theorem rtriple24true (A : Option Addr) (c : Nat) (hc : 24 ≤ c) (A2 : Option Addr) (c2 : Nat) (f b : Nat → Nat) (hf : ∀ i, i < 24 → f i < 256) (hb : By8 b) (w : World) (hR1 : Reads w w.heap.size A 24 f) (hR2 : Reads w w.heap.size A2 8 b) :
    Calls Tryz.prog 34 #[.slice A 24 c, .slice A2 8 c2, .bool true] w fun e w' => ∃ A' c', e = .returned (.slice A' 8 c') ∧ 8 ≤ c' ∧ Lst w' 5 A' 8 (iv .u8 (tdes 24 f b true)) ∧ Below w.heap.size w w' := by
  have Hb := hid hb
  have hRx := hR1
  obtain ⟨ad, rfl, had, hcell⟩ := hR1 (by omega)
  have HRk0 := hid (hRx.less (show 8 ≤ 24 by omega))
  have HRk1 := hid (Reads_off hRx 7 8 (by omega))
  have HRk2 := hid (Reads_off hRx 15 8 (by omega))
  have Hb0 : Hid (By8 f) := hid (fun i hi => hf i (by omega))
  have Hb1 : Hid (By8 fun i => f (7 + 1 + i)) := hid (fun i hi => hf _ (by omega))
  have Hb2 : Hid (By8 fun i => f (15 + 1 + i)) := hid (fun i hi => hf _ (by omega))
  have Hres : Hid (des f (des (fun i => f (7 + 1 + i)) (des (fun i => f (15 + 1 + i)) b true) false) true = tdes 24 f b true) := hid (by
    unfold tdes
    rw [des_ext (k := (fun i => f (15 + 1 + i))) (k' := tkey 24 f (if true = true then 2 else 0)) (b := b) (b' := b) (fun i hi => by simp only [tkey]; simp; try (congr 1; omega)) (fun _ _ => rfl), des_ext (k := (fun i => f (7 + 1 + i))) (k' := tkey 24 f 1) (fun i hi => by simp only [tkey]; simp; try (congr 1; omega)) (fun _ _ => rfl), des_ext (k := f) (k' := tkey 24 f (if true = true then 0 else 2)) (fun i hi => by simp only [tkey]; simp; try (congr 1; omega)) (fun _ _ => rfl)]
    rfl)
  have t8 : (8 : Int) ≤ (c : Int) := by omega
  have t16 : (16 : Int) ≤ (c : Int) := by omega
  have t24 : ¬ c = 8 := by omega
  have t24b : (24 : Int) ≤ (c : Int) := by omega
  have t16b : ¬ c = 16 := by omega
  clear hf hb hcell hRx
  go_enter Tryz.func34, Tryz.ntmps34
  go_wp2_with fail
  refine (rblock_any (some ⟨ad.block, ad.off + 16, none⟩) A2 _ c2 (fun i => f (15 + 1 + i)) b true Hb2.out Hb.out _ HRk2.out hR2).mono ?_
  rintro e w1 ⟨A3, c3, rfl, hc3, hL3, hB3⟩
  have hRm := (HRk1.out.below hB3).more hB3.size
  have hRl := (HRk0.out.below hB3).more hB3.size
  go_wp2_with fail
  refine (rblock_any (some ⟨ad.block, ad.off + 8, none⟩) A3 _ c3 (fun i => f (7 + 1 + i)) _ false Hb1.out (des_by _ _ _) _ hRm (Lst_reads hL3)).mono ?_
  rintro e w2 ⟨A4, c4, rfl, hc4, hL4, hB4⟩
  have hRl2 := (hRl.below hB4).more hB4.size
  have hB5 := hB3.trans (hB4.mono hB3.size)
  go_wp2_with fail
  refine (rblock_any (some ad) A4 _ c4 f _ true Hb0.out (des_by _ _ _) _ hRl2 (Lst_reads hL4)).mono ?_
  rintro e w3 ⟨A5, c5, rfl, hc5, hL5, hB6⟩
  go_wp2_with fail
  go_ret
  exact ⟨A5, c5, rfl, hc5, by rw [← Hres.out]; exact hL5, hB5.trans (hB6.mono hB5.size)⟩
theorem rtriple_any (A : Option Addr) (L c : Nat) (hL : IsTKey L) (hc : L ≤ c) (A2 : Option Addr) (c2 : Nat) (f b : Nat → Nat) (back : Bool) (hf : ∀ i, i < L → f i < 256) (hb : By8 b) (w : World) (hR1 : Reads w w.heap.size A L f) (hR2 : Reads w w.heap.size A2 8 b) :
    Calls Tryz.prog 34 #[.slice A L c, .slice A2 8 c2, .bool back] w fun e w' => ∃ A' c', e = .returned (.slice A' 8 c') ∧ 8 ≤ c' ∧ Lst w' 5 A' 8 (iv .u8 (tdes L f b back)) ∧ Below w.heap.size w w' := by
  rcases hL with rfl | rfl | rfl
  · exact rtriple8 A c A2 c2 f b back hf hb w hR1 hR2
  · cases back
    · exact rtriple16false A c hc A2 c2 f b hf hb w hR1 hR2
    · exact rtriple16true A c hc A2 c2 f b hf hb w hR1 hR2
  · cases back
    · exact rtriple24false A c hc A2 c2 f b hf hb w hR1 hR2
    · exact rtriple24true A c hc A2 c2 f b hf hb w hR1 hR2
end Go.Proofs.YtomeeebiijmnmaaGreatDoor.Des
