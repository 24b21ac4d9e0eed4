/-
  PartRights returns true: its walk.
-/
import Derived.Test.YtaeleohjikheiaaGreatDoorLaw09
namespace Go.Proofs.YtaeleohjikheiaaGreatDoor.Pt.Rights
open Mem Bk Md Mc Pt As Go.ChangeShapes Go.WideShapes Go.ChangeAt Go.RowKit
set_option maxRecDepth 100000 in
set_option maxHeartbeats 1000000 in
theorem r_kind (z : Int) (h1 : z ≠ 1) (h2 : z ≠ 2) (A : Option Addr) (L c : Nat) (f : Nat → Nat) (w : World) (hg : Laid w) (hR : Reads w w.heap.size A L f) (hf : ∀ i, i < L → f i < 256) (_hc : L ≤ c) (hL : L ≤ 100) :
    Calls Tryz.prog 5 #[.int .i64 z, .slice A L c] w fun e w' => e = .returned (.bool true) ∧ Below w.heap.size w w' := by
  have HG := hid hg
  have HR := hid hR
  have Hf := hid hf
  have hLI : ¬ 100 < (L : Int) := by omega
  clear hg hR hf
  go_enter Tryz.func5, Tryz.ntmps5
  go_wp2_with fail
  refine (awake9_any _ HG.out).mono ?_
  rintro e w1 ⟨rfl, hB1⟩
  have HR1 := hid ((HR.out.below hB1).more hB1.size)
  have HB1 := hid hB1
  clear hB1 HR
  go_wp2_with fail
  refine (right_kind z h1 h2 A L c _).mono ?_
  rintro e w2 ⟨rfl, rfl⟩
  have HB2 := hid (Below.refl w2.heap.size w2)
  have HR2 := hid ((HR1.out.below HB2.out).more HB2.out.size)
  clear HR1
  go_wp2_with fail
  refine (odd_any A L c f _ (by omega) Hf.out HR2.out).mono ?_
  rintro e w3 ⟨rfl, hb3, hB3⟩
  have HO3 := hid hb3
  have HR3 := hid ((HR2.out.below hB3).more hB3.size)
  have HB3 := hid (HB1.out.trans (hB3.mono HB1.out.size))
  clear hb3 hB3 HR2 HB2
  go_wp2_with fail
  refine (rodd_any A L c f _ (by omega) Hf.out HR3.out).mono ?_
  rintro e w4 ⟨v4, rfl, ho4, hB4⟩
  obtain ⟨A4, c4, rfl, hc4, -, -⟩ := ho4.slice'
  have HO4 := hid (HO3.out.below hB4 HO3.out.lt)
  have HV4 := hid ho4.reads
  have HR4 := hid ((HR3.out.below hB4).more hB4.size)
  have HB4 := hid (HB3.out.trans (hB4.mono HB3.out.size))
  clear ho4 hB4 HO3 HR3 HB3
  go_wp2_with fail
  refine (same_any _ A4 L L c4 (odF f) (odF f) _ (by omega) HO4.out.reads HV4.out).mono ?_
  rintro e w5 ⟨rfl, hB5⟩
  rw [show eqB L (odF f) (odF f) = true from eqB_true (fun _ _ => rfl)]
  have HR5 := hid ((HR4.out.below hB5).more hB5.size)
  have HB5 := hid (HB4.out.trans (hB5.mono HB4.out.size))
  clear hB5 HO4 HV4 HR4 HB4
  go_wp2_with fail
  refine (rsized_kind z h1 h2 L _).mono ?_
  rintro e w6 ⟨rfl, rfl⟩
  go_wp2_with fail
  refine (code_hit 1 _ (HG.out.below HB5.out)).mono ?_
  rintro e w7 ⟨rfl, hB7⟩
  go_wp2_with fail
  go_ret
  exact ⟨rfl, HB5.out.trans (hB7.mono HB5.out.size)⟩
set_option maxRecDepth 100000 in
set_option maxHeartbeats 1000000 in
theorem r_size (k : Nat) (hk : k = 1 ∨ k = 2) (A : Option Addr) (L c : Nat) (f : Nat → Nat) (w : World) (hg : Laid w) (hR : Reads w w.heap.size A L f) (hf : ∀ i, i < L → f i < 256) (_hc : L ≤ c) (hL : L ≤ 100) (hn : ¬ fit9 k L) :
    Calls Tryz.prog 5 #[.int .i64 (k : Int), .slice A L c] w fun e w' => e = .returned (.bool true) ∧ Below w.heap.size w w' := by
  have HG := hid hg
  have HR := hid hR
  have Hf := hid hf
  have hLI : ¬ 100 < (L : Int) := by omega
  clear hg hR hf
  go_enter Tryz.func5, Tryz.ntmps5
  go_wp2_with fail
  refine (awake9_any _ HG.out).mono ?_
  rintro e w1 ⟨rfl, hB1⟩
  have HR1 := hid ((HR.out.below hB1).more hB1.size)
  have HB1 := hid hB1
  clear hB1 HR
  go_wp2_with fail
  refine (right_size k hk A L c (by omega) hn _).mono ?_
  rintro e w2 ⟨rfl, rfl⟩
  have HB2 := hid (Below.refl w2.heap.size w2)
  have HR2 := hid ((HR1.out.below HB2.out).more HB2.out.size)
  clear HR1
  go_wp2_with fail
  refine (odd_any A L c f _ (by omega) Hf.out HR2.out).mono ?_
  rintro e w3 ⟨rfl, hb3, hB3⟩
  have HO3 := hid hb3
  have HR3 := hid ((HR2.out.below hB3).more hB3.size)
  have HB3 := hid (HB1.out.trans (hB3.mono HB1.out.size))
  clear hb3 hB3 HR2 HB2
  go_wp2_with fail
  refine (rodd_any A L c f _ (by omega) Hf.out HR3.out).mono ?_
  rintro e w4 ⟨v4, rfl, ho4, hB4⟩
  obtain ⟨A4, c4, rfl, hc4, -, -⟩ := ho4.slice'
  have HO4 := hid (HO3.out.below hB4 HO3.out.lt)
  have HV4 := hid ho4.reads
  have HR4 := hid ((HR3.out.below hB4).more hB4.size)
  have HB4 := hid (HB3.out.trans (hB4.mono HB3.out.size))
  clear ho4 hB4 HO3 HR3 HB3
  go_wp2_with fail
  refine (same_any _ A4 L L c4 (odF f) (odF f) _ (by omega) HO4.out.reads HV4.out).mono ?_
  rintro e w5 ⟨rfl, hB5⟩
  rw [show eqB L (odF f) (odF f) = true from eqB_true (fun _ _ => rfl)]
  have HR5 := hid ((HR4.out.below hB5).more hB5.size)
  have HB5 := hid (HB4.out.trans (hB5.mono HB4.out.size))
  clear hB5 HO4 HV4 HR4 HB4
  go_wp2_with fail
  refine (rsized_bad k L hk hn _).mono ?_
  rintro e w6 ⟨rfl, rfl⟩
  go_wp2_with fail
  refine (code_hit 2 _ (HG.out.below HB5.out)).mono ?_
  rintro e w7 ⟨rfl, hB7⟩
  go_wp2_with fail
  go_ret
  exact ⟨rfl, HB5.out.trans (hB7.mono HB5.out.size)⟩
set_option maxRecDepth 100000 in
set_option maxHeartbeats 1000000 in
theorem r_aes (A : Option Addr) (L c : Nat) (f : Nat → Nat) (w : World) (hg : Laid w) (hR : Reads w w.heap.size A L f) (hf : ∀ i, i < L → f i < 256) (hc : L ≤ c) (hL : L ≤ 100) (hn : fit9 1 L) :
    Calls Tryz.prog 5 #[.int .i64 1, .slice A L c] w fun e w' => e = .returned (.bool true) ∧ Below w.heap.size w w' := by
  have HG := hid hg
  have HR := hid hR
  have Hf := hid hf
  have hLI : ¬ 100 < (L : Int) := by omega
  clear hg hR hf
  go_enter Tryz.func5, Tryz.ntmps5
  go_wp2_with fail
  refine (awake9_any _ HG.out).mono ?_
  rintro e w1 ⟨rfl, hB1⟩
  have HR1 := hid ((HR.out.below hB1).more hB1.size)
  have HB1 := hid hB1
  clear hB1 HR
  go_wp2_with fail
  refine (right_aes A L c (by omega) hn _).mono ?_
  rintro e w2 ⟨rfl, rfl⟩
  have HB2 := hid (Below.refl w2.heap.size w2)
  have HR2 := hid ((HR1.out.below HB2.out).more HB2.out.size)
  clear HR1
  go_wp2_with fail
  refine (odd_any A L c f _ (by omega) Hf.out HR2.out).mono ?_
  rintro e w3 ⟨rfl, hb3, hB3⟩
  have HO3 := hid hb3
  have HR3 := hid ((HR2.out.below hB3).more hB3.size)
  have HB3 := hid (HB1.out.trans (hB3.mono HB1.out.size))
  clear hb3 hB3 HR2 HB2
  go_wp2_with fail
  refine (rodd_any A L c f _ (by omega) Hf.out HR3.out).mono ?_
  rintro e w4 ⟨v4, rfl, ho4, hB4⟩
  obtain ⟨A4, c4, rfl, hc4, -, -⟩ := ho4.slice'
  have HO4 := hid (HO3.out.below hB4 HO3.out.lt)
  have HV4 := hid ho4.reads
  have HR4 := hid ((HR3.out.below hB4).more hB4.size)
  have HB4 := hid (HB3.out.trans (hB4.mono HB3.out.size))
  clear ho4 hB4 HO3 HR3 HB3
  go_wp2_with fail
  refine (same_any _ A4 L L c4 (odF f) (odF f) _ (by omega) HO4.out.reads HV4.out).mono ?_
  rintro e w5 ⟨rfl, hB5⟩
  rw [show eqB L (odF f) (odF f) = true from eqB_true (fun _ _ => rfl)]
  have HR5 := hid ((HR4.out.below hB5).more hB5.size)
  have HB5 := hid (HB4.out.trans (hB5.mono HB4.out.size))
  clear hB5 HO4 HV4 HR4 HB4
  go_wp2_with fail
  refine (rsized_ok 1 L hn _).mono ?_
  rintro e w6 ⟨rfl, rfl⟩
  go_wp2_with fail
  rcases odd_or f L with hO | ⟨i, hi⟩
  · refine (reven_any A L c f L _ (by omega) hc Hf.out HR5.out (Nat.le_refl _) hO (fun h => by omega)).mono ?_
    rintro e w7 ⟨rfl, hB7⟩
    generalize evI L L = q
    go_wp2_with fail
    go_ret
    exact ⟨rfl, HB5.out.trans (hB7.mono HB5.out.size)⟩
  · refine (reven_any A L c f i _ (by omega) hc Hf.out HR5.out (Nat.le_of_lt hi.1) hi.2.2 (fun _ => hi.2.1)).mono ?_
    rintro e w7 ⟨rfl, hB7⟩
    generalize evI i L = q
    go_wp2_with fail
    go_ret
    exact ⟨rfl, HB5.out.trans (hB7.mono HB5.out.size)⟩
set_option maxRecDepth 100000 in
set_option maxHeartbeats 1000000 in
theorem r_odd (A : Option Addr) (L c : Nat) (f : Nat → Nat) (w : World) (hg : Laid w) (hR : Reads w w.heap.size A L f) (hf : ∀ i, i < L → f i < 256) (hc : L ≤ c) (hL : L ≤ 100) (hn : fit9 2 L) (hO : AllOdd L f) :
    Calls Tryz.prog 5 #[.int .i64 2, .slice A L c] w fun e w' => e = .returned (.bool true) ∧ Below w.heap.size w w' := by
  have HG := hid hg
  have HR := hid hR
  have Hf := hid hf
  have hLI : ¬ 100 < (L : Int) := by omega
  clear hg hR hf
  go_enter Tryz.func5, Tryz.ntmps5
  go_wp2_with fail
  refine (awake9_any _ HG.out).mono ?_
  rintro e w1 ⟨rfl, hB1⟩
  have HR1 := hid ((HR.out.below hB1).more hB1.size)
  have HB1 := hid hB1
  clear hB1 HR
  go_wp2_with fail
  refine (right_odd A L c f hn _ Hf.out HR1.out hO).mono ?_
  rintro e w2 ⟨rfl, rfl⟩
  have HB2 := hid (Below.refl w2.heap.size w2)
  have HR2 := hid ((HR1.out.below HB2.out).more HB2.out.size)
  clear HR1
  go_wp2_with fail
  refine (odd_any A L c f _ (by omega) Hf.out HR2.out).mono ?_
  rintro e w3 ⟨rfl, hb3, hB3⟩
  have HO3 := hid hb3
  have HR3 := hid ((HR2.out.below hB3).more hB3.size)
  have HB3 := hid (HB1.out.trans (hB3.mono HB1.out.size))
  clear hb3 hB3 HR2 HB2
  go_wp2_with fail
  refine (rodd_any A L c f _ (by omega) Hf.out HR3.out).mono ?_
  rintro e w4 ⟨v4, rfl, ho4, hB4⟩
  obtain ⟨A4, c4, rfl, hc4, -, -⟩ := ho4.slice'
  have HO4 := hid (HO3.out.below hB4 HO3.out.lt)
  have HV4 := hid ho4.reads
  have HR4 := hid ((HR3.out.below hB4).more hB4.size)
  have HB4 := hid (HB3.out.trans (hB4.mono HB3.out.size))
  clear ho4 hB4 HO3 HR3 HB3
  go_wp2_with fail
  refine (same_any _ A4 L L c4 (odF f) (odF f) _ (by omega) HO4.out.reads HV4.out).mono ?_
  rintro e w5 ⟨rfl, hB5⟩
  rw [show eqB L (odF f) (odF f) = true from eqB_true (fun _ _ => rfl)]
  have HR5 := hid ((HR4.out.below hB5).more hB5.size)
  have HB5 := hid (HB4.out.trans (hB5.mono HB4.out.size))
  clear hB5 HO4 HV4 HR4 HB4
  go_wp2_with fail
  refine (rsized_ok 2 L hn _).mono ?_
  rintro e w6 ⟨rfl, rfl⟩
  go_wp2_with fail
  refine (reven_any A L c f L _ (by omega) hc Hf.out HR5.out (Nat.le_refl _) hO (fun h => by omega)).mono ?_
  rintro e w7 ⟨rfl, hB7⟩
  rw [show evI L L = -1 by unfold evI; rw [if_neg (by omega)]]
  go_wp2_with fail
  go_ret
  exact ⟨rfl, HB5.out.trans (hB7.mono HB5.out.size)⟩
set_option maxRecDepth 100000 in
set_option maxHeartbeats 1000000 in
theorem r_even (A : Option Addr) (L c : Nat) (f : Nat → Nat) (w : World) (hg : Laid w) (hR : Reads w w.heap.size A L f) (hf : ∀ i, i < L → f i < 256) (hc : L ≤ c) (hL : L ≤ 100) (hn : fit9 2 L) (i : Nat) (hi : EvenAt L f i) :
    Calls Tryz.prog 5 #[.int .i64 2, .slice A L c] w fun e w' => e = .returned (.bool true) ∧ Below w.heap.size w w' := by
  have HG := hid hg
  have HR := hid hR
  have Hf := hid hf
  have hLI : ¬ 100 < (L : Int) := by omega
  clear hg hR hf
  go_enter Tryz.func5, Tryz.ntmps5
  go_wp2_with fail
  refine (awake9_any _ HG.out).mono ?_
  rintro e w1 ⟨rfl, hB1⟩
  have HR1 := hid ((HR.out.below hB1).more hB1.size)
  have HB1 := hid hB1
  clear hB1 HR
  go_wp2_with fail
  refine (right_even A L c f i hn _ Hf.out HR1.out hi).mono ?_
  rintro e w2 ⟨rfl, hb2, hB2⟩
  have HF2 := hid hb2
  have HR1' := hid ((HR1.out.below hB2).more hB2.size)
  have HBx := hid (HB1.out.trans (hB2.mono HB1.out.size))
  clear hb2 hB2 HR1 HB1
  have HB2 := hid (Below.refl w2.heap.size w2)
  have HR2 := hid ((HR1'.out.below HB2.out).more HB2.out.size)
  clear HR1'
  go_wp2_with fail
  refine (odd_any A L c f _ (by omega) Hf.out HR2.out).mono ?_
  rintro e w3 ⟨rfl, hb3, hB3⟩
  have HO3 := hid hb3
  have HR3 := hid ((HR2.out.below hB3).more hB3.size)
  have HB3 := hid (HBx.out.trans (hB3.mono HBx.out.size))
  have HF3 := hid (HF2.out.below hB3 HF2.out.lt)
  clear hb3 hB3 HR2 HB2 HBx HF2
  go_wp2_with fail
  refine (rodd_any A L c f _ (by omega) Hf.out HR3.out).mono ?_
  rintro e w4 ⟨v4, rfl, ho4, hB4⟩
  obtain ⟨A4, c4, rfl, hc4, -, -⟩ := ho4.slice'
  have HO4 := hid (HO3.out.below hB4 HO3.out.lt)
  have HV4 := hid ho4.reads
  have HR4 := hid ((HR3.out.below hB4).more hB4.size)
  have HB4 := hid (HB3.out.trans (hB4.mono HB3.out.size))
  have HF4 := hid (HF3.out.below hB4 HF3.out.lt)
  clear ho4 hB4 HO3 HR3 HB3 HF3
  go_wp2_with fail
  refine (same_any _ A4 L L c4 (odF f) (odF f) _ (by omega) HO4.out.reads HV4.out).mono ?_
  rintro e w5 ⟨rfl, hB5⟩
  rw [show eqB L (odF f) (odF f) = true from eqB_true (fun _ _ => rfl)]
  have HR5 := hid ((HR4.out.below hB5).more hB5.size)
  have HB5 := hid (HB4.out.trans (hB5.mono HB4.out.size))
  have HF5 := hid (HF4.out.below hB5 HF4.out.lt)
  clear hB5 HO4 HV4 HR4 HB4 HF4
  go_wp2_with fail
  refine (rsized_ok 2 L hn _).mono ?_
  rintro e w6 ⟨rfl, rfl⟩
  go_wp2_with fail
  refine (reven_any A L c f i _ (by omega) hc Hf.out HR5.out (Nat.le_of_lt hi.1) hi.2.2 (fun _ => hi.2.1)).mono ?_
  rintro e w7 ⟨rfl, hB7⟩
  rw [show evI i L = (i : Int) by unfold evI; rw [if_pos hi.1]]
  have HF7 := hid (HF5.out.below hB7 HF5.out.lt)
  have HB7 := hid (HB5.out.trans (hB7.mono HB5.out.size))
  clear hB7 HF5 HB5 HR5
  go_wp2_with fail
  refine (code_fault 3 _ _ (HG.out.below HB7.out) (HF7.out.cell 1)).mono ?_
  rintro e w8 ⟨rfl, hB8⟩
  have HF8 := hid (HF7.out.below hB8 HF7.out.lt)
  have HB8 := hid (HB7.out.trans (hB8.mono HB7.out.size))
  clear hB8 HF7 HB7
  go_wp2_with fail
  refine (at_fault _ _ _ _ (HG.out.below HB8.out) HF8.out).mono ?_
  rintro e w9 ⟨rfl, hB9⟩
  go_wp2_with fail
  go_ret
  exact ⟨rfl, HB8.out.trans (hB9.mono HB8.out.size)⟩
set_option maxRecDepth 100000 in
theorem rights_true (z : Int) (A : Option Addr) (L c : Nat) (f : Nat → Nat) (w : World) (hg : Laid w) (_q : (Lit.int .i64 z).wf = true) (hR : Reads w w.heap.size A L f) (hf : ∀ i, i < L → f i < 256) (_hA : A = none → L = 0 ∧ c = 0) (hc : L ≤ c) :
    Calls Tryz.prog 5 #[.int .i64 z, .slice A L c] w fun e w' => e = .returned (.bool true) ∧ Below w.heap.size w w' := by
  by_cases hL : L ≤ 100
  · by_cases h1 : z = 1
    · subst h1
      by_cases hn : fit9 1 L
      · exact r_aes A L c f w hg hR hf hc hL hn
      · exact r_size 1 (.inl rfl) A L c f w hg hR hf hc hL hn
    · by_cases h2 : z = 2
      · subst h2
        by_cases hn : fit9 2 L
        · rcases odd_or f L with hO | ⟨i, hi⟩
          · exact r_odd A L c f w hg hR hf hc hL hn hO
          · exact r_even A L c f w hg hR hf hc hL hn i hi
        · exact r_size 2 (.inr rfl) A L c f w hg hR hf hc hL hn
      · exact r_kind z h1 h2 A L c f w hg hR hf hc hL
  · have hLI : 100 < (L : Int) := by omega
    have HG := hid hg
    clear hg hR hf
    go_enter Tryz.func5, Tryz.ntmps5
    go_wp2_with fail
    refine (awake9_any _ HG.out).mono ?_
    rintro e w1 ⟨rfl, hB1⟩
    go_wp2_with fail
    refine (awake9_any _ (HG.out.below hB1)).mono ?_
    rintro e w2 ⟨rfl, hB2⟩
    go_wp2_with fail
    go_ret
    exact ⟨rfl, hB1.trans (hB2.mono hB1.size)⟩
end Go.Proofs.YtaeleohjikheiaaGreatDoor.Pt.Rights
