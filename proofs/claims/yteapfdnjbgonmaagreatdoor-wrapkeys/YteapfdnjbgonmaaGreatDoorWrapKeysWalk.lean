/-
 WrapKeys returns true: its walk.
-/
import Derived.Test.YteapfdnjbgonmaaGreatDoorWr11
namespace Go.Proofs.YteapfdnjbgonmaaGreatDoor.Wr.Keys
open Mem Bk Md Mc Hd Dg As Wr Go.ChangeShapes Go.WideShapes Go.ChangeAt Go.RowKit
theorem kd_or (v : Nat) : kd v = 0 ∨ kd v = 1 ∨ kd v = 2 := by
 unfold kd
 repeat' split
 all_goals simp
def KO (m : Nat) (f1 f2 : Nat → Nat) (cd : Int) (w : World) (e : Ending) (w' : World) : Prop := ∃ A1 c1 A2 c2 v, e = .returned (.tuple #[.slice A1 m c1, .slice A2 m c2, v]) ∧ EA v cd (-1) w' ∧ Reads w' w'.heap.size A1 m f1 ∧ Reads w' w'.heap.size A2 m f2 ∧ Below w.heap.size w w'
def RKO (m : Nat) (f1 f2 : Nat → Nat) (cd : Int) (w : World) (e : Ending) (w' : World) : Prop := ∃ A1 c1 A2 c2, e = .returned (.tuple #[.slice A1 m c1, .slice A2 m c2, .int .i64 cd]) ∧ Reads w' w'.heap.size A1 m f1 ∧ Reads w' w'.heap.size A2 m f2 ∧ Below w.heap.size w w'
theorem reads0 (w : World) (B : Nat) (f : Nat → Nat) : Reads w B none 0 f := fun h => absurd h (by omega)
theorem keys_both (n : Nat) (A : Option Addr) (L c : Nat) (W : Nat → Nat) (hN : A = none → L = 0 ∧ c = 0) (hC : L ≤ c) (hb : ∀ i, i < L → W i < 256) :
  ∃ m f1 f2 cd, m ≤ 32 ∧ (∀ w, Reads w w.heap.size A L W → Calls Tryz.prog 11 #[.int .u8 (n : Int), .slice A L c] w (KO m f1 f2 cd w)) ∧ (∀ w, Reads w w.heap.size A L W → Calls Tryz.prog 12 #[.int .u8 (n : Int), .slice A L c] w (RKO m f1 f2 cd w)) := by
 have bad : ∀ (k : Nat), kd n = k → (k = 1 ∨ k = 2) → ¬ kfit k L → ∃ m f1 f2 cd, m ≤ 32 ∧ (∀ w, Reads w w.heap.size A L W → Calls Tryz.prog 11 #[.int .u8 (n : Int), .slice A L c] w (KO m f1 f2 cd w)) ∧ (∀ w, Reads w w.heap.size A L W → Calls Tryz.prog 12 #[.int .u8 (n : Int), .slice A L c] w (RKO m f1 f2 cd w)) := fun k hv hk hf => by
  refine ⟨0, fun _ => 0, fun _ => 0, 2, by omega, fun w _ => ?_, fun w _ => ?_⟩
  ·refine (keys_size n k hv hk A L c hf w).mono ?_
   rintro e w' ⟨rfl, rfl⟩
   exact ⟨none, 0, none, 0, _, rfl, ea_no 2 _, reads0 _ _ _, reads0 _ _ _, Below.refl _ _⟩
  refine (rkeys_size n k hv hk A L c hf w).mono ?_
  rintro e w' ⟨rfl, rfl⟩
  exact ⟨none, 0, none, 0, rfl, reads0 _ _ _, reads0 _ _ _, Below.refl _ _⟩
 have good : ∀ (k : Nat), kd n = k → (k = 1 ∨ k = 2) → kfit k L → ∃ m f1 f2 cd, m ≤ 32 ∧ (∀ w, Reads w w.heap.size A L W → Calls Tryz.prog 11 #[.int .u8 (n : Int), .slice A L c] w (KO m f1 f2 cd w)) ∧ (∀ w, Reads w w.heap.size A L W → Calls Tryz.prog 12 #[.int .u8 (n : Int), .slice A L c] w (RKO m f1 f2 cd w)) := fun k hv hk hf => by
  have hl := kfit_le hf
  refine ⟨L, kyF k L W 0, kyF k L W 1, 0, by omega, fun w hX => ?_, fun w hX => ?_⟩
  ·refine (keys_ok n k hv hk A L c W w hf hN hb hX).mono ?_
   rintro e w' ⟨v1, v2, rfl, ho1, ho2, hB⟩
   obtain ⟨A1, c1, rfl, -⟩ := ho1.slice'
   obtain ⟨A2, c2, rfl, -⟩ := ho2.slice'
   exact ⟨A1, c1, A2, c2, _, rfl, ea_nil _, ho1.reads, ho2.reads, hB⟩
  refine (rkeys_ok n k hv hk A L c W w hf hC hb hX).mono ?_
  rintro e w' ⟨A1, c1, A2, c2, rfl, -, -, h1, h2, hB⟩
  exact ⟨A1, c1, A2, c2, rfl, h1, h2, hB⟩
 rcases kd_or n with hv | hv | hv
 ·refine ⟨0, fun _ => 0, fun _ => 0, 1, by omega, fun w _ => ?_, fun w _ => ?_⟩
  ·refine (keys_arg n hv A L c w).mono ?_
   rintro e w' ⟨rfl, rfl⟩
   exact ⟨none, 0, none, 0, _, rfl, ea_no 1 _, reads0 _ _ _, reads0 _ _ _, Below.refl _ _⟩
  refine (rkeys_arg n hv A L c w).mono ?_
  rintro e w' ⟨rfl, rfl⟩
  exact ⟨none, 0, none, 0, rfl, reads0 _ _ _, reads0 _ _ _, Below.refl _ _⟩
 ·by_cases hf : kfit 1 L
  ·exact good 1 hv (.inl rfl) hf
  exact bad 1 hv (.inl rfl) hf
 by_cases hf : kfit 2 L
 ·exact good 2 hv (.inr rfl) hf
 exact bad 2 hv (.inr rfl) hf
set_option maxRecDepth 100000 in
set_option maxHeartbeats 2000000 in
set_option linter.unusedSimpArgs false in
theorem keys_true (n : Nat) (A : Option Addr) (L c : Nat) (g : Nat → Nat) (z : Int) (w : World) (hL : Laid w ∧ Tab w) (_hn : n < 256) (hR : Reads w w.heap.size A L g) (hg : ∀ i, i < L → g i < 256) (hN : A = none → L = 0 ∧ c = 0) (hC : L ≤ c) (_hz : (Lit.int .i64 z).wf = true) :
  Calls Tryz.prog 3 #[.int .u8 (n : Int), .slice A L c, .int .i64 z] w fun e w' => e = .returned (.bool true) ∧ Below w.heap.size w w' := by
 have HF := hid (fun w => fill_any (smp n) z w)
 have HRF := hid (fun w => rfill_any n z w)
 obtain ⟨m, f1, f2, cd, hm, hk1, hk2⟩ := keys_both n A L c g hN hC hg
 have HK := hid hk1
 have HRK := hid hk2
 have HG := hid hL.1
 have HT := hid hL.2
 have HR := hid hR
 clear hL hR hg hN hC _hz hk1 hk2
 go_enter Tryz.func3, Tryz.ntmps3
 go_wp2_with fail
 refine (awake11_any _ HG.out HT.out).mono ?_
 rintro e w1 ⟨rfl, hB1⟩
 have HG1 := hid (HG.out.below hB1)
 have HT1 := hid (HT.out.below hB1)
 have HR1 := hid ((HR.out.below hB1).more hB1.size)
 have HB1 := hid hB1
 clear hB1 HG HT HR
 by_cases h1 : L ≤ 100
 rotate_left
 ·have i1 : decide (100 < (L : Int)) = true := by simp; omega
  go_wp2_with fail
  refine (awake11_any _ HG1.out HT1.out).mono ?_
  rintro e w2 ⟨rfl, hB2⟩
  have HB2 := hid (HB1.out.trans (hB2.mono HB1.out.size))
  clear hB2
  go_wp2_with fail
  go_ret
  exact ⟨rfl, HB2.out⟩
 have i1 : decide (100 < (L : Int)) = false := by simp; omega
 go_wp2_with fail
 refine (HK.out _ HR1.out).mono ?_
 rintro e w2 ⟨A1, c1, A2, c2, v, rfl, hE, hR1, hR2, hB2⟩
 have HE2 := hid hE
 have Ha2 := hid hR1
 have Hb2 := hid hR2
 have HG2 := hid (HG1.out.below hB2)
 have HT2 := hid (HT1.out.below hB2)
 have HR2 := hid ((HR1.out.below hB2).more hB2.size)
 have HB2 := hid (HB1.out.trans (hB2.mono HB1.out.size))
 clear HG1 HT1 HR1 HB1 hB2
 clear hE hR1 hR2 HK
 go_wp2_with fail
 refine (HRK.out _ HR2.out).mono ?_
 rintro e w3 ⟨A3, c3, A4, c4, rfl, hR3, hR4, hB3⟩
 have Hc3 := hid hR3
 have Hd3 := hid hR4
 have HG3 := hid (HG2.out.below hB3)
 have HE3 := hid (HE2.out.below hB3)
 have Ha3 := hid ((Ha2.out.below hB3).more hB3.size)
 have Hb3 := hid ((Hb2.out.below hB3).more hB3.size)
 have HB3 := hid (HB2.out.trans (hB3.mono HB2.out.size))
 clear HG2 HE2 Ha2 Hb2 HB2 hB3
 clear hR3 hR4 HRK HT2 HR2
 go_wp2_with (first
  | (go_at_call 14; refine (sample_any n _).mono ?_; rintro x4 w4 ⟨rfl, hB4⟩; have HG4 := hid (HG3.out.below hB4); have HE4 := hid (HE3.out.below hB4); have Ha4 := hid ((Ha3.out.below hB4).more hB4.size); have Hb4 := hid ((Hb3.out.below hB4).more hB4.size); have Hc4 := hid ((Hc3.out.below hB4).more hB4.size); have Hd4 := hid ((Hd3.out.below hB4).more hB4.size); have HB4 := hid (HB3.out.trans (hB4.mono HB3.out.size)); clear HG3 HE3 Ha3 Hb3 Hc3 Hd3 HB3 hB4)
  | (go_at_call 13; refine (HF.out _).mono ?_; rintro x5 w5 ⟨rfl, hB5⟩; rw [show (smp n).v = n from rfl]; have HG5 := hid (HG4.out.below hB5); have HE5 := hid (HE4.out.below hB5); have Ha5 := hid ((Ha4.out.below hB5).more hB5.size); have Hb5 := hid ((Hb4.out.below hB5).more hB5.size); have Hc5 := hid ((Hc4.out.below hB5).more hB5.size); have Hd5 := hid ((Hd4.out.below hB5).more hB5.size); have HB5 := hid (HB4.out.trans (hB5.mono HB4.out.size)); clear HG4 HE4 Ha4 Hb4 Hc4 Hd4 HB4 hB5)
  | (go_at_call 15; refine (HRF.out _).mono ?_; rintro x6 w6 ⟨rfl, rfl⟩)
  | (go_at_call 16; refine (HE5.out.code HG5.out).mono ?_; rintro x7 w7 ⟨rfl, hB7⟩; have Ha7 := hid ((Ha5.out.below hB7).more hB7.size); have Hb7 := hid ((Hb5.out.below hB7).more hB7.size); have Hc7 := hid ((Hc5.out.below hB7).more hB7.size); have Hd7 := hid ((Hd5.out.below hB7).more hB7.size); have HB7 := hid (HB5.out.trans (hB7.mono HB5.out.size)); clear Ha5 Hb5 Hc5 Hd5 HB5 hB7))
 refine (same_yes A1 A3 m c1 c3 _ _ (by omega) Ha7.out Hc7.out).mono ?_
 rintro x8 w8 ⟨rfl, hB8⟩
 have Hb8 := hid ((Hb7.out.below hB8).more hB8.size)
 have Hd8 := hid ((Hd7.out.below hB8).more hB8.size)
 have HB8 := hid (HB7.out.trans (hB8.mono HB7.out.size))
 clear Hb7 Hd7 HB7 hB8
 go_wp2_with fail
 refine (same_yes A2 A4 m c2 c4 _ _ (by omega) Hb8.out Hd8.out).mono ?_
 rintro x9 w9 ⟨rfl, hB9⟩
 have HB9 := hid (HB8.out.trans (hB9.mono HB8.out.size))
 clear hB9
 go_wp2_with fail
 go_ret
 exact ⟨rfl, HB9.out⟩
end Go.Proofs.YteapfdnjbgonmaaGreatDoor.Wr.Keys
