/-
 What mac.Retail returns, and mac.Cmac of a length that can't be.
-/
import Derived.Test.YtlmnoapoofmmnaaGreatDoorMacX
namespace Go.Proofs.YtlmnoapoofmmnaaGreatDoor.Mc
open Mem Bk Md Go.ChangeShapes Go.WideShapes Go.ChangeAt Go.RowKit
theorem fits8 : fits 2 8 := .inr (.inl ⟨rfl, .inl rfl⟩)
def p0 : Pl := ⟨0, 0, 0, 0, 0, .nilIface, 0, fun _ => 0⟩
set_option maxRecDepth 100000 in
set_option maxHeartbeats 1000000 in
theorem baf_any (w : World) (gc base : Nat) (k1 k2 : Nat → Nat) (ad : Addr) (c : Nat) (ad2 : Addr) (c2 : Nat) (x : Nat → Nat) (h : CiAt w p0 2 gc base 8 k1) (hk : ∀ i, i < 8 → k2 i < 256) (hx : ∀ i, i < 8 → x i < 256) (hR : Reads w w.heap.size (some ad) 8 k2) (hX : Reads w w.heap.size (some ad2) 8 x) :
  Calls Tryz.prog 57 #[.pointer (some ⟨gc, 0, none⟩), .slice (some ad) 8 c, .slice (some ad2) 8 c2] w fun e w' => ∃ g, e = .returned (.tuple #[.slice (some ⟨g, 0, none⟩) 8 8, .nilIface]) ∧ Reads w' w'.heap.size (some ⟨g, 0, none⟩) 8 (tc 2 8 k1 false (tc 2 8 k2 true x)) ∧ Below w.heap.size w w' := by
 have H := hid h
 have Hk := hid hk
 have HX := hid hX
 have Hx := hid hx
 have HR := hid hR
 clear h hk hX hR hx
 go_enter Tryz.func57, Tryz.ntmps57
 go_wp2_with fail
 refine (new2 (some ad) 8 c k2 p0 none _ (by omega) (fun h => by cases h) Hk.out HR.out fits8).mono ?_
 rintro e w1 ⟨g1, rfl, hci, hg1, hB1⟩
 have H1 := hid (H.out.keep hB1)
 have HX1 := hid ((HX.out.below hB1).more hB1.size)
 have Hc1 := hid hci
 have HB1 := hid hB1
 clear hci hB1 H HX HR
 obtain ⟨ad', h', hbl, hcs⟩ := HX1.out (by omega)
 cases h'
 have Hcs := hid hcs
 clear hcs
 go_wp2_with fail
 refine (do12 _ p0 2 g1 _ 8 k2 ad2 c2 true x (by omega) Hc1.out hbl Hcs.out Hx.out).mono ?_
 rintro e w2 ⟨g2, rfl, hb2, hg2, hB2⟩
 have H2 := hid (H1.out.keep hB2)
 have HB2 := hid (HB1.out.trans (hB2.mono HB1.out.size))
 have Hb2 := hid hb2
 clear hb2 hB2 H1 HX1 HB1 Hc1 Hcs hbl
 go_wp2_with fail
 refine (do12 _ p0 2 gc _ 8 k1 ⟨g2, 0, none⟩ 8 false _ (by omega) H2.out Hb2.out.lt (fun i hi => by rw [add_zero_off]; exact Hb2.out.val i hi) (tc_lt (by omega) fits8 Hk.out Hx.out)).mono ?_
 rintro e w3 ⟨g3, rfl, hb3, hg3, hB3⟩
 have HB3 := hid (HB2.out.trans (hB3.mono HB2.out.size))
 have Hb3 := hid hb3
 clear hb3 hB3 H2 HB2 Hb2
 go_wp2_with fail
 go_ret2
 exact ⟨g3, rfl, Blk.reads Hb3.out, HB3.out⟩
def retF (key : Nat → Nat) (L : Nat) (t : Nat → Nat) : Nat → Nat := tc 2 8 key false (tc 2 8 (fun i => key (8 + i)) true (ah 2 8 key zf (padF L t) (L / 8 + 1)))
set_option maxRecDepth 100000 in
set_option maxHeartbeats 1000000 in
theorem retail_any (w : World) (A : Option Addr) (c : Nat) (key : Nat → Nat) (A2 : Option Addr) (L c2 : Nat) (t : Nat → Nat) (n : Nat) (hc : 16 ≤ c) (hk : ∀ i, i < 16 → key i < 256) (hL : L ≤ 1000) (hn : 1 ≤ n) (hn' : n ≤ 8) (hA2 : A2 = none → L = 0 ∧ c2 = 0) (ht : ∀ i, i < L → t i < 256) (hR : Reads w w.heap.size A 16 key) (hR2 : Reads w w.heap.size A2 L t) :
  Calls Tryz.prog 32 #[.slice A 16 c, .slice A2 L c2, .int .i64 (n : Int)] w fun e w' => ∃ v, e = .returned (.tuple #[v, .nilIface]) ∧ Mem.Own w' w.heap.size 5 1 v n (retF key L t) ∧ Below w.heap.size w w' := by
 have hn1I : ¬ (n : Int) < 1 := by omega
 have hn2I : ¬ (n : Int) > 8 := by omega
 have hRs := hR
 obtain ⟨ad, rfl, hbl, -⟩ := hR (by omega)
 have HRa := hid (hRs.less (show 8 ≤ 16 by omega))
 have HRb' := hRs.cut (k := 8) (cap := c) (by omega) hc
 rw [if_neg (by omega)] at HRb'
 have HRb := hid HRb'
 have hk1 : Hid (∀ i, i < 8 → key i < 256) := hid (fun i hi => hk i (by omega))
 have hk2 : Hid (∀ i, i < 8 → key (8 + i) < 256) := hid (fun i hi => hk _ (by omega))
 have HR2 := hid hR2
 have HA2 := hid hA2
 have Ht := hid ht
 have hnc8 : ¬ c = 8 := by omega
 have hc8 : 8 ≤ c := by omega
 clear hR hRs HRb' hk hA2 ht hR2 hbl
 go_enter Tryz.func32, Tryz.ntmps32
 go_wp2_with fail
 refine (new2 (some ad) 8 c key p0 none _ (by omega) (fun h => by cases h) hk1.out HRa.out fits8).mono ?_
 rintro e w1 ⟨g1, rfl, hci, hg1, hB1⟩
 have HRb1 := hid ((HRb.out.below hB1).more hB1.size)
 have HR21 := hid ((HR2.out.below hB1).more hB1.size)
 have Hc1 := hid hci
 have HB1 := hid hB1
 clear hci hB1 HRa HRb HR2
 go_wp2_with fail
 refine (pad_any A2 L c2 t 8 (padN L 8) _ hL (by omega) (by omega) rfl HA2.out HR21.out).mono ?_
 rintro e w2 ⟨rfl, hb2, hB2⟩
 have HRb2 := hid ((HRb1.out.below hB2).more hB2.size)
 have Hc2 := hid (Hc1.out.keep hB2)
 have HB2 := hid (HB1.out.trans (hB2.mono HB1.out.size))
 have Hb2 := hid (Blk.reads hb2)
 clear hb2 hB2 HRb1 Hc1 HB1 HR21
 have hMs : padN L 8 ≤ 100000 := Nat.le_trans padN_le (by omega)
 go_wp2_with fail
 refine (last_any _ p0 2 g1 _ 8 key (some ⟨w1.heap.size, 0, none⟩) (L / 8 + 1) (padN L 8) (padN L 8) (padF L t) (by omega) Hc2.out rfl (Nat.succ_pos _) hMs (Nat.le_refl _) (fun h => by cases h) (fun i _ => padF_lt Ht.out i) Hb2.out).mono ?_
 rintro e w3 ⟨g3, d3, c3, rfl, hc3, hR3, hB3⟩
 have HRb3 := hid ((HRb2.out.below hB3).more hB3.size)
 have Hc3 := hid (Hc2.out.keep hB3)
 have HB3 := hid (HB2.out.trans (hB3.mono HB2.out.size))
 have HX3 := hid hR3
 clear hR3 hB3 HRb2 Hc2 HB2 Hb2 hMs
 have hxl : ∀ i, i < 8 → ah 2 8 key zf (padF L t) (L / 8 + 1) i < 256 := ah_lt (N := L / 8 + 1) fits8 (by omega) hk1.out (zf_lt _) (fun i _ => padF_lt Ht.out i) _ (Nat.le_refl _)
 have Hxl := hid hxl
 clear hxl
 go_wp2_with fail
 refine (baf_any _ g1 _ key (fun i => key (8 + i)) (ad.add 8) (c - 8) ⟨g3, d3, none⟩ c3 _ Hc3.out hk2.out Hxl.out HRb3.out HX3.out).mono ?_
 rintro e w4 ⟨g4, rfl, hR4, hB4⟩
 have HX4 := hid (hR4.less hn')
 have HB4 := hid (HB3.out.trans (hB4.mono HB3.out.size))
 clear hR4 hB4 HRb3 Hc3 HB3 HX3
 go_wp2_with fail
 refine (clone_any _ n 8 _ _ (by omega) (fun h => by cases h) HX4.out).mono ?_
 rintro e w5 ⟨v5, rfl, ho5, hB5⟩
 have HB5 := hid (HB4.out.trans (hB5.mono HB4.out.size))
 obtain ⟨A5, c5, rfl, hc5, -, -⟩ := ho5.slice'
 go_wp2_with fail
 go_ret2
 exact ⟨_, rfl, own_base ho5 HB4.out.size, HB5.out⟩
end Go.Proofs.YtlmnoapoofmmnaaGreatDoor.Mc
