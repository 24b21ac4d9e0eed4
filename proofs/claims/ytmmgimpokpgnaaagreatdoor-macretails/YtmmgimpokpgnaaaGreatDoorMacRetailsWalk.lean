/-
  MacRetails returns true: its walk.
-/
import Derived.Test.YtmmgimpokpgnaaaGreatDoorRefMac
namespace Go.Proofs.YtmmgimpokpgnaaaGreatDoor.Mc.Retails
open Mem Bk Md Mc As Go.ChangeShapes Go.WideShapes Go.ChangeAt Go.RowKit
theorem size_of (n : Nat) : ∃ k : Nat, 1 ≤ k ∧ k ≤ 64 ∧ 1 + (n : Int) % 64 = (k : Int) := ⟨1 + n % 64, by omega, by omega, by omega⟩
set_option maxRecDepth 100000 in
theorem retail_n (A : Option Addr) (L c : Nat) (A2 : Option Addr) (L2 c2 : Nat) (z : Int) (w : World) (h : z < 1 ∨ 8 < z) :
    Calls Tryz.prog 35 #[.slice A L c, .slice A2 L2 c2, .int .i64 z] w fun e w' => e = .returned (.tuple #[.slice none 0 0, .iface 70 (.int .i64 1)]) ∧ w = w' := by
  by_cases h1 : z < 1
  · go_enter Tryz.func35, Tryz.ntmps35
    go_wp2_with fail
    go_ret2
    exact ⟨rfl, rfl⟩
  · have h2 : 8 < z := by omega
    go_enter Tryz.func35, Tryz.ntmps35
    go_wp2_with fail
    go_ret2
    exact ⟨rfl, rfl⟩
set_option maxRecDepth 100000 in
theorem retail_key (A : Option Addr) (L c : Nat) (A2 : Option Addr) (L2 c2 : Nat) (z : Int) (w : World) (h1 : ¬ z < 1) (h2 : ¬ 8 < z) (hL : L ≠ 16) :
    Calls Tryz.prog 35 #[.slice A L c, .slice A2 L2 c2, .int .i64 z] w fun e w' => e = .returned (.tuple #[.slice none 0 0, .iface 70 (.int .i64 2)]) ∧ w = w' := by
  have hLI : ((L : Int) != 16) = true := by simp; omega
  clear hL
  go_enter Tryz.func35, Tryz.ntmps35
  go_wp2_with fail
  go_ret2
  exact ⟨rfl, rfl⟩
set_option maxRecDepth 100000 in
set_option maxHeartbeats 1000000 in
theorem retails_true (A : Option Addr) (L c : Nat) (key : Nat → Nat) (A2 : Option Addr) (L2 c2 : Nat) (t : Nat → Nat) (z : Int) (u : Nat) (w : World) (hg : Laid w) (hR : Reads w w.heap.size A L key) (hk : ∀ i, i < L → key i < 256) (_hA : A = none → L = 0 ∧ c = 0) (hC : L ≤ c) (hR2 : Reads w w.heap.size A2 L2 t) (ht : ∀ i, i < L2 → t i < 256) (hA2 : A2 = none → L2 = 0 ∧ c2 = 0) (_hz : (Lit.int .i64 z).wf = true) (_hu : u < 256) :
    Calls Tryz.prog 7 #[.slice A L c, .slice A2 L2 c2, .int .i64 z, .int .u8 (u : Int)] w fun e w' => e = .returned (.bool true) ∧ Below w.heap.size w w' := by
  obtain ⟨k, hk1, hk2, hkI⟩ := size_of u
  have Hg := hid hg
  have HR := hid hR
  have HR2 := hid hR2
  have Hk := hid hk
  have Ht := hid ht
  have HA2 := hid hA2
  clear hg hR hR2 hk ht hA2
  by_cases hL : L ≤ 100 ∧ L2 ≤ 200
  · obtain ⟨hL1, hL2⟩ := hL
    have hL1I : ¬ 100 < (L : Int) := by omega
    have hL2I : ¬ 200 < (L2 : Int) := by omega
    obtain ⟨M, hM⟩ : ∃ M, M = padN L2 k := ⟨_, rfl⟩
    have hML : M ≤ L2 + k := by rw [hM]; exact padN_le
    have HM := hid hM
    clear hM
    go_enter Tryz.func7, Tryz.ntmps7
    go_wp2_with fail
    refine (awake7_any _).mono ?_
    rintro e w1 ⟨rfl, hB1⟩
    have HR1 := hid (up HR.out hB1)
    have HR21 := hid (up HR2.out hB1)
    have HB1 := hid hB1
    clear HR HR2 hB1
    go_wp2_with fail
    refine (pad_any A2 L2 c2 t k M _ (by omega) hk1 hk2 HM.out HA2.out HR21.out).mono ?_
    rintro e w2 ⟨rfl, hb2, hB2⟩
    have HR2' := hid (up HR1.out hB2)
    have HR22 := hid (up HR21.out hB2)
    have HP2 := hid (Blk.reads hb2)
    have HB2 := hid (HB1.out.trans (hB2.mono HB1.out.size))
    clear HR1 HR21 HB1 hB2 hb2
    go_wp2_with fail
    refine (rpad_any A2 L2 c2 t k M _ (by omega) hk1 hk2 HM.out HA2.out HR22.out).mono ?_
    rintro e w3 ⟨v3, rfl, ho3, hB3⟩
    obtain ⟨A3, c3, rfl, hc3, -, -⟩ := ho3.slice'
    have HR3 := hid (up HR2'.out hB3)
    have HR23 := hid (up HR22.out hB3)
    have HP3 := hid (up HP2.out hB3)
    have HQ3 := hid ho3.reads
    have HB3 := hid (HB2.out.trans (hB3.mono HB2.out.size))
    clear HR2' HR22 HB2 hB3 ho3 HP2
    go_wp2_with fail
    refine (same_any _ A3 M M c3 _ _ _ (by omega) HP3.out HQ3.out).mono ?_
    rintro e w4 ⟨rfl, hB4⟩
    rw [eqB_true (fun _ _ => rfl)]
    have HR4 := hid (up HR3.out hB4)
    have HR24 := hid (up HR23.out hB4)
    have HB4 := hid (HB3.out.trans (hB4.mono HB3.out.size))
    have Hg4 := hid (Hg.out.below HB4.out)
    clear HR3 HR23 HB3 hB4 HP3 HQ3 Hg
    go_wp2_with fail
    by_cases hz : z < 1 ∨ 8 < z
    · refine (retail_n A L c A2 L2 c2 z _ hz).mono ?_
      rintro e w' ⟨rfl, rfl⟩
      clear HR4 HR24
      by_cases hz1 : z < 1
      · clear hz
        go_wp2_with (go_at_call 16; refine (code_hit 1 _ Hg4.out).mono ?_; rintro e w7 ⟨rfl, hB7⟩)
        go_ret
        exact ⟨rfl, HB4.out.trans (hB7.mono HB4.out.size)⟩
      · have hz2 : 8 < z := by omega
        clear hz
        go_wp2_with (go_at_call 16; refine (code_hit 1 _ Hg4.out).mono ?_; rintro e w7 ⟨rfl, hB7⟩)
        go_ret
        exact ⟨rfl, HB4.out.trans (hB7.mono HB4.out.size)⟩
    · have hz1 : ¬ z < 1 := fun h => hz (.inl h)
      have hz2 : ¬ 8 < z := fun h => hz (.inr h)
      clear hz
      by_cases h16 : L = 16
      · subst h16
        obtain ⟨n, rfl⟩ : ∃ n : Nat, z = (n : Int) := ⟨z.toNat, by omega⟩
        have hn1 : 1 ≤ n := by omega
        have hn8 : n ≤ 8 := by omega
        obtain ⟨gk, rfl⟩ : ∃ g, A = some g := by
          obtain ⟨ad, h, -⟩ := HR4.out (by omega)
          exact ⟨ad, h⟩
        refine (retail_any _ (some gk) c key A2 L2 c2 t n hC Hk.out (by omega) hn1 hn8 HA2.out Ht.out HR4.out HR24.out).mono ?_
        rintro e w5 ⟨v5, rfl, ho5, hB5⟩
        obtain ⟨A5, c5, rfl, hc5, -, -⟩ := ho5.slice'
        have HR5 := hid (up HR4.out hB5)
        have HR25 := hid (up HR24.out hB5)
        have HX5 := hid ho5.reads
        have HB5 := hid (HB4.out.trans (hB5.mono HB4.out.size))
        clear ho5 hB5 HR4 HR24 HB4 Hg4
        go_wp2_with fail
        refine (rretail_any gk c key A2 L2 c2 t _ hC (by omega) Hk.out Ht.out HA2.out HR5.out HR25.out).mono ?_
        rintro e w6 ⟨A6, c6, rfl, hc6, hR6, hB6⟩
        have HX6 := hid (up HX5.out hB6)
        have HW6 := hid (hR6.less hn8)
        have HB6 := hid (HB5.out.trans (hB6.mono HB5.out.size))
        have hnc : n ≤ c6 := by omega
        clear hR6 hB6 HR5 HR25 HX5 HB5
        go_wp2_with fail
        refine (same_any A5 A6 n c5 c6 _ _ _ (by omega) HX6.out HW6.out).mono ?_
        rintro e w7 ⟨rfl, hB7⟩
        rw [eqB_true (fun _ _ => rfl)]
        have HB7 := hid (HB6.out.trans (hB7.mono HB6.out.size))
        clear hB7 HX6 HW6 HB6
        go_wp2_with fail
        go_ret
        exact ⟨rfl, HB7.out⟩
      · have hLI : ((L : Int) != 16) = true := by simp; omega
        refine (retail_key A L c A2 L2 c2 z _ hz1 hz2 h16).mono ?_
        rintro e w' ⟨rfl, rfl⟩
        clear HR4 HR24 h16
        go_wp2_with (go_at_call 16; refine (code_hit 2 _ Hg4.out).mono ?_; rintro e w7 ⟨rfl, hB7⟩)
        go_ret
        exact ⟨rfl, HB4.out.trans (hB7.mono HB4.out.size)⟩
  · have hor : 100 < L ∨ (L ≤ 100 ∧ 200 < L2) := by omega
    clear HR HR2 HA2 Hk Ht
    rcases hor with h1 | ⟨h1, h2⟩
    · have h1I : 100 < (L : Int) := by omega
      go_enter Tryz.func7, Tryz.ntmps7
      go_wp2_with fail
      refine (awake7_any _).mono ?_
      rintro e w1 ⟨rfl, hB1⟩
      go_wp2_with fail
      refine (awake7_any _).mono ?_
      rintro e w2 ⟨rfl, hB2⟩
      go_wp2_with fail
      go_ret
      exact ⟨rfl, hB1.trans (hB2.mono hB1.size)⟩
    · have h1I : ¬ 100 < (L : Int) := by omega
      have h2I : 200 < (L2 : Int) := by omega
      go_enter Tryz.func7, Tryz.ntmps7
      go_wp2_with fail
      refine (awake7_any _).mono ?_
      rintro e w1 ⟨rfl, hB1⟩
      go_wp2_with fail
      refine (awake7_any _).mono ?_
      rintro e w2 ⟨rfl, hB2⟩
      go_wp2_with fail
      go_ret
      exact ⟨rfl, hB1.trans (hB2.mono hB1.size)⟩
end Go.Proofs.YtmmgimpokpgnaaaGreatDoor.Mc.Retails
