/-
  ModeBack returns true: its walk.
-/
import Derived.Test.YtdodflnmhgnpeaaGreatDoorAwake06
namespace Go.Proofs.YtdodflnmhgnpeaaGreatDoor.Md
open Mem Bk As Go.ChangeShapes Go.WideShapes Go.ChangeAt Go.RowKit
theorem kind_of (n : Nat) : ∃ k : Nat, (k = 1 ∨ k = 2) ∧ 1 + (n : Int) % 2 = (k : Int) := ⟨1 + n % 2, by omega, by omega⟩
theorem cutX (k g : Nat) (w : World) : (Instr.sliceAt 37 (.pointer (some ⟨g, 0, none⟩)) none (some (.int .i64 (sz k : Int))) none).run Tryz.prog w = .ok (.slice (some ⟨g, 0, none⟩) (sz k) 16) w := by
  unfold sz
  split <;> kernel_rfl
theorem wrap64_small {x : Int} (h1 : -9223372036854775808 ≤ x) (h2 : x < 9223372036854775808) : wrap64 x = x := by unfold wrap64; omega
theorem cut_int (L2 n : Nat) (h : L2 ≤ 1000) : wrap64 (wrap64 ((L2 : Int) / (n : Int)) * (n : Int)) = ((L2 / n * n : Nat) : Int) := by
  have h1 : L2 / n ≤ L2 := Nat.div_le_self _ _
  have h2 : L2 / n * n ≤ L2 := Nat.div_mul_le_self _ _
  have e1 : (L2 : Int) / (n : Int) = ((L2 / n : Nat) : Int) := (Int.natCast_ediv L2 n).symm
  rw [e1]
  clear e1
  generalize L2 / n = q at *
  have e2 : wrap64 (q : Int) = (q : Int) := wrap64_small (by omega) (by omega)
  rw [e2, ← Int.natCast_mul]
  generalize q * n = r at *
  exact wrap64_small (by omega) (by omega)
theorem sz_le (k : Nat) : sz k ≤ 16 := by rcases sz_or k with h | h <;> omega
set_option maxRecDepth 100000 in
set_option maxHeartbeats 1000000 in
theorem mback_true (n : Nat) (A : Option Addr) (L c : Nat) (key x : Nat → Nat) (A2 : Option Addr) (L2 c2 : Nat) (t : Nat → Nat) (bk : Bool) (w : World) (hg : Laid w) (_hn : n < 256) (hR : Reads w w.heap.size A L key) (hk : ∀ i, i < L → key i < 256) (hx : ∀ i, i < 16 → x i < 256) (hR2 : Reads w w.heap.size A2 L2 t) (ht : ∀ i, i < L2 → t i < 256) (hA2 : A2 = none → L2 = 0 ∧ c2 = 0) (hC2 : L2 ≤ c2) :
    Calls Tryz.prog 6 #[.int .u8 (n : Int), .slice A L c, .agg (row 16 (b8 x)), .slice A2 L2 c2, .bool bk] w fun e w' => e = .returned (.bool true) ∧ Below w.heap.size w w' := by
  obtain ⟨k, hkk, hkI⟩ := kind_of n
  have hk3 : k ≠ 3 := by omega
  have hkk3 : k = 1 ∨ k = 2 ∨ k = 3 := by omega
  have hB0 : Below w.heap.size w (w.alloc (.cells (row 16 (b8 x)) 37)) := (Below.refl _ _).alloc (Nat.le_refl _) _
  have HX := hid (Blk.fresh w 37 (row 16 (b8 x)))
  have Hg := hid (hg.below hB0)
  have HR := hid ((hR.below hB0).more hB0.size)
  have HR2 := hid ((hR2.below hB0).more hB0.size)
  have Hk := hid hk
  have Ht := hid ht
  have HA2 := hid hA2
  have Hx := hid hx
  have HB0 := hid hB0
  clear hg hR hR2 hk ht hA2 hx hB0
  by_cases hL : L ≤ 100 ∧ L2 ≤ 200
  · obtain ⟨hL1, hL2⟩ := hL
    have hL1I : ¬ (L : Int) > 100 := by omega
    have hL2I : ¬ (L2 : Int) > 200 := by omega
    go_enter Tryz.func6, Tryz.ntmps6
    go_wp2_with fail
    generalize w.alloc (.cells (row 16 (b8 x)) 37) = w0 at *
    refine (awake6_any _ Hg.out).mono ?_
    rintro e w1 ⟨rfl, hB1⟩
    have HR1 := hid ((HR.out.below hB1).more hB1.size)
    have HR21 := hid ((HR2.out.below hB1).more hB1.size)
    have HX1 := hid (HX.out.below hB1 HX.out.lt)
    have HB1 := hid (HB0.out.trans (hB1.mono HB0.out.size))
    clear HR HR2 HX HB0 hB1 hkI
    go_wp2_with fail
    refine (right6_any _ k rfl hkk3 A L c key _ (by omega) HR1.out).mono ?_
    rintro e w3 ⟨v, rfl, ho, hB3⟩
    obtain ⟨A3, c3, rfl, hc3, hA3, -⟩ := ho.slice'
    have HX3 := hid (HX1.out.below hB3 HX1.out.lt)
    have HR23 := hid ((HR21.out.below hB3).more hB3.size)
    have HB3 := hid (HB1.out.trans (hB3.mono HB1.out.size))
    have Ho := hid ho
    clear HR1 HR21 HX1 HB1 hB3 ho
    have hfit := rn_fits hkk3
    have hrl := (rn_le k).1
    go_wp2_with fail
    refine (cipher6_any k A3 (rn k) c3 (rk L key) none 0 0 (fun _ => 0) _ (by omega) hA3 (fun i _ => rk_lt Hk.out i) Ho.out.reads hfit (by omega) (fun _ => ⟨rfl, rfl⟩) (fun i hi => by omega) (fun h => absurd h (by omega))).mono ?_
    rintro e w4 ⟨p, gc, base, rfl, -, -, -, -, hci, -, -, hB4⟩
    have HX4 := hid (HX3.out.below hB4 HX3.out.lt)
    have HR4 := hid ((HR23.out.below hB4).more hB4.size)
    have Hci4 := hid hci
    have HB4 := hid (HB3.out.trans (hB4.mono HB3.out.size))
    clear HX3 HB3 HR23 hB4 hci Ho hA3 hc3
    go_wp2_with fail
    refine (size_any _ p k gc _ _ _ Hci4.out).mono ?_
    rintro e w' ⟨rfl, rfl⟩
    have hsl := sz_le k
    have hsp := sz_pos k
    have hcut := cutX k
    obtain ⟨N, hN⟩ : ∃ N, N = L2 / sz k := ⟨_, rfl⟩
    obtain ⟨M, hM⟩ : ∃ M, M = N * sz k := ⟨_, rfl⟩
    have hML : M ≤ L2 := by rw [hM, hN]; exact Nat.div_mul_le_self _ _
    have hMc := Nat.le_trans hML hC2
    have hM0 : (0 : Int) ≤ (M : Int) ∧ (M : Int) ≤ (c2 : Int) := ⟨Int.natCast_nonneg _, Int.ofNat_le.2 hMc⟩
    have hq : wrap64 (wrap64 ((L2 : Int) / (sz k : Int)) * (sz k : Int)) = (M : Int) := by rw [hM, hN]; exact cut_int L2 (sz k) (by omega)
    have HM := hid hM
    clear hN hM
    go_wp2_with fail
    have hK : Hid (∀ i, i < rn k → rk L key i < 256) := hid fun i _ => rk_lt Hk.out i
    have hMs : M ≤ 100000 := by omega
    have htM : Hid (∀ i, i < N * sz k → t i < 256) := hid fun i hi => Ht.out i (by have := HM.out; omega)
    have HA : Hid (A2 = none → M = 0) := hid fun h => by have := (HA2.out h).1; omega
    have HRM := hid (HR4.out.less hML)
    clear HR4 HA2 Ht hq hM0
    refine (alone_any w4 p k gc _ (rn k) (rk L key) A2 N M c2 bk t hk3 Hci4.out HM.out hMs hMc HA.out (by rw [HM.out]; exact htM.out) HRM.out).mono ?_
    rintro e w5 ⟨v5, rfl, ho5, hB5⟩
    obtain ⟨A5, c5, rfl, hc5, hA5, -⟩ := ho5.slice'
    have Ho5 := hid ho5
    have HR5 := hid ((HRM.out.below hB5).more hB5.size)
    have HX5 := hid (HX4.out.below hB5 HX4.out.lt)
    have Hci5 := hid (Hci4.out.keep hB5)
    have HB5 := hid (HB4.out.trans (hB5.mono HB4.out.size))
    have Hl5 : Hid (∀ i, i < M → aloneF k (rn k) (rk L key) bk t N i < 256) := hid (by rw [HM.out]; exact alone_lt hfit hk3 hK.out htM.out)
    clear ho5 hB5 HRM HX4 Hci4 HB4
    go_wp2_with fail
    refine (alone_any w5 p k gc _ (rn k) (rk L key) A5 N M c5 (!bk) _ hk3 Hci5.out HM.out hMs hc5 (fun h => (hA5 h).1) Hl5.out Ho5.out.reads).mono ?_
    rintro e w6 ⟨v6, rfl, ho6, hB6⟩
    obtain ⟨A6, c6, rfl, hc6, -, -⟩ := ho6.slice'
    have Ho6 := hid ho6
    have HR6 := hid ((HR5.out.below hB6).more hB6.size)
    have HX6 := hid (HX5.out.below hB6 HX5.out.lt)
    have Hci6 := hid (Hci5.out.keep hB6)
    have HB6 := hid (HB5.out.trans (hB6.mono HB5.out.size))
    clear ho6 hB6 HR5 HX5 Hci5 HB5 Ho5 Hl5 hA5 hc5
    go_wp2_with fail
    refine (chained_any w6 p k gc _ (rn k) (rk L key) ⟨w.heap.size, 0, none⟩ 16 x A2 N M c2 bk t hk3 Hci6.out HM.out hMs hMc HA.out (by rw [HM.out]; exact htM.out) HR6.out HX6.out.lt (fun i hi => by rw [add_zero_off]; exact HX6.out.val i (by omega)) (fun i hi => Hx.out i (by omega))).mono ?_
    rintro e w7 ⟨v7, rfl, ho7, hB7⟩
    obtain ⟨A7, c7, rfl, hc7, hA7, -⟩ := ho7.slice'
    have Ho7 := hid ho7
    have Ho67 := hid (Ho6.out.below hB7 (Nat.le_refl _))
    have HR7 := hid ((HR6.out.below hB7).more hB7.size)
    have HX7 := hid (HX6.out.below hB7 HX6.out.lt)
    have Hci7 := hid (Hci6.out.keep hB7)
    have HB7 := hid (HB6.out.trans (hB7.mono HB6.out.size))
    have Hl7 : Hid (∀ i, i < M → chainF k (rn k) (rk L key) bk x t N i < 256) := hid (by rw [HM.out]; exact chain_lt hfit hk3 hK.out (fun i hi => Hx.out i (by omega)) htM.out)
    clear ho7 hB7 HR6 HX6 Hci6 HB6 Ho6
    go_wp2_with fail
    refine (chained_any w7 p k gc _ (rn k) (rk L key) ⟨w.heap.size, 0, none⟩ 16 x A7 N M c7 (!bk) _ hk3 Hci7.out HM.out hMs hc7 (fun h => (hA7 h).1) Hl7.out Ho7.out.reads HX7.out.lt (fun i hi => by rw [add_zero_off]; exact HX7.out.val i (by omega)) (fun i hi => Hx.out i (by omega))).mono ?_
    rintro e w8 ⟨v8, rfl, ho8, hB8⟩
    obtain ⟨A8, c8, rfl, hc8, -, -⟩ := ho8.slice'
    have Ho8 := hid ho8
    have Ho68 := hid (Ho67.out.below hB8 (Nat.le_refl _))
    have HR8 := hid ((HR7.out.below hB8).more hB8.size)
    have HB8 := hid (HB7.out.trans (hB8.mono HB7.out.size))
    have hE1 : Hid (eqB M (aloneF k (rn k) (rk L key) (!bk) (aloneF k (rn k) (rk L key) bk t N) N) t = true) := hid (eqB_true (by rw [HM.out]; exact alone_back hfit hk3 hK.out htM.out))
    have hE2 : Hid (eqB M (chainF k (rn k) (rk L key) (!bk) x (chainF k (rn k) (rk L key) bk x t N) N) t = true) := hid (eqB_true (by rw [HM.out]; exact chain_back hfit hk3 hK.out (fun i hi => Hx.out i (by omega)) htM.out))
    clear ho8 hB8 HR7 HX7 Hci7 HB7 Ho67 Ho7 Hl7 hA7 hc7
    go_wp2_with fail
    refine (same_any A6 A2 M c6 c2 _ t w8 hMs Ho68.out.reads HR8.out).mono ?_
    rintro e w9 ⟨rfl, hB9⟩
    rw [hE1.out]
    have HR9 := hid ((HR8.out.below hB9).more hB9.size)
    have Ho9 := hid (Ho8.out.below hB9 (Nat.le_refl _))
    have HB9 := hid (HB8.out.trans (hB9.mono HB8.out.size))
    clear hB9 HR8 Ho8 HB8 Ho68 hE1
    go_wp2_with fail
    refine (same_any A8 A2 M c8 c2 _ t w9 hMs Ho9.out.reads HR9.out).mono ?_
    rintro e w10 ⟨rfl, hB10⟩
    rw [hE2.out]
    have HB10 := hid (HB9.out.trans (hB10.mono HB9.out.size))
    clear hB10 HR9 Ho9 HB9 hE2
    go_wp2_with fail
    go_ret
    exact ⟨rfl, HB10.out⟩
  · have hor : 100 < L ∨ (L ≤ 100 ∧ 200 < L2) := by omega
    clear hC2 HR HR2 HX HA2 Hx Hk Ht
    rcases hor with h1 | ⟨h1, h2⟩
    · have h1I : (L : Int) > 100 := by omega
      go_enter Tryz.func6, Tryz.ntmps6
      go_wp2_with fail
      generalize w.alloc (.cells (row 16 (b8 x)) 37) = w0 at *
      refine (awake6_any _ Hg.out).mono ?_
      rintro e w1 ⟨rfl, hB1⟩
      go_wp2_with fail
      refine (awake6_any _ (Hg.out.below hB1)).mono ?_
      rintro e w2 ⟨rfl, hB2⟩
      go_wp2_with fail
      go_ret
      exact ⟨rfl, HB0.out.trans ((hB1.trans (hB2.mono hB1.size)).mono HB0.out.size)⟩
    · have h1I : ¬ (L : Int) > 100 := by omega
      have h2I : (L2 : Int) > 200 := by omega
      go_enter Tryz.func6, Tryz.ntmps6
      go_wp2_with fail
      generalize w.alloc (.cells (row 16 (b8 x)) 37) = w0 at *
      refine (awake6_any _ Hg.out).mono ?_
      rintro e w1 ⟨rfl, hB1⟩
      go_wp2_with fail
      refine (awake6_any _ (Hg.out.below hB1)).mono ?_
      rintro e w2 ⟨rfl, hB2⟩
      go_wp2_with fail
      go_ret
      exact ⟨rfl, HB0.out.trans ((hB1.trans (hB2.mono hB1.size)).mono HB0.out.size)⟩
end Go.Proofs.YtdodflnmhgnpeaaGreatDoor.Md
