/-
  DigitKeeps returns true: its walk.
-/
import Derived.Test.YtomeeebiijmnmaaLaw08
namespace Go.Proofs.Ytomeeebiijmnmaa.Dg.Keeps
open Mem Dg Go.ChangeShapes Go.WideShapes Go.ChangeAt Go.RowKit
theorem odd_b (n : Nat) (f : Nat → Nat) (w : World) (hf : ∀ i, f i < 256) (hn : n ≤ 1000000) (h : AllD 16 n f) (ho : n % 2 = 1) :
    Calls Try.prog 6 #[.string (strF n f)] w fun e w' => (∃ (t : TypeId) (v : Value), e = .returned (.tuple #[.slice none 0 0, .iface t v])) ∧ Below w.heap.size w w' :=
  (unhex_odd n f w hf hn h ho).mono fun _ _ ⟨h1, h2⟩ => ⟨⟨_, _, h1⟩, h2 ▸ Below.refl _ _⟩
set_option maxRecDepth 100000 in
set_option maxHeartbeats 1000000 in
theorem keeps_true (A : Option Addr) (L c : Nat) (g : Nat → Nat) (s : ByteArray) (w : World) (hR : Reads w w.heap.size A L g) (hb : ∀ i, i < L → g i < 256) (hA : A = none → L = 0 ∧ c = 0) :
    Calls Try.prog 4 #[.slice A L c, .string s] w fun e w' => e = .returned (.bool true) ∧ Below w.heap.size w w' := by
  obtain ⟨n, f, hf, rfl⟩ : ∃ n f, (∀ i, f i < 256) ∧ s = strF n f := by
    obtain ⟨f, h1, h2⟩ := strF_of s
    exact ⟨_, f, h1, h2⟩
  have HR := hid hR
  have Hb := hid hb
  have HA := hid hA
  have hsz := strF_size n f
  clear hR hb hA
  by_cases hLn : L ≤ 200 ∧ n ≤ 200
  · obtain ⟨hL, hn⟩ := hLn
    have hLI : ¬ 200 < (L : Int) := by omega
    have hnI : ¬ 200 < (n : Int) := by omega
    rcases allD_or 16 f n with hD | ⟨i, hbad⟩
    · by_cases hodd : n % 2 = 1
      · have hodd := hodd
        go_enter Try.func4, Try.ntmps4
        go_wp2_with fail
        refine (awake8_any _).mono ?_
        rintro e w1 ⟨rfl, hB1⟩
        have HR1 := hid ((HR.out.below hB1).more hB1.size)
        have hBe := (Below.refl w1.heap.size w1).alloc (Nat.le_refl _) (.cells #[] 5)
        have He := hid (Own.empty w1 w1.heap.size 5 (fun _ => 0) (Nat.le_refl _))
        have HRe := hid ((HR1.out.below hBe).more hBe.size)
        have HBe := hid hBe
        have HB1 := hid hB1
        clear hBe hB1 HR
        go_wp2_with (at_builtin; (refine wpl_app_gen rfl _ _ 22 rfl w1.heap.size 5 (.int .u8 0) Try.underlying22 info8 rfl _ 0 _ rfl He.out A L c _ _ HRe.out HA.out rfl (by omega) (by simp) ?_))
        intro v2 w2 ho2 hB2
        try rw [Nat.zero_add] at ho2
        have hB12 := HBe.out.trans hB2
        obtain ⟨A2, c2, rfl, hc2, -⟩ := ho2.slice'
        have Hwas : Hid (Reads w2 w2.heap.size A2 L g) := hid (ho2.reads.ext (fun i hi => by unfold cat; simp))
        have HR2 := hid ((HR1.out.below hB12).more hB12.size)
        have HB2 := hid (HB1.out.trans (hB12.mono HB1.out.size))
        clear hB12 ho2 hB2 HBe HRe He HR1 HB1
        go_wp2_with fail
        refine (hex_any A L c g _ (by omega) Hb.out HR2.out).mono ?_
        rintro e w3 ⟨rfl, hB3⟩
        have Hwas3 := hid ((Hwas.out.below hB3).more hB3.size)
        have HR3 := hid ((HR2.out.below hB3).more hB3.size)
        have HB3 := hid (HB2.out.trans (hB3.mono HB2.out.size))
        clear hB3 Hwas HR2 HB2
        go_wp2_with fail
        refine (equal_any A A2 L c c2 g g _ (by omega) Hb.out Hb.out HR3.out Hwas3.out).mono ?_
        rintro e w4 ⟨rfl, hB4⟩
        rw [eqB_true (fun i _ => rfl)]
        have Hwas4 := hid ((Hwas3.out.below hB4).more hB4.size)
        have HR4 := hid ((HR3.out.below hB4).more hB4.size)
        have HB4 := hid (HB3.out.trans (hB4.mono HB3.out.size))
        clear hB4 Hwas3 HR3 HB3
        go_wp2_with fail
        refine (odd_b n f _ hf (by omega) hD hodd).mono ?_
        rintro e w5 ⟨⟨t5, v5, rfl⟩, hB5⟩
        have HB5 := hid (HB4.out.trans (hB5.mono HB4.out.size))
        have Hwas5 := hid ((Hwas4.out.below hB5).more hB5.size)
        have HR5 := hid ((HR4.out.below hB5).more hB5.size)
        clear hB5 HB4 Hwas4 HR4
        go_wp2_with fail
        generalize Value.bool (decide (200 < (L : Int)) || decide (200 < (n : Int))) = vb0 at *
        generalize Value.bool (decide (200 < (L : Int))) = vb1 at *
        generalize Value.bool (decide (200 < (n : Int))) = vb2 at *
        go_loopw [8] (fun y wr => y = .int .i64 0 ∧ wr = w5) (fun _ _ => 0)
        case atStart => exact ⟨rfl, rfl⟩
        case round =>
          obtain ⟨rfl, rfl⟩ := hrel
          go_wp2_with fail
          refine (odd_b n f _ hf (by omega) hD hodd).mono ?_
          rintro e w6 ⟨⟨t6, v6, rfl⟩, hB6⟩
          have HB6 := hid (HB5.out.trans (hB6.mono HB5.out.size))
          have Hwas6 := hid ((Hwas5.out.below hB6).more hB6.size)
          have HR6 := hid ((HR5.out.below hB6).more hB6.size)
          clear hB6
          go_wp2_with fail
          refine (same_yes _ _ L c c2 g _ (by omega) HR6.out Hwas6.out).mono ?_
          rintro e w7 ⟨rfl, hB7⟩
          go_wp2_with fail
          go_ret
          exact ⟨rfl, HB6.out.trans (hB7.mono HB6.out.size)⟩
      · obtain ⟨m, hm⟩ : ∃ m, n = 2 * m := ⟨n / 2, by omega⟩
        have hm200 : m ≤ 200 := by omega
        have Hm := hid hm
        clear hm hodd
        go_enter Try.func4, Try.ntmps4
        go_wp2_with fail
        refine (awake8_any _).mono ?_
        rintro e w1 ⟨rfl, hB1⟩
        have HR1 := hid ((HR.out.below hB1).more hB1.size)
        have hBe := (Below.refl w1.heap.size w1).alloc (Nat.le_refl _) (.cells #[] 5)
        have He := hid (Own.empty w1 w1.heap.size 5 (fun _ => 0) (Nat.le_refl _))
        have HRe := hid ((HR1.out.below hBe).more hBe.size)
        have HBe := hid hBe
        have HB1 := hid hB1
        clear hBe hB1 HR
        go_wp2_with (at_builtin; (refine wpl_app_gen rfl _ _ 22 rfl w1.heap.size 5 (.int .u8 0) Try.underlying22 info8 rfl _ 0 _ rfl He.out A L c _ _ HRe.out HA.out rfl (by omega) (by simp) ?_))
        intro v2 w2 ho2 hB2
        try rw [Nat.zero_add] at ho2
        have hB12 := HBe.out.trans hB2
        obtain ⟨A2, c2, rfl, hc2, -⟩ := ho2.slice'
        have Hwas : Hid (Reads w2 w2.heap.size A2 L g) := hid (ho2.reads.ext (fun i hi => by unfold cat; simp))
        have HR2 := hid ((HR1.out.below hB12).more hB12.size)
        have HB2 := hid (HB1.out.trans (hB12.mono HB1.out.size))
        clear hB12 ho2 hB2 HBe HRe He HR1 HB1
        go_wp2_with fail
        refine (hex_any A L c g _ (by omega) Hb.out HR2.out).mono ?_
        rintro e w3 ⟨rfl, hB3⟩
        have Hwas3 := hid ((Hwas.out.below hB3).more hB3.size)
        have HR3 := hid ((HR2.out.below hB3).more hB3.size)
        have HB3 := hid (HB2.out.trans (hB3.mono HB2.out.size))
        clear hB3 Hwas HR2 HB2
        go_wp2_with fail
        refine (equal_any A A2 L c c2 g g _ (by omega) Hb.out Hb.out HR3.out Hwas3.out).mono ?_
        rintro e w4 ⟨rfl, hB4⟩
        rw [eqB_true (fun i _ => rfl)]
        have Hwas4 := hid ((Hwas3.out.below hB4).more hB4.size)
        have HR4 := hid ((HR3.out.below hB4).more hB4.size)
        have HB4 := hid (HB3.out.trans (hB4.mono HB3.out.size))
        clear hB4 Hwas3 HR3 HB3
        go_wp2_with fail
        refine (unhex_ok n m f _ hf (by omega) hD Hm.out).mono ?_
        rintro e w5 ⟨rfl, hb5, hB5⟩
        have hB50 := hB5
        have HB5 := hid hB5
        have Hhb := hid (fun i (_hi : i < m) => unhF_lt hD (i := i) (by have := Hm.out; omega))
        clear hB50 hB5
        go_wp2_with fail
        generalize Value.bool (decide (200 < (L : Int)) || decide (200 < (n : Int))) = vb0 at *
        generalize Value.bool (decide (200 < (L : Int))) = vb1 at *
        generalize Value.bool (decide (200 < (n : Int))) = vb2 at *
        go_loopw [8] (fun y wr => ∃ (k : Nat) (h : Nat → Nat), k ≤ m ∧ y = .int .i64 (k : Int) ∧ Hid (∀ i, i < m → h i < 256) ∧ Blk wr w4.heap.size 5 (row m (b8 h)) ∧ Hid (Below w4.heap.size w4 wr)) (fun y _ => m - (intOf y).toNat)
        case atStart => exact ⟨0, _, by omega, rfl, Hhb, hb5, HB5⟩
        case round =>
          clear hb5 HB5 Hhb
          obtain ⟨k, h, hk, rfl, Hh, hb, HB⟩ := hrel
          by_cases hlt : k < m
          · have hx := Hh.out k hlt
            go_wp2_with (first
              | (with_reducible refine wpl_sl rfl 22 _ _ rfl ⟨w4.heap.size, 0, none⟩ m m rfl .i64 _ rfl k rfl 5 Try.underlying22 hlt 1 i8q ?_; rw [Nat.mul_one, add_zero_off])
              | (with_reducible refine wpl_ld rfl 5 _ rfl _ rfl .u8 Try.underlying5 _ (hb.val k hlt) ?_)
              | (with_reducible refine wpl_val rfl _ (exec_xor8 _ _ _ _ rfl (h k) 255 hx (by omega) rfl rfl) ?_)
              | (with_reducible refine wpl_st rfl 5 _ _ rfl ⟨w4.heap.size, k, none⟩ rfl .u8 _ rfl i8q _ (hb.val k hlt) (hb.free k) ?_))
            go_round
            case rel =>
              refine ⟨k + 1, _, by omega, val_int (by omega), hid (fun i hi => ?_), hb.put k _, hid (HB.out.setCell (by simp) _)⟩
              unfold upd
              split
              · exact Nat.xor_lt_two_pow (n := 8) hx (by omega)
              · exact Hh.out i hi
            case measure => simp [intOf]; omega
          · obtain rfl : k = m := by omega
            have HR5 := hid ((HR4.out.below HB.out).more HB.out.size)
            have Hwas5 := hid ((Hwas4.out.below HB.out).more HB.out.size)
            have HB5 := hid (HB4.out.trans (HB.out.mono HB4.out.size))
            clear HR4 Hwas4 HB4 hb HB Hh
            go_wp2_with fail
            refine (unhex_ok n k f _ hf (by omega) hD Hm.out).mono ?_
            rintro e w6 ⟨rfl, hb6, hB6⟩
            have HB6 := hid (HB5.out.trans (hB6.mono HB5.out.size))
            have Hwas6 := hid ((Hwas5.out.below hB6).more hB6.size)
            have HR6 := hid ((HR5.out.below hB6).more hB6.size)
            have Hb6 := hid hb6
            clear hB6 hb6
            go_wp2_with fail
            refine (same_yes _ _ L c c2 g _ (by omega) HR6.out Hwas6.out).mono ?_
            rintro e w7 ⟨rfl, hB7⟩
            have HB7 := hid (HB6.out.trans (hB7.mono HB6.out.size))
            have Hb7 := hid (Hb6.out.below hB7 Hb6.out.lt)
            clear hB7
            go_wp2_with fail
            refine (runhex_any n k f _ hf (by omega) Hm.out hD).mono ?_
            rintro e w8 ⟨v8, rfl, ho8, hB8⟩
            obtain ⟨A8, c8, rfl, hc8, -⟩ := ho8.slice'
            have HB8 := hid (HB7.out.trans (hB8.mono HB7.out.size))
            have Hb8 := hid (Hb7.out.below hB8 Hb7.out.lt)
            clear hB8
            go_wp2_with fail
            refine (same_yes _ _ k k c8 (unhF f) _ (by omega) (Blk.reads Hb8.out) ho8.reads).mono ?_
            rintro e w9 ⟨rfl, hB9⟩
            go_wp2_with fail
            go_ret
            exact ⟨rfl, HB8.out.trans (hB9.mono HB8.out.size)⟩
    · have hbad := hbad
      go_enter Try.func4, Try.ntmps4
      go_wp2_with fail
      refine (awake8_any _).mono ?_
      rintro e w1 ⟨rfl, hB1⟩
      have HR1 := hid ((HR.out.below hB1).more hB1.size)
      have hBe := (Below.refl w1.heap.size w1).alloc (Nat.le_refl _) (.cells #[] 5)
      have He := hid (Own.empty w1 w1.heap.size 5 (fun _ => 0) (Nat.le_refl _))
      have HRe := hid ((HR1.out.below hBe).more hBe.size)
      have HBe := hid hBe
      have HB1 := hid hB1
      clear hBe hB1 HR
      go_wp2_with (at_builtin; (refine wpl_app_gen rfl _ _ 22 rfl w1.heap.size 5 (.int .u8 0) Try.underlying22 info8 rfl _ 0 _ rfl He.out A L c _ _ HRe.out HA.out rfl (by omega) (by simp) ?_))
      intro v2 w2 ho2 hB2
      try rw [Nat.zero_add] at ho2
      have hB12 := HBe.out.trans hB2
      obtain ⟨A2, c2, rfl, hc2, -⟩ := ho2.slice'
      have Hwas : Hid (Reads w2 w2.heap.size A2 L g) := hid (ho2.reads.ext (fun i hi => by unfold cat; simp))
      have HR2 := hid ((HR1.out.below hB12).more hB12.size)
      have HB2 := hid (HB1.out.trans (hB12.mono HB1.out.size))
      clear hB12 ho2 hB2 HBe HRe He HR1 HB1
      go_wp2_with fail
      refine (hex_any A L c g _ (by omega) Hb.out HR2.out).mono ?_
      rintro e w3 ⟨rfl, hB3⟩
      have Hwas3 := hid ((Hwas.out.below hB3).more hB3.size)
      have HR3 := hid ((HR2.out.below hB3).more hB3.size)
      have HB3 := hid (HB2.out.trans (hB3.mono HB2.out.size))
      clear hB3 Hwas HR2 HB2
      go_wp2_with fail
      refine (equal_any A A2 L c c2 g g _ (by omega) Hb.out Hb.out HR3.out Hwas3.out).mono ?_
      rintro e w4 ⟨rfl, hB4⟩
      rw [eqB_true (fun i _ => rfl)]
      have Hwas4 := hid ((Hwas3.out.below hB4).more hB4.size)
      have HR4 := hid ((HR3.out.below hB4).more hB4.size)
      have HB4 := hid (HB3.out.trans (hB4.mono HB3.out.size))
      clear hB4 Hwas3 HR3 HB3
      go_wp2_with fail
      refine (unhex_bad n f i _ hf (by omega) hbad).mono ?_
      rintro e w5 ⟨rfl, -, hB5⟩
      have HB5 := hid (HB4.out.trans (hB5.mono HB4.out.size))
      have Hwas5 := hid ((Hwas4.out.below hB5).more hB5.size)
      have HR5 := hid ((HR4.out.below hB5).more hB5.size)
      clear hB5 HB4 Hwas4 HR4
      go_wp2_with fail
      generalize Value.bool (decide (200 < (L : Int)) || decide (200 < (n : Int))) = vb0 at *
      generalize Value.bool (decide (200 < (L : Int))) = vb1 at *
      generalize Value.bool (decide (200 < (n : Int))) = vb2 at *
      go_loopw [8] (fun y wr => y = .int .i64 0 ∧ wr = w5) (fun _ _ => 0)
      case atStart => exact ⟨rfl, rfl⟩
      case round =>
        obtain ⟨rfl, rfl⟩ := hrel
        go_wp2_with fail
        refine (unhex_bad n f i _ hf (by omega) hbad).mono ?_
        rintro e w6 ⟨rfl, -, hB6⟩
        have HB6 := hid (HB5.out.trans (hB6.mono HB5.out.size))
        have Hwas6 := hid ((Hwas5.out.below hB6).more hB6.size)
        have HR6 := hid ((HR5.out.below hB6).more hB6.size)
        clear hB6
        go_wp2_with fail
        refine (same_yes _ _ L c c2 g _ (by omega) HR6.out Hwas6.out).mono ?_
        rintro e w7 ⟨rfl, hB7⟩
        go_wp2_with fail
        go_ret
        exact ⟨rfl, HB6.out.trans (hB7.mono HB6.out.size)⟩
  · by_cases hL : L ≤ 200
    · have hLI : ¬ 200 < (L : Int) := by omega
      have hnI : 200 < (n : Int) := by omega
      go_enter Try.func4, Try.ntmps4
      go_wp2_with fail
      refine (awake8_any _).mono ?_
      rintro e w1 ⟨rfl, hB1⟩
      go_wp2_with fail
      refine (awake8_any _).mono ?_
      rintro e w2 ⟨rfl, hB2⟩
      go_wp2_with fail
      go_ret
      exact ⟨rfl, hB1.trans (hB2.mono hB1.size)⟩
    · have hLI : 200 < (L : Int) := by omega
      go_enter Try.func4, Try.ntmps4
      go_wp2_with fail
      refine (awake8_any _).mono ?_
      rintro e w1 ⟨rfl, hB1⟩
      go_wp2_with fail
      refine (awake8_any _).mono ?_
      rintro e w2 ⟨rfl, hB2⟩
      go_wp2_with fail
      go_ret
      exact ⟨rfl, hB1.trans (hB2.mono hB1.size)⟩
end Go.Proofs.Ytomeeebiijmnmaa.Dg.Keeps
