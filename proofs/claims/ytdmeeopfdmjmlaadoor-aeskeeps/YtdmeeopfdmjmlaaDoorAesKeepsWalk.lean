/-
  The walk of lockboxlaw02.AesKeeps: it returns true.
-/
import Derived.Test.YtdmeeopfdmjmlaaDoorAesWordsWalk
import Derived.Test.YtdmeeopfdmjmlaaDoorMem4
namespace Go.Proofs.YtdmeeopfdmjmlaaDoor.Aes
open Go.ChangeShapes Go.WideShapes Go.ChangeAt Go.RowKit Mem
set_option maxRecDepth 100000 in
set_option maxHeartbeats 4000000 in
theorem keeps_walk (A : Option Addr) (L c : Nat) (f : Nat → Nat) (b : Nat → Nat) (w : World) (hg : As.Laid w) (hR : Reads w w.heap.size A L f) (hf : ∀ i, i < L → f i < 256) (hb : By16 b) :
    Calls Tryd.prog 6 #[.slice A L c, .agg (row 16 (b8 b))] w fun e w' => e = .returned (.bool true) ∧ Below w.heap.size w w' := by
  have Hf := hid hf
  have Hb := hid hb
  have hB0 : Below w.heap.size w (w.alloc (.cells (row 16 (b8 b)) 33)) := (Below.refl _ _).alloc (Nat.le_refl _) _
  have hb0 := Blk.fresh w 33 (row 16 (b8 b))
  have hg0 := hid (hg.below hB0)
  have hR0 := (hR.below hB0).more hB0.size
  clear hf hb hg hR
  by_cases hL : L = 0 ∨ 100 < L
  · rcases hL with rfl | hL
    · go_enter Tryd.func6, Tryd.ntmps6
      go_wp2_with fail
      refine (awake_any _ hg0.out).mono ?_
      rintro e w1 ⟨rfl, hB1⟩
      have hg1 := hid (hg0.out.below hB1)
      have hB01 := hB0.trans (hB1.mono hB0.size)
      clear hB1 hB0 hb0 hR0 hg0
      go_wp2_with fail
      refine (awake_any _ hg1.out).mono ?_
      rintro e w2 ⟨rfl, hB2⟩
      go_wp2_with fail
      go_ret
      exact ⟨rfl, hB01.trans (hB2.mono hB01.size)⟩
    · have t0 : ((L : Int) == 0) = false := by simp; omega
      go_enter Tryd.func6, Tryd.ntmps6
      go_wp2_with fail
      refine (awake_any _ hg0.out).mono ?_
      rintro e w1 ⟨rfl, hB1⟩
      have hg1 := hid (hg0.out.below hB1)
      have hB01 := hB0.trans (hB1.mono hB0.size)
      clear hB1 hB0 hb0 hR0 hg0
      go_wp2_with fail
      refine (awake_any _ hg1.out).mono ?_
      rintro e w2 ⟨rfl, hB2⟩
      go_wp2_with fail
      go_ret
      exact ⟨rfl, hB01.trans (hB2.mono hB01.size)⟩
  · have hL0 : 0 < L := by omega
    have hL1 : L ≤ 100 := by omega
    have t0 : ((L : Int) == 0) = false := by simp; omega
    have t100 : decide ((100 : Int) < (L : Int)) = false := by simp; omega
    have Hkn : Hid (kn L 0 = 16) := hid (by unfold kn; rw [if_neg (by omega)]; rfl)
    have Hbyt : Hid (ByN 16 (fun i => f (i % L))) := hid (mod_by hL0 Hf.out 16)
    clear hL
    go_enter Tryd.func6, Tryd.ntmps6
    go_wp2_with fail
    refine (awake_any _ hg0.out).mono ?_
    rintro e w1 ⟨rfl, hB1⟩
    have hR1 := (hR0.below hB1).more hB1.size
    have hb1 := hb0.below hB1 hb0.lt
    have hB01 := hB0.trans (hB1.mono hB0.size)
    clear hB1 hB0 hb0 hR0 hg0
    go_wp2_with fail
    refine (short' A L c 0 0 rfl f _ hL1 hR1).mono ?_
    rintro e w2 hN2
    rw [Hkn.out] at hN2
    obtain ⟨A2, c2, rfl, hc2, hR2, hB2⟩ := hN2
    have hS : Lw w w2 w.heap.size b A2 16 (fun i => f (i % L)) := ⟨hb1.below hB2 hb1.lt, hR2, hB01.trans (hB2.mono hB01.size)⟩
    clear hR1 hb1 hB01 hR2 hB2
    generalize hge : (fun i => f (i % L)) = g at *
    clear hge
    have hS3 := hS.alloc (.cells #[] 5)
    have ho3 := Own.empty w2 w2.heap.size 5 g (Nat.le_refl _)
    have hB3a : Below w2.heap.size w2 (w2.alloc (.cells #[] 5)) := (Below.refl _ _).alloc (Nat.le_refl _) _
    go_wp2_with (at_builtin; refine wpl_app_src rfl _ _ 22 rfl w2.heap.size 5 (.int .u8 0) Tryd.underlying22 info8 rfl _ 0 _ rfl ho3 A2 16 c2 g _ hS3.reads (by omega) rfl (by omega) (by simp) ?_)
    intro v3 w3 ho4 hB4
    have ho5 : Own w3 w2.heap.size 5 1 v3 16 g := ho4.ext (fun i hi => by unfold cat; rw [if_neg (by omega)]; rfl)
    obtain ⟨A3, c3, rfl, hc3⟩ := ho5.slice
    have hR3 := ho5.reads
    have hS4 := hS.below (hB3a.trans hB4)
    clear hS hS3 ho3 ho4 ho5 hB3a hB4
    go_wp2_with fail
    refine (words16 A2 c2 g _ Hbyt.out hS4.reads).mono ?_
    rintro e w5 ⟨rfl, hb5, hB5⟩
    go_wp2_with fail
    go_loopw [9] (fun y wr => ∃ (k : Nat) (m : Nat → Nat), k ≤ 176 ∧ y = .int .i64 k ∧ Hid (∀ i, i < 176 → m i < 256) ∧ Blk wr w3.heap.size 5 (row 176 (b8 m)) ∧ Below w3.heap.size w3 wr) (fun y _ => 176 - (intOf y).toNat)
    case atStart => exact ⟨0, _, by omega, rfl, hid (fun i _ => ex_lt 16 g 40 Hbyt.out i), hb5, hB5⟩
    case round =>
      clear hb5 hB5
      obtain ⟨k, m, hk, rfl, Hm, hb5, hB5⟩ := hrel
      by_cases hlt : k < 176
      · have hmk := Hm.out k hlt
        go_wp2_with (first
          | (with_reducible refine wpl_slb rfl 22 _ _ rfl w3.heap.size 176 176 rfl .i64 _ rfl k rfl 5 Tryd.underlying22 hlt i8 ?_)
          | (with_reducible refine wpl_ld rfl 5 _ rfl _ rfl .u8 Tryd.underlying5 _ (hb5.val k hlt) ?_)
          | (with_reducible refine wpl_st rfl 5 _ _ rfl _ rfl .u8 _ rfl i8 _ (hb5.val k hlt) (hb5.free k) ?_))
        go_round
        case rel =>
          rw [show (255 : Int) = ((255 : Nat) : Int) from rfl, u8_xor_nat _ 255 hmk (by omega)]
          refine ⟨k + 1, upd m k (m k ^^^ 255), by omega, val_int (by omega), hid (fun i hi => ?_), hb5.put k _, hB5.setCell (by simp) _⟩
          unfold upd
          split
          · exact Gf.xor_lt hmk (by omega)
          · exact Hm.out i hi
        case measure => simp [intOf]; omega
      · have hS5 := hS4.below hB5
        have hR5 := (hR3.below hB5).more hB5.size
        clear hS4 hR3 hb5 hB5
        go_wp2_with (with_reducible refine wpl_load rfl 33 _ rfl _ rfl 33 _ hS5.blk 16 5 Tryd.underlying33 (i16' _) ?_)
        refine (enc_any A2 16 c2 (.inl rfl) g b _ Hbyt.out Hb.out hS5.reads).mono ?_
        rintro e w6 ⟨rfl, hB6⟩
        have hS6 := hS5.below hB6
        have hR6 := (hR5.below hB6).more hB6.size
        clear hS5 hR5 hB6
        go_wp2_with (with_reducible refine wpl_load rfl 33 _ rfl _ rfl 33 _ hS6.blk 16 5 Tryd.underlying33 (i16' _) ?_)
        refine (dec_any A2 16 c2 (.inl rfl) g b _ Hbyt.out Hb.out hS6.reads).mono ?_
        rintro e w7 ⟨rfl, hB7⟩
        have hS7 := hS6.below hB7
        have hR7 := (hR6.below hB7).more hB7.size
        clear hS6 hR6 hB7
        go_wp2_with fail
        refine (words16 A2 c2 g _ Hbyt.out hS7.reads).mono ?_
        rintro e w8 ⟨rfl, hb8, hB8⟩
        have hS8 := hS7.below hB8
        have hR8 := (hR7.below hB8).more hB8.size
        clear hS7 hR7 hB8
        go_wp2_with fail
        refine (same_yes A2 A3 16 c2 c3 g _ (by omega) hS8.reads hR8).mono ?_
        rintro e w9 ⟨rfl, hB9⟩
        have hS9 := hS8.below hB9
        have hb9 := hb8.below hB9 hb8.lt
        clear hS8 hR8 hb8 hB9
        go_wp2_with (go_at_call 11; refine (rwords16 A2 c2 g _ Hbyt.out hS9.reads).mono ?_; rintro e wA ⟨AA, cA, rfl, hcA, hRA, hBA⟩)
        have hSA := hS9.below hBA
        have hbA := hb9.below hBA hb9.lt
        clear hS9 hb9 hBA
        go_wp2_with (go_at_call 13; refine (same_yes _ AA 176 _ cA (words 16 g) _ (by omega) hbA.reads hRA).mono ?_; rintro e wB ⟨rfl, hBB⟩)
        go_ret
        exact ⟨rfl, hSA.bel.trans (hBB.mono hSA.bel.size)⟩
end Go.Proofs.YtdmeeopfdmjmlaaDoor.Aes
