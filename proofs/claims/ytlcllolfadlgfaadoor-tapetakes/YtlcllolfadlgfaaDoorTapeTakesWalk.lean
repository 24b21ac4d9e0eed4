/-
  TapeTakes returns true: its walk.
-/
import Derived.Test.YtlcllolfadlgfaaDoorAwake04
import Derived.Test.YtlcllolfadlgfaaDoorSame
namespace Go.Proofs.YtlcllolfadlgfaaDoor.Law04
open Go.ChangeShapes Go.WideShapes Go.ChangeAt Go.RowKit Mem As
/-- the tape of b, d bytes of it drawn -/
def TS (w wr : World) (g : Nat) (A : Option Addr) (L c d : Nat) (f : Nat → Nat) : Prop :=
  Blk wr g 65 #[.slice A L c, .int .i64 (d : Int)] ∧ Own wr w.heap.size 5 1 (.slice A L c) L f ∧ Below w.heap.size w wr
theorem TS.below {w wr w' : World} {g : Nat} {A : Option Addr} {L c d : Nat} {f : Nat → Nat} (h : TS w wr g A L c d f) (hB : Below wr.heap.size wr w') : TS w w' g A L c d f :=
  ⟨h.1.below hB h.1.lt, h.2.1.below hB (Nat.le_refl _), h.2.2.trans (hB.mono h.2.2.size)⟩
set_option maxRecDepth 100000 in
set_option maxHeartbeats 2000000 in
theorem takes_true (A : Option Addr) (L c : Nat) (f : Nat → Nat) (Ap : Option Addr) (P cp : Nat) (F : Nat → Int) (w : World) (hg : Laid w) (hR : Reads w w.heap.size A L f) (_hf : ∀ i, i < L → f i < 256) (hA : A = none → L = 0 ∧ c = 0) (hC : L ≤ c)
    (hRp : ReadsI w w.heap.size Ap P F) (_hF : ∀ i, i < P → (Lit.int .i64 (F i)).wf = true) :
    Calls Tryd.prog 4 #[.slice A L c, .slice Ap P cp] w fun e w' => e = .returned (.bool true) ∧ Below w.heap.size w w' := by
  have Hg := hid hg
  have HR := hid hR
  have HA := hid hA
  have HRp := hid hRp
  have HF := hid _hF
  clear hg hR hA _hf hRp _hF
  by_cases hL : L ≤ 1000 ∧ P ≤ 100
  · obtain ⟨hL, hP⟩ := hL
    have hLI : (L : Int) ≤ 1000 := by omega
    have hPI : (P : Int) ≤ 100 := by omega
    go_enter Tryd.func4, Tryd.ntmps4
    go_wp2_with fail
    refine (awake_any _ Hg.out).mono ?_
    rintro e w1 ⟨rfl, hB1⟩
    have HR1 := hid ((HR.out.below hB1).more hB1.size)
    go_wp2_with fail
    refine (new_ok A L c f _ (by omega) HA.out HR1.out).mono ?_
    rintro e w2 ⟨v, g, rfl, ho, hb, hgs, hB2⟩
    have hB02 : Below w.heap.size w w2 := hB1.trans (hB2.mono hB1.size)
    have hgw : w.heap.size ≤ g := Nat.le_trans hB1.size hgs
    obtain ⟨A1, c1, rfl, hc1, -, -⟩ := ho.slice'
    have hT : TS w w2 g A1 L c1 0 f := ⟨hb, ho.more hB1.size, hB02⟩
    have HT := hid hT
    clear hgs hB1 hB2 ho hb hT hB02
    go_wp2_with fail
    refine (left_of L g A1 L c1 0 _ HT.out.1 (by omega) (by omega) (by omega)).mono ?_
    rintro e w3 ⟨rfl, hB3⟩
    have hT3 := HT.out.below hB3
    clear HT hB3 HR1
    go_wp2_with fail
    go_loopw [7, 8] (fun x y wr => ∃ d i : Nat, d ≤ L ∧ i ≤ P ∧ x = .int .i64 (d : Int) ∧ y = .int .i64 (i : Int) ∧ TS w wr g A1 L c1 d f) (fun _ y _ => P - (intOf y).toNat)
    case atStart => exact ⟨0, 0, by omega, by omega, rfl, rfl, hT3⟩
    case round =>
      clear hT3
      obtain ⟨d, i, hd, hi, rfl, rfl, hT⟩ := hrel
      have HT := hid hT
      by_cases hlt : i < P
      · obtain ⟨ad, rfl, had, hcs⟩ := HRp.out (by omega)
        have hcx : wr.cell? (ad.add i) = some (.int .i64 (F i)) := (hT.2.2.cell (p := ad.add i) (by rw [add_block]; exact had)).trans (hcs i hlt)
        have hq := i64_of (HF.out i hlt)
        generalize F i = q at *
        clear hcs hT
        obtain ⟨hq1, hq2⟩ := hq
        by_cases hneg : q < 0
        · go_wp2_with fail
          refine (take_neg _ q _ hneg).mono ?_
          rintro e w4 ⟨rfl, rfl⟩
          go_wp2_with fail
          refine (code_hit 1 _ (Hg.out.below HT.out.2.2)).mono ?_
          rintro e w5 ⟨rfl, hB5⟩
          have HT5 := hid (HT.out.below hB5)
          go_wp2_with fail
          refine (left_of ((L : Int) - (d : Int)) g A1 L c1 d _ HT5.out.1 (by omega) (by omega) rfl).mono ?_
          rintro e w6 ⟨rfl, hB6⟩
          go_wp2_with fail
          go_round
          case rel => exact ⟨d, i + 1, by omega, by omega, rfl, val_int (by omega), HT5.out.below hB6⟩
          case measure => simp [intOf]; omega
        · by_cases hfew : (L : Int) - (d : Int) < q
          · go_wp2_with fail
            refine (take_few g A1 L c1 d q _ HT.out.1 hd (by omega) hfew).mono ?_
            rintro e w4 ⟨k, rfl, hF, hks, hB4⟩
            have HT4 := hid (HT.out.below hB4)
            have HF4 := hid hF
            clear hF
            go_wp2_with fail
            refine (code_fault 13 k _ (Hg.out.below HT4.out.2.2) (HF4.out.cell 1)).mono ?_
            rintro e w5 ⟨rfl, hB5⟩
            have HT5 := hid (HT4.out.below hB5)
            go_wp2_with fail
            refine (at_fault _ _ k _ (Hg.out.below HT5.out.2.2) (HF4.out.below hB5 HF4.out.lt)).mono ?_
            rintro e w6 ⟨rfl, hB6⟩
            have HT6 := hid (HT5.out.below hB6)
            go_wp2_with fail
            refine (left_of ((L : Int) - (d : Int)) g A1 L c1 d _ HT6.out.1 (by omega) (by omega) rfl).mono ?_
            rintro e w7 ⟨rfl, hB7⟩
            go_wp2_with fail
            go_round
            case rel => exact ⟨d, i + 1, by omega, by omega, rfl, val_int (by omega), HT6.out.below hB7⟩
            case measure => simp [intOf]; omega
          · obtain ⟨z, hz⟩ : ∃ z : Nat, q = (z : Int) := ⟨q.toNat, by omega⟩
            have hdz : Hid (d + z ≤ L) := by show d + z ≤ L; omega
            have hzL : z ≤ 1000 := by omega
            have Hz := hid hz
            clear hz
            go_wp2_with fail
            refine (take_of q g _ _ L d z f _ Hz.out HT.out.1 HT.out.2.1 hdz.out (by omega)).mono ?_
            rintro e w4 ⟨vx, rfl, hox, hk4, hb4⟩
            have HT4 : Hid (TS w w4 g A1 L c1 (d + z) f) := ⟨hb4, hk4.own HT.out.1 (by decide) HT.out.2.1, HT.out.2.2.trans (hk4.below hgw HT.out.2.2.size)⟩
            obtain ⟨Ax, cx, rfl, hcx4, -, -⟩ := hox.slice'
            have HRx := hid hox.reads
            have HRb := hid ((((HR.out.below HT4.out.2.2).more HT4.out.2.2.size).cutA hdz.out hC))
            have hcut := run_cut A L c d z (d : Int) ((d : Int) + q) rfl (by rw [Hz.out]) (Nat.le_trans hdz.out hC) w4
            clear hox hk4 hb4 hcx
            go_wp2_with fail
            refine (same_yes Ax (cutA A d c) z cx (c - d) _ _ (by omega) HRx.out HRb.out).mono ?_
            rintro e w5 ⟨rfl, hB5⟩
            have HT5 := hid (HT4.out.below hB5)
            clear hcut
            go_wp2_with fail
            refine (left_of ((L : Int) - ((d : Int) + q)) g A1 L c1 (d + z) _ HT5.out.1 hdz.out (by omega) (by rw [Hz.out]; omega)).mono ?_
            rintro e w6 ⟨rfl, hB6⟩
            go_wp2_with fail
            go_round
            case rel => exact ⟨d + z, i + 1, hdz.out, by omega, val_int (by rw [Hz.out]; omega), val_int (by omega), HT5.out.below hB6⟩
            case measure => simp [intOf]; omega
      · clear hT
        go_wp2_with fail
        go_ret
        exact ⟨rfl, HT.out.2.2⟩
  · have hLI : ¬ ((L : Int) ≤ 1000 ∧ (P : Int) ≤ 100) := by omega
    go_enter Tryd.func4, Tryd.ntmps4
    go_wp2_with fail
    refine (awake_any _ Hg.out).mono ?_
    rintro e w1 ⟨rfl, hB1⟩
    by_cases hL1 : (L : Int) ≤ 1000
    · have hP1 : ¬ (P : Int) ≤ 100 := by omega
      go_wp2_with fail
      refine (awake_any _ (Hg.out.below hB1)).mono ?_
      rintro e w2 ⟨rfl, hB2⟩
      go_wp2_with fail
      go_ret
      exact ⟨rfl, hB1.trans (hB2.mono hB1.size)⟩
    · go_wp2_with fail
      refine (awake_any _ (Hg.out.below hB1)).mono ?_
      rintro e w2 ⟨rfl, hB2⟩
      go_wp2_with fail
      go_ret
      exact ⟨rfl, hB1.trans (hB2.mono hB1.size)⟩
end Go.Proofs.YtlcllolfadlgfaaDoor.Law04
