/-
  MacPads returns true: its walk.
-/
import Derived.Test.YtmmgimpokpgnaaaAwake07
namespace Go.Proofs.Ytmmgimpokpgnaaa.Mc.Pads
open Mem Bk Md Mc Go.ChangeShapes Go.WideShapes Go.ChangeAt Go.RowKit
theorem size_of (n : Nat) : ∃ k : Nat, 1 ≤ k ∧ k ≤ 64 ∧ 1 + (n : Int) % 64 = (k : Int) := ⟨1 + n % 64, by omega, by omega, by omega⟩
theorem pad_whole {L k M : Nat} (h : M = padN L k) : 0 = M % k := by rw [h]; unfold padN; exact (Nat.mul_mod_left _ _).symm
set_option maxRecDepth 100000 in
set_option maxHeartbeats 1000000 in
theorem pads_true (A : Option Addr) (L c : Nat) (f : Nat → Nat) (n : Nat) (w : World) (hR : Reads w w.heap.size A L f) (hf : ∀ i, i < L → f i < 256) (hA : A = none → L = 0 ∧ c = 0) (_hn : n < 256) :
    Calls Try.prog 5 #[.slice A L c, .int .u8 (n : Int)] w fun e w' => e = .returned (.bool true) ∧ Below w.heap.size w w' := by
  have HR := hid hR
  have Hf := hid hf
  have HA := hid hA
  clear hR hf hA
  obtain ⟨k, hk1, hk2, hkI⟩ := size_of n
  by_cases hL : L ≤ 200
  · have hLI : ¬ 200 < (L : Int) := by omega
    obtain ⟨M, hM⟩ : ∃ M, M = padN L k := ⟨_, rfl⟩
    have hLM : L < M := by rw [hM]; exact padN_gt hk1
    have hML : M ≤ L + k := by rw [hM]; exact padN_le
    have HF := hid (rem_n (u := M) hk1 (pad_whole hM))
    have HM := hid hM
    have h1I : ¬ M ≤ L := by omega
    have h2I : ¬ (k : Int) < (M : Int) - (L : Int) := by omega
    clear hM
    go_enter Try.func5, Try.ntmps5
    go_wp2_with fail
    refine (awake7_any _).mono ?_
    rintro e w1 ⟨rfl, hB1⟩
    have HR1 := hid ((HR.out.below hB1).more hB1.size)
    have HB1 := hid hB1
    clear HR hB1 hkI
    go_wp2_with fail
    refine (pad_any A L c f k M _ (by omega) hk1 hk2 HM.out HA.out HR1.out).mono ?_
    rintro e w2 ⟨rfl, hb2, hB2⟩
    have HR2 := hid ((HR1.out.below hB2).more hB2.size)
    have HB2 := hid (HB1.out.trans (hB2.mono HB1.out.size))
    have HP2 := hid hb2
    clear HR1 HB1 hB2 hb2
    go_wp2_with (with_reducible refine wpl_val rfl _ (exec_remN _ _ _ _ rfl _ _ _ rfl rfl HF.out) ?_)
    refine (same_any _ A L M c (padF L f) f _ (by omega) ((Blk.reads HP2.out).less (Nat.le_of_lt hLM)) HR2.out).mono ?_
    rintro e w3 ⟨rfl, hB3⟩
    rw [eqB_true (fun i hi => by unfold padF; rw [if_pos hi])]
    have HP3 := hid (HP2.out.below hB3 HP2.out.lt)
    have HB3 := hid (HB2.out.trans (hB3.mono HB2.out.size))
    have hcl : w3.cell? ⟨w1.heap.size, L, none⟩ = some (.int .u8 128) := by
      rw [HP3.out.val L hLM]
      unfold padF
      rw [if_neg (by omega), if_pos rfl]
      rfl
    clear HP2 HB2 hB3 HR2
    go_wp2_with fail
    clear hcl
    generalize Value.bool (decide (200 < (L : Int))) = vb1 at *
    generalize Value.bool (decide ((k : Int) < (M : Int) - (L : Int))) = vb2 at *
    go_loopw [7] (fun y wr => ∃ i : Nat, L + 1 ≤ i ∧ i ≤ M ∧ y = .int .i64 (i : Int) ∧ wr = w3) (fun y _ => M - (intOf y).toNat)
    case atStart => exact ⟨L + 1, by omega, by omega, val_int (by omega), rfl⟩
    case round =>
      obtain ⟨i, hi1, hi2, rfl, rfl⟩ := hrel
      by_cases hlt : i < M
      · have hci : wr.cell? ⟨w1.heap.size, i, none⟩ = some (.int .u8 0) := by
          rw [HP3.out.val i hlt]
          unfold padF
          rw [if_neg (by omega), if_neg (by omega)]
          rfl
        go_wp2_with fail
        go_round
        case rel => exact ⟨i + 1, by omega, by omega, val_int (by omega), by first | rfl | trivial⟩
        case measure => simp [intOf]; omega
      · have hltI : ¬ (i : Int) < (M : Int) := by omega
        go_wp2_with fail
        go_ret
        exact ⟨rfl, HB3.out⟩
  · have hLI : 200 < (L : Int) := by omega
    go_enter Try.func5, Try.ntmps5
    go_wp2_with fail
    refine (awake7_any _).mono ?_
    rintro e w1 ⟨rfl, hB1⟩
    go_wp2_with fail
    refine (awake7_any _).mono ?_
    rintro e w2 ⟨rfl, hB2⟩
    go_wp2_with fail
    go_ret
    exact ⟨rfl, hB1.trans (hB2.mono hB1.size)⟩
end Go.Proofs.Ytmmgimpokpgnaaa.Mc.Pads
