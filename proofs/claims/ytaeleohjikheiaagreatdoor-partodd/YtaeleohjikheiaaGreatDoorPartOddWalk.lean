/-
  PartOdd returns true: its walk.
-/
import Derived.Test.YtaeleohjikheiaaGreatDoorLaw09
namespace Go.Proofs.YtaeleohjikheiaaGreatDoor.Pt.Odds
open Mem Bk Md Mc Pt As Go.ChangeShapes Go.WideShapes Go.ChangeAt Go.RowKit
theorem exec_half {P : Program} {o : Oper} {a : Act} {w : World} (t : TypeId) (x y : Operand) (rt : TypeId) (ho : o.op = .binOp .quo t x y rt) (n z : Nat) (hn : n < 256) (hz : n / 2 = z) (hx : a.eval x = .int .u8 (n : Int)) (hy : a.eval y = .int .u8 2) : (execOp a.eval o).run P w = .ok (.value (.int .u8 (z : Int))) w := by
  have hm : (n : Int).tdiv 2 = (z : Int) := by rw [Int.tdiv_eq_ediv_of_nonneg (by omega)]; omega
  have hw : IntKind.u8.wrap (z : Int) = (z : Int) := by simp [IntKind.wrap_u8]; omega
  unfold execOp
  simp [ho, hx, hy, eqGuard, binOp, Op.intDiv, hm, hw]
set_option maxRecDepth 100000 in
set_option maxHeartbeats 1000000 in
theorem odd_true (A : Option Addr) (L c : Nat) (f : Nat → Nat) (w : World) (hg : Laid w) (hR : Reads w w.heap.size A L f) (hf : ∀ i, i < L → f i < 256) :
    Calls Tryz.prog 10 #[.slice A L c] w fun e w' => e = .returned (.bool true) ∧ Below w.heap.size w w' := by
  have HG := hid hg
  have HR := hid hR
  have Hf := hid hf
  clear hg hR hf
  by_cases hL : L ≤ 100
  · have hLI : ¬ 100 < (L : Int) := by omega
    go_enter Tryz.func10, Tryz.ntmps10
    go_wp2_with fail
    refine (awake9_any _ HG.out).mono ?_
    rintro e w1 ⟨rfl, hB1⟩
    have HR1 := hid ((HR.out.below hB1).more hB1.size)
    have HB1 := hid hB1
    clear hB1 HR
    go_wp2_with fail
    refine (odd_any A L c f _ (by omega) Hf.out HR1.out).mono ?_
    rintro e w2 ⟨rfl, hb2, hB2⟩
    have HO2 := hid hb2
    have HR2 := hid ((HR1.out.below hB2).more hB2.size)
    have HB2 := hid (HB1.out.trans (hB2.mono HB1.out.size))
    clear hb2 hB2 HR1 HB1
    go_wp2_with fail
    refine (reven_any _ L L (odF f) L _ (by omega) (Nat.le_refl _) (odF_lt Hf.out) HO2.out.reads (Nat.le_refl _) (odF_all Hf.out) (fun h => by omega)).mono ?_
    rintro e w3 ⟨rfl, hB3⟩
    rw [show evI L L = -1 by unfold evI; rw [if_neg (by omega)]]
    have HO3 := hid (HO2.out.below hB3 HO2.out.lt)
    have HR3 := hid ((HR2.out.below hB3).more hB3.size)
    have HB3 := hid (HB2.out.trans (hB3.mono HB2.out.size))
    clear hB3 HO2 HR2 HB2
    go_wp2_with fail
    refine (odd_any _ L L (odF f) _ (by omega) (odF_lt Hf.out) HO3.out.reads).mono ?_
    rintro e w4 ⟨rfl, hb4, hB4⟩
    have HO4 := hid (HO3.out.below hB4 HO3.out.lt)
    have HR4 := hid ((HR3.out.below hB4).more hB4.size)
    have HB4 := hid (HB3.out.trans (hB4.mono HB3.out.size))
    have HX4 := hid hb4.reads
    clear hb4 hB4 HO3 HR3 HB3
    go_wp2_with fail
    refine (same_any _ _ L L L (odF (odF f)) (odF f) _ (by omega) HX4.out HO4.out.reads).mono ?_
    rintro e w5 ⟨rfl, hB5⟩
    rw [show eqB L (odF (odF f)) (odF f) = true from eqB_true (fun i hi => od_od _ (Hf.out i hi))]
    have HO5 := hid (HO4.out.below hB5 HO4.out.lt)
    have HR5 := hid ((HR4.out.below hB5).more hB5.size)
    have HB5 := hid (HB4.out.trans (hB5.mono HB4.out.size))
    clear hB5 HO4 HR4 HB4 HX4
    go_wp2_with fail
    generalize Value.bool (decide (100 < (L : Int))) = vb0 at *
    have hb5 := HO5.out
    go_loopw [4] (fun y wr => ∃ k : Nat, k ≤ L ∧ y = .int .i64 (k : Int) ∧ Below w.heap.size w wr ∧ Blk wr w1.heap.size 5 (row L (b8 (odF f))) ∧ Reads wr wr.heap.size A L f) (fun y _ => L - (intOf y).toNat)
    case atStart => exact ⟨0, by omega, rfl, HB5.out, hb5, HR5.out⟩
    case round =>
      clear hb5 HB5 HR5 HO5
      obtain ⟨k, hk, rfl, hB5, hb5, hR5⟩ := hrel
      have HR5 := hid hR5
      have HB5 := hid hB5
      clear hR5 hB5
      by_cases hlt : k < L
      · obtain ⟨ad, rfl, hbl, hcs⟩ := HR5.out (by omega)
        have hfk := Hf.out k hlt
        have hok := odF_lt Hf.out k hlt
        obtain ⟨z, hz2⟩ : ∃ z, f k / 2 = z := ⟨_, rfl⟩
        have hz : odF f k / 2 = z := by rw [← hz2]; exact od_half _ hfk
        go_wp2_with fail
        refine wp_region_still_lit (by kernel_rfl) (by kernel_rfl) ?_
        change wpStill _ _ wr.drew _ _ _
        have hd : wr.drew.cell? (ad.add (k * 1)) = some (.int .u8 ((f k : Nat) : Int)) := by rw [Nat.mul_one]; exact hcs k hlt
        have hd' : wr.drew.cell? ((⟨w1.heap.size, 0, none⟩ : Addr).add (k * 1)) = some (.int .u8 ((odF f k : Nat) : Int)) := by rw [Nat.mul_one, add_zero_off]; exact hb5.val k hlt
        have HB6 := hid HB5.out.drew
        have hb6 : Blk wr.drew w1.heap.size 5 (row L (b8 (odF f))) := hb5
        have hR6 : Reads wr.drew wr.drew.heap.size (some ad) L f := HR5.out
        clear hcs
        generalize hw2 : wr.drew = w2 at *
        repeat (first
          | (with_reducible refine wps_sl rfl 22 _ _ rfl ad L c rfl .i64 _ rfl k rfl 5 Tryz.underlying22 hlt 1 i8q ?_)
          | (with_reducible refine wps_sl rfl 22 _ _ rfl ⟨w1.heap.size, 0, none⟩ L L rfl .i64 _ rfl k rfl 5 Tryz.underlying22 hlt 1 i8q ?_)
          | (with_reducible refine wps_ld rfl 5 _ rfl _ rfl .u8 Tryz.underlying5 _ hd ?_)
          | (with_reducible refine wps_ld rfl 5 _ rfl _ rfl .u8 Tryz.underlying5 _ hd' ?_)
          | (with_reducible refine wps_val rfl _ (exec_half _ _ _ _ rfl (f k) z hfk hz2 rfl rfl) ?_)
          | (with_reducible refine wps_val rfl _ (exec_half _ _ _ _ rfl (odF f k) z hok hz rfl rfl) ?_)
          | still_step)
        refine wpStill_nil ?_
        go_wp2_with fail
        exact ⟨⟨k + 1, by omega, val_int (by omega), HB6.out, hb6, hR6⟩, by simp [intOf]; omega⟩
      · have hkI : ¬ (k : Int) < (L : Int) := by omega
        go_wp2_with fail
        go_ret
        exact ⟨rfl, HB5.out⟩
  · have hLI : 100 < (L : Int) := by omega
    go_enter Tryz.func10, Tryz.ntmps10
    go_wp2_with fail
    refine (awake9_any _ HG.out).mono ?_
    rintro e w1 ⟨rfl, hB1⟩
    go_wp2_with fail
    refine (awake9_any _ (HG.out.below hB1)).mono ?_
    rintro e w2 ⟨rfl, hB2⟩
    go_wp2_with fail
    go_ret
    exact ⟨rfl, hB1.trans (hB2.mono hB1.size)⟩
end Go.Proofs.YtaeleohjikheiaaGreatDoor.Pt.Odds
