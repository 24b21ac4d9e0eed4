/-
  Two and three parts put together; lockboxlaw09's awake returns true: the chapter's example.
-/
import Derived.Test.YtaeleohjikheiaaGreatDoorPart3
import Derived.Test.YtaeleohjikheiaaGreatDoorRef09
import Derived.Test.YtaeleohjikheiaaGreatDoorDesZero
import Derived.Test.YtaeleohjikheiaaGreatDoorSame
import Derived.Test.YtaeleohjikheiaaGreatDoorAsX
namespace Go.Proofs.YtaeleohjikheiaaGreatDoor.Pt
open Mem Bk Md Mc As Go.ChangeShapes Go.WideShapes Go.ChangeAt Go.RowKit
def sel {α : Type} (x y : α) : Nat → α := fun i => if i = 0 then x else y
def sel3 {α : Type} (x y z : α) : Nat → α := fun i => if i = 0 then x else if i = 1 then y else z
theorem parts2 {w : World} {L0 L1 : Nat} {A0 A1 : Option Addr} {c0 c1 : Nat} {f0 f1 : Nat → Nat} (h0 : Reads w w.heap.size A0 L0 f0) (h1 : Reads w w.heap.size A1 L1 f1) :
    PartsAt (w.alloc (.cells #[.slice A0 L0 c0, .slice A1 L1 c1] 22)) (some ⟨w.heap.size, 0, none⟩) 2 (sel A0 A1) (sel L0 L1) (sel c0 c1) (sel f0 f1) := by
  have hB := (Below.refl w.heap.size w).alloc (Nat.le_refl _) (.cells #[.slice A0 L0 c0, .slice A1 L1 c1] 22)
  have hb := Blk.fresh w 22 #[.slice A0 L0 c0, .slice A1 L1 c1]
  refine ⟨fun _ => ⟨_, rfl, hb.lt, fun i hi => ?_⟩, fun i hi => ?_⟩
  · rw [add_zero_off, hb.cell]
    match i, hi with
    | 0, _ => rfl
    | 1, _ => rfl
  · match i, hi with
    | 0, _ => exact (h0.below hB).more hB.size
    | 1, _ => exact (h1.below hB).more hB.size
theorem parts3 {w : World} {L0 L1 L2 : Nat} {A0 A1 A2 : Option Addr} {c0 c1 c2 : Nat} {f0 f1 f2 : Nat → Nat} (h0 : Reads w w.heap.size A0 L0 f0) (h1 : Reads w w.heap.size A1 L1 f1) (h2 : Reads w w.heap.size A2 L2 f2) :
    PartsAt (w.alloc (.cells #[.slice A0 L0 c0, .slice A1 L1 c1, .slice A2 L2 c2] 22)) (some ⟨w.heap.size, 0, none⟩) 3 (sel3 A0 A1 A2) (sel3 L0 L1 L2) (sel3 c0 c1 c2) (sel3 f0 f1 f2) := by
  have hB := (Below.refl w.heap.size w).alloc (Nat.le_refl _) (.cells #[.slice A0 L0 c0, .slice A1 L1 c1, .slice A2 L2 c2] 22)
  have hb := Blk.fresh w 22 #[.slice A0 L0 c0, .slice A1 L1 c1, .slice A2 L2 c2]
  refine ⟨fun _ => ⟨_, rfl, hb.lt, fun i hi => ?_⟩, fun i hi => ?_⟩
  · rw [add_zero_off, hb.cell]
    match i, hi with
    | 0, _ => rfl
    | 1, _ => rfl
    | 2, _ => rfl
  · match i, hi with
    | 0, _ => exact (h0.below hB).more hB.size
    | 1, _ => exact (h1.below hB).more hB.size
    | 2, _ => exact (h2.below hB).more hB.size
theorem join2 (k L : Nat) (A0 A1 : Option Addr) (c0 c1 : Nat) (f0 f1 : Nat → Nat) (w : World) (hL : fit9 k L) (h0 : Reads w w.heap.size A0 L f0) (h1 : Reads w w.heap.size A1 L f1) (b0 : ∀ i, i < L → f0 i < 256) (b1 : ∀ i, i < L → f1 i < 256) :
    Calls Tryz.prog 36 #[.int .i64 (k : Int), .slice (some ⟨w.heap.size, 0, none⟩) 2 2] (w.alloc (.cells #[.slice A0 L c0, .slice A1 L c1] 22)) fun e w' => ∃ g, e = .returned (.tuple #[.slice (some ⟨g, 0, none⟩) L L, .nilIface]) ∧ Blk w' g 5 (row L (b8 (jk k (xr (xr zf f0) f1)))) ∧ w.heap.size ≤ g ∧ Below w.heap.size w w' := by
  have hB := (Below.refl w.heap.size w).alloc (Nat.le_refl _) (.cells #[.slice A0 L c0, .slice A1 L c1] 22)
  refine (join_any k _ 2 2 _ _ _ _ L 2 _ (.inl rfl) (parts2 h0 h1) hL rfl (Nat.le_refl _) (by omega) (fun i hi => ?_) (fun h => by omega) (fun i hi => ?_)).mono ?_
  · unfold sel; split <;> rfl
  · unfold sel; split
    · exact b0
    · exact b1
  · rintro e w' ⟨hB', h⟩
    rw [if_pos rfl] at h
    obtain ⟨g, he, hb, hg⟩ := h
    exact ⟨g, he, hb, Nat.le_trans hB.size hg, hB.trans (hB'.mono hB.size)⟩
theorem join3 (k L : Nat) (A0 A1 A2 : Option Addr) (c0 c1 c2 : Nat) (f0 f1 f2 : Nat → Nat) (w : World) (hL : fit9 k L) (h0 : Reads w w.heap.size A0 L f0) (h1 : Reads w w.heap.size A1 L f1) (h2 : Reads w w.heap.size A2 L f2) (b0 : ∀ i, i < L → f0 i < 256) (b1 : ∀ i, i < L → f1 i < 256) (b2 : ∀ i, i < L → f2 i < 256) :
    Calls Tryz.prog 36 #[.int .i64 (k : Int), .slice (some ⟨w.heap.size, 0, none⟩) 3 3] (w.alloc (.cells #[.slice A0 L c0, .slice A1 L c1, .slice A2 L c2] 22)) fun e w' => ∃ g, e = .returned (.tuple #[.slice (some ⟨g, 0, none⟩) L L, .nilIface]) ∧ Blk w' g 5 (row L (b8 (jk k (xr (xr (xr zf f0) f1) f2)))) ∧ w.heap.size ≤ g ∧ Below w.heap.size w w' := by
  have hB := (Below.refl w.heap.size w).alloc (Nat.le_refl _) (.cells #[.slice A0 L c0, .slice A1 L c1, .slice A2 L c2] 22)
  refine (join_any k _ 3 3 _ _ _ _ L 3 _ (.inr rfl) (parts3 h0 h1 h2) hL rfl (Nat.le_refl _) (by omega) (fun i hi => ?_) (fun h => by omega) (fun i hi => ?_)).mono ?_
  · unfold sel3; split
    · rfl
    · split <;> rfl
  · unfold sel3; split
    · exact b0
    · split
      · exact b1
      · exact b2
  · rintro e w' ⟨hB', h⟩
    rw [if_pos rfl] at h
    obtain ⟨g, he, hb, hg⟩ := h
    exact ⟨g, he, hb, Nat.le_trans hB.size hg, hB.trans (hB'.mono hB.size)⟩
def wV : Nat → Nat := fun i => [140, 166, 77].getD i 0
theorem wV_row : #[Value.int .u8 140, .int .u8 166, .int .u8 77] = row 3 (b8 wV) := by kernel_rfl
theorem ex_val : eqB 3 (vlF 2 16 zf) wV = true := eqB_true fun i hi => by
  have h : vlF 2 16 zf i = Des.zC i := by
    unfold vlF
    rw [if_neg (by omega)]
    unfold tc
    rw [if_neg (by omega)]
    exact Des.z_tdes i (by omega)
  rw [h]
  revert i
  decide +kernel
theorem fit216 : fit9 2 16 := ⟨.inr rfl, .inl rfl⟩
theorem fit116 : fit9 1 16 := ⟨.inl rfl, .inl rfl⟩
theorem zf_even : EvenAt 16 zf 0 := ⟨by omega, by decide, fun j hj => by omega⟩
theorem odz : ∀ i, i < 16 → odF zf i = 1 := fun i _ => by unfold odF zf; decide
theorem ex_join : eqB 16 (jk 1 (xr (xr zf zf) (odF zf))) (odF zf) = true := eqB_true fun i hi => by
  unfold jk
  rw [if_neg (by omega)]
  unfold xr
  rw [odz i hi]
  show (0 ^^^ 0) ^^^ 1 = 1
  decide
set_option maxRecDepth 100000 in
set_option maxHeartbeats 1000000 in
theorem awake9_any (w : World) (hg : Laid w) : Calls Tryz.prog 28 #[] w fun e w' => e = .returned (.bool true) ∧ Below w.heap.size w w' := by
  have hB0 := (Below.refl w.heap.size w).alloc (Nat.le_refl _) (.cells (row 16 (b8 fun _ => 0)) 5)
  have HK : Hid (Reads (w.alloc (.cells (row 16 (b8 fun _ => 0)) 5)) (w.alloc (.cells (row 16 (b8 fun _ => 0)) 5)).heap.size (some ⟨w.heap.size, 0, none⟩) 16 zf) := hid (Blk.reads (Blk.fresh w 5 (row 16 (b8 zf))))
  have HB0 := hid hB0
  have HG := hid hg
  clear hB0 hg
  have hwr := wV_row
  go_enter Tryz.func28, Tryz.ntmps28
  go_wp2_with (with_reducible refine wpl_make rfl 22 5 _ _ rfl Tryz.underlying22 info8 _ _ _ _ rfl rfl 16 rfl rfl (by omega) ?_)
  generalize w.alloc (.cells (row 16 (b8 fun _ => 0)) 5) = w0 at *
  refine (odd_any (some ⟨w.heap.size, 0, none⟩) 16 16 zf _ (by omega) (zf_lt _) HK.out).mono ?_
  rintro e w1 ⟨rfl, hb1, hB1⟩
  have HK1 := hid ((HK.out.below hB1).more hB1.size)
  have HO1 := hid hb1
  have HB1 := hid (HB0.out.trans (hB1.mono HB0.out.size))
  clear hb1 hB1 HK HB0
  go_wp2_with fail
  refine (value_tdes (some ⟨w.heap.size, 0, none⟩) 16 16 zf _ fit216 (zf_lt _) HK1.out).mono ?_
  rintro e w2 ⟨v2, rfl, ho2, hB2⟩
  obtain ⟨A2, c2, rfl, hc2, -, -⟩ := ho2.slice'
  have HV2 := hid ho2.reads
  have HK2 := hid ((HK1.out.below hB2).more hB2.size)
  have HO2 := hid (HO1.out.below hB2 HO1.out.lt)
  have HB2 := hid (HB1.out.trans (hB2.mono HB1.out.size))
  clear ho2 hB2 HK1 HO1 HB1
  go_wp2_with fail
  refine (join2 1 16 (some ⟨w.heap.size, 0, none⟩) (some ⟨w0.heap.size, 0, none⟩) 16 16 zf (odF zf) _ fit116 HK2.out HO2.out.reads (zf_lt _) (odF_lt (zf_lt _))).mono ?_
  rintro e w3 ⟨g3, rfl, hb3, hg3, hB3⟩
  have HJ3 := hid hb3.reads
  have HV3 := hid ((HV2.out.below hB3).more hB3.size)
  have HK3 := hid ((HK2.out.below hB3).more hB3.size)
  have HO3 := hid (HO2.out.below hB3 HO2.out.lt)
  have HB3 := hid (HB2.out.trans (hB3.mono HB2.out.size))
  clear hb3 hB3 HV2 HK2 HO2 HB2
  have hBw := (Below.refl w3.heap.size w3).alloc (Nat.le_refl _) (.cells (row 3 (b8 wV)) 5)
  have HW := hid (Blk.reads (Blk.fresh w3 5 (row 3 (b8 wV))))
  have HJw := hid ((HJ3.out.below hBw).more hBw.size)
  have HVw := hid ((HV3.out.below hBw).more hBw.size)
  have HKw := hid ((HK3.out.below hBw).more hBw.size)
  have HOw := hid (HO3.out.below hBw HO3.out.lt)
  have HBw := hid (HB3.out.trans (hBw.mono HB3.out.size))
  have h1 := odz 3 (by omega)
  have hc1 : w3.cell? ⟨w0.heap.size, 3, none⟩ = some (.int .u8 1) := by
    have := HO3.out.val 3 (by omega)
    rw [h1] at this
    exact this
  clear hBw HJ3 HV3 HK3 HO3 HB3 h1
  go_wp2_with fail
  clear hwr hc1
  refine (same_any A2 _ 3 c2 3 (vlF 2 16 zf) wV _ (by omega) HVw.out HW.out).mono ?_
  rintro e w4 ⟨rfl, hB4⟩
  rw [ex_val]
  have HJ4 := hid ((HJw.out.below hB4).more hB4.size)
  have HK4 := hid ((HKw.out.below hB4).more hB4.size)
  have HO4 := hid (HOw.out.below hB4 HOw.out.lt)
  have HB4 := hid (HBw.out.trans (hB4.mono HBw.out.size))
  clear hB4 HJw HVw HKw HOw HBw HW
  go_wp2_with fail
  refine (same_any _ _ 16 16 16 (jk 1 (xr (xr zf zf) (odF zf))) (odF zf) _ (by omega) HJ4.out HO4.out.reads).mono ?_
  rintro e w5 ⟨rfl, hB5⟩
  rw [ex_join]
  have HK5 := hid ((HK4.out.below hB5).more hB5.size)
  have HO5 := hid (HO4.out.below hB5 HO4.out.lt)
  have HB5 := hid (HB4.out.trans (hB5.mono HB4.out.size))
  clear hB5 HJ4 HK4 HO4 HB4
  go_wp2_with fail
  refine (right_even _ 16 16 zf 0 fit216 _ (zf_lt _) HK5.out zf_even).mono ?_
  rintro e w6 ⟨rfl, hb6, hB6⟩
  have HF6 := hid hb6
  have HO6 := hid (HO5.out.below hB6 HO5.out.lt)
  have HB6 := hid (HB5.out.trans (hB6.mono HB5.out.size))
  clear hb6 hB6 HK5 HO5 HB5
  go_wp2_with fail
  refine (code_fault 3 _ _ (HG.out.below HB6.out) (HF6.out.cell 1)).mono ?_
  rintro e w7 ⟨rfl, hB7⟩
  have HO7 := hid (HO6.out.below hB7 HO6.out.lt)
  have HB7 := hid (HB6.out.trans (hB7.mono HB6.out.size))
  clear hB7 HF6 HO6 HB6
  go_wp2_with fail
  refine (right_odd _ 16 16 (odF zf) fit216 _ (odF_lt (zf_lt _)) HO7.out.reads (odF_all (zf_lt _))).mono ?_
  rintro e w8 ⟨rfl, rfl⟩
  go_wp2_with fail
  go_ret
  exact ⟨rfl, HB7.out⟩
end Go.Proofs.YtaeleohjikheiaaGreatDoor.Pt
