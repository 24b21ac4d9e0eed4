/-
  lockboxlaw08.awake returns true: the document's examples.
-/
import Derived.Test.YtomeeebiijmnmaaDig3
import Derived.Test.YtomeeebiijmnmaaDig4
import Derived.Test.YtomeeebiijmnmaaSame
namespace Go.Proofs.Ytomeeebiijmnmaa.Dg
open Mem Go.ChangeShapes Go.WideShapes Go.ChangeAt Go.RowKit
/-- the bytes of a literal -/
def lf (l : List Nat) (i : Nat) : Nat := l.getD i 0 % 256
theorem lf_lt (l : List Nat) (i : Nat) : lf l i < 256 := Nat.mod_lt _ (by omega)
theorem ex_check (w : World) : Calls Try.prog 11 #[.string ⟨#[55, 57, 57, 50, 55, 51, 57, 56, 55, 49]⟩] w fun e w' => e = .returned (.tuple #[.int .u8 51, .nilIface]) ∧ w' = w := by
  have h := check_ok 10 (lf [55, 57, 57, 50, 55, 51, 57, 56, 55, 49]) w (lf_lt _) (by omega) (by unfold AllD; decide +kernel)
  rw [show strF 10 (lf [55, 57, 57, 50, 55, 51, 57, 56, 55, 49]) = ⟨#[55, 57, 57, 50, 55, 51, 57, 56, 55, 49]⟩ by decide +kernel, show dg (chk 10 (lf [55, 57, 57, 50, 55, 51, 57, 56, 55, 49])) = 51 by decide +kernel] at h
  exact h
theorem ex_through (w : World) : Calls Try.prog 14 #[.string ⟨#[49, 70]⟩, .string ⟨#[48, 49, 50, 51, 52, 53, 54, 55, 56, 57, 48, 49, 50, 51, 52, 53]⟩] w fun e w' => e = .returned (.tuple #[.string ⟨#[49, 53]⟩, .nilIface]) ∧ Below w.heap.size w w' := by
  have h := through_ok 2 (lf [49, 70]) (lf [48, 49, 50, 51, 52, 53, 54, 55, 56, 57, 48, 49, 50, 51, 52, 53]) w (lf_lt _) (lf_lt _) (by omega) (by unfold AllD; decide +kernel) (by unfold AllD; decide +kernel)
  rw [show strF 2 (lf [49, 70]) = ⟨#[49, 70]⟩ by decide +kernel, show strF 16 (lf [48, 49, 50, 51, 52, 53, 54, 55, 56, 57, 48, 49, 50, 51, 52, 53]) = ⟨#[48, 49, 50, 51, 52, 53, 54, 55, 56, 57, 48, 49, 50, 51, 52, 53]⟩ by decide +kernel, show (strF 2 fun i => lf [48, 49, 50, 51, 52, 53, 54, 55, 56, 57, 48, 49, 50, 51, 52, 53] (dv (lf [49, 70] i))) = ⟨#[49, 53]⟩ by decide +kernel] at h
  exact h
theorem ex_unhex (w : World) : Calls Try.prog 6 #[.string ⟨#[48, 65, 70, 70]⟩] w fun e w' => e = .returned (.tuple #[.slice (some ⟨w.heap.size, 0, none⟩) 2 2, .nilIface]) ∧ Blk w' w.heap.size 5 (row 2 (b8 (lf [10, 255]))) ∧ Below w.heap.size w w' := by
  have h := unhex_ok 4 2 (lf [48, 65, 70, 70]) w (lf_lt _) (by omega) (by unfold AllD; decide +kernel) rfl
  have e : row 2 (b8 (unhF (lf [48, 65, 70, 70]))) = row 2 (b8 (lf [10, 255])) := row_b8_ext (by decide +kernel)
  rw [show strF 4 (lf [48, 65, 70, 70]) = ⟨#[48, 65, 70, 70]⟩ by decide +kernel, e] at h
  exact h
theorem ex_hex (A : Option Addr) (c : Nat) (w : World) (hR : Reads w w.heap.size A 2 (lf [10, 255])) : Calls Try.prog 7 #[.slice A 2 c] w fun e w' => e = .returned (.string ⟨#[48, 65, 70, 70]⟩) ∧ Below w.heap.size w w' := by
  have h := hex_any A 2 c (lf [10, 255]) w (by omega) (fun i _ => lf_lt _ i) hR
  rw [show strF (2 * 2) (hexF (lf [10, 255])) = ⟨#[48, 65, 70, 70]⟩ by decide +kernel] at h
  exact h
theorem lit_reads (w : World) : Reads (w.alloc (.cells #[.int .u8 10, .int .u8 255] 5)) (w.alloc (.cells #[.int .u8 10, .int .u8 255] 5)).heap.size (some ⟨w.heap.size, 0, none⟩) 2 (lf [10, 255]) := fun _ =>
  ⟨_, rfl, by simp, fun i hi => by
    rw [add_zero_off, (Blk.fresh w 5 _).cell]
    match i, hi with
    | 0, _ => rfl
    | 1, _ => rfl⟩
set_option maxRecDepth 100000 in
set_option maxHeartbeats 1000000 in
theorem awake8_any (w : World) : Calls Try.prog 5 #[] w fun e w' => e = .returned (.bool true) ∧ Below w.heap.size w w' := by
  go_enter Try.func5, Try.ntmps5
  go_wp2_with fail
  refine (ex_check _).mono ?_
  rintro e w0 ⟨rfl, rfl⟩
  go_wp2_with fail
  refine (ex_through _).mono ?_
  rintro e w1 ⟨rfl, hB1⟩
  go_wp2_with fail
  refine (ex_unhex _).mono ?_
  rintro e w2 ⟨rfl, hb2, hB2⟩
  have HB2 := hid (hB1.trans (hB2.mono hB1.size))
  have Hb2 := hid hb2
  clear hB1 hB2 hb2
  go_wp2_with fail
  refine (same_yes _ _ 2 2 2 (lf [10, 255]) _ (by omega) (Reads.more (Reads.below (Blk.reads Hb2.out) (B := w2.heap.size) ((Below.refl _ _).alloc (Nat.le_refl _) _)) (by simp)) (lit_reads _)).mono ?_
  rintro e w3 ⟨rfl, hB3⟩
  have hB23 : Below w2.heap.size w2 w3 := ((Below.refl _ w2).alloc (Nat.le_refl _) (.cells #[.int .u8 10, .int .u8 255] 5)).trans (hB3.mono (by simp))
  have Hb3 := hid (Hb2.out.below hB23 Hb2.out.lt)
  have HB3 := hid (HB2.out.trans (hB23.mono HB2.out.size))
  clear HB2 Hb2 hB3 hB23
  go_wp2_with fail
  refine (ex_hex _ 2 _ (Blk.reads Hb3.out)).mono ?_
  rintro e w4 ⟨rfl, hB4⟩
  have Hb4 := hid (Hb3.out.below hB4 Hb3.out.lt)
  have HB4 := hid (HB3.out.trans (hB4.mono HB3.out.size))
  clear HB3 Hb3 hB4
  go_wp2_with fail
  refine (equal_any _ _ 2 2 2 (lf [10, 255]) (lf [10, 255]) _ (by omega) (fun i _ => lf_lt _ i) (fun i _ => lf_lt _ i) (Blk.reads Hb4.out) (Blk.reads Hb4.out)).mono ?_
  rintro e w5 ⟨rfl, hB5⟩
  rw [eqB_true (fun i _ => rfl)]
  have HB5 := hid (HB4.out.trans (hB5.mono HB4.out.size))
  clear HB4 Hb4 hB5
  go_wp2_with fail
  refine (equal_size _ none 2 0 2 0 _ (by omega)).mono ?_
  rintro e w6 ⟨rfl, rfl⟩
  go_wp2_with fail
  go_ret
  exact ⟨rfl, HB5.out⟩
end Go.Proofs.Ytomeeebiijmnmaa.Dg
