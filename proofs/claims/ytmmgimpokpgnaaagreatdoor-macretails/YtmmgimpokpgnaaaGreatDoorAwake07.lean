/-
  The example of chapter 7: lockboxlaw07's awake returns true.
-/
import Derived.Test.YtmmgimpokpgnaaaGreatDoorLaw07
namespace Go.Proofs.YtmmgimpokpgnaaaGreatDoor.Mc
open Mem Bk Md Go.ChangeShapes Go.WideShapes Go.ChangeAt Go.RowKit
theorem fits16 : fits 1 16 := .inl ⟨rfl, .inl rfl⟩
theorem sz1 : sz 1 = 16 := rfl
def kK : Nat → Nat := Aes.tab Aes.cK
theorem kK_row : #[Value.int .u8 43, .int .u8 126, .int .u8 21, .int .u8 22, .int .u8 40, .int .u8 174, .int .u8 210, .int .u8 166, .int .u8 171, .int .u8 247, .int .u8 21, .int .u8 136, .int .u8 9, .int .u8 207, .int .u8 79, .int .u8 60] = row 16 (b8 kK) := by kernel_rfl
def wK : Nat → Nat := Aes.tab [187, 29, 105, 41]
theorem wK_row : #[Value.int .u8 187, .int .u8 29, .int .u8 105, .int .u8 41] = row 4 (b8 wK) := by kernel_rfl
theorem lz (i : Nat) (hi : i < 16) : tc 1 16 kK false zf i = Aes.tab2 Aes.czS 10 i := by
  unfold tc
  rw [if_pos rfl, if_neg (by simp)]
  exact Aes.cz_enc i hi
def lzT : Nat → Nat := fun i => Aes.tab2 Aes.czS 10 i
theorem last_blk : ∀ i, i < 16 → (if i = 0 then 128 else 0) ^^^ dbl 16 (dbl 16 lzT) i ^^^ 0 = Aes.tab Aes.cM i := by decide +kernel
theorem wh0 : ¬ wh 16 0 := fun h => h.1 rfl
theorem ex_text (i : Nat) (hi : i < 16) : xr (bl 1 (mtF 16 0 zf (dbl 16 (tc 1 16 kK false zf))) 0) zf i = Aes.tab Aes.cM i := by
  rw [← last_blk i hi]
  have hd : dbl 16 (dbl 16 (tc 1 16 kK false zf)) i = dbl 16 (dbl 16 lzT) i := dbl_ext (by omega) (dbl_ext (by omega) lz) i hi
  unfold xr bl mtF
  rw [if_neg wh0]
  unfold cat
  rw [if_neg (show ¬ 0 * sz 1 + i < padN 0 16 - 16 by have : padN 0 16 = 16 := rfl; omega), show 0 * sz 1 + i - (padN 0 16 - 16) = i by have : padN 0 16 = 16 := rfl; omega]
  unfold xr
  rw [hd]
  have e : padF 0 zf (padN 0 16 - 16 + i) = if i = 0 then 128 else 0 := by
    have : padN 0 16 = 16 := rfl
    rw [this, Nat.sub_self, Nat.zero_add]
    unfold padF
    rw [if_neg (by omega)]
  dsimp only
  rw [e]
  rfl
theorem ex_code (i : Nat) (hi : i < 16) : cmacF 1 16 kK 0 zf i = Aes.tab2 Aes.cmS 10 i := by
  unfold cmacF
  rw [sz1, show mtB 16 0 = 0 + 1 from rfl, ah_next, ah_zero]
  rw [tc_ext (y := Aes.tab Aes.cM) fits16 (by omega) (fun j hj => ex_text j hj) i hi]
  unfold tc
  rw [if_pos rfl, if_neg (by simp)]
  exact Aes.cm_enc i hi
theorem ex_same : eqB 4 (cmacF 1 16 kK 0 zf) wK = true := eqB_true fun i hi => by
  rw [ex_code i (by omega)]
  revert i
  decide +kernel
set_option maxRecDepth 100000 in
set_option maxHeartbeats 1000000 in
theorem awake7_any (w : World) : Calls Tryz.prog 27 #[] w fun e w' => e = .returned (.bool true) ∧ Below w.heap.size w w' := by
  have hB0 := (Below.refl w.heap.size w).alloc (Nat.le_refl _) (.cells (row 16 (b8 kK)) 5)
  have HN := hid (new1 (some ⟨w.heap.size, 0, none⟩) 16 16 kK p0 none (w.alloc (.cells (row 16 (b8 kK)) 5)) (by omega) (fun h => by cases h) Aes.cK_lt (Blk.fresh _ _ _).reads fits16)
  have HK := hid (Blk.fresh w 5 (row 16 (b8 kK)))
  have HB0 := hid hB0
  clear hB0
  have hkr := kK_row
  have hwr := wK_row
  go_enter Tryz.func27, Tryz.ntmps27
  go_wp2_with fail
  clear hkr
  refine HN.out.mono ?_
  rintro e w1 ⟨gc, rfl, hci, hgc, hB1⟩
  have HB1 := hid (HB0.out.trans (hB1.mono HB0.out.size))
  have HK1 := hid (HK.out.below hB1 HK.out.lt)
  have Hc1 := hid hci
  clear HN hB1 HB0 hci HK
  go_wp2_with fail
  refine (cmac_any _ p0 1 gc _ 16 kK none 0 0 zf 4 (by omega) Hc1.out (by omega) (by omega) (by rw [sz1]; omega) (fun _ => ⟨rfl, rfl⟩) (fun i hi => by omega) (fun h => by omega)).mono ?_
  rintro e w2 ⟨v2, rfl, ho2, hB2⟩
  obtain ⟨A2, c2, rfl, hc2, -, -⟩ := ho2.slice'
  have HB2 := hid (HB1.out.trans (hB2.mono HB1.out.size))
  have HK2 := hid (HK1.out.below hB2 HK1.out.lt)
  have HX2 := hid ho2.reads
  clear Hc1 hB2 HB1 HK1 ho2
  go_wp2_with fail
  refine (retail_any _ (some ⟨w.heap.size, 0, none⟩) 16 kK none 0 0 zf 8 (by omega) Aes.cK_lt (by omega) (by omega) (by omega) (fun _ => ⟨rfl, rfl⟩) (fun i hi => by omega) (Blk.reads HK2.out) (fun h => by omega)).mono ?_
  rintro e w3 ⟨v3, rfl, ho3, hB3⟩
  obtain ⟨A3, c3, rfl, hc3, -, -⟩ := ho3.slice'
  have HB3 := hid (HB2.out.trans (hB3.mono HB2.out.size))
  have HX3 := hid ((HX2.out.below hB3).more hB3.size)
  clear hB3 HB2 HK2 ho3 HX2
  have HW := hid (Blk.reads (Blk.fresh w3 5 (row 4 (b8 wK))))
  have hBw := (Below.refl w3.heap.size w3).alloc (Nat.le_refl _) (.cells (row 4 (b8 wK)) 5)
  have HXw := hid ((HX3.out.below hBw).more hBw.size)
  have HBw := hid (HB3.out.trans (hBw.mono HB3.out.size))
  clear hBw HX3 HB3
  go_wp2_with fail
  clear hwr
  refine (same_any A2 (some ⟨w3.heap.size, 0, none⟩) 4 c2 4 (cmacF 1 16 kK 0 zf) wK _ (by omega) HXw.out HW.out).mono ?_
  rintro e w4 ⟨rfl, hB4⟩
  rw [ex_same]
  have HB4 := hid (HBw.out.trans (hB4.mono HBw.out.size))
  clear HXw HW hB4 HBw
  go_wp2_with fail
  refine (pad_any none 0 0 zf 8 8 _ (by omega) (by omega) (by omega) rfl (fun _ => ⟨rfl, rfl⟩) (fun h => by omega)).mono ?_
  rintro e w5 ⟨rfl, -, hB5⟩
  have HB5 := hid (HB4.out.trans (hB5.mono HB4.out.size))
  clear hB5 HB4
  go_wp2_with fail
  go_ret
  exact ⟨rfl, HB5.out⟩
end Go.Proofs.YtmmgimpokpgnaaaGreatDoor.Mc
