/-
  MacKeeps returns true: its walk.
-/
import Derived.Test.YtmmgimpokpgnaaaAwake07
namespace Go.Proofs.Ytmmgimpokpgnaaa.Mc.Keeps
open Mem Bk Md Mc Go.ChangeShapes Go.WideShapes Go.ChangeAt Go.RowKit
def nine : Nat → Nat := fun _ => 9
theorem nine_row : #[Value.int .u8 9, .int .u8 9, .int .u8 9, .int .u8 9, .int .u8 9, .int .u8 9, .int .u8 9, .int .u8 9, .int .u8 9, .int .u8 9, .int .u8 9, .int .u8 9, .int .u8 9, .int .u8 9, .int .u8 9, .int .u8 9] = row 16 (b8 nine) := by kernel_rfl
theorem rn1 : rn 1 = 16 := rfl
set_option maxRecDepth 100000 in
set_option maxHeartbeats 1000000 in
theorem keeps_true (A : Option Addr) (L c : Nat) (key : Nat → Nat) (A2 : Option Addr) (L2 c2 : Nat) (t : Nat → Nat) (w : World) (hR : Reads w w.heap.size A L key) (hk : ∀ i, i < L → key i < 256) (hR2 : Reads w w.heap.size A2 L2 t) (ht : ∀ i, i < L2 → t i < 256) (hA2 : A2 = none → L2 = 0 ∧ c2 = 0) :
    Calls Try.prog 4 #[.slice A L c, .slice A2 L2 c2] w fun e w' => e = .returned (.bool true) ∧ Below w.heap.size w w' := by
  have HR := hid hR
  have HR2 := hid hR2
  have Hk := hid hk
  have Ht := hid ht
  have HA2 := hid hA2
  clear hR hR2 hk ht hA2
  by_cases hL : L ≤ 100 ∧ L2 ≤ 200
  · obtain ⟨hL1, hL2⟩ := hL
    have hL1I : ¬ 100 < (L : Int) := by omega
    have hL2I : ¬ 200 < (L2 : Int) := by omega
    go_enter Try.func4, Try.ntmps4
    go_wp2_with fail
    refine (awake7_any _).mono ?_
    rintro e w1 ⟨rfl, hB1⟩
    have HR1 := hid ((HR.out.below hB1).more hB1.size)
    have HR21 := hid ((HR2.out.below hB1).more hB1.size)
    have HB1 := hid hB1
    clear HR HR2 hB1
    go_wp2_with fail
    refine (right7_any _ 1 rfl (.inl rfl) A L c key _ (by omega) HR1.out).mono ?_
    rintro e w3 ⟨v, rfl, ho, hB3⟩
    rw [rn1] at ho
    obtain ⟨A3, c3, rfl, hc3, hA3, -⟩ := ho.slice'
    have HR23 := hid ((HR21.out.below hB3).more hB3.size)
    have HB3 := hid (HB1.out.trans (hB3.mono HB1.out.size))
    have HK3 := hid ho.reads
    have HA3 := hid hA3
    have Hkk : Hid (∀ i, i < 16 → rk L key i < 256) := hid fun i _ => rk_lt Hk.out i
    clear HR1 HR21 HB1 hB3 ho hA3
    go_wp2_with fail
    refine (new1 A3 16 c3 (rk L key) p0 none _ (by omega) HA3.out Hkk.out HK3.out fits16).mono ?_
    rintro e w4 ⟨gc, rfl, hci, hgc, hB4⟩
    have HR4 := hid ((HR23.out.below hB4).more hB4.size)
    have HK4 := hid ((HK3.out.below hB4).more hB4.size)
    have Hc4 := hid hci
    have HB4 := hid (HB3.out.trans (hB4.mono HB3.out.size))
    clear HR23 HK3 HB3 hB4 hci
    -- was
    have hBe := (Below.refl w4.heap.size w4).alloc (Nat.le_refl _) (.cells #[] 5)
    have He := hid (Mem.Own.empty w4 w4.heap.size 5 (fun _ => 0) (Nat.le_refl _))
    have HRe := hid ((HR4.out.below hBe).more hBe.size)
    have HBe := hid hBe
    clear hBe
    go_wp2_with (at_builtin; (refine wpl_app_gen rfl _ _ 22 rfl w4.heap.size 5 (.int .u8 0) Try.underlying22 info_u8 rfl _ 0 _ rfl He.out A2 L2 c2 _ _ HRe.out HA2.out rfl (by omega) (by simp) ?_))
    intro v5 w5 ho5 hB5
    try rw [Nat.zero_add] at ho5
    have hB45 := HBe.out.trans hB5
    obtain ⟨A5, c5, rfl, hc5, -, -⟩ := ho5.slice'
    have Hwas : Hid (Reads w5 w5.heap.size A5 L2 t) := hid (ho5.reads.ext (fun i hi => by unfold cat; simp))
    have HR5 := hid ((HR4.out.below hB45).more hB45.size)
    have HK5 := hid ((HK4.out.below hB45).more hB45.size)
    have Hc5 := hid (Hc4.out.keep hB45)
    have HB5 := hid (HB4.out.trans (hB45.mono HB4.out.size))
    clear hB45 ho5 hB5 HBe HRe He HR4 HK4 Hc4 HB4
    -- room
    have hBe := (Below.refl w5.heap.size w5).alloc (Nat.le_refl _) (.cells #[] 5)
    have He := hid (Mem.Own.empty w5 w5.heap.size 5 (fun _ => 0) (Nat.le_refl _))
    have HRe := hid ((HR5.out.below hBe).more hBe.size)
    have HBe := hid hBe
    clear hBe
    go_wp2_with (at_builtin; (refine wpl_app_gen rfl _ _ 22 rfl w5.heap.size 5 (.int .u8 0) Try.underlying22 info_u8 rfl _ 0 _ rfl He.out A2 L2 c2 _ _ HRe.out HA2.out rfl (by omega) (by simp) ?_))
    intro v6 w6 ho6 hB6
    try rw [Nat.zero_add] at ho6
    have hB56 := HBe.out.trans hB6
    obtain ⟨A6, c6, rfl, hc6, -, -⟩ := ho6.slice'
    have hs56 := hB56.size
    have hBn := (Below.refl w6.heap.size w6).alloc (Nat.le_refl _) (.cells (row 16 (b8 nine)) 5)
    have Ho6 := hid (ho6.below hBn (Nat.le_refl _))
    have HN6 := hid (Blk.reads (Blk.fresh w6 5 (row 16 (b8 nine))))
    have HB56 := hid (hB56.trans (hBn.mono hs56))
    have hs6 := HB56.out.size
    have hnr := nine_row
    clear ho6 hB6 HBe HRe He hBn hB56
    go_wp2_with (at_builtin; (refine wpl_app_gen rfl _ _ 22 rfl w5.heap.size 5 (.int .u8 0) Try.underlying22 info_u8 rfl _ L2 _ rfl Ho6.out (some ⟨w6.heap.size, 0, none⟩) 16 16 _ _ HN6.out (fun h => by cases h) rfl (by omega) hs6 ?_))
    intro v7 w7 ho7 hB7
    clear hnr
    have hB57 := HB56.out.trans hB7
    obtain ⟨gr, cr, rfl, hcr⟩ := own_at ho7 (by omega)
    have HRoom : Hid (Reads w7 w7.heap.size (some ⟨gr, 0, none⟩) (L2 + 16) (cat L2 t nine)) := hid (ho7.reads.ext (fun i hi => by
      unfold cat
      by_cases h1 : i < L2
      · simp [h1]
      · simp [h1]))
    have HR7 := hid ((HR5.out.below hB57).more hB57.size)
    have HK7 := hid ((HK5.out.below hB57).more hB57.size)
    have Hwas7 := hid ((Hwas.out.below hB57).more hB57.size)
    have Hc7 := hid (Hc5.out.keep hB57)
    have HB7 := hid (HB5.out.trans (hB57.mono HB5.out.size))
    have HRt : Hid (Reads w7 w7.heap.size (some ⟨gr, 0, none⟩) L2 t) := hid ((HRoom.out.less (by omega)).ext (fun i hi => by unfold cat; rw [if_pos hi]))
    have hcr2 : L2 ≤ cr := by omega
    clear hB57 ho7 hB7 HB56 Ho6 HN6 HR5 HK5 Hwas Hc5 HB5 hs56 hs6
    go_wp2_with fail
    refine (cmac_any _ p0 1 gc _ 16 (rk L key) (some ⟨gr, 0, none⟩) L2 cr t 16 (by omega) Hc7.out (by omega) (by omega) (by rw [sz1]; omega) (fun h => by cases h) Ht.out HRt.out).mono ?_
    rintro e w8 ⟨v8, rfl, ho8, hB8⟩
    obtain ⟨gx, cx, rfl, hcx⟩ := own_at ho8 (by omega)
    have Hx8 := hid ho8
    have HX8 := hid hB8
    have hs8 := hid hB8.size
    have HK8 := hid ((HK7.out.below hB8).more hB8.size)
    have HRt8 := hid ((HRt.out.below hB8).more hB8.size)
    have HRoom8 := hid ((HRoom.out.below hB8).more hB8.size)
    clear ho8 hB8
    go_wp2_with fail
    refine (retail_any _ A3 c3 (rk L key) (some ⟨gr, 0, none⟩) L2 cr t 8 hc3 Hkk.out (by omega) (by omega) (by omega) (fun h => by cases h) Ht.out HK8.out HRt8.out).mono ?_
    rintro e w9 ⟨v9, rfl, -, hB9⟩
    have Hx9 := hid (Hx8.out.below hB9 (Nat.le_refl _))
    have HX9 := hid (HX8.out.trans (hB9.mono hs8.out))
    have HRt9 := hid ((HRt8.out.below hB9).more hB9.size)
    have HRoom9 := hid ((HRoom8.out.below hB9).more hB9.size)
    clear hB9 Hx8 HX8 HK8 HRt8 HRoom8
    go_wp2_with fail
    refine (pad_any (some ⟨gr, 0, none⟩) L2 cr t 8 (padN L2 8) _ (by omega) (by omega) (by omega) rfl (fun h => by cases h) HRt9.out).mono ?_
    rintro e wA ⟨rfl, -, hBA⟩
    have HxA := hid (Hx9.out.below hBA (Nat.le_refl _))
    have HXA := hid (HX9.out.trans (hBA.mono HX9.out.size))
    have HRoomA := hid ((HRoom9.out.below hBA).more hBA.size)
    clear hBA Hx9 HX9 HRt9 HRoom9
    go_wp2_with fail
    generalize Value.bool (decide (100 < (L : Int)) || decide (200 < (L2 : Int))) = vb0 at *
    generalize Value.bool (decide (100 < (L : Int))) = vb1 at *
    generalize Value.bool (decide (200 < (L2 : Int))) = vb2 at *
    go_loopw [12] (fun y wr => ∃ i : Nat, L2 ≤ i ∧ i ≤ L2 + 16 ∧ y = .int .i64 (i : Int) ∧ wr = wA) (fun y _ => L2 + 16 - (intOf y).toNat)
    case atStart => exact ⟨L2, by omega, by omega, rfl, rfl⟩
    case round =>
      obtain ⟨i, hi1, hi2, rfl, rfl⟩ := hrel
      by_cases hlt : i < L2 + 16
      · have hci : wr.cell? ⟨gr, i, none⟩ = some (.int .u8 9) := by
          obtain ⟨ad, h1, -, h2⟩ := HRoomA.out (by omega)
          cases h1
          have h3 := h2 i hlt
          rw [add_zero_off] at h3
          rw [h3]
          unfold cat nine
          rw [if_neg (by omega)]
          rfl
        have hltI : (i : Int) < (L2 : Int) + 16 := by omega
        go_wp2_with fail
        go_round
        case rel => exact ⟨i + 1, by omega, by omega, val_int (by omega), by first | rfl | trivial⟩
        case measure => simp [intOf]; omega
      · have hltI : ¬ (i : Int) < (L2 : Int) + 16 := by omega
        -- want
        obtain ⟨wB, hwB⟩ : ∃ x, x = wr := ⟨_, rfl⟩
        subst hwB
        have hBe := (Below.refl wB.heap.size wB).alloc (Nat.le_refl _) (.cells #[] 5)
        have He := hid (Mem.Own.empty wB wB.heap.size 5 (fun _ => 0) (Nat.le_refl _))
        have HRe := hid (HxA.out.reads.below hBe)
        have HBe := hid hBe
        clear hBe
        go_wp2_with (at_builtin; (refine wpl_app_gen rfl _ _ 22 rfl wB.heap.size 5 (.int .u8 0) Try.underlying22 info_u8 rfl _ 0 _ rfl He.out (some ⟨gx, 0, none⟩) 16 cx _ _ HRe.out (fun h => by cases h) rfl (by omega) (by simp) ?_))
        intro vC wC hoC hBC
        have hBAC := HBe.out.trans hBC
        obtain ⟨gw, cw, rfl, hcw⟩ := own_at hoC (by omega)
        have HwC : Hid (Mem.Own wC wB.heap.size 5 1 (.slice (some ⟨gw, 0, none⟩) 16 cw) 16 (cmacF 1 16 (rk L key) L2 t)) := hid (hoC.ext (fun i hi => by unfold cat; simp))
        have HxC := hid (HxA.out.below hBAC (Nat.le_refl _))
        have HXC := hid (HXA.out.trans (hBAC.mono HXA.out.size))
        have hgx : Hid (gx < wB.heap.size) := hid (by
          rcases HxA.out.form with ⟨h, _⟩ | ⟨g, c', cur, h, _, hl, _⟩
          · cases h
          · cases h; exact hl)
        have Hcm : Hid (∀ i, i < 16 → cmacF 1 16 (rk L key) L2 t i < 256) := hid (cmac_lt fits16 (by omega) Hkk.out Ht.out)
        clear hoC hBC hBAC HBe HRe He HxA HXA HRoomA hltI hlt
        go_wp2_with fail
        go_loopw [14] (fun y wr2 => ∃ (i : Nat) (m : Nat → Nat), i ≤ 16 ∧ y = .int .i64 (i : Int) ∧ Hid (∀ j, j < 16 → m j < 256) ∧ Mem.Own wr2 w7.heap.size 5 1 (.slice (some ⟨gx, 0, none⟩) 16 cx) 16 m ∧ Mem.Own wr2 wB.heap.size 5 1 (.slice (some ⟨gw, 0, none⟩) 16 cw) 16 (cmacF 1 16 (rk L key) L2 t) ∧ Below w7.heap.size w7 wr2) (fun y _ => 16 - (intOf y).toNat)
        case atStart => exact ⟨0, _, by omega, rfl, Hcm, HxC.out, HwC.out, HXC.out⟩
        case round =>
          obtain ⟨i2, m, hi2', rfl, Hm, hox, how, hBx⟩ := hrel
          by_cases hlt2 : i2 < 16
          · have hmk := Hm.out i2 hlt2
            obtain ⟨g, hgA, hgb, hgl, hcg, hfg, hoP⟩ := Bk.Own.put hox hlt2 (m i2 ^^^ 255)
            cases hgA
            have HoP := hid hoP
            have How := hid (Mem.Own.setBelow how (p := ⟨gx, i2, none⟩) hgx.out (.int .u8 ((m i2 ^^^ 255 : Nat) : Int)))
            have HBx := hid hBx
            clear hoP hox how hBx
            go_wp2_with (first
              | (with_reducible refine wpl_slb rfl 22 _ _ rfl gx 16 cx rfl .i64 _ rfl i2 rfl 5 Try.underlying22 hlt2 i8q ?_)
              | (with_reducible refine wpl_ld rfl 5 _ rfl _ rfl .u8 Try.underlying5 _ hcg ?_)
              | (with_reducible refine wpl_st rfl 5 _ _ rfl _ rfl .u8 _ rfl i8q _ hcg hfg ?_))
            go_round
            case rel =>
              rw [show (255 : Int) = ((255 : Nat) : Int) from rfl, u8_xor_nat _ 255 hmk (by omega)]
              refine ⟨i2 + 1, upd m i2 (m i2 ^^^ 255), by omega, val_int (by omega), hid (fun j hj => ?_), HoP.out, How.out, HBx.out.setCell hgb _⟩
              unfold upd
              split
              · exact Nat.xor_lt_two_pow (n := 8) hmk (by omega)
              · exact Hm.out j hj
            case measure => simp [intOf]; omega
          · have hlt2I : ¬ (i2 : Int) < 16 := by omega
            have HRx := hid ((HR7.out.below hBx).more hBx.size)
            have Hwx := hid ((Hwas7.out.below hBx).more hBx.size)
            have Hcx := hid (Hc7.out.keep hBx)
            have Htx := hid ((HRt.out.below hBx).more hBx.size)
            have Hw := hid how.reads
            have HBx := hid (HB7.out.trans (hBx.mono HB7.out.size))
            clear hox how hBx Hm HXC HwC HxC
            go_wp2_with fail
            refine (cmac_any _ p0 1 gc _ 16 (rk L key) A2 L2 c2 t 16 (by omega) Hcx.out (by omega) (by omega) (by rw [sz1]; omega) HA2.out Ht.out HRx.out).mono ?_
            rintro e wD ⟨vD, rfl, hoD, hBD⟩
            obtain ⟨gy, cy, rfl, hcy⟩ := own_at hoD (by omega)
            have HRD := hid ((HRx.out.below hBD).more hBD.size)
            have HwD := hid ((Hwx.out.below hBD).more hBD.size)
            have HtD := hid ((Htx.out.below hBD).more hBD.size)
            have HWD := hid ((Hw.out.below hBD).more hBD.size)
            have HyD := hid hoD.reads
            have HBD := hid (HBx.out.trans (hBD.mono HBx.out.size))
            clear hoD hBD HRx Hwx Hcx Htx Hw HBx
            go_wp2_with fail
            refine (same_any A2 A5 L2 c2 c5 t t _ (by omega) HRD.out HwD.out).mono ?_
            rintro e wE ⟨rfl, hBE⟩
            rw [eqB_true (fun _ _ => rfl)]
            have HRE := hid ((HRD.out.below hBE).more hBE.size)
            have HtE := hid ((HtD.out.below hBE).more hBE.size)
            have HWE := hid ((HWD.out.below hBE).more hBE.size)
            have HyE := hid ((HyD.out.below hBE).more hBE.size)
            have HBE := hid (HBD.out.trans (hBE.mono HBD.out.size))
            clear hBE HRD HwD HtD HWD HyD HBD
            go_wp2_with fail
            refine (same_any _ _ 16 cy cw _ _ _ (by omega) HyE.out HWE.out).mono ?_
            rintro e wF ⟨rfl, hBF⟩
            rw [eqB_true (fun _ _ => rfl)]
            have HRF := hid ((HRE.out.below hBF).more hBF.size)
            have HtF := hid ((HtE.out.below hBF).more hBF.size)
            have HBF := hid (HBE.out.trans (hBF.mono HBE.out.size))
            clear hBF HRE HtE HWE HyE HBE
            go_wp2_with fail
            refine (same_any _ A2 L2 cr c2 t t _ (by omega) HtF.out HRF.out).mono ?_
            rintro e wG ⟨rfl, hBG⟩
            rw [eqB_true (fun _ _ => rfl)]
            have HBG := hid (HBF.out.trans (hBG.mono HBF.out.size))
            clear hBG HRF HtF HBF
            go_wp2_with fail
            go_ret
            exact ⟨rfl, HBG.out⟩
  · have hor : 100 < L ∨ (L ≤ 100 ∧ 200 < L2) := by omega
    clear HR HR2 HA2 Hk Ht
    rcases hor with h1 | ⟨h1, h2⟩
    · have h1I : 100 < (L : Int) := by omega
      go_enter Try.func4, Try.ntmps4
      go_wp2_with fail
      refine (awake7_any _).mono ?_
      rintro e w1 ⟨rfl, hB1⟩
      go_wp2_with fail
      refine (awake7_any _).mono ?_
      rintro e w2 ⟨rfl, hB2⟩
      go_wp2_with fail
      go_ret
      exact ⟨rfl, hB1.trans (hB2.mono hB1.size)⟩
    · have h1I : ¬ 100 < (L : Int) := by omega
      have h2I : 200 < (L2 : Int) := by omega
      go_enter Try.func4, Try.ntmps4
      go_wp2_with fail
      refine (awake7_any _).mono ?_
      rintro e w1 ⟨rfl, hB1⟩
      go_wp2_with fail
      refine (awake7_any _).mono ?_
      rintro e w2 ⟨rfl, hB2⟩
      go_wp2_with fail
      go_ret
      exact ⟨rfl, hB1.trans (hB2.mono hB1.size)⟩
end Go.Proofs.Ytmmgimpokpgnaaa.Mc.Keeps
