/-
  TapeDigits returns true: its walk.
-/
import Derived.Test.YtlcllolfadlgfaaDoorAwake04
namespace Go.Proofs.YtlcllolfadlgfaaDoor.Law04
open Go.ChangeShapes Go.WideShapes Go.ChangeAt Go.RowKit Mem As
/-- what Digits of a new tape returns: s and ff -/
def DigR (g : Nat) (v : Value) (L : Nat) (z : Int) (f : Nat → Nat) (w : World) (s : ByteArray) (ff : Value) (w' : World) : Prop :=
  (∃ k, k ≤ L ∧ (cntD f k : Int) = z ∧ (∀ j, j < k → (cntD f j : Int) < z) ∧ s = strF (cntD f k) (digD f k) ∧ ff = .nilIface ∧ Kept g w w' ∧ Blk w' g 65 #[v, .int .i64 (k : Int)]) ∨
  ((cntD f L : Int) < z ∧ s = ⟨#[]⟩ ∧ ∃ k, ff = .iface 67 (.pointer (some ⟨k, 0, none⟩)) ∧ Blk w' k 70 #[.int .i64 (L : Int), .iface 61 (.int .i64 13)] ∧ w.heap.size ≤ k ∧ Below w.heap.size w w')
theorem digR {g : Nat} {v : Value} {L : Nat} {z : Int} {f : Nat → Nat} {w w' : World} {e : Ending} (h : DigOut g v L 0 z f w e w') : ∃ s ff, e = .returned (.tuple #[.string s, ff]) ∧ DigR g v L z f w s ff w' := by
  have e0 : (fun i => f (0 + i)) = f := by funext i; rw [Nat.zero_add]
  unfold DigOut at h
  rw [e0] at h
  rcases h with ⟨k, h0, h1, h2, rfl, h4, h5⟩ | ⟨h1, k, rfl, h3, h4, h5⟩
  · exact ⟨_, _, rfl, .inl ⟨k, by omega, h1, h2, rfl, rfl, h4, by rw [Nat.zero_add] at h5; exact h5⟩⟩
  · refine ⟨_, _, rfl, .inr ⟨by simpa using h1, rfl, k, rfl, ?_, h4, h5⟩⟩
    have e1 : (L : Int) - ((0 : Nat) : Int) = (L : Int) := by omega
    rw [e1] at h3; exact h3
theorem DigR.below {g : Nat} {v : Value} {L : Nat} {z : Int} {f : Nat → Nat} {w w' : World} {s : ByteArray} {ff : Value} (h : DigR g v L z f w s ff w') {B : Nat} (hB : B ≤ g) (hs : B ≤ w.heap.size) : Below B w w' := by
  rcases h with ⟨k, _, _, _, _, _, h4, _⟩ | ⟨_, _, k, _, _, _, h5⟩
  · exact h4.below hB hs
  · exact h5.mono hs
theorem digits_all (g base : Nat) (A : Option Addr) (L c : Nat) (z : Int) (f : Nat → Nat) (w : World) (hz : 0 ≤ z) (hb : Blk w g 65 #[.slice A L c, .int .i64 ((0 : Nat) : Int)]) (ho : Own w base 5 1 (.slice A L c) L f) (hn : L ≤ 100000) (hf : ∀ i, i < L → f i < 256) :
    Calls Tryd.prog 21 #[.pointer (some ⟨g, 0, none⟩), .int .i64 z] w fun e w' => ∃ s ff, e = .returned (.tuple #[.string s, ff]) ∧ DigR g (.slice A L c) L z f w s ff w' := by
  by_cases h : (L : Int) < z
  · exact (digits_few g A L c 0 z f w hb (by omega) (by omega) (by omega)).mono fun e w' => digR
  · exact (digits_of z g base A L c 0 z.toNat f w (by omega) hb ho (by omega) (by omega) hf).mono fun e w' => digR
theorem stop_oneI {f : Nat → Nat} {k k' : Nat} {z : Int} (h1 : (cntD f k : Int) = z) (h2 : ∀ j, j < k → (cntD f j : Int) < z) (h1' : (cntD f k' : Int) = z) (h2' : ∀ j, j < k' → (cntD f j : Int) < z) : k = k' := by
  rcases Nat.lt_trichotomy k k' with h | h | h
  · have := h2' k h; omega
  · exact h
  · have := h2 k' h; omega
theorem cnt_eq {f : Nat → Nat} {k m : Nat} {z : Int} (hm : cntD f k = m) (hJ : ∀ j, j < k → (cntD f j : Int) < z) (hlt : ¬ (m : Int) < z) (hz : 0 ≤ z) : (m : Int) = z := by
  rcases Nat.eq_zero_or_pos k with h | h
  · subst h; simp [cntD] at hm; omega
  · have h1 := hJ (k - 1) (by omega)
    have h2 := cntD_succ f (k - 1)
    rw [show k - 1 + 1 = k by omega, hm] at h2
    omega
set_option maxRecDepth 100000 in
set_option maxHeartbeats 2000000 in
theorem digits_true (A : Option Addr) (L c : Nat) (f : Nat → Nat) (z : Int) (w : World) (hg : Laid w) (hR : Reads w w.heap.size A L f) (hf : ∀ i, i < L → f i < 256) (hA : A = none → L = 0 ∧ c = 0) (hz : (Lit.int .i64 z).wf = true) :
    Calls Tryd.prog 5 #[.slice A L c, .int .i64 z] w fun e w' => e = .returned (.bool true) ∧ Below w.heap.size w w' := by
  have Hg := hid hg
  have HR := hid hR
  have HA := hid hA
  have Hf := hid hf
  have hzz := i64_of hz
  obtain ⟨hz1, hz2⟩ := hzz
  clear hg hR hA hf hz
  by_cases hL : L ≤ 1000
  · have hLI : (L : Int) ≤ 1000 := by omega
    go_enter Tryd.func5, Tryd.ntmps5
    go_wp2_with fail
    refine (awake_any _ Hg.out).mono ?_
    rintro e w1 ⟨rfl, hB1⟩
    have HR1 := hid ((HR.out.below hB1).more hB1.size)
    go_wp2_with fail
    refine (new_ok A L c f _ (by omega) HA.out HR1.out).mono ?_
    rintro e w2 ⟨v, g, rfl, ho, hb, hgs, hB2⟩
    have hB02 : Below w.heap.size w w2 := hB1.trans (hB2.mono hB1.size)
    have hgw : w.heap.size ≤ g := Nat.le_trans hB1.size hgs
    obtain ⟨A1, c1, rfl, hc1, -, -⟩ := ho.slice'
    have Ho := hid ho
    have Hb := hid hb
    clear hgs hB1 hB2 ho hb HR1
    by_cases hneg : z < 0
    · go_wp2_with fail
      refine (digits_neg _ z _ hneg).mono ?_
      rintro e w3 ⟨rfl, rfl⟩
      go_wp2_with fail
      refine (code_hit 1 _ (Hg.out.below hB02)).mono ?_
      rintro e w4 ⟨rfl, hB4⟩
      go_wp2_with fail
      refine (left_of L g A1 L c1 0 _ (Hb.out.below hB4 Hb.out.lt) (by omega) (by omega) (by omega)).mono ?_
      rintro e w5 ⟨rfl, hB5⟩
      go_wp2_with fail
      go_ret
      exact ⟨rfl, hB02.trans ((hB4.trans (hB5.mono hB4.size)).mono hB02.size)⟩
    · go_wp2_with fail
      refine (digits_all g _ A1 L c1 z f _ (by omega) Hb.out Ho.out (by omega) Hf.out).mono ?_
      rintro e w3 ⟨s, ff, rfl, hD⟩
      have hB03 : Below w.heap.size w w3 := hB02.trans (hD.below hgw hB02.size)
      have HD := hid hD
      clear hD
      go_wp2_with fail
      go_loopw [9, 10] (fun v y wr => ∃ k : Nat, k ≤ L ∧ y = .int .i64 (k : Int) ∧ Hid (∀ j, j < k → (cntD f j : Int) < z) ∧ Own wr w3.heap.size 5 1 v (cntD f k) (digD f k) ∧ Below w3.heap.size w3 wr) (fun _ y _ => L - (intOf y).toNat)
      case atStart => exact ⟨0, by omega, rfl, hid (fun j hj => by omega), Own.nil _ _ _ _ _, Below.refl _ _⟩
      case round =>
        obtain ⟨k, hk, rfl, HJ, hov, hBr⟩ := hrel
        obtain ⟨A', c', rfl, hc', -⟩ := hov.slice'
        have Hov := hid hov
        have hBwr : Below w.heap.size w wr := hB03.trans (hBr.mono hB03.size)
        clear hov
        have Hm : Hid (∃ m, cntD f k = m) := ⟨_, rfl⟩
        obtain ⟨m, hm⟩ := Hm.out
        rw [hm] at hc'
        rw [hm] at Hov
        have Hm := hid hm
        rw [hm]
        clear hm
        by_cases hkL : k < L
        · by_cases hlt : (m : Int) < z
          · obtain ⟨ad, rfl, had, hcs⟩ := HR.out (by omega)
            have hcx : wr.cell? (ad.add k) = some (.int .u8 ((f k : Nat) : Int)) := (hBwr.cell (p := ad.add k) (by rw [add_block]; exact had)).trans (hcs _ (by omega))
            have hx := Hf.out k hkL
            have Hx : Hid (∃ x, f k = x) := ⟨_, rfl⟩
            obtain ⟨x, hxe⟩ := Hx.out
            rw [hxe] at hcx hx
            have Hx := hid hxe
            clear hcs hxe
            by_cases hdig : x < 250
            · have hdigI : (x : Int) < 250 := by omega
              have hovA : Own (wr.alloc (.cells #[.int .u8 (48 + (x : Int) % 10)] 5)) w3.heap.size 5 1 (.slice A' m c') m (digD f k) := Hov.out.alloc _
              have hRA : Reads (wr.alloc (.cells #[.int .u8 (48 + (x : Int) % 10)] 5)) (wr.heap.size + 1) (some ⟨wr.heap.size, 0, none⟩) 1 (fun _ => 48 + x % 10) := one_reads wr _ _ (by omega)
              have hBa : Below w3.heap.size w3 (wr.alloc (.cells #[.int .u8 (48 + (x : Int) % 10)] 5)) := hBr.alloc hBr.size _
              have HovA := hid hovA
              have HRA := hid hRA
              have hmk : m ≤ k := by rw [← Hm.out]; exact cntD_le f k
              clear hovA hRA
              go_wp2_with (at_builtin; refine wpl_app_gen rfl _ _ 22 rfl w3.heap.size 5 (.int .u8 0) Tryd.underlying22 info8t rfl _ m _ rfl HovA.out (some ⟨wr.heap.size, 0, none⟩) 1 1 _ _ HRA.out (fun h => by cases h) rfl (by omega) (by have := hBa.size; omega) ?_)
              intro v3 w4 ho3 hB3
              go_wp2_with fail
              go_round
              case rel =>
                have e1 : cntD f (k + 1) = m + 1 := by simp only [cntD]; rw [Hx.out, if_pos hdig, Hm.out]
                have e2 : digD f (k + 1) = upd (digD f k) m (48 + x % 10) := by simp only [digD]; rw [Hx.out, if_pos hdig, Hm.out]
                refine ⟨k + 1, by omega, val_int (by omega), hid (fun j hj => ?_), ?_, hBa.trans hB3⟩
                · rcases Nat.lt_or_ge j k with h | h
                  · exact HJ.out j h
                  · have : j = k := by omega
                    subst this; rw [Hm.out]; exact hlt
                · rw [e1, e2]; exact ho3.ext (fun i hi => cat_upd m _ _ i (by omega))
              case measure => simp [intOf]; omega
            · have hdigI : ¬ (x : Int) < 250 := by omega
              go_wp2_with fail
              go_round
              case rel =>
                have e1 : cntD f (k + 1) = m := by simp only [cntD]; rw [Hx.out, if_neg hdig, Hm.out]
                have e2 : digD f (k + 1) = digD f k := by simp only [digD]; rw [Hx.out, if_neg hdig]
                refine ⟨k + 1, by omega, val_int (by omega), hid (fun j hj => ?_), ?_, hBr⟩
                · rcases Nat.lt_or_ge j k with h | h
                  · exact HJ.out j h
                  · have : j = k := by omega
                    subst this; rw [Hm.out]; exact hlt
                · rw [e1, e2]; exact Hov.out
              case measure => simp [intOf]; omega
          · have hmz : (m : Int) = z := cnt_eq Hm.out HJ.out hlt (by omega)
            rcases HD.out with ⟨kk, hkk, hc1', hc2', hs, hff, hK, hbk⟩ | ⟨hfew, _⟩
            · have hkk' : kk = k := stop_oneI hc1' hc2' (by rw [Hm.out]; exact hmz) HJ.out
              subst hkk'
              have hs' : s = strF m (digD f kk) := by rw [hs, Hm.out]
              clear hs
              subst hs' hff
              have hcv := conv_own Hov.out
              have Hbk := hid (hbk.below hBr hbk.lt)
              clear hbk hc1' hc2' hK HD
              go_wp2_with fail
              refine (left_of ((L : Int) - (kk : Int)) g A1 L c1 kk _ Hbk.out (by omega) (by omega) rfl).mono ?_
              rintro e w9 ⟨rfl, hB9⟩
              go_wp2_with fail
              go_ret
              exact ⟨rfl, hBwr.trans (hB9.mono hBwr.size)⟩
            · exfalso
              have := cntD_mono f hk
              rw [Hm.out] at this
              omega
        · have hkL' : k = L := by omega
          by_cases hlt : (m : Int) < z
          · rcases HD.out with ⟨kk, hkk, hc1', hc2', hs, hff, hK, hbk⟩ | ⟨hfew, hs, kf, hff, hbF, hks, hB5⟩
            · exfalso
              have := cntD_mono f hkk
              rw [← hkL', Hm.out] at this
              omega
            · subst hs hff
              have HbF := hid (hbF.below hBr hbF.lt)
              have Hbk := hid ((Hb.out.below hB5 Hb.out.lt).below hBr (Nat.lt_of_lt_of_le Hb.out.lt hB5.size))
              clear hbF hB5 hfew HD hkL'
              go_wp2_with fail
              refine (code_fault 13 kf _ (Hg.out.below hBwr) (HbF.out.cell 1)).mono ?_
              rintro e w6 ⟨rfl, hB6⟩
              have hB06 := hBwr.trans (hB6.mono hBwr.size)
              go_wp2_with fail
              refine (at_fault _ _ kf _ (Hg.out.below hB06) (HbF.out.below hB6 HbF.out.lt)).mono ?_
              rintro e w7 ⟨rfl, hB7⟩
              have hB67 := hB6.trans (hB7.mono hB6.size)
              go_wp2_with fail
              refine (left_of L g A1 L c1 0 _ (Hbk.out.below hB67 Hbk.out.lt) (by omega) (by omega) (by omega)).mono ?_
              rintro e w8 ⟨rfl, hB8⟩
              go_wp2_with fail
              go_ret
              exact ⟨rfl, hBwr.trans ((hB67.trans (hB8.mono hB67.size)).mono hBwr.size)⟩
          · clear hkL'
            have hmz : (m : Int) = z := cnt_eq Hm.out HJ.out hlt (by omega)
            rcases HD.out with ⟨kk, hkk, hc1', hc2', hs, hff, hK, hbk⟩ | ⟨hfew, _⟩
            · have hkk' : kk = k := stop_oneI hc1' hc2' (by rw [Hm.out]; exact hmz) HJ.out
              subst hkk'
              have hs' : s = strF m (digD f kk) := by rw [hs, Hm.out]
              clear hs
              subst hs' hff
              have hcv := conv_own Hov.out
              have Hbk := hid (hbk.below hBr hbk.lt)
              clear hbk hc1' hc2' hK HD
              go_wp2_with fail
              refine (left_of ((L : Int) - (kk : Int)) g A1 L c1 kk _ Hbk.out (by omega) (by omega) rfl).mono ?_
              rintro e w9 ⟨rfl, hB9⟩
              go_wp2_with fail
              go_ret
              exact ⟨rfl, hBwr.trans (hB9.mono hBwr.size)⟩
            · exfalso
              have := cntD_mono f hk
              rw [Hm.out] at this
              omega
  · have hLI : ¬ (L : Int) ≤ 1000 := by omega
    go_enter Tryd.func5, Tryd.ntmps5
    go_wp2_with fail
    refine (awake_any _ Hg.out).mono ?_
    rintro e w1 ⟨rfl, hB1⟩
    go_wp2_with fail
    refine (awake_any _ (Hg.out.below hB1)).mono ?_
    rintro e w2 ⟨rfl, hB2⟩
    go_wp2_with fail
    go_ret
    exact ⟨rfl, hB1.trans (hB2.mono hB1.size)⟩
end Go.Proofs.YtlcllolfadlgfaaDoor.Law04
