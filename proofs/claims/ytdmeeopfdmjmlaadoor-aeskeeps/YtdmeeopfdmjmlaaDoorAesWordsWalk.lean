/-
  The walk of lockboxlaw02.AesWords: it returns true.
-/
import Derived.Test.YtdmeeopfdmjmlaaDoorLaw02
import Derived.Test.YtdmeeopfdmjmlaaDoorRef02W
namespace Go.Proofs.YtdmeeopfdmjmlaaDoor.Aes
open Go.ChangeShapes Go.WideShapes Go.ChangeAt Go.RowKit Mem
theorem rwords_any (A : Option Addr) (L c : Nat) (hL : IsKey L) (key : Nat → Nat) (w : World) (hk : ∀ i, i < L → key i < 256) (hR : Reads w w.heap.size A L key) :
    Calls Tryd.prog 11 #[.slice A L c] w (NewBytes (wsz L) (words L key) w) := by
  rcases hL with rfl | rfl | rfl
  · exact rwords16 A c key w hk hR
  · exact rwords24 A c key w hk hR
  · exact rwords32 A c key w hk hR
theorem key_or (L : Nat) : IsKey L ∨ rnd L = 0 := by
  unfold IsKey rnd
  by_cases h1 : L = 32
  · exact .inl (by omega)
  · by_cases h2 : L = 24
    · exact .inl (by omega)
    · by_cases h3 : L = 16
      · exact .inl (by omega)
      · exact .inr (by rw [if_neg h1, if_neg h2, if_neg h3])
set_option maxRecDepth 100000 in
set_option maxHeartbeats 4000000 in
theorem words_walk (A : Option Addr) (L c : Nat) (f : Nat → Nat) (wh : Nat) (w : World) (hg : As.Laid w) (hR : Reads w w.heap.size A L f) (hf : ∀ i, i < L → f i < 256) (_hwh : wh < 256) :
    Calls Tryd.prog 3 #[.slice A L c, .int .u8 wh] w fun e w' => e = .returned (.bool true) ∧ Below w.heap.size w w' := by
  have Hf := hid hf
  have hg0 := hid hg
  have HR0 := hid hR
  clear hf hg hR
  by_cases hL : 100 < L
  · go_enter Tryd.func3, Tryd.ntmps3
    go_wp2_with fail
    refine (awake_any _ hg0.out).mono ?_
    rintro e w1 ⟨rfl, hB1⟩
    have hg1 := hid (hg0.out.below hB1)
    go_wp2_with fail
    refine (awake_any _ hg1.out).mono ?_
    rintro e w2 ⟨rfl, hB2⟩
    go_wp2_with fail
    go_ret
    exact ⟨rfl, hB1.trans (hB2.mono hB1.size)⟩
  · have hL1 : L ≤ 100 := by omega
    have t100 : decide ((100 : Int) < (L : Int)) = false := by simp; omega
    have Hbyt : Hid (ByN (kn L wh) (fun i => f (i % L))) := hid (by
      by_cases h0 : L = 0
      · intro i hi; unfold kn at hi; rw [if_pos h0] at hi; omega
      · exact mod_by (by omega) Hf.out _)
    clear hL
    go_enter Tryd.func3, Tryd.ntmps3
    go_wp2_with fail
    refine (awake_any _ hg0.out).mono ?_
    rintro e w1 ⟨rfl, hB1⟩
    have hg1 := hid (hg0.out.below hB1)
    have hR1 := (HR0.out.below hB1).more hB1.size
    clear hg0 HR0
    go_wp2_with fail
    refine (short_any A L c wh f _ hL1 hR1).mono ?_
    rintro e w2 ⟨A2, c2, rfl, hc2, hR2, hB2⟩
    have hg2 := hid (hg1.out.below hB2)
    have hB12 := hB1.trans (hB2.mono hB1.size)
    clear hg1 hR1 hB1 hB2
    generalize hNe : kn L wh = N at *
    clear hNe
    generalize hge : (fun i => f (i % L)) = g at *
    clear hge
    rcases key_or N with hK | hK
    · have HK := hid hK
      have HN := hid (rnd_bound hK)
      have hn1 : wsz N ≤ 1000 := by rw [wsz_eq]; have := HN.out; omega
      have hn0 : 0 < wsz N := by rw [wsz_eq]; omega
      have tn : ((wsz N : Int) == 0) = false := by simp; omega
      clear hK
      go_wp2_with fail
      refine (words_any A2 N c2 HK.out g _ Hbyt.out hR2).mono ?_
      rintro e w3 ⟨rfl, hb3, hB3⟩
      have hR3 := (hR2.below hB3).more hB3.size
      have hB13 := hB12.trans (hB3.mono hB12.size)
      clear hR2 hB3 hB12
      go_wp2_with fail
      refine (rwords_any A2 N c2 HK.out g _ Hbyt.out hR3).mono ?_
      rintro e w4 ⟨A4, c4, rfl, hc4, hR4, hB4⟩
      have hb4 := hb3.below hB4 hb3.lt
      have hB14 := hB13.trans (hB4.mono hB13.size)
      clear hR3 hb3 hB4 hB13
      go_wp2_with (go_at_call 13; refine (same_yes _ A4 (wsz N) _ c4 (words N g) _ (by omega) hb4.reads hR4).mono ?_; rintro e w5 ⟨rfl, hB5⟩)
      go_ret
      exact ⟨rfl, hB14.trans (hB5.mono hB14.size)⟩
    · have HK := hid hK
      clear hK
      go_wp2_with fail
      refine (words_bad A2 N c2 HK.out _).mono ?_
      rintro e w' ⟨rfl, rfl⟩
      go_wp2_with fail
      refine (rwords_bad A2 N c2 HK.out _).mono ?_
      rintro e w' ⟨rfl, rfl⟩
      go_wp2_with (go_at_call 12; refine (As.code_hit 2 _ hg2.out).mono ?_; rintro e w5 ⟨rfl, hB5⟩)
      go_ret
      exact ⟨rfl, hB12.trans (hB5.mono hB12.size)⟩
end Go.Proofs.YtdmeeopfdmjmlaaDoor.Aes
