/-
  TapeOnce returns true: its walk.
-/
import Derived.Test.YtlcllolfadlgfaaDoorAwake04
import Derived.Test.YtlcllolfadlgfaaDoorSame
namespace Go.Proofs.YtlcllolfadlgfaaDoor.Law04
open Go.ChangeShapes Go.WideShapes Go.ChangeAt Go.RowKit Mem As
set_option maxRecDepth 100000 in
set_option maxHeartbeats 2000000 in
theorem once_true (A : Option Addr) (L c : Nat) (f : Nat → Nat) (cut : Nat) (w : World) (hg : Laid w) (hR : Reads w w.heap.size A L f) (_hf : ∀ i, i < L → f i < 256) (hA : A = none → L = 0 ∧ c = 0) (hcut : cut < 65536) :
    Calls Tryd.prog 6 #[.slice A L c, .int .u16 (cut : Int)] w fun e w' => e = .returned (.bool true) ∧ Below w.heap.size w w' := by
  have Hg := hid hg
  have HR := hid hR
  have HA := hid hA
  clear hg hR hA _hf
  by_cases hL : L ≤ 1000
  · have hLI : (L : Int) ≤ 1000 := by omega
    go_enter Tryd.func6, Tryd.ntmps6
    go_wp2_with fail
    refine (awake_any _ Hg.out).mono ?_
    rintro e w1 ⟨rfl, hB1⟩
    have HR1 := hid ((HR.out.below hB1).more hB1.size)
    go_wp2_with fail
    refine (new_ok A L c f _ (by omega) HA.out HR1.out).mono ?_
    rintro e w2 ⟨v, g, rfl, ho, hb, hgs, hB2⟩
    have HR2 := hid ((HR1.out.below hB2).more hB2.size)
    have hB02 : Below w.heap.size w w2 := hB1.trans (hB2.mono hB1.size)
    have hgw : w.heap.size ≤ g := Nat.le_trans hB1.size hgs
    obtain ⟨A1, c1, rfl, hc1, -, -⟩ := ho.slice'
    clear hgs hB1 hB2
    have Ho := hid ho
    have Hb := hid hb
    clear ho hb
    go_wp2_with fail
    refine (new_ok A L c f _ (by omega) HA.out HR2.out).mono ?_
    rintro e w3 ⟨v, g', rfl, ho', hb', hgs', hB3⟩
    have Hb3 := hid (Hb.out.below hB3 Hb.out.lt)
    have Ho3 := hid (Ho.out.below hB3 (Nat.le_refl _))
    have hne : g' ≠ g := by have := Hb.out.lt; omega
    have hgw' : w.heap.size ≤ g' := Nat.le_trans hB02.size hgs'
    have hB03 : Below w.heap.size w w3 := hB02.trans (hB3.mono hB02.size)
    obtain ⟨A2, c2, rfl, hc2, -, -⟩ := ho'.slice'
    have Ho' := hid ho'
    have Hb' := hid hb'
    clear Ho Hb ho' hb' hB02 hB3 hgs' HR1 HR2
    go_wp2_with fail
    obtain ⟨z, hz, hzL⟩ : ∃ z : Nat, (cut : Int) % ((L : Int) + 1) = (z : Int) ∧ z ≤ L := ⟨cut % (L + 1), by simp, Nat.le_of_lt_succ (Nat.mod_lt _ (by omega))⟩
    rw [hz]
    clear hz
    refine (take_ok g _ _ L 0 z f _ Hb3.out Ho3.out (by omega) (by omega)).mono ?_
    rintro e w4 ⟨vx, rfl, hox, hk4, hb4⟩
    have Ho4 := hid (hk4.own Hb3.out (by decide) Ho3.out)
    have Ho4' := hid (hk4.own Hb3.out (by decide) Ho'.out)
    have Hb4 := hid hb4
    have Hb4' := hid (hk4.blk Hb'.out hne)
    have hB04 : Below w.heap.size w w4 := hB03.trans (hk4.below hgw hB03.size)
    obtain ⟨Ax, cx, rfl, hcx, hAx, -⟩ := hox.slice'
    have Hox := hid (hox.more (Nat.le_trans hgw (Nat.le_of_lt Hb3.out.lt)))
    have HAx := hid hAx
    clear hox hAx hk4 hb4 hB03 Hb3 Ho3 Hb' Ho'
    go_wp2_with fail
    refine (take_of ((L : Int) - (z : Int)) g _ _ L (0 + z) (L - z) f _ (by omega) Hb4.out Ho4.out (by omega) (by omega)).mono ?_
    rintro e w5 ⟨vy, rfl, hoy, hk5, hb5⟩
    have Hox5 := hid (hk5.own Hb4.out (by decide) Hox.out)
    have Ho5' := hid (hk5.own Hb4.out (by decide) Ho4'.out)
    have Hb5 := hid hb5
    have Hb5' := hid (hk5.blk Hb4'.out hne)
    have hB05 : Below w.heap.size w w5 := hB04.trans (hk5.below hgw hB04.size)
    obtain ⟨Ay, cy, rfl, hcy, hAy, -⟩ := hoy.slice'
    have Hoy := hid (hoy.more (Nat.le_trans hgw (Nat.le_of_lt Hb4.out.lt)))
    have HAy := hid hAy
    clear hoy hAy hk5 hb5 hB04 Hb4 Ho4 Hb4' Ho4' Hox
    go_wp2_with fail
    refine (take_ok g' _ _ L 0 L f _ Hb5'.out Ho5'.out (by omega) (by omega)).mono ?_
    rintro e w6 ⟨vz, rfl, hoz, hk6, hb6⟩
    have Hox6 := hid (hk6.own Hb5'.out (by decide) Hox5.out)
    have Hoy6 := hid (hk6.own Hb5'.out (by decide) Hoy.out)
    have Hb6 := hid (hk6.blk Hb5.out hne.symm)
    have hB06 : Below w.heap.size w w6 := hB05.trans (hk6.below hgw' hB05.size)
    obtain ⟨Az, cz, rfl, hcz, hAz, -⟩ := hoz.slice'
    have HRz := hid hoz.reads
    have Hoz := hid hoz
    clear hoz hAz hk6 hb6 hB05 Hb5 Ho5' Hb5' Hox5 Hoy
    have hB67 : Below w6.heap.size w6 (w6.alloc (.cells #[] 5)) := (Below.refl _ _).alloc (Nat.le_refl _) _
    have Ho7 := hid (Own.empty w6 w6.heap.size 5 f (Nat.le_refl _))
    have HRx := hid (Hox6.out.reads.below hB67)
    have HRy := hid (Hoy6.out.reads.below hB67)
    go_wp2_with (at_builtin; (refine wpg_app_gen ?_ _ _ 22 rfl w6.heap.size 5 (.int .u8 0) Tryd.underlying22 info8t rfl _ 0 _ rfl Ho7.out Ax z cx _ _ HRx.out HAx.out rfl (by omega) (by simp) ?_); (exact rfl))
    intro v7 w7 ho7 hB7
    have HRy7 := hid (HRy.out.below hB7)
    have Ho8 := hid ho7
    clear ho7 Ho7 HRx
    go_wp2_with (at_builtin; (refine wpg_app_gen ?_ _ _ 22 rfl w6.heap.size 5 (.int .u8 0) Tryd.underlying22 info8t rfl _ z _ rfl Ho8.out Ay (L - z) cy _ _ HRy7.out HAy.out rfl (by omega) (by have := hB67.size; have := hB7.size; omega) ?_); (exact rfl))
    intro v8 w8 ho8 hB8
    obtain ⟨A8, c8, rfl, hc8, -, -⟩ := ho8.slice'
    have hB68 : Below w6.heap.size w6 w8 := hB67.trans (hB7.trans hB8)
    have HR8 : Hid (Reads w8 w8.heap.size A8 L f) := ho8.reads.ext (fun i hi => by
      unfold cat
      by_cases h : i < z
      · rw [if_pos h, if_neg (by omega)]; simp
      · rw [if_neg h]; show f _ = f i; congr 1; omega)
    have HRz8 : Hid (Reads w8 w8.heap.size Az L f) := ((HRz.out.below hB68).more hB68.size).ext (fun i hi => by rw [Nat.zero_add])
    clear ho8 Ho8 hB7 hB8 hB67 HRy7 HRz
    go_wp2_with fail
    refine (same_yes A8 Az L c8 cz f _ (by omega) HR8.out HRz8.out).mono ?_
    rintro e w9 ⟨rfl, hB9⟩
    have hB69 := hB68.trans (hB9.mono hB68.size)
    have hB09 := hB06.trans (hB69.mono hB06.size)
    have HRz9 := hid ((HRz8.out.below hB9).more hB9.size)
    have HR9 := hid ((HR.out.below hB09).more hB09.size)
    go_wp2_with fail
    refine (same_yes Az A L cz c f _ (by omega) HRz9.out HR9.out).mono ?_
    rintro e w10 ⟨rfl, hB10⟩
    have hB610 := hB69.trans (hB10.mono hB69.size)
    go_wp2_with fail
    refine (left_of 0 g A1 L c1 (0 + z + (L - z)) _ (Hb6.out.below hB610 Hb6.out.lt) (by omega) (by omega) (by omega)).mono ?_
    rintro e w11 ⟨rfl, hB11⟩
    go_wp2_with fail
    go_ret
    exact ⟨rfl, hB06.trans ((hB610.trans (hB11.mono hB610.size)).mono hB06.size)⟩
  · have hLI : ¬ (L : Int) ≤ 1000 := by omega
    go_enter Tryd.func6, Tryd.ntmps6
    go_wp2_with fail
    refine (awake_any _ Hg.out).mono ?_
    rintro e w1 ⟨rfl, hB1⟩
    go_wp2_with fail
    refine (awake_any _ (Hg.out.below hB1)).mono ?_
    rintro e w2 ⟨rfl, hB2⟩
    go_wp2_with fail
    go_ret
    exact ⟨rfl, hB1.trans (hB2.mono hB1.size)⟩
end Go.Proofs.YtlcllolfadlgfaaDoor.Law04
