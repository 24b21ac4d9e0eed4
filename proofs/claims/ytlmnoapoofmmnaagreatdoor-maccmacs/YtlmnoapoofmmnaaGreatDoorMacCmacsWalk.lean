/-
 MacCmacs returns true: its walk.
-/
import Derived.Test.YtlmnoapoofmmnaaGreatDoorAwX
import Derived.Test.YtlmnoapoofmmnaaGreatDoorMac5x
import Derived.Test.YtlmnoapoofmmnaaGreatDoorRefLocDo
import Derived.Test.YtlmnoapoofmmnaaGreatDoorAsFault2
namespace Go.Proofs.YtlmnoapoofmmnaaGreatDoor.Mc.Cmacs
open Mem Bk Md Mc As R6 Rc Go.ChangeShapes Go.WideShapes Go.ChangeAt Go.RowKit
theorem kind7 (n : Nat) : ∃ k : Nat, (k = 1 ∨ k = 2 ∨ k = 3) ∧ 1 + (n : Int) % 3 = (k : Int) := ⟨1 + n % 3, by omega, by omega⟩
theorem code_dry {w : World} {e : Ending} (h : Dry e w) : ∃ f, e = .returned (.tuple #[.slice none 0 0, .iface 66 (.pointer (some ⟨f, 0, none⟩))]) ∧ ∀ W, Below w.heap.size w W → Laid W → Calls Tryz.prog 11 #[.iface 66 (.pointer (some ⟨f, 0, none⟩))] W fun e w' => e = .returned (.int .i64 13) ∧ Below W.heap.size W w' := by
 obtain ⟨f, xf, rfl, h | ⟨g, xg, h1, h2⟩⟩ := h
 ·exact ⟨f, rfl, fun W hB hg => code_fault 13 f W hg ((h.below hB h.lt).cell 1)⟩
 exact ⟨f, rfl, fun W hB hg => code_fault2 13 f g W hg ((h1.below hB h1.lt).cell 1) ((h2.below hB h2.lt).cell 1)⟩
theorem bookZ (T : Value) : #[Value.slice none 0 0, T] = row 2 (bookC (.slice none 0 0) T) := (row2 _ _).symm
set_option linter.unusedSimpArgs false in
set_option maxRecDepth 100000 in
set_option maxHeartbeats 2000000 in
theorem cmacs_true (u : Nat) (A : Option Addr) (L c : Nat) (key : Nat → Nat) (A2 : Option Addr) (n2 c2 : Nat) (F : Nat → Nat) (A3 : Option Addr) (L3 c3 : Nat) (t : Nat → Nat) (z : Int) (w : World) (hg : Laid w) (_hu : u < 256) (hR : Reads w w.heap.size A L key) (hk : ∀ i, i < L → key i < 256) (_hA : A = none → L = 0 ∧ c = 0) (hR2 : Reads w w.heap.size A2 n2 F) (hF : ∀ i, i < n2 → F i < 256) (hA2 : A2 = none → n2 = 0 ∧ c2 = 0) (hc2 : n2 ≤ c2) (hR3 : Reads w w.heap.size A3 L3 t) (ht : ∀ i, i < L3 → t i < 256) (hA3 : A3 = none → L3 = 0 ∧ c3 = 0) (_hz : (Lit.int .i64 z).wf = true) :
  Calls Tryz.prog 4 #[.int .u8 (u : Int), .slice A L c, .slice A2 n2 c2, .slice A3 L3 c3, .int .i64 z] w fun e w' => e = .returned (.bool true) ∧ Below w.heap.size w w' := by
 obtain ⟨k, hkk, hkI⟩ := kind7 u
 have Hg := hid hg
 have HR := hid hR
 have HR2 := hid hR2
 have HR3 := hid hR3
 have Hk := hid hk
 have HF := hid hF
 have Ht := hid ht
 have HA2 := hid hA2
 have HA3 := hid hA3
 clear hg hR hR2 hR3 hk hF ht hA2 hA3
 by_cases hL : L ≤ 100 ∧ n2 ≤ 2000 ∧ L3 ≤ 200
 ·obtain ⟨hL1, hL2, hL3⟩ := hL
  have hL1I : ¬ 100 < (L : Int) := by omega
  have hL2I : ¬ 2000 < (n2 : Int) := by omega
  have hL3I : ¬ 200 < (L3 : Int) := by omega
  go_enter Tryz.func4, Tryz.ntmps4
  go_wp2_with fail
  refine (awake7_any _).mono ?_
  rintro e w1 ⟨rfl, hB1⟩
  have HB1 := hid hB1
  clear hB1 hkI
  go_wp2_with fail
  refine (new_ok A2 n2 c2 F _ (by omega) HA2.out ((HR2.out.below HB1.out).more HB1.out.size)).mono ?_
  rintro e w2 ⟨v, g, rfl, ho, hb, hgs, hB2⟩
  have Ho2 := hid ho
  have Hb2 := hid hb
  have HB2 := hid (HB1.out.trans (hB2.mono HB1.out.size))
  have hlow1 := HB1.out.size
  clear ho hb hB2 HB1
  go_wp2_with fail
  refine (right7_any _ k rfl hkk A L c key _ (by omega) ((HR.out.below HB2.out).more HB2.out.size)).mono ?_
  rintro e w3 ⟨v3, rfl, ho3, hB3⟩
  obtain ⟨Ac, cc, rfl, hcc, hAc, -⟩ := ho3.slice'
  have Ho3 := hid (Ho2.out.below hB3 (by have := Hb2.out.lt; omega))
  have Hb3 := hid (Hb2.out.below hB3 Hb2.out.lt)
  have HB3 := hid (HB2.out.trans (hB3.mono HB2.out.size))
  have HK3 := hid ho3.reads
  have HAc := hid hAc
  clear ho3 hB3 hAc HB2 Ho2 Hb2
  go_wp2_with fail
  refine (newBook_any g w1.heap.size v n2 F _ Hb3.out Ho3.out hgs (by omega) HF.out).mono ?_
  rintro e w4 ⟨p, rfl, hp1, hp2, hp3, hbk, hB4⟩
  subst hp2 hp3
  have Hbk4 := hid hbk
  have hlow : Hid (∀ g ∈ p.S, w.heap.size ≤ g) := hid (fun g hg => by have := hbk.lo.2 g hg; omega)
  have HB4 := hid (HB3.out.trans (hB4.mono HB3.out.size))
  have HK4 := hid ((HK3.out.below hB4).more hB4.size)
  have hfit := rn_fits hkk
  have hrl := (rn_le k).1
  clear hbk hB4 HB3 HK3 Ho3 Hb3
  go_wp2_with fail
  refine (new_any k Ac (rn k) cc (rk L key) p _ (by omega) HAc.out (fun i _ => rk_lt Hk.out i) HK4.out hfit).mono ?_
  rintro e w5 ⟨gc, rfl, hci, -, hB5⟩
  have Hbk5 := hid (Hbk4.out.keep hB5)
  have HB5 := hid (HB4.out.trans (hB5.mono HB4.out.size))
  have HK5 := hid ((HK4.out.below hB5).more hB5.size)
  have Hci5 := hid hci
  clear Hbk4 HB4 hB5 hci HK4
  by_cases hz : 1 ≤ z ∧ z ≤ (sz k : Int)
  ·obtain ⟨m, rfl⟩ : ∃ m : Nat, z = (m : Int) := ⟨z.toNat, by omega⟩
   have hm1I : ¬ (m : Int) < 1 := by omega
   have hm2I : ¬ (sz k : Int) < (m : Int) := by omega
   have hs16 := (R6.sz_pos k).2
   go_wp2_with fail
   refine (cmac_all _ p 0 [] k gc _ (rn k) (rk L key) A3 L3 c3 t m Hci5.out Hbk5.out (by omega) (by omega) (by omega) HA3.out Ht.out ((HR3.out.below HB5.out).more HB5.out.size)).mono ?_
   rintro e w6 ⟨hK6, hO⟩
   have HB6 := hid (HB5.out.trans (hK6.below hlow.out HB5.out.size))
   have HK6 := hid (Hbk5.out.reads hK6 HK5.out)
   have hIn := Hbk5.out.inv
   have HT6 : Hid (Reads w6 w6.heap.size A2 (p.n - 0) (fun i => p.F (0 + i))) := hid (((HR2.out.below HB6.out).more HB6.out.size).ext (fun i _ => by rw [Nat.zero_add]))
   have hB : mtB (sz k) L3 ≤ 201 := by
    unfold mtB
    have := Nat.div_le_self L3 (sz k)
    split <;> omega
   have HC := hid (rcmac_any p k 0 (rn k) [] none 0 A2 c2 Ac cc (rk L key) A3 L3 c3 t w6 hfit (doC_any p k (rn k) Ac cc (rk L key) false hfit (by omega) hcc (fun i _ => rk_lt Hk.out i) HAc.out) hIn (fun i hi => by cases hi) HT6.out (by omega) (by show 0 + 1 + _ ≤ _; omega) HK6.out (fun i _ => rk_lt Hk.out i) (fun _ => ⟨rfl, rfl⟩) (by omega) HA3.out Ht.out ((HR3.out.below HB6.out).more HB6.out.size))
   have hbz := bookZ (.slice A2 p.n c2)
   clear hK6 hIn hB HT6
   rcases hO with ⟨y, v6, hy, rfl, ho6⟩ | ⟨hy, hdry⟩
   ·obtain ⟨A6, c6, rfl, hc6, -⟩ := ho6.slice'
    have Hy := hid hy
    have HV6 := hid ho6.reads
    clear hy ho6
    go_wp2_with (go_at_call 10; refine (rsize_any k hkk _).mono ?_; rintro e wa ⟨rfl, rfl⟩)
    refine HC.out.mono ?_
    rintro e w7 ⟨hB7, bv, ⟨bA, bn, bc, tA, tn, tc, rfl⟩, ⟨y2, A7, c7, hy2, rfl, hc7, hR7⟩ | ⟨hy2, rfl⟩⟩
    ·have he : y2 = y := by
      have h := Hy.out
      rw [cmO_eq, hy2] at h
      injection h
     subst he
     have hB8 := (Below.refl w7.heap.size w7).alloc (Nat.le_refl _) (.cells (row 2 (bookC (.slice bA bn bc) (.slice tA tn tc))) 37)
     have hB78 := hB7.trans (hB8.mono hB7.size)
     have HV8 := hid ((HV6.out.below hB78).more hB78.size)
     obtain ⟨ad, rfl, -⟩ := hR7 (by omega)
     have HX8 := hid (((hR7.less (show m ≤ sz k by omega)).below hB8).more hB8.size)
     have HB8 := hid (HB6.out.trans (hB78.mono HB6.out.size))
     have hmc : m ≤ c7 := by omega
     clear hB7 hB8 hB78 hR7 hy2 HC Hy HV6 HK6 hbz
     go_wp2_with (first
      | (with_reducible refine wpl_alloc rfl 37 rfl _ zRB2 ?_)
      | (with_reducible refine wpl_store_newS rfl 37 _ _ rfl w7 _ 2 _ (one2 _ _ _ _ _ _) rfl rfl 37 iRB (row_size _ _) ?_)
      | ((with_reducible refine wpg_val ?_ _ (exec_cutHZ _ _ rfl ad (sz k) c7 m _ rfl rfl rfl hmc) ?_); exact rfl))
     refine (same_any A6 (some ad) m c6 c7 y2 y2 _ (by omega) HV8.out HX8.out).mono ?_
     rintro e w9 ⟨rfl, hB9⟩
     rw [show eqB m y2 y2 = true from eqB_true (fun _ _ => rfl)]
     go_wp2_with fail
     go_ret
     exact ⟨rfl, HB8.out.trans (hB9.mono HB8.out.size)⟩
    have h := Hy.out
    rw [cmO_eq, hy2] at h
    cases h
   have Hy := hid hy
   obtain ⟨f, rfl, hcode⟩ := code_dry hdry
   have HCo := hid hcode
   clear hy hdry hcode
   go_wp2_with (go_at_call 10; refine (rsize_any k hkk _).mono ?_; rintro e wa ⟨rfl, rfl⟩)
   refine HC.out.mono ?_
   rintro e w7 ⟨hB7, bv, ⟨bA, bn, bc, tA, tn, tc, rfl⟩, ⟨y2, A7, c7, hy2, rfl, hc7, hR7⟩ | ⟨hy2, rfl⟩⟩
   ·have h := Hy.out
    rw [cmO_eq, hy2] at h
    cases h
   have hB8 := (Below.refl w7.heap.size w7).alloc (Nat.le_refl _) (.cells (row 2 (bookC (.slice bA bn bc) (.slice tA tn tc))) 37)
   have hB78 := hB7.trans (hB8.mono hB7.size)
   have HB8 := hid (HB6.out.trans (hB78.mono HB6.out.size))
   have HCo8 := hid (HCo.out _ hB78 (Hg.out.below HB8.out))
   clear hB7 hB8 hB78 hy2 HC Hy HK6 hbz HCo
   go_wp2_with (first
    | (with_reducible refine wpl_alloc rfl 37 rfl _ zRB2 ?_)
    | (with_reducible refine wpl_store_newS rfl 37 _ _ rfl w7 _ 2 _ (one2 _ _ _ _ _ _) rfl rfl 37 iRB (row_size _ _) ?_))
   refine HCo8.out.mono ?_
   rintro e w9 ⟨rfl, hB9⟩
   go_wp2_with fail
   go_ret
   exact ⟨rfl, HB8.out.trans (hB9.mono HB8.out.size)⟩
  have hzz : z < 1 ∨ (sz k : Int) < z := by omega
  go_wp2_with fail
  refine (cmac_arg _ p k gc _ _ _ A3 L3 c3 z Hci5.out hzz).mono ?_
  rintro e w6 ⟨rfl, rfl⟩
  by_cases h1 : z < 1
  ·go_wp2_with fail
   refine (code_hit 1 _ (Hg.out.below HB5.out)).mono ?_
   rintro e w9 ⟨rfl, hB9⟩
   go_wp2_with fail
   go_ret
   exact ⟨rfl, HB5.out.trans (hB9.mono HB5.out.size)⟩
  have h2 : (sz k : Int) < z := by omega
  go_wp2_with (go_at_call 10; refine (rsize_any k hkk _).mono ?_; rintro e wa ⟨rfl, rfl⟩)
  refine (code_hit 1 _ (Hg.out.below HB5.out)).mono ?_
  rintro e w9 ⟨rfl, hB9⟩
  go_wp2_with fail
  go_ret
  exact ⟨rfl, HB5.out.trans (hB9.mono HB5.out.size)⟩
 by_cases h1 : L ≤ 100
 ·by_cases h2 : n2 ≤ 2000
  ·have h3 : 200 < (L3 : Int) := by omega
   have h1I : ¬ 100 < (L : Int) := by omega
   have h2I : ¬ 2000 < (n2 : Int) := by omega
   clear HR HR2 HR3 Hk HF Ht HA2 HA3
   go_enter Tryz.func4, Tryz.ntmps4
   go_wp2_with fail
   refine (awake7_any _).mono ?_
   rintro e w1 ⟨rfl, hB1⟩
   go_wp2_with fail
   refine (awake7_any _).mono ?_
   rintro e w2 ⟨rfl, hB2⟩
   go_wp2_with fail
   go_ret
   exact ⟨rfl, hB1.trans (hB2.mono hB1.size)⟩
  have h2I : 2000 < (n2 : Int) := by omega
  have h1I : ¬ 100 < (L : Int) := by omega
  clear HR HR2 HR3 Hk HF Ht HA2 HA3
  go_enter Tryz.func4, Tryz.ntmps4
  go_wp2_with fail
  refine (awake7_any _).mono ?_
  rintro e w1 ⟨rfl, hB1⟩
  go_wp2_with fail
  refine (awake7_any _).mono ?_
  rintro e w2 ⟨rfl, hB2⟩
  go_wp2_with fail
  go_ret
  exact ⟨rfl, hB1.trans (hB2.mono hB1.size)⟩
 have h1I : 100 < (L : Int) := by omega
 clear HR HR2 HR3 Hk HF Ht HA2 HA3
 go_enter Tryz.func4, Tryz.ntmps4
 go_wp2_with fail
 refine (awake7_any _).mono ?_
 rintro e w1 ⟨rfl, hB1⟩
 go_wp2_with fail
 refine (awake7_any _).mono ?_
 rintro e w2 ⟨rfl, hB2⟩
 go_wp2_with fail
 go_ret
 exact ⟨rfl, hB1.trans (hB2.mono hB1.size)⟩
end Go.Proofs.YtlmnoapoofmmnaaGreatDoor.Mc.Cmacs
