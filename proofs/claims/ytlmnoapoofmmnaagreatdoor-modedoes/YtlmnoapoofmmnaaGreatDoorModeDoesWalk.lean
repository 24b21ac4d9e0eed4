/-
 ModeDoes returns true: its walk.
-/
import Derived.Test.YtlmnoapoofmmnaaGreatDoorAw6
import Derived.Test.YtlmnoapoofmmnaaGreatDoorModeZ
import Derived.Test.YtlmnoapoofmmnaaGreatDoorAsX
namespace Go.Proofs.YtlmnoapoofmmnaaGreatDoor.Mr
open Mem Bk Md Mc As R6 Mr Go.ChangeShapes Go.WideShapes Go.ChangeAt Go.RowKit
theorem kind6 (n : Nat) : ∃ k : Nat, (k = 1 ∨ k = 2 ∨ k = 3) ∧ 1 + (n : Int) % 3 = (k : Int) := ⟨1 + n % 3, by omega, by omega⟩
theorem bookZ (T : Value) : #[Value.slice none 0 0, T] = row 2 (bookC (.slice none 0 0) T) := (row2 _ _).symm
set_option linter.unusedSimpArgs false in
set_option maxRecDepth 100000 in
set_option maxHeartbeats 4000000 in
theorem does_true (u : Nat) (A : Option Addr) (L c : Nat) (key : Nat → Nat) (A2 : Option Addr) (n2 c2 : Nat) (F : Nat → Nat) (A4 : Option Addr) (ns c4 : Nat) (s : Nat → Nat) (A3 : Option Addr) (L3 c3 : Nat) (t : Nat → Nat) (bk : Bool) (w : World) (hg : Laid w) (_hu : u < 256) (hR : Reads w w.heap.size A L key) (hk : ∀ i, i < L → key i < 256) (_hA : A = none → L = 0 ∧ c = 0) (hR2 : Reads w w.heap.size A2 n2 F) (hF : ∀ i, i < n2 → F i < 256) (hA2 : A2 = none → n2 = 0 ∧ c2 = 0) (hc2 : n2 ≤ c2) (hR4 : Reads w w.heap.size A4 ns s) (hs : ∀ i, i < ns → s i < 256) (_hA4 : A4 = none → ns = 0 ∧ c4 = 0) (hR3 : Reads w w.heap.size A3 L3 t) (ht : ∀ i, i < L3 → t i < 256) (hA3 : A3 = none → L3 = 0 ∧ c3 = 0) (hc3 : L3 ≤ c3) :
  Calls Tryz.prog 3 #[.int .u8 (u : Int), .slice A L c, .slice A2 n2 c2, .slice A4 ns c4, .slice A3 L3 c3, .bool bk] w fun e w' => e = .returned (.bool true) ∧ Below w.heap.size w w' := by
 obtain ⟨k, hkk, hkI⟩ := kind6 u
 have Hg := hid hg
 have HR := hid hR
 have HR2 := hid hR2
 have HR3 := hid hR3
 have HR4 := hid hR4
 have Hk := hid hk
 have HF2 := hid hF
 have Ht := hid ht
 have Hs := hid hs
 have HA2 := hid hA2
 have HA3 := hid hA3
 clear hg hR hR2 hR3 hR4 hk hF ht hs hA2 hA3
 by_cases hL : L ≤ 100 ∧ n2 ≤ 2000 ∧ L3 ≤ 200 ∧ ns ≤ 50
 ·obtain ⟨hL1, hL2, hL3, hL4⟩ := hL
  have hL1I : ¬ 100 < (L : Int) := by omega
  have hL2I : ¬ 2000 < (n2 : Int) := by omega
  have hL3I : ¬ 200 < (L3 : Int) := by omega
  have hL4I : ¬ 50 < (ns : Int) := by omega
  go_enter Tryz.func3, Tryz.ntmps3
  go_wp2_with fail
  refine (awake6_any _ Hg.out).mono ?_
  rintro e w1 ⟨rfl, hB1⟩
  have HB1 := hid hB1
  clear hB1 hkI
  go_wp2_with fail
  refine (right6_any _ k rfl hkk A L c key _ (by omega) ((HR.out.below HB1.out).more HB1.out.size)).mono ?_
  rintro e w3 ⟨v3, rfl, ho3, hB3⟩
  obtain ⟨Ac, cc, rfl, hcc, hAc, -⟩ := ho3.slice'
  have HB3 := hid (HB1.out.trans (hB3.mono HB1.out.size))
  have HK3 := hid ho3.reads
  have HAc := hid hAc
  have hfit := rn_fits hkk
  have hrl := (rn_le k).1
  clear ho3 hB3 hAc HB1
  go_wp2_with fail
  refine (cipher6_any k Ac (rn k) cc (rk L key) A2 n2 c2 F _ (by omega) HAc.out (fun i _ => rk_lt Hk.out i) HK3.out hfit (by omega) HA2.out HF2.out ((HR2.out.below HB3.out).more HB3.out.size)).mono ?_
  rintro e w4 ⟨pc, gc, base, rfl, hpb, hpn, hpF, hbc, hcc4, -, -, hB4⟩
  have HB4 := hid (HB3.out.trans (hB4.mono HB3.out.size))
  have HK4 := hid ((HK3.out.below hB4).more hB4.size)
  have Hbc4 := hid hbc
  have Hci4 := hid hcc4
  have hlow : Hid (∀ g ∈ pc.S, w.heap.size ≤ g) := hid (fun g hg => by have := hbc.lo.2 g hg; have := HB3.out.size; omega)
  have hltc : Hid (∀ g ∈ pc.S, g < w4.heap.size) := hid (fun g hg => by
   simp only [Pl.S, List.mem_cons, List.not_mem_nil, or_false] at hg
   rcases hg with rfl | rfl | rfl
   ·exact hbc.tape.lt
   ·exact (hbc.maps false).lt
   exact (hbc.maps true).lt)
  have HIc := hid hbc.inv
  clear hbc hcc4 hB4 HK3 HB3 hpb
  go_wp2_with fail
  refine (cipher6_any k Ac (rn k) cc (rk L key) A2 n2 c2 F _ (by omega) HAc.out (fun i _ => rk_lt Hk.out i) HK4.out hfit (by omega) HA2.out HF2.out ((HR2.out.below HB4.out).more HB4.out.size)).mono ?_
  rintro e w5 ⟨pd, gd, base', rfl, hqb, hqn, hqF, hbd, hcd, -, -, hB5⟩
  have HB5 := hid (HB4.out.trans (hB5.mono HB4.out.size))
  have HK5 := hid ((HK4.out.below hB5).more hB5.size)
  have Hbc5 := hid (Hbc4.out.keep hB5)
  have Hci5 := hid (Hci4.out.keep hB5)
  have Hbd5 := hid hbd
  have Hcd5 := hid hcd
  have hlod : Hid (∀ g ∈ pd.S, w.heap.size ≤ g) := hid (fun g hg => by have := hbd.lo.2 g hg; have := HB4.out.size; omega)
  have HId := hid hbd.inv
  have hltd : Hid (∀ g ∈ pc.S, g < pd.base) := hid (fun g hg => by rw [hqb]; exact hltc.out g hg)
  clear hbd hcd hB5 HK4 HB4 hqb hltc Hbc4 Hci4
  have hs16 := (R6.sz_pos k).2
  have hs1 := (R6.sz_pos k).1
  obtain ⟨r, hr⟩ : ∃ r, r = L3 % sz k := ⟨_, rfl⟩
  have HF : Hid ((0 : Int) ≤ (L3 : Int) ∧ (0 : Int) < (sz k : Int) ∧ (L3 : Int) % (sz k : Int) = (r : Int)) := hid ⟨by omega, by omega, by rw [hr]; exact (Int.natCast_emod L3 (sz k)).symm⟩
  by_cases hr0 : r = 0
  ·subst hr0
   have HF : Hid ((0 : Int) ≤ (L3 : Int) ∧ (0 : Int) < (sz k : Int) ∧ (L3 : Int) % (sz k : Int) = 0) := HF
   obtain ⟨N, HM⟩ : ∃ N, Hid (L3 = N * sz k) := ⟨L3 / sz k, hid (by rw [Nat.mul_comm]; exact (Nat.mul_div_cancel' (Nat.dvd_of_mod_eq_zero hr.symm)).symm)⟩
   clear hr
   go_wp2_with fail
   refine (alone_ans _ pc 0 [] k gc _ (rn k) (rk L key) A3 N L3 c3 bk t s Hci5.out Hbc5.out HM.out (by omega) hc3 (fun h => (HA3.out h).1) (fun ad e h0 hm => by
    obtain ⟨ad', e', hb, -⟩ := HR3.out h0
    rw [e] at e'
    cases e'
    have := hlow.out _ hm
    omega) Ht.out ((HR3.out.below HB5.out).more HB5.out.size)).mono ?_
   rintro e w6 ⟨o, K, v1, v2, rfl, hK6, hO, hA6⟩
   have HB6 := hid (HB5.out.trans (hK6.below hlow.out HB5.out.size))
   have HK6 := hid (Hbc5.out.reads hK6 HK5.out)
   have Hbd6 := hid (keepO Hbd5.out Hbc5.out hK6 hltd.out)
   have Hcd6 := hid (Hcd5.out.keepS Hbc5.out hK6)
   have HO := hid hO
   have HA6 := hid hA6
   clear hK6 hO hA6 HB5 HK5 Hbd5 Hcd5 Hbc5 Hci5 hlow hltd
   by_cases hns : ns = sz k
   ·subst hns
    obtain ⟨ads, rfl, had, hcs⟩ := HR4.out hs1
    go_wp2_with fail
    refine (chained_ans _ pd 0 [] k gd _ (rn k) (rk L key) ads c4 s A3 N L3 c3 bk t Hcd6.out Hbd6.out HM.out (by omega) hc3 (fun h => (HA3.out h).1) (fun ad e h0 hm => by
     obtain ⟨ad', e', hb, -⟩ := HR3.out h0
     rw [e] at e'
     cases e'
     have := hlod.out _ hm
     omega) Ht.out ((HR3.out.below HB6.out).more HB6.out.size) (Nat.lt_of_lt_of_le had HB6.out.size) (fun i hi => (HB6.out.cell (p := ads.add i) (by rw [add_block]; exact had)).trans (hcs i hi)) Hs.out (fun hm => by
     have := hlod.out _ hm
     omega)).mono ?_
    rintro e w7 ⟨o2, K2, v3, v4, rfl, hK7, hO2, hA7⟩
    have HB7 := hid (HB6.out.trans (hK7.below hlod.out HB6.out.size))
    have HK7 := hid (Hbd6.out.reads hK7 HK6.out)
    have HA7 := hid (HA6.out.keepS Hbd6.out hK7)
    have HO2 := hid hO2
    have HC7 := hid hA7
    clear hK7 hO2 hA7 HB6 HK6 HA6 Hbd6 Hcd6 hlod hcs had
    go_wp2_with (first
     | (go_at_call 10; refine (rsize_any k hkk _).mono ?_; rintro e wa ⟨rfl, rfl⟩)
     | (with_reducible refine wpl_val rfl _ (exec_remN _ _ _ _ rfl _ _ _ rfl rfl HF.out) ?_))
    have hbz := bookZ (.slice A2 n2 c2)
    refine (rdo_chain pd k (rn k) A2 n2 c2 F Ac cc (rk L key) (some ads) c4 s A3 L3 c3 N t bk _ hfit HId.out hqn hqF ((HR2.out.below HB7.out).more HB7.out.size) hc2 HK7.out (fun i _ => rk_lt Hk.out i) (by omega) hcc HAc.out HM.out (by omega) hc3 Ht.out ((HR3.out.below HB7.out).more HB7.out.size) Hs.out ((HR4.out.below HB7.out).more HB7.out.size)).mono ?_
    rintro e wyb ⟨o', K', hO', hBz, bA, bn, bc, tA, tn, tc, ⟨y, A8, c8, rfl, hc8, rfl, hR8⟩ | ⟨rfl, rfl⟩⟩
    ·obtain ⟨rfl, -⟩ := HO2.out.same hO'
     rcases HC7.out with ⟨y', A9, c9, he, rfl, rfl, hc9, hR9⟩ | ⟨_, _, _, he, -⟩
     rotate_left
     ·cases he
     cases he
     have hB8 := (Below.refl wyb.heap.size wyb).alloc (Nat.le_refl _) (.cells (row 2 (bookC (.slice bA bn bc) (.slice tA tn tc))) 37)
     have hBz8 := hBz.trans (hB8.mono hBz.size)
     have HB8b := hid (HB7.out.trans (hBz8.mono HB7.out.size))
     have HK8b := hid ((HK7.out.below hBz8).more hBz8.size)
     have HA8b := hid (HA7.out.below hBz8)
     have HX8 := hid ((hR9.below hBz8).more hBz8.size)
     have HY8 := hid ((hR8.below hB8).more hB8.size)
     clear hbz hBz hB8 hBz8 hO' HB7 HC7 HO2 HK7 HA7 hR9 hR8
     go_wp2_with (first
      | (with_reducible refine wpl_alloc rfl 37 rfl _ zRB2 ?_)
      | (with_reducible refine wpl_store_newS rfl 37 _ _ rfl wyb _ 2 _ (one2 _ _ _ _ _ _) rfl rfl 37 iRB (row_size _ _) ?_))
     refine (same_any A9 A8 L3 c9 c8 y y _ (by omega) HX8.out HY8.out).mono ?_
     rintro e wxb ⟨rfl, hB9⟩
     rw [show eqB L3 y y = true from eqB_true (fun _ _ => rfl)]
     have HBxb := hid (HB8b.out.trans (hB9.mono HB8b.out.size))
     have HKxb := hid ((HK8b.out.below hB9).more hB9.size)
     have HAxb := hid (HA8b.out.below hB9)
     clear hB9 HX8 HY8 HB8b HK8b HA8b
     go_wp2_with (with_reducible refine wpl_val rfl _ (exec_remN _ _ _ _ rfl _ _ _ rfl rfl HF.out) ?_)
     have hbz := bookZ (.slice A2 n2 c2)
     refine (rdo_alone pc k (rn k) A2 n2 c2 F Ac cc (rk L key) s A3 L3 c3 N t bk _ hfit HIc.out hpn hpF ((HR2.out.below HBxb.out).more HBxb.out.size) hc2 HKxb.out (fun i _ => rk_lt Hk.out i) (by omega) hcc HAc.out HM.out (by omega) hc3 Ht.out ((HR3.out.below HBxb.out).more HBxb.out.size)).mono ?_
     rintro e wya ⟨o', K', hO', hBz, bA, bn, bc, tA, tn, tc, ⟨y, A8, c8, rfl, hc8, rfl, hR8⟩ | ⟨rfl, rfl⟩⟩
     ·obtain ⟨rfl, -⟩ := HO.out.same hO'
      rcases HAxb.out with ⟨y', A9, c9, he, rfl, rfl, hc9, hR9⟩ | ⟨_, _, _, he, -⟩
      rotate_left
      ·cases he
      cases he
      have hB8 := (Below.refl wya.heap.size wya).alloc (Nat.le_refl _) (.cells (row 2 (bookC (.slice bA bn bc) (.slice tA tn tc))) 37)
      have hBz8 := hBz.trans (hB8.mono hBz.size)
      have HB8a := hid (HBxb.out.trans (hBz8.mono HBxb.out.size))
      have HX8 := hid ((hR9.below hBz8).more hBz8.size)
      have HY8 := hid ((hR8.below hB8).more hB8.size)
      clear hbz hBz hB8 hBz8 hO' HBxb HAxb HO hR9 hR8
      go_wp2_with (first
       | (with_reducible refine wpl_alloc rfl 37 rfl _ zRB2 ?_)
       | (with_reducible refine wpl_store_newS rfl 37 _ _ rfl wya _ 2 _ (one2 _ _ _ _ _ _) rfl rfl 37 iRB (row_size _ _) ?_))
      refine (same_any A9 A8 L3 c9 c8 y y _ (by omega) HX8.out HY8.out).mono ?_
      rintro e wxa ⟨rfl, hB9⟩
      rw [show eqB L3 y y = true from eqB_true (fun _ _ => rfl)]
      have HBxa := hid (HB8a.out.trans (hB9.mono HB8a.out.size))
      clear hB9 HX8 HY8 HB8a
      go_wp2_with fail
      go_ret
      exact ⟨rfl, HBxa.out⟩
     obtain ⟨rfl, hKK⟩ := HO.out.same hO'
     obtain rfl := hKK rfl
     rcases HAxb.out with ⟨_, _, _, he, -⟩ | ⟨f, g, xv, -, rfl, rfl, hf, hgg⟩
     ·cases he
     have hB8 := (Below.refl wya.heap.size wya).alloc (Nat.le_refl _) (.cells (row 2 (bookC (.slice bA bn bc) (.slice tA tn tc))) 37)
     have hBz8 := hBz.trans (hB8.mono hBz.size)
     have HB8a := hid (HBxb.out.trans (hBz8.mono HBxb.out.size))
     have HF8 := hid (hf.below hBz8 hf.lt)
     have HG8 := hid (hgg.below hBz8 hgg.lt)
     clear hbz hBz hB8 hBz8 hO' HBxb HAxb HO hf hgg hKK
     go_wp2_with (first
      | (with_reducible refine wpl_alloc rfl 37 rfl _ zRB2 ?_)
      | (with_reducible refine wpl_store_newS rfl 37 _ _ rfl wya _ 2 _ (one2 _ _ _ _ _ _) rfl rfl 37 iRB (row_size _ _) ?_))
     refine (code_fault2 13 f g _ (Hg.out.below HB8a.out) (HF8.out.cell 1) (HG8.out.cell 1)).mono ?_
     rintro e wva ⟨rfl, hB9⟩
     have HF9 := hid (HF8.out.below hB9 HF8.out.lt)
     have HB9a := hid (HB8a.out.trans (hB9.mono HB8a.out.size))
     clear hB9 HF8 HG8 HB8a
     go_wp2_with fail
     refine (at_fault _ _ f _ (Hg.out.below HB9a.out) HF9.out).mono ?_
     rintro e wxa ⟨rfl, hB9⟩
     have HBxa := hid (HB9a.out.trans (hB9.mono HB9a.out.size))
     clear hB9 HF9 HB9a
     go_wp2_with fail
     go_ret
     exact ⟨rfl, HBxa.out⟩
    obtain ⟨rfl, hKK⟩ := HO2.out.same hO'
    obtain rfl := hKK rfl
    rcases HC7.out with ⟨_, _, _, he, -⟩ | ⟨f, g, xv, -, rfl, rfl, hf, hgg⟩
    ·cases he
    have hB8 := (Below.refl wyb.heap.size wyb).alloc (Nat.le_refl _) (.cells (row 2 (bookC (.slice bA bn bc) (.slice tA tn tc))) 37)
    have hBz8 := hBz.trans (hB8.mono hBz.size)
    have HB8b := hid (HB7.out.trans (hBz8.mono HB7.out.size))
    have HK8b := hid ((HK7.out.below hBz8).more hBz8.size)
    have HA8b := hid (HA7.out.below hBz8)
    have HF8 := hid (hf.below hBz8 hf.lt)
    have HG8 := hid (hgg.below hBz8 hgg.lt)
    clear hbz hBz hB8 hBz8 hO' HB7 HC7 HO2 HK7 HA7 hf hgg hKK
    go_wp2_with (first
     | (with_reducible refine wpl_alloc rfl 37 rfl _ zRB2 ?_)
     | (with_reducible refine wpl_store_newS rfl 37 _ _ rfl wyb _ 2 _ (one2 _ _ _ _ _ _) rfl rfl 37 iRB (row_size _ _) ?_))
    refine (code_fault2 13 f g _ (Hg.out.below HB8b.out) (HF8.out.cell 1) (HG8.out.cell 1)).mono ?_
    rintro e wvb ⟨rfl, hB9⟩
    have HF9 := hid (HF8.out.below hB9 HF8.out.lt)
    have HB9b := hid (HB8b.out.trans (hB9.mono HB8b.out.size))
    have HK9b := hid ((HK8b.out.below hB9).more hB9.size)
    have HA9b := hid (HA8b.out.below hB9)
    clear hB9 HF8 HG8 HB8b HK8b HA8b
    go_wp2_with fail
    refine (at_fault _ _ f _ (Hg.out.below HB9b.out) HF9.out).mono ?_
    rintro e wxb ⟨rfl, hB9⟩
    have HBxb := hid (HB9b.out.trans (hB9.mono HB9b.out.size))
    have HKxb := hid ((HK9b.out.below hB9).more hB9.size)
    have HAxb := hid (HA9b.out.below hB9)
    clear hB9 HF9 HB9b HK9b HA9b
    go_wp2_with (with_reducible refine wpl_val rfl _ (exec_remN _ _ _ _ rfl _ _ _ rfl rfl HF.out) ?_)
    have hbz := bookZ (.slice A2 n2 c2)
    refine (rdo_alone pc k (rn k) A2 n2 c2 F Ac cc (rk L key) s A3 L3 c3 N t bk _ hfit HIc.out hpn hpF ((HR2.out.below HBxb.out).more HBxb.out.size) hc2 HKxb.out (fun i _ => rk_lt Hk.out i) (by omega) hcc HAc.out HM.out (by omega) hc3 Ht.out ((HR3.out.below HBxb.out).more HBxb.out.size)).mono ?_
    rintro e wya ⟨o', K', hO', hBz, bA, bn, bc, tA, tn, tc, ⟨y, A8, c8, rfl, hc8, rfl, hR8⟩ | ⟨rfl, rfl⟩⟩
    ·obtain ⟨rfl, -⟩ := HO.out.same hO'
     rcases HAxb.out with ⟨y', A9, c9, he, rfl, rfl, hc9, hR9⟩ | ⟨_, _, _, he, -⟩
     rotate_left
     ·cases he
     cases he
     have hB8 := (Below.refl wya.heap.size wya).alloc (Nat.le_refl _) (.cells (row 2 (bookC (.slice bA bn bc) (.slice tA tn tc))) 37)
     have hBz8 := hBz.trans (hB8.mono hBz.size)
     have HB8a := hid (HBxb.out.trans (hBz8.mono HBxb.out.size))
     have HX8 := hid ((hR9.below hBz8).more hBz8.size)
     have HY8 := hid ((hR8.below hB8).more hB8.size)
     clear hbz hBz hB8 hBz8 hO' HBxb HAxb HO hR9 hR8
     go_wp2_with (first
      | (with_reducible refine wpl_alloc rfl 37 rfl _ zRB2 ?_)
      | (with_reducible refine wpl_store_newS rfl 37 _ _ rfl wya _ 2 _ (one2 _ _ _ _ _ _) rfl rfl 37 iRB (row_size _ _) ?_))
     refine (same_any A9 A8 L3 c9 c8 y y _ (by omega) HX8.out HY8.out).mono ?_
     rintro e wxa ⟨rfl, hB9⟩
     rw [show eqB L3 y y = true from eqB_true (fun _ _ => rfl)]
     have HBxa := hid (HB8a.out.trans (hB9.mono HB8a.out.size))
     clear hB9 HX8 HY8 HB8a
     go_wp2_with fail
     go_ret
     exact ⟨rfl, HBxa.out⟩
    obtain ⟨rfl, hKK⟩ := HO.out.same hO'
    obtain rfl := hKK rfl
    rcases HAxb.out with ⟨_, _, _, he, -⟩ | ⟨f, g, xv, -, rfl, rfl, hf, hgg⟩
    ·cases he
    have hB8 := (Below.refl wya.heap.size wya).alloc (Nat.le_refl _) (.cells (row 2 (bookC (.slice bA bn bc) (.slice tA tn tc))) 37)
    have hBz8 := hBz.trans (hB8.mono hBz.size)
    have HB8a := hid (HBxb.out.trans (hBz8.mono HBxb.out.size))
    have HF8 := hid (hf.below hBz8 hf.lt)
    have HG8 := hid (hgg.below hBz8 hgg.lt)
    clear hbz hBz hB8 hBz8 hO' HBxb HAxb HO hf hgg hKK
    go_wp2_with (first
     | (with_reducible refine wpl_alloc rfl 37 rfl _ zRB2 ?_)
     | (with_reducible refine wpl_store_newS rfl 37 _ _ rfl wya _ 2 _ (one2 _ _ _ _ _ _) rfl rfl 37 iRB (row_size _ _) ?_))
    refine (code_fault2 13 f g _ (Hg.out.below HB8a.out) (HF8.out.cell 1) (HG8.out.cell 1)).mono ?_
    rintro e wva ⟨rfl, hB9⟩
    have HF9 := hid (HF8.out.below hB9 HF8.out.lt)
    have HB9a := hid (HB8a.out.trans (hB9.mono HB8a.out.size))
    clear hB9 HF8 HG8 HB8a
    go_wp2_with fail
    refine (at_fault _ _ f _ (Hg.out.below HB9a.out) HF9.out).mono ?_
    rintro e wxa ⟨rfl, hB9⟩
    have HBxa := hid (HB9a.out.trans (hB9.mono HB9a.out.size))
    clear hB9 HF9 HB9a
    go_wp2_with fail
    go_ret
    exact ⟨rfl, HBxa.out⟩
   have hnsI : ¬ (ns : Int) = (sz k : Int) := by omega
   go_wp2_with fail
   refine (chained_arg _ pd k gd _ _ _ A4 ns c4 A3 L3 c3 bk Hcd6.out hns).mono ?_
   rintro e w7 ⟨rfl, hB7⟩
   have HB7 := hid (HB6.out.trans (hB7.mono HB6.out.size))
   have HK7 := hid ((HK6.out.below hB7).more hB7.size)
   have HA7 := hid (HA6.out.below hB7)
   clear hB7 HB6 HK6 HA6 Hbd6 Hcd6
   go_wp2_with (go_at_call 10; refine (rsize_any k hkk _).mono ?_; rintro e wa ⟨rfl, rfl⟩)
   refine (code_hit 1 _ (Hg.out.below HB7.out)).mono ?_
   rintro e w8 ⟨rfl, hB8⟩
   have HB8 := hid (HB7.out.trans (hB8.mono HB7.out.size))
   have HK8 := hid ((HK7.out.below hB8).more hB8.size)
   have HA8 := hid (HA7.out.below hB8)
   clear hB8 HB7 HK7 HA7
   go_wp2_with (with_reducible refine wpl_val rfl _ (exec_remN _ _ _ _ rfl _ _ _ rfl rfl HF.out) ?_)
   have hbz := bookZ (.slice A2 n2 c2)
   refine (rdo_alone pc k (rn k) A2 n2 c2 F Ac cc (rk L key) s A3 L3 c3 N t bk _ hfit HIc.out hpn hpF ((HR2.out.below HB8.out).more HB8.out.size) hc2 HK8.out (fun i _ => rk_lt Hk.out i) (by omega) hcc HAc.out HM.out (by omega) hc3 Ht.out ((HR3.out.below HB8.out).more HB8.out.size)).mono ?_
   rintro e wya ⟨o', K', hO', hBz, bA, bn, bc, tA, tn, tc, ⟨y, A8, c8, rfl, hc8, rfl, hR8⟩ | ⟨rfl, rfl⟩⟩
   ·obtain ⟨rfl, -⟩ := HO.out.same hO'
    rcases HA8.out with ⟨y', A9, c9, he, rfl, rfl, hc9, hR9⟩ | ⟨_, _, _, he, -⟩
    rotate_left
    ·cases he
    cases he
    have hB8 := (Below.refl wya.heap.size wya).alloc (Nat.le_refl _) (.cells (row 2 (bookC (.slice bA bn bc) (.slice tA tn tc))) 37)
    have hBz8 := hBz.trans (hB8.mono hBz.size)
    have HB8a := hid (HB8.out.trans (hBz8.mono HB8.out.size))
    have HX8 := hid ((hR9.below hBz8).more hBz8.size)
    have HY8 := hid ((hR8.below hB8).more hB8.size)
    clear hbz hBz hB8 hBz8 hO' HB8 HA8 HO hR9 hR8
    go_wp2_with (first
     | (with_reducible refine wpl_alloc rfl 37 rfl _ zRB2 ?_)
     | (with_reducible refine wpl_store_newS rfl 37 _ _ rfl wya _ 2 _ (one2 _ _ _ _ _ _) rfl rfl 37 iRB (row_size _ _) ?_))
    refine (same_any A9 A8 L3 c9 c8 y y _ (by omega) HX8.out HY8.out).mono ?_
    rintro e wxa ⟨rfl, hB9⟩
    rw [show eqB L3 y y = true from eqB_true (fun _ _ => rfl)]
    have HBxa := hid (HB8a.out.trans (hB9.mono HB8a.out.size))
    clear hB9 HX8 HY8 HB8a
    go_wp2_with fail
    go_ret
    exact ⟨rfl, HBxa.out⟩
   obtain ⟨rfl, hKK⟩ := HO.out.same hO'
   obtain rfl := hKK rfl
   rcases HA8.out with ⟨_, _, _, he, -⟩ | ⟨f, g, xv, -, rfl, rfl, hf, hgg⟩
   ·cases he
   have hB8 := (Below.refl wya.heap.size wya).alloc (Nat.le_refl _) (.cells (row 2 (bookC (.slice bA bn bc) (.slice tA tn tc))) 37)
   have hBz8 := hBz.trans (hB8.mono hBz.size)
   have HB8a := hid (HB8.out.trans (hBz8.mono HB8.out.size))
   have HF8 := hid (hf.below hBz8 hf.lt)
   have HG8 := hid (hgg.below hBz8 hgg.lt)
   clear hbz hBz hB8 hBz8 hO' HB8 HA8 HO hf hgg hKK
   go_wp2_with (first
    | (with_reducible refine wpl_alloc rfl 37 rfl _ zRB2 ?_)
    | (with_reducible refine wpl_store_newS rfl 37 _ _ rfl wya _ 2 _ (one2 _ _ _ _ _ _) rfl rfl 37 iRB (row_size _ _) ?_))
   refine (code_fault2 13 f g _ (Hg.out.below HB8a.out) (HF8.out.cell 1) (HG8.out.cell 1)).mono ?_
   rintro e wva ⟨rfl, hB9⟩
   have HF9 := hid (HF8.out.below hB9 HF8.out.lt)
   have HB9a := hid (HB8a.out.trans (hB9.mono HB8a.out.size))
   clear hB9 HF8 HG8 HB8a
   go_wp2_with fail
   refine (at_fault _ _ f _ (Hg.out.below HB9a.out) HF9.out).mono ?_
   rintro e wxa ⟨rfl, hB9⟩
   have HBxa := hid (HB9a.out.trans (hB9.mono HB9a.out.size))
   clear hB9 HF9 HB9a
   go_wp2_with fail
   go_ret
   exact ⟨rfl, HBxa.out⟩
  have hr0I : ¬ (r : Int) = 0 := by omega
  have hmod : L3 % sz k ≠ 0 := by omega
  go_wp2_with fail
  refine (alone_size _ pc k gc _ _ _ A3 L3 c3 bk Hci5.out hmod (by omega)).mono ?_
  rintro e w6 ⟨rfl, hB6⟩
  have HB6 := hid (HB5.out.trans (hB6.mono HB5.out.size))
  have Hcd6 := hid (Hcd5.out.keep hB6)
  clear hB6 HB5 HK5 Hbd5 Hcd5 Hbc5 Hci5 hlow hltd hlod
  by_cases hns : ns = sz k
  ·subst hns
   have Hmod := hid hmod
   clear hmod hr
   go_wp2_with fail
   refine (chained_size _ pd k gd _ _ _ A4 c4 A3 L3 c3 bk Hcd6.out Hmod.out (by omega)).mono ?_
   rintro e w7 ⟨rfl, hB7⟩
   have HB7 := hid (HB6.out.trans (hB7.mono HB6.out.size))
   clear hB7 HB6
   go_wp2_with (first
    | (go_at_call 10; refine (rsize_any k hkk _).mono ?_; rintro e wa ⟨rfl, rfl⟩)
    | (with_reducible refine wpl_val rfl _ (exec_remN _ _ _ _ rfl _ _ _ rfl rfl HF.out) ?_))
   refine (code_hit 2 _ (Hg.out.below HB7.out)).mono ?_
   rintro e w8 ⟨rfl, hB8⟩
   have HB8 := hid (HB7.out.trans (hB8.mono HB7.out.size))
   clear hB8 HB7
   go_wp2_with (with_reducible refine wpl_val rfl _ (exec_remN _ _ _ _ rfl _ _ _ rfl rfl HF.out) ?_)
   refine (code_hit 2 _ (Hg.out.below HB8.out)).mono ?_
   rintro e wz ⟨rfl, hBz⟩
   go_wp2_with fail
   go_ret
   exact ⟨rfl, HB8.out.trans (hBz.mono HB8.out.size)⟩
  have hnsI : ¬ (ns : Int) = (sz k : Int) := by omega
  clear hmod hr
  go_wp2_with fail
  refine (chained_arg _ pd k gd _ _ _ A4 ns c4 A3 L3 c3 bk Hcd6.out hns).mono ?_
  rintro e w7 ⟨rfl, hB7⟩
  have HB7 := hid (HB6.out.trans (hB7.mono HB6.out.size))
  clear hB7 HB6
  go_wp2_with (go_at_call 10; refine (rsize_any k hkk _).mono ?_; rintro e wa ⟨rfl, rfl⟩)
  refine (code_hit 1 _ (Hg.out.below HB7.out)).mono ?_
  rintro e w8 ⟨rfl, hB8⟩
  have HB8 := hid (HB7.out.trans (hB8.mono HB7.out.size))
  clear hB8 HB7
  go_wp2_with (with_reducible refine wpl_val rfl _ (exec_remN _ _ _ _ rfl _ _ _ rfl rfl HF.out) ?_)
  refine (code_hit 2 _ (Hg.out.below HB8.out)).mono ?_
  rintro e wz ⟨rfl, hBz⟩
  go_wp2_with fail
  go_ret
  exact ⟨rfl, HB8.out.trans (hBz.mono HB8.out.size)⟩
 by_cases h1 : L ≤ 100
 ·by_cases h2 : n2 ≤ 2000
  ·by_cases h3 : L3 ≤ 200
   ·have h4I : 50 < (ns : Int) := by omega
    have h1I : ¬ 100 < (L : Int) := by omega
    have h2I : ¬ 2000 < (n2 : Int) := by omega
    have h3I : ¬ 200 < (L3 : Int) := by omega
    clear HR HR2 HR3 HR4 Hk HF2 Ht Hs HA2 HA3
    go_enter Tryz.func3, Tryz.ntmps3
    go_wp2_with fail
    refine (awake6_any _ Hg.out).mono ?_
    rintro e w1 ⟨rfl, hB1⟩
    have HB1 := hid hB1
    clear hB1
    go_wp2_with fail
    refine (awake6_any _ (Hg.out.below HB1.out)).mono ?_
    rintro e w2 ⟨rfl, hB2⟩
    go_wp2_with fail
    go_ret
    exact ⟨rfl, HB1.out.trans (hB2.mono HB1.out.size)⟩
   have h1I : ¬ 100 < (L : Int) := by omega
   have h2I : ¬ 2000 < (n2 : Int) := by omega
   have h3I : 200 < (L3 : Int) := by omega
   clear HR HR2 HR3 HR4 Hk HF2 Ht Hs HA2 HA3
   go_enter Tryz.func3, Tryz.ntmps3
   go_wp2_with fail
   refine (awake6_any _ Hg.out).mono ?_
   rintro e w1 ⟨rfl, hB1⟩
   have HB1 := hid hB1
   clear hB1
   go_wp2_with fail
   refine (awake6_any _ (Hg.out.below HB1.out)).mono ?_
   rintro e w2 ⟨rfl, hB2⟩
   go_wp2_with fail
   go_ret
   exact ⟨rfl, HB1.out.trans (hB2.mono HB1.out.size)⟩
  have h2I : 2000 < (n2 : Int) := by omega
  have h1I : ¬ 100 < (L : Int) := by omega
  clear HR HR2 HR3 HR4 Hk HF2 Ht Hs HA2 HA3
  go_enter Tryz.func3, Tryz.ntmps3
  go_wp2_with fail
  refine (awake6_any _ Hg.out).mono ?_
  rintro e w1 ⟨rfl, hB1⟩
  have HB1 := hid hB1
  clear hB1
  go_wp2_with fail
  refine (awake6_any _ (Hg.out.below HB1.out)).mono ?_
  rintro e w2 ⟨rfl, hB2⟩
  go_wp2_with fail
  go_ret
  exact ⟨rfl, HB1.out.trans (hB2.mono HB1.out.size)⟩
 have h1I : 100 < (L : Int) := by omega
 clear HR HR2 HR3 HR4 Hk HF2 Ht Hs HA2 HA3
 go_enter Tryz.func3, Tryz.ntmps3
 go_wp2_with fail
 refine (awake6_any _ Hg.out).mono ?_
 rintro e w1 ⟨rfl, hB1⟩
 have HB1 := hid hB1
 clear hB1
 go_wp2_with fail
 refine (awake6_any _ (Hg.out.below HB1.out)).mono ?_
 rintro e w2 ⟨rfl, hB2⟩
 go_wp2_with fail
 go_ret
 exact ⟨rfl, HB1.out.trans (hB2.mono HB1.out.size)⟩
end Go.Proofs.YtlmnoapoofmmnaaGreatDoor.Mr
