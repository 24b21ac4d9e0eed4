/-
 HeadBack returns true: its walk.
-/
import Derived.Test.YtklgngdcihkfjaaDoorHdBackMath
namespace Go.Proofs.YtklgngdcihkfjaaDoor.Hd
open Mem As Go.ChangeShapes Go.WideShapes Go.ChangeAt Go.RowKit
set_option maxRecDepth 100000 in
set_option maxHeartbeats 1000000 in
theorem back_true (h : Hd) (z : Int) (s : ByteArray) (w : World) (hg : Laid w ∧ Tab w) (ok : h.Ok) (_ : (Lit.int .i64 z).wf = true) : Calls Tryd.prog 5 #[.agg (hdC h), .int .i64 z, .string s] w fun e w' => e = .returned (.bool true) ∧ Below w.heap.size w w' := by
 obtain ⟨n, f, hf, rfl⟩ : ∃ n f, (∀ i, f i < 256) ∧ s = strF n f := by
  obtain ⟨f, h1, h2⟩ := strF_of s
  exact ⟨_, f, h1, h2⟩
 have hs1 := strF_size h.n h.f
 have hs2 := strF_size h.m h.g
 have hsz := strF_size n f
 have hB0 : Below w.heap.size w (w.alloc (.cells (hdC h) 23)) := (Below.refl _ _).alloc (Nat.le_refl _) _
 have hb0 := Blk.fresh w 23 (hdC h)
 have HB0 := hid hB0
 have Hb0 := hid hb0
 have Hg0 := hid (hg.1.below hB0)
 have HT0 := hid (hg.2.below hB0)
 clear hB0 hb0 hg
 by_cases h1 : 20 < h.n
 ·have hI : (20 : Int) < (h.n : Int) := by omega
  go_enter Tryd.func5, Tryd.ntmps5
  go_wp2_with fail
  refine (awake10_any _ Hg0.out HT0.out).mono ?_
  rintro e w1 ⟨rfl, hB1⟩
  have Hb1 := hid (Hb0.out.below hB1 Hb0.out.lt)
  have Hg1 := hid (Hg0.out.below hB1)
  have HT1 := hid (HT0.out.below hB1)
  have HB1 := hid (HB0.out.trans (hB1.mono HB0.out.size))
  clear hB1 Hb0 Hg0 HT0 HB0
  have hc1 : w1.cell? ⟨w.heap.size, 1, none⟩ = some (.string (strF h.n h.f)) := Hb1.out.cell 1
  have hc4 : w1.cell? ⟨w.heap.size, 4, none⟩ = some (.string (strF h.m h.g)) := Hb1.out.cell 4
  go_wp2_with (first
   | ((with_reducible refine wpg_val ?_ _ (exec_ldc 9 _ rfl ⟨w.heap.size, 1, none⟩ rfl _ hc1 (.inr Tryd.underlying9)) ?_); exact rfl)
   | ((with_reducible refine wpg_val ?_ _ (exec_ldc 9 _ rfl ⟨w.heap.size, 4, none⟩ rfl _ hc4 (.inr Tryd.underlying9)) ?_); exact rfl))
  refine (awake10_any _ Hg1.out HT1.out).mono ?_
  rintro e w2 ⟨rfl, hB2⟩
  have Hg2 := hid (Hg1.out.below hB2)
  have HT2 := hid (HT1.out.below hB2)
  have HB2 := hid (HB1.out.trans (hB2.mono HB1.out.size))
  clear hB2 Hg1 HT1 HB1
  go_wp2_with fail
  go_ret
  exact ⟨rfl, HB2.out⟩
 have h1I : ¬ (20 : Int) < (h.n : Int) := by omega
 by_cases h2 : 20 < h.m
 ·have hI : (20 : Int) < (h.m : Int) := by omega
  go_enter Tryd.func5, Tryd.ntmps5
  go_wp2_with fail
  refine (awake10_any _ Hg0.out HT0.out).mono ?_
  rintro e w1 ⟨rfl, hB1⟩
  have Hb1 := hid (Hb0.out.below hB1 Hb0.out.lt)
  have Hg1 := hid (Hg0.out.below hB1)
  have HT1 := hid (HT0.out.below hB1)
  have HB1 := hid (HB0.out.trans (hB1.mono HB0.out.size))
  clear hB1 Hb0 Hg0 HT0 HB0
  have hc1 : w1.cell? ⟨w.heap.size, 1, none⟩ = some (.string (strF h.n h.f)) := Hb1.out.cell 1
  have hc4 : w1.cell? ⟨w.heap.size, 4, none⟩ = some (.string (strF h.m h.g)) := Hb1.out.cell 4
  go_wp2_with (first
   | ((with_reducible refine wpg_val ?_ _ (exec_ldc 9 _ rfl ⟨w.heap.size, 1, none⟩ rfl _ hc1 (.inr Tryd.underlying9)) ?_); exact rfl)
   | ((with_reducible refine wpg_val ?_ _ (exec_ldc 9 _ rfl ⟨w.heap.size, 4, none⟩ rfl _ hc4 (.inr Tryd.underlying9)) ?_); exact rfl))
  refine (awake10_any _ Hg1.out HT1.out).mono ?_
  rintro e w2 ⟨rfl, hB2⟩
  have Hg2 := hid (Hg1.out.below hB2)
  have HT2 := hid (HT1.out.below hB2)
  have HB2 := hid (HB1.out.trans (hB2.mono HB1.out.size))
  clear hB2 Hg1 HT1 HB1
  go_wp2_with fail
  go_ret
  exact ⟨rfl, HB2.out⟩
 have h2I : ¬ (20 : Int) < (h.m : Int) := by omega
 by_cases h3 : 200 < n
 ·have hI : (200 : Int) < (n : Int) := by omega
  go_enter Tryd.func5, Tryd.ntmps5
  go_wp2_with fail
  refine (awake10_any _ Hg0.out HT0.out).mono ?_
  rintro e w1 ⟨rfl, hB1⟩
  have Hb1 := hid (Hb0.out.below hB1 Hb0.out.lt)
  have Hg1 := hid (Hg0.out.below hB1)
  have HT1 := hid (HT0.out.below hB1)
  have HB1 := hid (HB0.out.trans (hB1.mono HB0.out.size))
  clear hB1 Hb0 Hg0 HT0 HB0
  have hc1 : w1.cell? ⟨w.heap.size, 1, none⟩ = some (.string (strF h.n h.f)) := Hb1.out.cell 1
  have hc4 : w1.cell? ⟨w.heap.size, 4, none⟩ = some (.string (strF h.m h.g)) := Hb1.out.cell 4
  go_wp2_with (first
   | ((with_reducible refine wpg_val ?_ _ (exec_ldc 9 _ rfl ⟨w.heap.size, 1, none⟩ rfl _ hc1 (.inr Tryd.underlying9)) ?_); exact rfl)
   | ((with_reducible refine wpg_val ?_ _ (exec_ldc 9 _ rfl ⟨w.heap.size, 4, none⟩ rfl _ hc4 (.inr Tryd.underlying9)) ?_); exact rfl))
  refine (awake10_any _ Hg1.out HT1.out).mono ?_
  rintro e w2 ⟨rfl, hB2⟩
  have Hg2 := hid (Hg1.out.below hB2)
  have HT2 := hid (HT1.out.below hB2)
  have HB2 := hid (HB1.out.trans (hB2.mono HB1.out.size))
  clear hB2 Hg1 HT1 HB1
  go_wp2_with fail
  go_ret
  exact ⟨rfl, HB2.out⟩
 have h3I : ¬ (200 : Int) < (n : Int) := by omega
 go_enter Tryd.func5, Tryd.ntmps5
 go_wp2_with fail
 refine (awake10_any _ Hg0.out HT0.out).mono ?_
 rintro e w1 ⟨rfl, hB1⟩
 have Hb1 := hid (Hb0.out.below hB1 Hb0.out.lt)
 have Hg1 := hid (Hg0.out.below hB1)
 have HT1 := hid (HT0.out.below hB1)
 have HB1 := hid (HB0.out.trans (hB1.mono HB0.out.size))
 clear hB1 Hb0 Hg0 HT0 HB0
 have hc1 : w1.cell? ⟨w.heap.size, 1, none⟩ = some (.string (strF h.n h.f)) := Hb1.out.cell 1
 have hc4 : w1.cell? ⟨w.heap.size, 4, none⟩ = some (.string (strF h.m h.g)) := Hb1.out.cell 4
 rcases wrong_lo h with hw | hw
 rotate_left
 ·go_wp2_with (first
   | ((with_reducible refine wpg_val ?_ _ (exec_ldc 9 _ rfl ⟨w.heap.size, 1, none⟩ rfl _ hc1 (.inr Tryd.underlying9)) ?_); exact rfl)
   | ((with_reducible refine wpg_val ?_ _ (exec_ldc 9 _ rfl ⟨w.heap.size, 4, none⟩ rfl _ hc4 (.inr Tryd.underlying9)) ?_); exact rfl)
   | (with_reducible refine wpl_valw rfl _ (exec_ldcs 23 _ rfl w.heap.size rfl 23 _ Hb1.out _ Tryd.underlying23 (sizeC _)) ?_))
  refine (print_bad h ok hw z _).mono ?_
  rintro e w2 ⟨hB2, g, hg2, rfl, -⟩
  clear hc1 hc4
  have Hg2 := hid (Hg1.out.below hB2)
  have HT2 := hid (HT1.out.below hB2)
  have HB2 := hid (HB1.out.trans (hB2.mono HB1.out.size))
  clear hB2 Hg1 HT1 HB1
  by_cases h16 : n < 16
  ·go_wp2_with fail
   refine (parse_short n f h16 _).mono ?_
   rintro e w3 ⟨rfl, hB3⟩
   have Hg3 := hid (Hg2.out.below hB3)
   have HB3 := hid (HB2.out.trans (hB3.mono HB2.out.size))
   clear hB3 Hg2 HB2
   have hn4 := Blk.fresh w3 23 noHd
   have hB4 := below_setRow' ((Below.refl w3.heap.size w3).alloc (Nat.le_refl _) (.cells noHd 23)) (Nat.le_refl _) noHd
   have Hq4 := hid (hn4.setRow noHd)
   have Hn4 := hid hn4
   clear hn4
   have Hg4 := hid (Hg3.out.below hB4)
   have HB4 := hid (HB3.out.trans (hB4.mono HB3.out.size))
   clear hB4 Hg3 HB3
   go_wp2_with (first
    | (with_reducible refine wpl_alloc rfl 23 rfl _ zHead ?_)
    | (with_reducible refine wpl_storeH rfl 23 _ _ rfl w3.heap.size noHd rfl rfl 23 _ Hn4.out sizeN rfl oneNo ?_))
   go_ret
   exact ⟨rfl, HB4.out⟩
  have h16n : 16 ≤ n := by omega
  go_wp2_with fail
  refine (parse_any n f hf h16n (by omega) _ Hg2.out).mono ?_
  rintro e w3 ⟨hB3, ho⟩
  rcases ho with ⟨hz, rfl⟩ | ⟨hz, g, hgl, rfl, hbF⟩
  rotate_left
  ·clear hbF
   have Hg3 := hid (Hg2.out.below hB3)
   have HB3 := hid (HB2.out.trans (hB3.mono HB2.out.size))
   clear hB3 Hg2 HB2
   have hn4 := Blk.fresh w3 23 noHd
   have hB4 := below_setRow' ((Below.refl w3.heap.size w3).alloc (Nat.le_refl _) (.cells noHd 23)) (Nat.le_refl _) noHd
   have Hq4 := hid (hn4.setRow noHd)
   have Hn4 := hid hn4
   clear hn4
   have Hg4 := hid (Hg3.out.below hB4)
   have HB4 := hid (HB3.out.trans (hB4.mono HB3.out.size))
   clear hB4 Hg3 HB3
   go_wp2_with (first
    | (with_reducible refine wpl_alloc rfl 23 rfl _ zHead ?_)
    | (with_reducible refine wpl_storeH rfl 23 _ _ rfl w3.heap.size noHd rfl rfl 23 _ Hn4.out sizeN rfl oneNo ?_))
   go_ret
   exact ⟨rfl, HB4.out⟩
  have Hg3 := hid (Hg2.out.below hB3)
  have HT3 := hid (HT2.out.below hB3)
  have HB3 := hid (HB2.out.trans (hB3.mono HB2.out.size))
  clear hB3 Hg2 HT2 HB2
  obtain ⟨hwc, nn, hnn1, hnn2, hlz, hpt⟩ := par_inv hz
  rw [hlz]
  have hn4 := Blk.fresh w3 23 noHd
  have hB4 := below_setRow' ((Below.refl w3.heap.size w3).alloc (Nat.le_refl _) (.cells noHd 23)) (Nat.le_refl _) (hdC (cutH f))
  have Hq4 := hid (hn4.setRow (hdC (cutH f)))
  have Hn4 := hid hn4
  clear hn4
  have Hg4 := hid (Hg3.out.below hB4)
  have HT4 := hid (HT3.out.below hB4)
  have HB4 := hid (HB3.out.trans (hB4.mono HB3.out.size))
  clear hB4 Hg3 HT3 HB3
  go_wp2_with (first
   | (with_reducible refine wpl_alloc rfl 23 rfl _ zHead ?_)
   | (with_reducible refine wpl_storeH rfl 23 _ _ rfl w3.heap.size (hdC (cutH f)) rfl rfl 23 _ Hn4.out (sizeC _) (holdNC _) (oneC _) ?_)
   | (with_reducible refine wpl_valw rfl _ (exec_ldcs 23 _ rfl w3.heap.size rfl 23 _ Hq4.out _ Tryd.underlying23 (sizeC _)) ?_))
  refine (print_ok (cutH f) (cutH_ok hf) hwc nn hnn1 hnn2 _ HT4.out).mono ?_
  rintro e w5 ⟨rfl, hB5⟩
  have Hg5 := hid (Hg4.out.below hB5)
  have Hq5 := hid (Hq4.out.below hB5 Hq4.out.lt)
  have HB5 := hid (HB4.out.trans (hB5.mono HB4.out.size))
  clear hB5 Hg4 Hq4 HB4
  go_wp2_with (first
   | ((with_reducible refine wpg_val ?_ _ (exec_cutSh 9 _ _ rfl n f _ rfl rfl 16 rfl h16n Tryd.underlying9) ?_); exact rfl)
   | ((with_reducible refine wpg_val ?_ _ (exec_eqsB 9 _ _ _ rfl 16 16 (prF (cutH f) nn) f rfl rfl (fun i _ => prF_lt (cutH_ok hf) nn i) (fun i _ => hf i) _ hpt.same) ?_); exact rfl)
   | ((with_reducible refine wpg_val ?_ _ (exec_ldcs 23 _ rfl w3.heap.size rfl 23 _ Hq5.out _ Tryd.underlying23 (sizeC _)) ?_); exact rfl))
  refine (right_any (cutH f) (cutH_ok hf) _).mono ?_
  rintro e w6 ⟨hB6, v9, rfl, ho9⟩
  rcases ho9 with ⟨-, rfl⟩ | ⟨ho9, -⟩
  rotate_left
  ·rw [hwc] at ho9
   omega
  have Hg6 := hid (Hg5.out.below hB6)
  have HB6 := hid (HB5.out.trans (hB6.mono HB5.out.size))
  clear hB6 Hg5 HB5
  go_wp2_with fail
  go_ret
  exact ⟨rfl, HB6.out⟩
 by_cases hz : z < 16 ∨ 9999 < z
 ·go_wp2_with (first
   | ((with_reducible refine wpg_val ?_ _ (exec_ldc 9 _ rfl ⟨w.heap.size, 1, none⟩ rfl _ hc1 (.inr Tryd.underlying9)) ?_); exact rfl)
   | ((with_reducible refine wpg_val ?_ _ (exec_ldc 9 _ rfl ⟨w.heap.size, 4, none⟩ rfl _ hc4 (.inr Tryd.underlying9)) ?_); exact rfl)
   | (with_reducible refine wpl_valw rfl _ (exec_ldcs 23 _ rfl w.heap.size rfl 23 _ Hb1.out _ Tryd.underlying23 (sizeC _)) ?_))
  refine (print_arg h ok hw z hz _).mono ?_
  rintro e w2 ⟨rfl, hB2⟩
  clear hc1 hc4 hz
  have Hg2 := hid (Hg1.out.below hB2)
  have HT2 := hid (HT1.out.below hB2)
  have HB2 := hid (HB1.out.trans (hB2.mono HB1.out.size))
  clear hB2 Hg1 HT1 HB1
  by_cases h16 : n < 16
  ·go_wp2_with fail
   refine (parse_short n f h16 _).mono ?_
   rintro e w3 ⟨rfl, hB3⟩
   have Hg3 := hid (Hg2.out.below hB3)
   have HB3 := hid (HB2.out.trans (hB3.mono HB2.out.size))
   clear hB3 Hg2 HB2
   have hn4 := Blk.fresh w3 23 noHd
   have hB4 := below_setRow' ((Below.refl w3.heap.size w3).alloc (Nat.le_refl _) (.cells noHd 23)) (Nat.le_refl _) noHd
   have Hq4 := hid (hn4.setRow noHd)
   have Hn4 := hid hn4
   clear hn4
   have Hg4 := hid (Hg3.out.below hB4)
   have HB4 := hid (HB3.out.trans (hB4.mono HB3.out.size))
   clear hB4 Hg3 HB3
   go_wp2_with (first
    | (with_reducible refine wpl_alloc rfl 23 rfl _ zHead ?_)
    | (with_reducible refine wpl_storeH rfl 23 _ _ rfl w3.heap.size noHd rfl rfl 23 _ Hn4.out sizeN rfl oneNo ?_))
   go_ret
   exact ⟨rfl, HB4.out⟩
  have h16n : 16 ≤ n := by omega
  go_wp2_with fail
  refine (parse_any n f hf h16n (by omega) _ Hg2.out).mono ?_
  rintro e w3 ⟨hB3, ho⟩
  rcases ho with ⟨hz, rfl⟩ | ⟨hz, g, hgl, rfl, hbF⟩
  rotate_left
  ·clear hbF
   have Hg3 := hid (Hg2.out.below hB3)
   have HB3 := hid (HB2.out.trans (hB3.mono HB2.out.size))
   clear hB3 Hg2 HB2
   have hn4 := Blk.fresh w3 23 noHd
   have hB4 := below_setRow' ((Below.refl w3.heap.size w3).alloc (Nat.le_refl _) (.cells noHd 23)) (Nat.le_refl _) noHd
   have Hq4 := hid (hn4.setRow noHd)
   have Hn4 := hid hn4
   clear hn4
   have Hg4 := hid (Hg3.out.below hB4)
   have HB4 := hid (HB3.out.trans (hB4.mono HB3.out.size))
   clear hB4 Hg3 HB3
   go_wp2_with (first
    | (with_reducible refine wpl_alloc rfl 23 rfl _ zHead ?_)
    | (with_reducible refine wpl_storeH rfl 23 _ _ rfl w3.heap.size noHd rfl rfl 23 _ Hn4.out sizeN rfl oneNo ?_))
   go_ret
   exact ⟨rfl, HB4.out⟩
  have Hg3 := hid (Hg2.out.below hB3)
  have HT3 := hid (HT2.out.below hB3)
  have HB3 := hid (HB2.out.trans (hB3.mono HB2.out.size))
  clear hB3 Hg2 HT2 HB2
  obtain ⟨hwc, nn, hnn1, hnn2, hlz, hpt⟩ := par_inv hz
  rw [hlz]
  have hn4 := Blk.fresh w3 23 noHd
  have hB4 := below_setRow' ((Below.refl w3.heap.size w3).alloc (Nat.le_refl _) (.cells noHd 23)) (Nat.le_refl _) (hdC (cutH f))
  have Hq4 := hid (hn4.setRow (hdC (cutH f)))
  have Hn4 := hid hn4
  clear hn4
  have Hg4 := hid (Hg3.out.below hB4)
  have HT4 := hid (HT3.out.below hB4)
  have HB4 := hid (HB3.out.trans (hB4.mono HB3.out.size))
  clear hB4 Hg3 HT3 HB3
  go_wp2_with (first
   | (with_reducible refine wpl_alloc rfl 23 rfl _ zHead ?_)
   | (with_reducible refine wpl_storeH rfl 23 _ _ rfl w3.heap.size (hdC (cutH f)) rfl rfl 23 _ Hn4.out (sizeC _) (holdNC _) (oneC _) ?_)
   | (with_reducible refine wpl_valw rfl _ (exec_ldcs 23 _ rfl w3.heap.size rfl 23 _ Hq4.out _ Tryd.underlying23 (sizeC _)) ?_))
  refine (print_ok (cutH f) (cutH_ok hf) hwc nn hnn1 hnn2 _ HT4.out).mono ?_
  rintro e w5 ⟨rfl, hB5⟩
  have Hg5 := hid (Hg4.out.below hB5)
  have Hq5 := hid (Hq4.out.below hB5 Hq4.out.lt)
  have HB5 := hid (HB4.out.trans (hB5.mono HB4.out.size))
  clear hB5 Hg4 Hq4 HB4
  go_wp2_with (first
   | ((with_reducible refine wpg_val ?_ _ (exec_cutSh 9 _ _ rfl n f _ rfl rfl 16 rfl h16n Tryd.underlying9) ?_); exact rfl)
   | ((with_reducible refine wpg_val ?_ _ (exec_eqsB 9 _ _ _ rfl 16 16 (prF (cutH f) nn) f rfl rfl (fun i _ => prF_lt (cutH_ok hf) nn i) (fun i _ => hf i) _ hpt.same) ?_); exact rfl)
   | ((with_reducible refine wpg_val ?_ _ (exec_ldcs 23 _ rfl w3.heap.size rfl 23 _ Hq5.out _ Tryd.underlying23 (sizeC _)) ?_); exact rfl))
  refine (right_any (cutH f) (cutH_ok hf) _).mono ?_
  rintro e w6 ⟨hB6, v9, rfl, ho9⟩
  rcases ho9 with ⟨-, rfl⟩ | ⟨ho9, -⟩
  rotate_left
  ·rw [hwc] at ho9
   omega
  have Hg6 := hid (Hg5.out.below hB6)
  have HB6 := hid (HB5.out.trans (hB6.mono HB5.out.size))
  clear hB6 Hg5 HB5
  go_wp2_with fail
  go_ret
  exact ⟨rfl, HB6.out⟩
 obtain ⟨m, rfl⟩ : ∃ n : Nat, z = (n : Int) := ⟨z.toNat, by omega⟩
 have hm1 : 16 ≤ m := by omega
 have hm2 : m ≤ 9999 := by omega
 clear hz
 have hnn := prB_two (wrong_n hw)
 have hmm := prB_two (wrong_m hw)
 have hpt0 := prt_of h m f
 have hpz := hpt0.par hnn hmm hw hm1 hm2
 have hpl := hpt0.len hm2
 have hpe := hpt0.eq hnn hmm
 obtain ⟨F, hF⟩ : ∃ F, F = cat 16 (prF h m) f := ⟨_, rfl⟩
 rw [← hF] at hpz hpl hpe
 have hFl : ∀ i, F i < 256 := fun i => by
  rw [hF]
  unfold cat
  split
  ·exact prF_lt ok m i
  exact hf _
 have hsF := strF_size 16 (prF h m)
 have hpe2 : (!hdEq (cutH F) h) = false := by rw [hpe]; rfl
 have HF := hid hF
 clear hF hpt0 hpe hnn hmm
 go_wp2_with (first
  | ((with_reducible refine wpg_val ?_ _ (exec_ldc 9 _ rfl ⟨w.heap.size, 1, none⟩ rfl _ hc1 (.inr Tryd.underlying9)) ?_); exact rfl)
  | ((with_reducible refine wpg_val ?_ _ (exec_ldc 9 _ rfl ⟨w.heap.size, 4, none⟩ rfl _ hc4 (.inr Tryd.underlying9)) ?_); exact rfl)
  | (with_reducible refine wpl_valw rfl _ (exec_ldcs 23 _ rfl w.heap.size rfl 23 _ Hb1.out _ Tryd.underlying23 (sizeC _)) ?_))
 refine (print_ok h ok hw m hm1 hm2 _ HT1.out).mono ?_
 rintro e w2 ⟨rfl, hB2⟩
 clear hc1 hc4
 have Hb2 := hid (Hb1.out.below hB2 Hb1.out.lt)
 have Hg2 := hid (Hg1.out.below hB2)
 have HT2 := hid (HT1.out.below hB2)
 have HB2 := hid (HB1.out.trans (hB2.mono HB1.out.size))
 clear hB2 Hb1 Hg1 HT1 HB1
 go_wp2_with (first
  | (with_reducible refine wpl_valw rfl _ (exec_cat 9 _ _ _ rfl 16 n _ f rfl rfl (by omega)) ?_))
 rw [← HF.out]
 refine (parse_any (16 + n) F hFl (by omega) (by omega) _ Hg2.out).mono ?_
 rintro e w3 ⟨hB3, ho⟩
 rcases ho with ⟨-, rfl⟩ | ⟨ho, -⟩
 rotate_left
 ·omega
 rw [hpl]
 have Hb3 := hid (Hb2.out.below hB3 Hb2.out.lt)
 have Hg3 := hid (Hg2.out.below hB3)
 have HT3 := hid (HT2.out.below hB3)
 have HB3 := hid (HB2.out.trans (hB3.mono HB2.out.size))
 clear hB3 Hb2 Hg2 HT2 HB2
 have hn4 := Blk.fresh w3 23 noHd
 have hB4 := below_setRow' ((Below.refl w3.heap.size w3).alloc (Nat.le_refl _) (.cells noHd 23)) (Nat.le_refl _) (hdC (cutH F))
 have Hq4 := hid (hn4.setRow (hdC (cutH F)))
 have Hn4 := hid hn4
 clear hn4
 have Hb4 := hid (Hb3.out.below hB4 Hb3.out.lt)
 have Hg4 := hid (Hg3.out.below hB4)
 have HT4 := hid (HT3.out.below hB4)
 have HB4 := hid (HB3.out.trans (hB4.mono HB3.out.size))
 clear hB4 Hb3 Hg3 HT3 HB3
 go_wp2_with (first
  | (with_reducible refine wpl_alloc rfl 23 rfl _ zHead ?_)
  | (with_reducible refine wpl_storeH rfl 23 _ _ rfl w3.heap.size (hdC (cutH F)) rfl rfl 23 _ Hn4.out (sizeC _) (holdNC _) (oneC _) ?_)
  | ((with_reducible refine wpg_val ?_ _ (exec_ldcs 23 _ rfl w3.heap.size rfl 23 _ Hq4.out _ Tryd.underlying23 (sizeC _)) ?_); exact rfl)
  | ((with_reducible refine wpg_val ?_ _ (exec_ldcs 23 _ rfl w.heap.size rfl 23 _ Hb4.out _ Tryd.underlying23 (sizeC _)) ?_); exact rfl)
  | ((with_reducible refine wpg_val ?_ _ (exec_neC _ _ _ rfl (cutH F) h rfl rfl (cutH_ok hFl) ok _ hpe2) ?_); exact rfl))
 by_cases h16 : n < 16
 ·go_wp2_with fail
  refine (parse_short n f h16 _).mono ?_
  rintro e w5 ⟨rfl, hB5⟩
  have Hg5 := hid (Hg4.out.below hB5)
  have HB5 := hid (HB4.out.trans (hB5.mono HB4.out.size))
  clear hB5 Hg4 HB4
  have hn6 := Blk.fresh w5 23 noHd
  have hB6 := below_setRow' ((Below.refl w5.heap.size w5).alloc (Nat.le_refl _) (.cells noHd 23)) (Nat.le_refl _) noHd
  have Hq6 := hid (hn6.setRow noHd)
  have Hn6 := hid hn6
  clear hn6
  have Hg6 := hid (Hg5.out.below hB6)
  have HB6 := hid (HB5.out.trans (hB6.mono HB5.out.size))
  clear hB6 Hg5 HB5
  go_wp2_with (first
   | (with_reducible refine wpl_alloc rfl 23 rfl _ zHead ?_)
   | (with_reducible refine wpl_storeH rfl 23 _ _ rfl w5.heap.size noHd rfl rfl 23 _ Hn6.out sizeN rfl oneNo ?_))
  go_ret
  exact ⟨rfl, HB6.out⟩
 have h16n : 16 ≤ n := by omega
 go_wp2_with fail
 refine (parse_any n f hf h16n (by omega) _ Hg4.out).mono ?_
 rintro e w5 ⟨hB5, ho⟩
 rcases ho with ⟨hz, rfl⟩ | ⟨hz, g, hgl, rfl, hbF⟩
 rotate_left
 ·clear hbF
  have Hg5 := hid (Hg4.out.below hB5)
  have HB5 := hid (HB4.out.trans (hB5.mono HB4.out.size))
  clear hB5 Hg4 HB4
  have hn6 := Blk.fresh w5 23 noHd
  have hB6 := below_setRow' ((Below.refl w5.heap.size w5).alloc (Nat.le_refl _) (.cells noHd 23)) (Nat.le_refl _) noHd
  have Hq6 := hid (hn6.setRow noHd)
  have Hn6 := hid hn6
  clear hn6
  have Hg6 := hid (Hg5.out.below hB6)
  have HB6 := hid (HB5.out.trans (hB6.mono HB5.out.size))
  clear hB6 Hg5 HB5
  go_wp2_with (first
   | (with_reducible refine wpl_alloc rfl 23 rfl _ zHead ?_)
   | (with_reducible refine wpl_storeH rfl 23 _ _ rfl w5.heap.size noHd rfl rfl 23 _ Hn6.out sizeN rfl oneNo ?_))
  go_ret
  exact ⟨rfl, HB6.out⟩
 have Hg5 := hid (Hg4.out.below hB5)
 have HT5 := hid (HT4.out.below hB5)
 have HB5 := hid (HB4.out.trans (hB5.mono HB4.out.size))
 clear hB5 Hg4 HT4 HB4
 obtain ⟨hwc, nn, hnn1, hnn2, hlz, hpt⟩ := par_inv hz
 rw [hlz]
 have hn6 := Blk.fresh w5 23 noHd
 have hB6 := below_setRow' ((Below.refl w5.heap.size w5).alloc (Nat.le_refl _) (.cells noHd 23)) (Nat.le_refl _) (hdC (cutH f))
 have Hq6 := hid (hn6.setRow (hdC (cutH f)))
 have Hn6 := hid hn6
 clear hn6
 have Hg6 := hid (Hg5.out.below hB6)
 have HT6 := hid (HT5.out.below hB6)
 have HB6 := hid (HB5.out.trans (hB6.mono HB5.out.size))
 clear hB6 Hg5 HT5 HB5
 go_wp2_with (first
  | (with_reducible refine wpl_alloc rfl 23 rfl _ zHead ?_)
  | (with_reducible refine wpl_storeH rfl 23 _ _ rfl w5.heap.size (hdC (cutH f)) rfl rfl 23 _ Hn6.out (sizeC _) (holdNC _) (oneC _) ?_)
  | (with_reducible refine wpl_valw rfl _ (exec_ldcs 23 _ rfl w5.heap.size rfl 23 _ Hq6.out _ Tryd.underlying23 (sizeC _)) ?_))
 refine (print_ok (cutH f) (cutH_ok hf) hwc nn hnn1 hnn2 _ HT6.out).mono ?_
 rintro e w7 ⟨rfl, hB7⟩
 have Hg7 := hid (Hg6.out.below hB7)
 have Hq7 := hid (Hq6.out.below hB7 Hq6.out.lt)
 have HB7 := hid (HB6.out.trans (hB7.mono HB6.out.size))
 clear hB7 Hg6 Hq6 HB6
 go_wp2_with (first
  | ((with_reducible refine wpg_val ?_ _ (exec_cutSh 9 _ _ rfl n f _ rfl rfl 16 rfl h16n Tryd.underlying9) ?_); exact rfl)
  | ((with_reducible refine wpg_val ?_ _ (exec_eqsB 9 _ _ _ rfl 16 16 (prF (cutH f) nn) f rfl rfl (fun i _ => prF_lt (cutH_ok hf) nn i) (fun i _ => hf i) _ hpt.same) ?_); exact rfl)
  | ((with_reducible refine wpg_val ?_ _ (exec_ldcs 23 _ rfl w5.heap.size rfl 23 _ Hq7.out _ Tryd.underlying23 (sizeC _)) ?_); exact rfl))
 refine (right_any (cutH f) (cutH_ok hf) _).mono ?_
 rintro e w8 ⟨hB8, v9, rfl, ho9⟩
 rcases ho9 with ⟨-, rfl⟩ | ⟨ho9, -⟩
 rotate_left
 ·rw [hwc] at ho9
  omega
 have Hg8 := hid (Hg7.out.below hB8)
 have HB8 := hid (HB7.out.trans (hB8.mono HB7.out.size))
 clear hB8 Hg7 HB7
 go_wp2_with fail
 go_ret
 exact ⟨rfl, HB8.out⟩
end Go.Proofs.YtklgngdcihkfjaaDoor.Hd
