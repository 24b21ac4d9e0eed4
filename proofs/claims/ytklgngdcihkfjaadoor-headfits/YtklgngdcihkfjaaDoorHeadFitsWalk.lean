/-
 HeadFits returns true: its walk.
-/
import Derived.Test.YtklgngdcihkfjaaDoorLaw10
namespace Go.Proofs.YtklgngdcihkfjaaDoor.Hd
open Mem As Go.ChangeShapes Go.WideShapes Go.ChangeAt Go.RowKit
set_option maxRecDepth 100000 in
set_option maxHeartbeats 1000000 in
theorem fits_true (h : Hd) (s : ByteArray) (c : Nat) (w : World) (hg : Laid w ∧ Tab w) (ok : h.Ok) (_ : c < 256) : Calls Tryd.prog 6 #[.agg (hdC h), .string s, .int .u8 (c : Int)] w fun e w' => e = .returned (.bool true) ∧ Below w.heap.size w w' := by
 obtain ⟨n, u, hu, rfl⟩ : ∃ n f, (∀ i, f i < 256) ∧ s = strF n f := by
  obtain ⟨f, h1, h2⟩ := strF_of s
  exact ⟨_, f, h1, h2⟩
 have hB0 : Below w.heap.size w (w.alloc (.cells (hdC h) 23)) := (Below.refl _ _).alloc (Nat.le_refl _) _
 have hb0 := Blk.fresh w 23 (hdC h)
 have HB0 := hid hB0
 have Hb0 := hid hb0
 have Hg0 := hid (hg.1.below hB0)
 have HT0 := hid (hg.2.below hB0)
 clear hB0 hb0 hg
 go_enter Tryd.func6, Tryd.ntmps6
 go_wp2_with (first
  | (with_reducible refine wpl_valw rfl _ (exec_ldcs 23 _ rfl w.heap.size rfl 23 _ Hb0.out _ Tryd.underlying23 (sizeC _)) ?_))
 refine (fits_any h ok n u hu c _).mono ?_
 rintro e w1 ⟨hB1, ho⟩
 have Ho := hid ho
 clear ho
 have Hb1 := hid (Hb0.out.below hB1 Hb0.out.lt)
 have Hg1 := hid (Hg0.out.below hB1)
 have HT1 := hid (HT0.out.below hB1)
 have HB1 := hid (HB0.out.trans (hB1.mono HB0.out.size))
 clear hB1 Hb0 Hg0 HT0 HB0
 cases hs : sameS h.n h.f n u
 ·have hz : fitsZ h n u c = 5 := by simp [fitsZ, hs]
  have hs2 : (!sameS h.n h.f n u) = true := by rw [hs]; rfl
  rcases Ho.out with ⟨hz2, -⟩ | ⟨-, g, hg2, rfl, hbF⟩
  ·rw [hz] at hz2
   omega
  rw [hz] at hbF
  have HF1 := hid hbF
  clear hbF Ho
  go_wp2_with fail
  refine (awake10_any _ Hg1.out HT1.out).mono ?_
  rintro e w2 ⟨rfl, hB2⟩
  have Hb2 := hid (Hb1.out.below hB2 Hb1.out.lt)
  have Hg2 := hid (Hg1.out.below hB2)
  have HT2 := hid (HT1.out.below hB2)
  have HF2 := hid (HF1.out.below hB2 HF1.out.lt)
  have HB2 := hid (HB1.out.trans (hB2.mono HB1.out.size))
  clear hB2 Hb1 Hg1 HT1 HF1 HB1
  have hc1 : w2.cell? ⟨w.heap.size, 1, none⟩ = some (.string (strF h.n h.f)) := Hb2.out.cell 1
  have hc3 : w2.cell? ⟨w.heap.size, 3, none⟩ = some (.int .u8 (h.k : Int)) := Hb2.out.cell 3
  go_wp2_with (first
   | (with_reducible refine wpl_valw rfl _ (exec_ldc 9 _ rfl ⟨w.heap.size, 1, none⟩ rfl _ hc1 (.inr Tryd.underlying9)) ?_)
   | (with_reducible refine wpl_valw rfl _ (exec_nesB 9 _ _ _ rfl h.n n h.f u rfl rfl (fun i _ => ok.f i) (fun i _ => hu i) _ hs2) ?_))
  refine (code_fault 5 _ _ Hg2.out (HF2.out.cell 1)).mono ?_
  rintro e w3 ⟨rfl, hB3⟩
  have Hg3 := hid (Hg2.out.below hB3)
  have HF3 := hid (HF2.out.below hB3 HF2.out.lt)
  have HB3 := hid (HB2.out.trans (hB3.mono HB2.out.size))
  clear hB3 Hg2 HF2 HB2
  go_wp2_with fail
  refine (at_fault _ _ _ _ Hg3.out HF3.out).mono ?_
  rintro e w4 ⟨rfl, hB4⟩
  have HF4 := hid (HF3.out.below hB4 HF3.out.lt)
  have HB4 := hid (HB3.out.trans (hB4.mono HB3.out.size))
  clear hB4 HF3 HB3
  go_wp2_with fail
  go_ret
  exact ⟨rfl, HB4.out⟩
 have hs2 : (!sameS h.n h.f n u) = false := by rw [hs]; rfl
 by_cases hk : h.k ≠ c ∧ h.k ≠ 78
 ·have hz : fitsZ h n u c = 8 := by simp [fitsZ, hs, hk]
  rcases Ho.out with ⟨hz2, -⟩ | ⟨-, g, hg2, rfl, hbF⟩
  ·rw [hz] at hz2
   omega
  rw [hz] at hbF
  have HF1 := hid hbF
  clear hbF Ho
  go_wp2_with fail
  refine (awake10_any _ Hg1.out HT1.out).mono ?_
  rintro e w2 ⟨rfl, hB2⟩
  have Hb2 := hid (Hb1.out.below hB2 Hb1.out.lt)
  have Hg2 := hid (Hg1.out.below hB2)
  have HT2 := hid (HT1.out.below hB2)
  have HF2 := hid (HF1.out.below hB2 HF1.out.lt)
  have HB2 := hid (HB1.out.trans (hB2.mono HB1.out.size))
  clear hB2 Hb1 Hg1 HT1 HF1 HB1
  have hc1 : w2.cell? ⟨w.heap.size, 1, none⟩ = some (.string (strF h.n h.f)) := Hb2.out.cell 1
  have hc3 : w2.cell? ⟨w.heap.size, 3, none⟩ = some (.int .u8 (h.k : Int)) := Hb2.out.cell 3
  have hI : ((h.k : Int) != (c : Int)) = true := by have := hk.1; simp; omega
  have hJ : ((h.k : Int) != 78) = true := by have := hk.2; simp; omega
  go_wp2_with (first
   | (with_reducible refine wpl_valw rfl _ (exec_ldc 9 _ rfl ⟨w.heap.size, 1, none⟩ rfl _ hc1 (.inr Tryd.underlying9)) ?_)
   | (with_reducible refine wpl_valw rfl _ (exec_ldc 5 _ rfl ⟨w.heap.size, 3, none⟩ rfl _ hc3 (.inl ⟨_, Tryd.underlying5⟩)) ?_)
   | ((with_reducible refine wpg_val ?_ _ (exec_ldc 5 _ rfl ⟨w.heap.size, 3, none⟩ rfl _ hc3 (.inl ⟨_, Tryd.underlying5⟩)) ?_); exact rfl)
   | (with_reducible refine wpl_valw rfl _ (exec_nesB 9 _ _ _ rfl h.n n h.f u rfl rfl (fun i _ => ok.f i) (fun i _ => hu i) _ hs2) ?_))
  refine (code_fault 5 _ _ Hg2.out (HF2.out.cell 1)).mono ?_
  rintro e w3 ⟨rfl, hB3⟩
  have Hg3 := hid (Hg2.out.below hB3)
  have HF3 := hid (HF2.out.below hB3 HF2.out.lt)
  have HB3 := hid (HB2.out.trans (hB3.mono HB2.out.size))
  clear hB3 Hg2 HF2 HB2
  go_wp2_with fail
  refine (at_fault _ _ _ _ Hg3.out HF3.out).mono ?_
  rintro e w4 ⟨rfl, hB4⟩
  have HF4 := hid (HF3.out.below hB4 HF3.out.lt)
  have HB4 := hid (HB3.out.trans (hB4.mono HB3.out.size))
  clear hB4 HF3 HB3
  go_wp2_with fail
  go_ret
  exact ⟨rfl, HB4.out⟩
 have hz : fitsZ h n u c = -1 := by simp only [fitsZ, hs]; rw [if_neg (by decide), if_neg hk]
 rcases Ho.out with ⟨-, rfl⟩ | ⟨hz2, -⟩
 rotate_left
 ·rw [hz] at hz2
  omega
 clear Ho
 go_wp2_with fail
 refine (awake10_any _ Hg1.out HT1.out).mono ?_
 rintro e w2 ⟨rfl, hB2⟩
 have Hb2 := hid (Hb1.out.below hB2 Hb1.out.lt)
 have Hg2 := hid (Hg1.out.below hB2)
 have HT2 := hid (HT1.out.below hB2)
 have HB2 := hid (HB1.out.trans (hB2.mono HB1.out.size))
 clear hB2 Hb1 Hg1 HT1 HB1
 have hc1 : w2.cell? ⟨w.heap.size, 1, none⟩ = some (.string (strF h.n h.f)) := Hb2.out.cell 1
 have hc3 : w2.cell? ⟨w.heap.size, 3, none⟩ = some (.int .u8 (h.k : Int)) := Hb2.out.cell 3
 by_cases hkc : h.k = c
 ·have hI : ((h.k : Int) != (c : Int)) = false := by simp [hkc]
  go_wp2_with (first
   | (with_reducible refine wpl_valw rfl _ (exec_ldc 9 _ rfl ⟨w.heap.size, 1, none⟩ rfl _ hc1 (.inr Tryd.underlying9)) ?_)
   | (with_reducible refine wpl_valw rfl _ (exec_ldc 5 _ rfl ⟨w.heap.size, 3, none⟩ rfl _ hc3 (.inl ⟨_, Tryd.underlying5⟩)) ?_)
   | ((with_reducible refine wpg_val ?_ _ (exec_ldc 5 _ rfl ⟨w.heap.size, 3, none⟩ rfl _ hc3 (.inl ⟨_, Tryd.underlying5⟩)) ?_); exact rfl)
   | (with_reducible refine wpl_valw rfl _ (exec_nesB 9 _ _ _ rfl h.n n h.f u rfl rfl (fun i _ => ok.f i) (fun i _ => hu i) _ hs2) ?_))
  go_ret
  exact ⟨rfl, HB2.out⟩
 have hI : ((h.k : Int) != (c : Int)) = true := by simp; omega
 have h78 : h.k = 78 := Classical.byContradiction fun h7 => hk ⟨hkc, h7⟩
 have hJ : ((h.k : Int) != 78) = false := by simp; omega
 go_wp2_with (first
  | (with_reducible refine wpl_valw rfl _ (exec_ldc 9 _ rfl ⟨w.heap.size, 1, none⟩ rfl _ hc1 (.inr Tryd.underlying9)) ?_)
  | (with_reducible refine wpl_valw rfl _ (exec_ldc 5 _ rfl ⟨w.heap.size, 3, none⟩ rfl _ hc3 (.inl ⟨_, Tryd.underlying5⟩)) ?_)
  | ((with_reducible refine wpg_val ?_ _ (exec_ldc 5 _ rfl ⟨w.heap.size, 3, none⟩ rfl _ hc3 (.inl ⟨_, Tryd.underlying5⟩)) ?_); exact rfl)
  | (with_reducible refine wpl_valw rfl _ (exec_nesB 9 _ _ _ rfl h.n n h.f u rfl rfl (fun i _ => ok.f i) (fun i _ => hu i) _ hs2) ?_))
 go_ret
 exact ⟨rfl, HB2.out⟩
end Go.Proofs.YtklgngdcihkfjaaDoor.Hd
