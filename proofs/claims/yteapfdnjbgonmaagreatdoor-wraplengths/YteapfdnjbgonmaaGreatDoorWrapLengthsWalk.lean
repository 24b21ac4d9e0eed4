/-
 WrapLengths returns true: its walk.
-/
import Derived.Test.YteapfdnjbgonmaaGreatDoorWrY
namespace Go.Proofs.YteapfdnjbgonmaaGreatDoor.Wr.Lens
open Mem Bk Md Mc Hd Dg As Wr Go.ChangeShapes Go.WideShapes Go.ChangeAt Go.RowKit
theorem bs2I (x y : Int) (w : World) : (Instr.buildSlice 50 2 #[(0, .int .i64 x), (1, .int .i64 y)]).run Tryz.prog w = .ok (.slice (some ⟨w.heap.size, 0, none⟩) 2 2) (w.alloc (.cells #[.int .i64 x, .int .i64 y] 3)) := by kernel_rfl
theorem iINT : (Tryz.prog.info? 3).map (·.size) = some 1 := by kernel_rfl
def lnC (q : Nat) : Nat := if q = 0 then 16 else 24
theorem lnC_or (q : Nat) : lnC q = 16 ∨ lnC q = 24 := by unfold lnC; split <;> simp
theorem cellC (w : World) (q : Nat) (hq : q < 2) : (w.alloc (.cells #[.int .i64 16, .int .i64 24] 3)).cell? ⟨w.heap.size, q, none⟩ = some (.int .i64 ((lnC q : Nat) : Int)) := by
 rw [(Blk.fresh w 3 _).cell]
 rcases (show q = 0 ∨ q = 1 by omega) with rfl | rfl <;> rfl
theorem kd_sz {v k : Nat} (hk : kd v = k) (h : k = 1 ∨ k = 2) : (((v : Int) == 66) = true ∧ sz k = 8) ∨ (((v : Int) == 66) = false ∧ sz k = 16) := by
 unfold kd at hk
 by_cases hv : v = 66
 ·rw [if_pos hv] at hk
  subst hk
  exact .inl ⟨by simp; omega, rfl⟩
 rw [if_neg hv] at hk
 have hk1 : k = 1 := by
  split at hk <;> omega
 subst hk1
 exact .inr ⟨by simp; omega, rfl⟩
set_option maxRecDepth 100000 in
set_option maxHeartbeats 2000000 in
set_option linter.unusedSimpArgs false in
theorem lens_true (A : Option Addr) (L c : Nat) (g : Nat → Nat) (h : Hd) (A2 : Option Addr) (L2 c2 : Nat) (g2 : Nat → Nat) (q : Nat) (w : World) (hL : Laid w ∧ Tab w) (hR : Reads w w.heap.size A L g) (hg : ∀ i, i < L → g i < 256) (ok : h.Ok) (hR2 : Reads w w.heap.size A2 L2 g2) (hg2 : ∀ i, i < L2 → g2 i < 256) (hq : q < 256) :
  Calls Tryz.prog 9 #[.slice A L c, .agg (hdC h), .slice A2 L2 c2, .int .u8 (q : Int)] w fun e w' => e = .returned (.bool true) ∧ Below w.heap.size w w' := by
 have hB0 := (Below.refl w.heap.size w).alloc (Nat.le_refl _) (.cells (hdC h) 32)
 have Hh := hid (Blk.fresh w 32 (hdC h))
 have HB := hid hB0
 have HG := hid (hL.1.below hB0)
 have HT := hid (hL.2.below hB0)
 have HR := hid ((hR.below hB0).more hB0.size)
 have HR2 := hid ((hR2.below hB0).more hB0.size)
 have Hg := hid hg
 have Hg2 := hid hg2
 have Hok := hid ok
 clear hB0 hL hR hg ok hR2 hg2
 go_enter Tryz.func9, Tryz.ntmps9
 go_wp2_with fail
 refine (awake11_any _ HG.out HT.out).mono ?_
 rintro e w1 ⟨rfl, hB1⟩
 have Hh1 := hid (Hh.out.below hB1 Hh.out.lt)
 have HG1 := hid (HG.out.below hB1)
 have HT1 := hid (HT.out.below hB1)
 have HR1 := hid ((HR.out.below hB1).more hB1.size)
 have HR21 := hid ((HR2.out.below hB1).more hB1.size)
 have HB1 := hid (HB.out.trans (hB1.mono HB.out.size))
 clear hB1 Hh HG HT HR HR2 HB
 by_cases h1 : L ≤ 100
 rotate_left
 ·have i1 : decide (100 < (L : Int)) = true := by simp; omega
  go_wp2_with fail
  refine (awake11_any _ HG1.out HT1.out).mono ?_
  rintro e w2 ⟨rfl, hB2⟩
  have HB2 := hid (HB1.out.trans (hB2.mono HB1.out.size))
  clear hB2
  go_wp2_with fail
  go_ret
  exact ⟨rfl, HB2.out⟩
 have i1 : decide (100 < (L : Int)) = false := by simp; omega
 by_cases h2 : L2 ≤ 100
 rotate_left
 ·have i2 : decide (100 < (L2 : Int)) = true := by simp; omega
  go_wp2_with fail
  refine (awake11_any _ HG1.out HT1.out).mono ?_
  rintro e w2 ⟨rfl, hB2⟩
  have HB2 := hid (HB1.out.trans (hB2.mono HB1.out.size))
  clear hB2
  go_wp2_with fail
  go_ret
  exact ⟨rfl, HB2.out⟩
 have i2 : decide (100 < (L2 : Int)) = false := by simp; omega
 have HW := hid (rwrong_any h Hok.out)
 by_cases hw : 0 ≤ wrong h
 ·have Hw := hid hw
  clear hw
  go_wp2_with (first
   | ((with_reducible refine wpg_val ?_ _ (exec_ldcs 32 _ rfl w.heap.size rfl 32 _ Hh1.out _ Tryz.underlying32 (sizeC _)) ?_); exact rfl)
   | (go_at_call 19; refine (HW.out _).mono ?_; rintro x2 w2 ⟨rfl, hB2⟩; have hw2 := Hw.out; have HG2 := hid (HG1.out.below hB2); have HT2 := hid (HT1.out.below hB2); have HB2 := hid (HB1.out.trans (hB2.mono HB1.out.size)); clear hB2))
  refine (awake11_any _ HG2.out HT2.out).mono ?_
  rintro e w3 ⟨rfl, hB3⟩
  have HB3 := hid (HB2.out.trans (hB3.mono HB2.out.size))
  clear hB3
  go_wp2_with fail
  go_ret
  exact ⟨rfl, HB3.out⟩
 have hwr : wrong h = -1 := (wrong_lo h).resolve_right hw
 rw [hwr] at HW
 have Hwr := hid hwr
 clear hw hwr
 obtain ⟨qa, hqa⟩ : ∃ a : Nat, a = q % 2 := ⟨_, rfl⟩
 have ha3 : qa < 2 := by omega
 have ea : (q : Int) % 2 = (qa : Int) := by omega
 have h3i := bs2I
 clear hqa
 go_wp2_with (first
  | ((with_reducible refine wpg_val ?_ _ (exec_ldcs 32 _ rfl w.heap.size rfl 32 _ Hh1.out _ Tryz.underlying32 (sizeC _)) ?_); exact rfl)
  | (go_at_call 19; refine (HW.out _).mono ?_; rintro x2 w2 ⟨rfl, hB2⟩; have Hh2 := hid (Hh1.out.below hB2 Hh1.out.lt); have HT2 := hid (HT1.out.below hB2); have HR2 := hid ((HR1.out.below hB2).more hB2.size); have HR22 := hid ((HR21.out.below hB2).more hB2.size); have HB2 := hid (HB1.out.trans (hB2.mono HB1.out.size)); clear hB2 Hh1 HG1 HT1 HR1 HR21 HB1)
  | (with_reducible refine wpl_slb rfl 50 _ _ rfl w2.heap.size 2 2 rfl .u8 _ rfl qa rfl 3 Tryz.underlying50 ha3 iINT ?_)
  | (with_reducible refine wpl_ld rfl 3 _ rfl ⟨w2.heap.size, qa, none⟩ rfl .i64 Tryz.underlying3 _ (cellC w2 qa ha3) ?_))
 have hB3 := (Below.refl w2.heap.size w2).alloc (Nat.le_refl _) (.cells #[.int .i64 16, .int .i64 24] 3)
 have Hh3 := hid (Hh2.out.below hB3 Hh2.out.lt)
 have HT3 := hid (HT2.out.below hB3)
 have HR3 := hid ((HR2.out.below hB3).more hB3.size)
 have HR23 := hid ((HR22.out.below hB3).more hB3.size)
 have HB3 := hid (HB2.out.trans (hB3.mono HB2.out.size))
 clear Hh2 HT2 HR2 HR22 HB2 hB3
 generalize w2.alloc (.cells #[.int .i64 16, .int .i64 24] 3) = w3 at *
 have hl2 := lnC_or qa
 generalize lnC qa = l2 at *
 refine (some_any A2 L2 c2 l2 g2 _ (by omega) (by omega) HR23.out).mono ?_
 rintro e w4 ⟨v4, rfl, ho4, hB4⟩
 obtain ⟨gb, cb, rfl, -⟩ := own_at ho4 (by omega)
 have HK4 := hid ho4.reads
 have Hh4 := hid (Hh3.out.below hB4 Hh3.out.lt)
 have HT4 := hid (HT3.out.below hB4)
 have HR4 := hid ((HR3.out.below hB4).more hB4.size)
 have HB4 := hid (HB3.out.trans (hB4.mono HB3.out.size))
 clear Hh3 HT3 HR3 HB3 hB4
 clear ho4 HR23
 obtain ⟨k, hk⟩ : ∃ k, kd h.v = k := ⟨_, rfl⟩
 have hkk := wrong_kd Hwr.out
 rw [hk] at hkk
 have hso := sz_or k
 have hfl := fill_lt (n := l2) hso
 have HF := hid (fillZ_of (n := l2) hk hkk)
 obtain ⟨M, N, T, tx, cd, hd, d⟩ := wd_of (L := 16) (W := smF L g) (L2 := l2) (key := smF L2 g2) (fl := smF 0 (fun _ => 0)) Hwr.out Hok.out hk (.inl rfl) (fun i _ => smF_lt Hg.out i) (by unfold kfit; omega) rfl (fun i _ => smF_lt Hg2.out i) (fun i _ => smF_lt (fun i hi => by omega) i)
 have HD := hid d
 have hsz := d.sizes
 have heM := d.eM
 have heT := d.eT
 have hM8 : M % sz k = 0 := by rw [d.eN, Nat.mul_mod_left]
 have hcase := kd_sz hk hkk
 have hsT : (strF T (bkF M T h hd cd)).size = T := strF_size _ _
 have hhd16 := hid (show sameS 16 (bkF M T h hd cd) 16 (prF h T) = true by unfold sameS; rw [eqB_true fun i hi => d.head hi]; rfl)
 have HpT := hid (fun i (hi : i < 16) => prF_lt (h := h) Hok.out T i hi)
 clear d hkk hk ea h3i
 generalize fill (sz k) l2 = lf at *
 rcases hcase with ⟨hc66, hS⟩ | ⟨hc66, hS⟩
 ·rw [hS] at hM8 hfl heT
  have ev : 16 + 2 * (2 + (l2 : Int) + (lf : Int)) + 16 = (T : Int) := by omega
  have er : (2 + (l2 : Int) + (lf : Int)) % 8 = 0 := by omega
  have e0 : decide ((lf : Int) < 0) = false := by simp
  have e1 : decide (8 ≤ (lf : Int)) = false := by simp; omega
  have hT1 : 16 ≤ T := by omega
  have hT2 : T ≤ 9999 := by omega
  have hl6 : lf ≤ 1000 := by omega
  have hcv : w4.cell? ⟨w.heap.size, 0, none⟩ = some (.int .u8 (h.v : Int)) := (Hh4.out.cell 0).trans rfl
  have Hv := hid hcv
  clear hcv heM heT hM8 hsz hS hfl hso
  go_wp2_with (first
   | (with_reducible refine wpl_valw rfl _ (exec_ldcs 32 _ rfl w.heap.size rfl 32 _ Hh4.out _ Tryz.underlying32 (sizeC _)) ?_)
   | (go_at_call 13; refine (fill_any h (l2 : Int) _).mono ?_; rintro x5 w5 ⟨rfl, hB5⟩; rw [HF.out]; have hv5 : w5.cell? ⟨w.heap.size, 0, none⟩ = some (.int .u8 (h.v : Int)) := (hB5.cell (p := ⟨w.heap.size, 0, none⟩) Hh4.out.lt).trans Hv.out; have Hh5 := hid (Hh4.out.below hB5 Hh4.out.lt); have HT5 := hid (HT4.out.below hB5); have HR5 := hid ((HR4.out.below hB5).more hB5.size); have HK5 := hid ((HK4.out.below hB5).more hB5.size); have HB5 := hid (HB4.out.trans (hB5.mono HB4.out.size)); clear Hh4 HT4 HR4 HK4 HB4 hB5)
   | (with_reducible refine wpl_valw rfl _ (exec_ldc 5 _ rfl ⟨w.heap.size, 0, none⟩ rfl _ hv5 (.inl ⟨_, Tryz.underlying5⟩)) ?_))
  clear hv5
  refine wp_region_held_drew (S := fun W => Below w5.heap.size w5 W) (by kernel_rfl) (Below.refl _ _).drew (fun hS0 => ?_)
  refine ztk (i := 0) (v := .slice A L c) rfl (fun _ _ => exec_move _ rfl _ rfl) hS0 ?_
  (try simp only [Act.put,zza,zzb,zzc,zzd,zze,zzf])
  refine ztk (i := 2) (v := .agg (hdC h)) rfl (fun W hW => exec_ldcs 32 _ rfl w.heap.size rfl 32 _ (Hh5.out.below hW Hh5.out.lt) _ Tryz.underlying32 (sizeC _)) hS0 ?_
  (try simp only [Act.put,zza,zzb,zzc,zzd,zze,zzf])
  refine ztk (i := 3) (v := .slice (some ⟨gb, 0, none⟩) l2 cb) rfl (fun _ _ => exec_move _ rfl _ rfl) hS0 ?_
  (try simp only [Act.put,zza,zzb,zzc,zzd,zze,zzf])
  refine ztk (i := 4) (v := .int .i64 (lf : Int)) rfl (fun _ _ => exec_move _ rfl _ rfl) hS0 ?_
  (try simp only [Act.put,zza,zzb,zzc,zzd,zze,zzf])
  refine wpAnyH_ready (rs := [1]) (by kernel_rfl) (by simp) (AllReadyH.cons rfl (fun K hK => ?_) AllReadyH.nil)
  (try simp only [Act.put,zza,zzb,zzc,zzd,zze,zzf])
  refine Eq.mpr (if_pos (by rfl)) ?_
  go_simp
  refine (some_any A L c 16 g _ (by omega) (by omega) ((HR5.out.below hS0).more (hS0).size)).mono ?_
  rintro e wq1 ⟨v6, rfl, ho6, hB6⟩
  obtain ⟨ga, ca, rfl, -⟩ := own_at ho6 (by omega)
  refine hK.out _ _ (hS0.trans (hB6.mono hS0.size)) (fun hS1 => ?_)
  (try simp only [Act.put,zza,zzb,zzc,zzd,zze,zzf])
  clear hK K
  refine wpAnyH_ready (rs := [5]) (by kernel_rfl) (by simp) (AllReadyH.cons rfl (fun K hK => ?_) AllReadyH.nil)
  (try simp only [Act.put,zza,zzb,zzc,zzd,zze,zzf])
  refine Eq.mpr (if_pos (by rfl)) ?_
  go_simp
  refine (some_any none 0 0 lf (fun _ => 0) _ (by omega) hl6 (fun h => absurd h (by omega))).mono ?_
  rintro e wq2 ⟨v7, rfl, ho7, hB7⟩
  obtain ⟨A7, c7, rfl, -⟩ := ho7.slice'
  have hR6 := (ho6.reads.below hB7).more hB7.size
  refine hK.out _ _ (hS1.trans (hB7.mono hS1.size)) (fun hS2 => ?_)
  (try simp only [Act.put,zza,zzb,zzc,zzd,zze,zzf])
  clear hK K
  refine wpAnyH_ready (rs := [6]) (by kernel_rfl) (by simp) (AllReadyH.cons rfl (fun K hK => ?_) AllReadyH.nil)
  (try simp only [Act.put,zza,zzb,zzc,zzd,zze,zzf])
  refine Eq.mpr (if_pos (by rfl)) ?_
  go_simp
  refine (HD.out.wrap (some ⟨ga, 0, none⟩) (some ⟨gb, 0, none⟩) A7 ca cb c7 (fun h => by cases h) _ hR6 ((HK5.out.below hS2).more (hS2).size) ho7.reads (HT5.out.below hS2)).mono ?_
  rintro e wq3 ⟨hB8, rfl⟩
  refine hK.out _ _ (hS2.trans (hB8.mono hS2.size)) (fun hS3 => ?_)
  (try simp only [Act.put,zza,zzb,zzc,zzd,zze,zzf])
  clear hK K
  refine ztk (i := 7) (v := .tuple #[.string (strF T (bkF M T h hd cd)), .nilIface]) rfl (fun _ _ => exec_move _ rfl _ rfl) hS3 ?_
  (try simp only [Act.put,zza,zzb,zzc,zzd,zze,zzf])
  refine ztk (i := 8) (v := .string (strF T (bkF M T h hd cd))) rfl (fun _ _ => exec_extract _ 0 rfl _ rfl _ rfl) hS3 ?_
  (try simp only [Act.put,zza,zzb,zzc,zzd,zze,zzf])
  refine ztk (i := 9) (v := .nilIface) rfl (fun _ _ => exec_extract _ 1 rfl _ rfl _ rfl) hS3 ?_
  (try simp only [Act.put,zza,zzb,zzc,zzd,zze,zzf])
  refine ztk (i := 10) (v := .string (strF T (bkF M T h hd cd))) rfl (fun _ _ => exec_assign _ rfl _ rfl) hS3 ?_
  (try simp only [Act.put,zza,zzb,zzc,zzd,zze,zzf])
  refine ztk (i := 11) (v := .nilIface) rfl (fun _ _ => exec_assign _ rfl _ rfl) hS3 ?_
  (try simp only [Act.put,zza,zzb,zzc,zzd,zze,zzf])
  refine wpAnyH_done (by kernel_rfl) ?_ _
  have Hh8 := hid (Hh5.out.below hS3 Hh5.out.lt)
  have HB8 := hid (HB5.out.trans (hS3.mono HB5.out.size))
  clear hS0 hS1 hS2 hS3 hB6 hB7 hB8 hR6 ho6 ho7 Hh5 HT5 HR5 HK5 HB5
  go_wp2_with fail
  generalize wq3 = w8 at *
  refine wp_region_held_drew (S := fun W => Below w8.heap.size w8 W) (by kernel_rfl) (Below.refl _ _).drew (fun hS0z => ?_)
  refine ztk (i := 0) (v := .string (strF T (bkF M T h hd cd))) rfl (fun _ _ => exec_move _ rfl _ rfl) hS0z ?_
  (try simp only [Act.put,zza,zzb,zzc,zzd,zze,zzf])
  refine ztk (i := 1) (v := .int .i64 (T : Int)) rfl (fun W _ => by go_simp) hS0z ?_
  (try simp only [Act.put,zza,zzb,zzc,zzd,zze,zzf])
  refine ztk (i := 2) (v := .int .i64 (T : Int)) rfl (fun _ _ => exec_move _ rfl _ rfl) hS0z ?_
  (try simp only [Act.put,zza,zzb,zzc,zzd,zze,zzf])
  refine ztk (i := 3) (v := .bool true) rfl (fun W _ => by go_simp) hS0z ?_
  (try simp only [Act.put,zza,zzb,zzc,zzd,zze,zzf])
  refine ztk (i := 4) (v := .bool true) rfl (fun _ _ => exec_move _ rfl _ rfl) hS0z ?_
  (try simp only [Act.put,zza,zzb,zzc,zzd,zze,zzf])
  refine ztk (i := 5) (v := .string (strF T (bkF M T h hd cd))) rfl (fun _ _ => exec_move _ rfl _ rfl) hS0z ?_
  (try simp only [Act.put,zza,zzb,zzc,zzd,zze,zzf])
  refine ztk (i := 6) (v := .string (strF 16 (bkF M T h hd cd))) rfl (fun _ _ => exec_cutSh 9 _ _ rfl T (bkF M T h hd cd) 16 rfl rfl 16 rfl hT1 Tryz.underlying9) hS0z ?_
  (try simp only [Act.put,zza,zzb,zzc,zzd,zze,zzf])
  refine ztk (i := 7) (v := .agg (hdC h)) rfl (fun W hW => exec_ldcs 32 _ rfl w.heap.size rfl 32 _ (Hh8.out.below hW Hh8.out.lt) _ Tryz.underlying32 (sizeC _)) hS0z ?_
  (try simp only [Act.put,zza,zzb,zzc,zzd,zze,zzf])
  refine ztk (i := 8) (v := .int .i64 (T : Int)) rfl (fun _ _ => exec_move _ rfl _ rfl) hS0z ?_
  (try simp only [Act.put,zza,zzb,zzc,zzd,zze,zzf])
  refine wpAnyH_ready (rs := [9]) (by kernel_rfl) (by simp) (AllReadyH.cons rfl (fun K hK => ?_) AllReadyH.nil)
  (try simp only [Act.put,zza,zzb,zzc,zzd,zze,zzf])
  refine Eq.mpr (if_pos (by rfl)) ?_
  go_simp
  refine (rprint_ok h Hok.out Hwr.out T hT1 hT2 _).mono ?_
  rintro e wq1z ⟨rfl, hB9⟩
  refine hK.out _ _ (hS0z.trans (hB9.mono hS0z.size)) (fun hS1z => ?_)
  (try simp only [Act.put,zza,zzb,zzc,zzd,zze,zzf])
  clear hK K
  refine ztk (i := 10) (v := .bool true) rfl (fun W _ => exec_eqsB 9 _ _ _ rfl 16 16 (bkF M T h hd cd) (prF h T) rfl rfl (fun i _ => bkF_lt i) HpT.out _ hhd16.out) hS1z ?_
  (try simp only [Act.put,zza,zzb,zzc,zzd,zze,zzf])
  refine ztk (i := 11) (v := .bool true) rfl (fun W _ => by go_simp) hS1z ?_
  (try simp only [Act.put,zza,zzb,zzc,zzd,zze,zzf])
  refine ztk (i := 12) (v := .bool true) rfl (fun _ _ => exec_assign _ rfl _ rfl) hS1z ?_
  (try simp only [Act.put,zza,zzb,zzc,zzd,zze,zzf])
  refine wpAnyH_done (by kernel_rfl) ?_ _
  go_wp2_with fail
  go_ret
  exact ⟨rfl, HB8.out.trans (hS1z.mono HB8.out.size)⟩
 rw [hS] at hM8 hfl heT
 have ev : 16 + 2 * (2 + (l2 : Int) + (lf : Int)) + 32 = (T : Int) := by omega
 have er : (2 + (l2 : Int) + (lf : Int)) % 16 = 0 := by omega
 have e0 : decide ((lf : Int) < 0) = false := by simp
 have e1 : decide (16 ≤ (lf : Int)) = false := by simp; omega
 have hT1 : 16 ≤ T := by omega
 have hT2 : T ≤ 9999 := by omega
 have hl6 : lf ≤ 1000 := by omega
 have hcv : w4.cell? ⟨w.heap.size, 0, none⟩ = some (.int .u8 (h.v : Int)) := (Hh4.out.cell 0).trans rfl
 have Hv := hid hcv
 clear hcv heM heT hM8 hsz hS hfl hso
 go_wp2_with (first
  | (with_reducible refine wpl_valw rfl _ (exec_ldcs 32 _ rfl w.heap.size rfl 32 _ Hh4.out _ Tryz.underlying32 (sizeC _)) ?_)
  | (go_at_call 13; refine (fill_any h (l2 : Int) _).mono ?_; rintro x5 w5 ⟨rfl, hB5⟩; rw [HF.out]; have hv5 : w5.cell? ⟨w.heap.size, 0, none⟩ = some (.int .u8 (h.v : Int)) := (hB5.cell (p := ⟨w.heap.size, 0, none⟩) Hh4.out.lt).trans Hv.out; have Hh5 := hid (Hh4.out.below hB5 Hh4.out.lt); have HT5 := hid (HT4.out.below hB5); have HR5 := hid ((HR4.out.below hB5).more hB5.size); have HK5 := hid ((HK4.out.below hB5).more hB5.size); have HB5 := hid (HB4.out.trans (hB5.mono HB4.out.size)); clear Hh4 HT4 HR4 HK4 HB4 hB5)
  | (with_reducible refine wpl_valw rfl _ (exec_ldc 5 _ rfl ⟨w.heap.size, 0, none⟩ rfl _ hv5 (.inl ⟨_, Tryz.underlying5⟩)) ?_))
 clear hv5
 refine wp_region_held_drew (S := fun W => Below w5.heap.size w5 W) (by kernel_rfl) (Below.refl _ _).drew (fun hS0 => ?_)
 refine ztk (i := 0) (v := .slice A L c) rfl (fun _ _ => exec_move _ rfl _ rfl) hS0 ?_
 (try simp only [Act.put,zza,zzb,zzc,zzd,zze,zzf])
 refine ztk (i := 2) (v := .agg (hdC h)) rfl (fun W hW => exec_ldcs 32 _ rfl w.heap.size rfl 32 _ (Hh5.out.below hW Hh5.out.lt) _ Tryz.underlying32 (sizeC _)) hS0 ?_
 (try simp only [Act.put,zza,zzb,zzc,zzd,zze,zzf])
 refine ztk (i := 3) (v := .slice (some ⟨gb, 0, none⟩) l2 cb) rfl (fun _ _ => exec_move _ rfl _ rfl) hS0 ?_
 (try simp only [Act.put,zza,zzb,zzc,zzd,zze,zzf])
 refine ztk (i := 4) (v := .int .i64 (lf : Int)) rfl (fun _ _ => exec_move _ rfl _ rfl) hS0 ?_
 (try simp only [Act.put,zza,zzb,zzc,zzd,zze,zzf])
 refine wpAnyH_ready (rs := [1]) (by kernel_rfl) (by simp) (AllReadyH.cons rfl (fun K hK => ?_) AllReadyH.nil)
 (try simp only [Act.put,zza,zzb,zzc,zzd,zze,zzf])
 refine Eq.mpr (if_pos (by rfl)) ?_
 go_simp
 refine (some_any A L c 16 g _ (by omega) (by omega) ((HR5.out.below hS0).more (hS0).size)).mono ?_
 rintro e wq1 ⟨v6, rfl, ho6, hB6⟩
 obtain ⟨ga, ca, rfl, -⟩ := own_at ho6 (by omega)
 refine hK.out _ _ (hS0.trans (hB6.mono hS0.size)) (fun hS1 => ?_)
 (try simp only [Act.put,zza,zzb,zzc,zzd,zze,zzf])
 clear hK K
 refine wpAnyH_ready (rs := [5]) (by kernel_rfl) (by simp) (AllReadyH.cons rfl (fun K hK => ?_) AllReadyH.nil)
 (try simp only [Act.put,zza,zzb,zzc,zzd,zze,zzf])
 refine Eq.mpr (if_pos (by rfl)) ?_
 go_simp
 refine (some_any none 0 0 lf (fun _ => 0) _ (by omega) hl6 (fun h => absurd h (by omega))).mono ?_
 rintro e wq2 ⟨v7, rfl, ho7, hB7⟩
 obtain ⟨A7, c7, rfl, -⟩ := ho7.slice'
 have hR6 := (ho6.reads.below hB7).more hB7.size
 refine hK.out _ _ (hS1.trans (hB7.mono hS1.size)) (fun hS2 => ?_)
 (try simp only [Act.put,zza,zzb,zzc,zzd,zze,zzf])
 clear hK K
 refine wpAnyH_ready (rs := [6]) (by kernel_rfl) (by simp) (AllReadyH.cons rfl (fun K hK => ?_) AllReadyH.nil)
 (try simp only [Act.put,zza,zzb,zzc,zzd,zze,zzf])
 refine Eq.mpr (if_pos (by rfl)) ?_
 go_simp
 refine (HD.out.wrap (some ⟨ga, 0, none⟩) (some ⟨gb, 0, none⟩) A7 ca cb c7 (fun h => by cases h) _ hR6 ((HK5.out.below hS2).more (hS2).size) ho7.reads (HT5.out.below hS2)).mono ?_
 rintro e wq3 ⟨hB8, rfl⟩
 refine hK.out _ _ (hS2.trans (hB8.mono hS2.size)) (fun hS3 => ?_)
 (try simp only [Act.put,zza,zzb,zzc,zzd,zze,zzf])
 clear hK K
 refine ztk (i := 7) (v := .tuple #[.string (strF T (bkF M T h hd cd)), .nilIface]) rfl (fun _ _ => exec_move _ rfl _ rfl) hS3 ?_
 (try simp only [Act.put,zza,zzb,zzc,zzd,zze,zzf])
 refine ztk (i := 8) (v := .string (strF T (bkF M T h hd cd))) rfl (fun _ _ => exec_extract _ 0 rfl _ rfl _ rfl) hS3 ?_
 (try simp only [Act.put,zza,zzb,zzc,zzd,zze,zzf])
 refine ztk (i := 9) (v := .nilIface) rfl (fun _ _ => exec_extract _ 1 rfl _ rfl _ rfl) hS3 ?_
 (try simp only [Act.put,zza,zzb,zzc,zzd,zze,zzf])
 refine ztk (i := 10) (v := .string (strF T (bkF M T h hd cd))) rfl (fun _ _ => exec_assign _ rfl _ rfl) hS3 ?_
 (try simp only [Act.put,zza,zzb,zzc,zzd,zze,zzf])
 refine ztk (i := 11) (v := .nilIface) rfl (fun _ _ => exec_assign _ rfl _ rfl) hS3 ?_
 (try simp only [Act.put,zza,zzb,zzc,zzd,zze,zzf])
 refine wpAnyH_done (by kernel_rfl) ?_ _
 have Hh8 := hid (Hh5.out.below hS3 Hh5.out.lt)
 have HB8 := hid (HB5.out.trans (hS3.mono HB5.out.size))
 clear hS0 hS1 hS2 hS3 hB6 hB7 hB8 hR6 ho6 ho7 Hh5 HT5 HR5 HK5 HB5
 go_wp2_with fail
 generalize wq3 = w8 at *
 refine wp_region_held_drew (S := fun W => Below w8.heap.size w8 W) (by kernel_rfl) (Below.refl _ _).drew (fun hS0z => ?_)
 refine ztk (i := 0) (v := .string (strF T (bkF M T h hd cd))) rfl (fun _ _ => exec_move _ rfl _ rfl) hS0z ?_
 (try simp only [Act.put,zza,zzb,zzc,zzd,zze,zzf])
 refine ztk (i := 1) (v := .int .i64 (T : Int)) rfl (fun W _ => by go_simp) hS0z ?_
 (try simp only [Act.put,zza,zzb,zzc,zzd,zze,zzf])
 refine ztk (i := 2) (v := .int .i64 (T : Int)) rfl (fun _ _ => exec_move _ rfl _ rfl) hS0z ?_
 (try simp only [Act.put,zza,zzb,zzc,zzd,zze,zzf])
 refine ztk (i := 3) (v := .bool true) rfl (fun W _ => by go_simp) hS0z ?_
 (try simp only [Act.put,zza,zzb,zzc,zzd,zze,zzf])
 refine ztk (i := 4) (v := .bool true) rfl (fun _ _ => exec_move _ rfl _ rfl) hS0z ?_
 (try simp only [Act.put,zza,zzb,zzc,zzd,zze,zzf])
 refine ztk (i := 5) (v := .string (strF T (bkF M T h hd cd))) rfl (fun _ _ => exec_move _ rfl _ rfl) hS0z ?_
 (try simp only [Act.put,zza,zzb,zzc,zzd,zze,zzf])
 refine ztk (i := 6) (v := .string (strF 16 (bkF M T h hd cd))) rfl (fun _ _ => exec_cutSh 9 _ _ rfl T (bkF M T h hd cd) 16 rfl rfl 16 rfl hT1 Tryz.underlying9) hS0z ?_
 (try simp only [Act.put,zza,zzb,zzc,zzd,zze,zzf])
 refine ztk (i := 7) (v := .agg (hdC h)) rfl (fun W hW => exec_ldcs 32 _ rfl w.heap.size rfl 32 _ (Hh8.out.below hW Hh8.out.lt) _ Tryz.underlying32 (sizeC _)) hS0z ?_
 (try simp only [Act.put,zza,zzb,zzc,zzd,zze,zzf])
 refine ztk (i := 8) (v := .int .i64 (T : Int)) rfl (fun _ _ => exec_move _ rfl _ rfl) hS0z ?_
 (try simp only [Act.put,zza,zzb,zzc,zzd,zze,zzf])
 refine wpAnyH_ready (rs := [9]) (by kernel_rfl) (by simp) (AllReadyH.cons rfl (fun K hK => ?_) AllReadyH.nil)
 (try simp only [Act.put,zza,zzb,zzc,zzd,zze,zzf])
 refine Eq.mpr (if_pos (by rfl)) ?_
 go_simp
 refine (rprint_ok h Hok.out Hwr.out T hT1 hT2 _).mono ?_
 rintro e wq1z ⟨rfl, hB9⟩
 refine hK.out _ _ (hS0z.trans (hB9.mono hS0z.size)) (fun hS1z => ?_)
 (try simp only [Act.put,zza,zzb,zzc,zzd,zze,zzf])
 clear hK K
 refine ztk (i := 10) (v := .bool true) rfl (fun W _ => exec_eqsB 9 _ _ _ rfl 16 16 (bkF M T h hd cd) (prF h T) rfl rfl (fun i _ => bkF_lt i) HpT.out _ hhd16.out) hS1z ?_
 (try simp only [Act.put,zza,zzb,zzc,zzd,zze,zzf])
 refine ztk (i := 11) (v := .bool true) rfl (fun W _ => by go_simp) hS1z ?_
 (try simp only [Act.put,zza,zzb,zzc,zzd,zze,zzf])
 refine ztk (i := 12) (v := .bool true) rfl (fun _ _ => exec_assign _ rfl _ rfl) hS1z ?_
 (try simp only [Act.put,zza,zzb,zzc,zzd,zze,zzf])
 refine wpAnyH_done (by kernel_rfl) ?_ _
 go_wp2_with fail
 go_ret
 exact ⟨rfl, HB8.out.trans (hS1z.mono HB8.out.size)⟩
end Go.Proofs.YteapfdnjbgonmaaGreatDoor.Wr.Lens
