/-
 What lockboxref10's Parse returns.
-/
import Derived.Test.YtklgngdcihkfjaaDoorHd8
namespace Go.Proofs.YtklgngdcihkfjaaDoor.Hd
open Mem As Go.ChangeShapes Go.WideShapes Go.ChangeAt Go.RowKit
theorem zero_ok {f : Nat → Nat} (h : ∀ i, i < 4 → f i = 48) : zeroB f = true := by
 unfold zeroB sameS
 rw [eqB_true (fun i hi => h i hi)]
 rfl
theorem zero_bad {f : Nat → Nat} {i : Nat} (hi : i < 4) (h : f i ≠ 48) : zeroB f = false := by
 cases hz : zeroB f
 ·rfl
 unfold zeroB sameS at hz
 simp only [Bool.and_eq_true] at hz
 exact absurd (eqB_iff.1 hz.2 i hi) h
theorem wrong_v {h : Hd} (hv : verB h.v = false) : wrong h = 0 := by simp [wrong, hv]
theorem wrong_pos {h : Hd} (hv : verB h.v = true) : wrong h = -1 ∨ 0 < wrong h := by
 unfold wrong
 rw [if_neg (by rw [hv]; decide)]
 repeat' split
 all_goals omega
theorem par_v {f : Nat → Nat} (hv : verB (f 0) = false) : parZ f = 0 := by unfold parZ; rw [wrong_v hv]; simp [refZ]
theorem par_len {f : Nat → Nat} (hv : verB (f 0) = true) (hl : (lenZ fun i => f (1 + i)) < 16) : parZ f = 1 := by
 unfold parZ
 have h := wrong_pos (h := cutH f) hv
 unfold refZ
 rw [if_neg (by omega), if_pos hl]
theorem par_w {f : Nat → Nat} (hv : verB (f 0) = true) (hl : ¬ (lenZ fun i => f (1 + i)) < 16) (hw : 0 ≤ wrong (cutH f)) : parZ f = wrong (cutH f) := by
 unfold parZ
 have h := wrong_pos (h := cutH f) hv
 unfold refZ
 rw [if_neg (by omega), if_neg hl, if_pos hw]
theorem par_z {f : Nat → Nat} (hv : verB (f 0) = true) (hl : ¬ (lenZ fun i => f (1 + i)) < 16) (hw : ¬ 0 ≤ wrong (cutH f)) (i : Nat) (hi : i < 4) (hz : f (12 + i) ≠ 48) : parZ f = 12 := by
 unfold parZ
 have h := wrong_pos (h := cutH f) hv
 unfold refZ
 rw [if_neg (by omega), if_neg hl, if_neg hw, if_pos (zero_bad (f := fun i => f (12 + i)) hi hz)]
theorem par_ok {f : Nat → Nat} (hv : verB (f 0) = true) (hl : ¬ (lenZ fun i => f (1 + i)) < 16) (hw : ¬ 0 ≤ wrong (cutH f)) (hz : ∀ i, i < 4 → f (12 + i) = 48) : parZ f = -1 := by
 unfold parZ
 have h := wrong_pos (h := cutH f) hv
 unfold refZ
 rw [if_neg (by omega), if_neg hl, if_neg hw, if_neg (by rw [zero_ok (f := fun i => f (12 + i)) hz]; decide)]
def RPOut (f : Nat → Nat) (w : World) (e : Ending) (w' : World) : Prop := Below w.heap.size w w' ∧
 ((parZ f = -1 ∧ e = .returned (.tuple #[.agg (hdC (cutH f)), .int .i64 (lenZ fun i => f (1 + i)), .int .i64 (-1)])) ∨ (0 ≤ parZ f ∧ e = .returned (.tuple #[.agg noHd, .int .i64 0, .int .i64 (parZ f)])))
set_option maxRecDepth 100000 in
set_option maxHeartbeats 1000000 in
set_option linter.unusedSimpArgs false in
theorem rparse_any (n : Nat) (f : Nat → Nat) (hf : ∀ i, f i < 256) (hn : 16 ≤ n) (hn2 : n ≤ 100000) (w : World) : Calls Tryd.prog 16 #[.string (strF n f)] w (RPOut f w) := by
 have hsz := strF_size n f
 have h0 := byteAt_strF (n := n) (f := f) (k := 0) (by omega) (hf 0)
 have h7 := byteAt_strF (n := n) (f := f) (k := 7) (by omega) (hf 7)
 have h8 := byteAt_strF (n := n) (f := f) (k := 8) (by omega) (hf 8)
 have h11 := byteAt_strF (n := n) (f := f) (k := 11) (by omega) (hf 11)
 have hB0 : Below w.heap.size w (w.alloc (.cells noHd 23)) := (Below.refl _ _).alloc (Nat.le_refl _) _
 have hb0 := Blk.fresh w 23 noHd
 have HB0 := hid hB0
 have Hb0 := hid hb0
 clear hB0 hb0
 go_enter Tryd.func16, Tryd.ntmps16
 go_wp2_with (with_reducible refine wpl_alloc rfl 23 rfl _ zHead ?_)
 generalize w.alloc (.cells noHd 23) = w0 at HB0 Hb0 ⊢
 refine wp_region_held_drew (S := fun W => Below w.heap.size w W) (by kernel_rfl) HB0.out.drew (fun hS0 => ?_)
 have hbx0 : Blk w0.drew w.heap.size 23 noHd := Hb0.out
 refine ztk (i := 0) (v := .string (strF n f)) rfl (fun _ _ => exec_move _ rfl _ rfl) hS0 ?_
 (try simp only [Act.put,zza,zzb,zzc,zzd,zze,zzf])
 refine ztk (i := 1) (v := .int .u8 ((f 0 : Nat) : Int)) rfl (fun W _ => exec_str 9 _ _ rfl (strF n f) rfl .i64 _ rfl 0 rfl Tryd.underlying9 (f 0) h0) hS0 ?_
 (try simp only [Act.put,zza,zzb,zzc,zzd,zze,zzf])
 refine ztk (i := 2) (v := .string (strF n f)) rfl (fun _ _ => exec_move _ rfl _ rfl) hS0 ?_
 (try simp only [Act.put,zza,zzb,zzc,zzd,zze,zzf])
 refine ztk (i := 3) (v := .string (strF 2 fun i => f (5 + i))) rfl (fun W _ => exec_cutS 9 _ _ _ rfl n f 5 7 rfl rfl rfl 5 7 rfl rfl (by omega) (by omega) Tryd.underlying9) hS0 ?_
 (try simp only [Act.put,zza,zzb,zzc,zzd,zze,zzf])
 refine ztk (i := 4) (v := .string (strF n f)) rfl (fun _ _ => exec_move _ rfl _ rfl) hS0 ?_
 (try simp only [Act.put,zza,zzb,zzc,zzd,zze,zzf])
 refine ztk (i := 5) (v := .int .u8 ((f 7 : Nat) : Int)) rfl (fun W _ => exec_str 9 _ _ rfl (strF n f) rfl .i64 _ rfl 7 rfl Tryd.underlying9 (f 7) h7) hS0 ?_
 (try simp only [Act.put,zza,zzb,zzc,zzd,zze,zzf])
 refine ztk (i := 6) (v := .string (strF n f)) rfl (fun _ _ => exec_move _ rfl _ rfl) hS0 ?_
 (try simp only [Act.put,zza,zzb,zzc,zzd,zze,zzf])
 refine ztk (i := 7) (v := .int .u8 ((f 8 : Nat) : Int)) rfl (fun W _ => exec_str 9 _ _ rfl (strF n f) rfl .i64 _ rfl 8 rfl Tryd.underlying9 (f 8) h8) hS0 ?_
 (try simp only [Act.put,zza,zzb,zzc,zzd,zze,zzf])
 refine ztk (i := 8) (v := .string (strF n f)) rfl (fun _ _ => exec_move _ rfl _ rfl) hS0 ?_
 (try simp only [Act.put,zza,zzb,zzc,zzd,zze,zzf])
 refine ztk (i := 9) (v := .string (strF 2 fun i => f (9 + i))) rfl (fun W _ => exec_cutS 9 _ _ _ rfl n f 9 11 rfl rfl rfl 9 11 rfl rfl (by omega) (by omega) Tryd.underlying9) hS0 ?_
 (try simp only [Act.put,zza,zzb,zzc,zzd,zze,zzf])
 refine ztk (i := 10) (v := .string (strF n f)) rfl (fun _ _ => exec_move _ rfl _ rfl) hS0 ?_
 (try simp only [Act.put,zza,zzb,zzc,zzd,zze,zzf])
 refine ztk (i := 11) (v := .int .u8 ((f 11 : Nat) : Int)) rfl (fun W _ => exec_str 9 _ _ rfl (strF n f) rfl .i64 _ rfl 11 rfl Tryd.underlying9 (f 11) h11) hS0 ?_
 (try simp only [Act.put,zza,zzb,zzc,zzd,zze,zzf])
 refine ztk (i := 12) (v := .agg #[.int .u8 ((f 0 : Nat) : Int), .string (strF 2 fun i => f (5 + i)), .int .u8 ((f 7 : Nat) : Int), .int .u8 ((f 8 : Nat) : Int), .string (strF 2 fun i => f (9 + i)), .int .u8 ((f 11 : Nat) : Int)]) rfl (fun W _ => by go_simp) hS0 ?_
 (try simp only [Act.put,zza,zzb,zzc,zzd,zze,zzf])
 refine wpAnyH_ready (rs := [13]) (by kernel_rfl) (by simp) ?_
 refine AllReadyH.cons rfl (fun K hK => ?_) AllReadyH.nil
 (try simp only [Act.put,zza,zzb,zzc,zzd,zze,zzf])
 refine Eq.mpr (if_pos (by rfl)) ?_
 refine wp_vw _ (exec_allocH 23 rfl _ zHead) ?_
 have hbx1 := hbx0.alloc (.cells noHd 23)
 have h5 := Blk.fresh w0.drew 23 noHd
 refine hK.out _ _ (hS0.alloc hS0.size _) (fun hS1 => ?_)
 (try simp only [Act.put,zza,zzb,zzc,zzd,zze,zzf])
 clear hK K
 have hl5 : w.heap.size < w0.drew.heap.size := hbx0.lt
 obtain ⟨g5, hg5⟩ : ∃ g, g = w0.drew.heap.size := ⟨_, rfl⟩
 rw [← hg5] at h5 hl5 ⊢
 clear hg5
 generalize w0.drew.alloc (.cells noHd 23) = w1 at *
 refine wpAnyH_ready (rs := [14]) (by kernel_rfl) (by simp) ?_
 refine AllReadyH.cons rfl (fun K hK => ?_) AllReadyH.nil
 (try simp only [Act.put,zza,zzb,zzc,zzd,zze,zzf])
 refine Eq.mpr (if_pos (by rfl)) ?_
 refine wp_store_blk 23 _ _ rfl g5 (#[.int .u8 ((f 0 : Nat) : Int), .string (strF 2 fun i => f (5 + i)), .int .u8 ((f 7 : Nat) : Int), .int .u8 ((f 8 : Nat) : Int), .string (strF 2 fun i => f (9 + i)), .int .u8 ((f 11 : Nat) : Int)]) rfl rfl 23 _ h5 iHead rfl (one6 _ _ _ _ _ _) ?_
 (try simp only [Act.put,zza,zzb,zzc,zzd,zze,zzf])
 refine hK.out _ _ (below_setRow' hS1 (Nat.le_of_lt hl5) _) (fun hSz => ?_)
 (try simp only [Act.put,zza,zzb,zzc,zzd,zze,zzf])
 clear hK K
 refine wpAnyH_done (by kernel_rfl) ?_ _
 have hbx2 := hbx1.otherRow g5 (hdC (cutH f)) (by omega)
 have h52 := h5.setRow (hdC (cutH f))
 have hS2 : Below w.heap.size w (w1.setRow g5 (hdC (cutH f))) := hSz
 clear hSz h5 hbx1 hS1 hbx0 hS0
 have e2 : w1.setRow g5 (#[.int .u8 ((f 0 : Nat) : Int), .string (strF 2 fun i => f (5 + i)), .int .u8 ((f 7 : Nat) : Int), .int .u8 ((f 8 : Nat) : Int), .string (strF 2 fun i => f (9 + i)), .int .u8 ((f 11 : Nat) : Int)]) = w1.setRow g5 (hdC (cutH f)) := rfl
 rw [e2]
 clear e2
 generalize w1.setRow g5 (hdC (cutH f)) = w2 at hbx2 h52 hS2 ⊢
 have Hbx := hid hbx2
 have H5 := hid h52
 have HB := hid hS2
 have hsb := hS2.size
 have hsx := hbx2.lt
 clear hbx2 h52 hS2 HB0 Hb0
 go_wp2_with (with_reducible refine wpl_str rfl 9 _ _ rfl (strF n f) rfl .i64 _ rfl 0 rfl Tryd.underlying9 (f 0) h0 ?_)
 refine (rin_ver (f 0) (hf 0) _).mono ?_
 rintro e w3 ⟨rfl, rfl⟩
 cases hv : verB (f 0)
 ·have hz := par_v hv
  go_wp2_with (first
   | (with_reducible refine wpl_build0 rfl 23 rfl _ built0 ?_)
   | (with_reducible refine wpl_storeH rfl 23 _ _ rfl w.heap.size noHd rfl rfl 23 _ Hbx.out sizeN rfl oneNo ?_))
  exact ret_cs3 Tryd.results16 rfl w.heap.size rfl _ rfl _ rfl 23 _ (Hbx.out.setRow _) _ Tryd.underlying23 sizeN ⟨below_setRow' HB.out (Nat.le_refl _) _, .inr ⟨by rw [hz]; omega, by rw [hz]; rfl⟩⟩
 have Hv := hid hv
 clear hv h0 h7 h8 h11
 go_wp2_with fail
 go_loopw [6, 7] (fun s y wr => ∃ k : Nat, k ≤ 4 ∧ s = .int .i64 ((lenF (fun i => f (1 + i)) k : Nat) : Int) ∧ y = .int .i64 ((k : Int) + 1) ∧ Hid (∀ i, i < k → dgB (f (1 + i)) = true) ∧ wr = w3) (fun _ y _ => 5 - (intOf y).toNat)
 case atStart => exact ⟨0, by omega, rfl, rfl, hid (fun i hi => by omega), rfl⟩
 case round =>
  obtain ⟨k, hk, rfl, rfl, HD, rfl⟩ := hrel
  by_cases hlt : k < 4
  ·have hb := byteAt_strF (n := n) (f := f) (k := 1 + k) (by omega) (hf _)
   have hc6 := hf (1 + k)
   have hL := lenF_lt k HD.out
   have hL2 : lenF (fun i => f (1 + i)) k < 10000 := Nat.lt_of_lt_of_le hL (pow4 hlt)
   clear hL
   obtain ⟨c, hc⟩ : ∃ c, c = f (1 + k) := ⟨_, rfl⟩
   rw [← hc] at hb hc6
   have Hc := hid hc
   clear hc
   have Hb := hid hb
   clear hb
   by_cases h48 : c < 48
   ·have hI : (c : Int) < 48 := by omega
    have hd : dgB (f (1 + k)) = false := by rw [← Hc.out]; unfold dgB; simp; omega
    have hz := par_len Hv.out (by rw [lenZ_bad (f := fun i => f (1 + i)) hlt hd]; omega)
    go_wp2_with (first
     | (with_reducible refine wpl_str rfl 9 _ _ rfl (strF n f) rfl .i64 _ rfl (1 + k) (by omega) Tryd.underlying9 c Hb.out ?_)
     | ((with_reducible refine wpg_val ?_ _ (exec_str 9 _ _ rfl (strF n f) rfl .i64 _ rfl (1 + k) (by omega) Tryd.underlying9 c Hb.out) ?_); exact rfl)
     | (with_reducible refine wpl_build0 rfl 23 rfl _ built0 ?_)
     | (with_reducible refine wpl_storeH rfl 23 _ _ rfl w.heap.size noHd rfl rfl 23 _ Hbx.out sizeN rfl oneNo ?_))
    exact ret_cs3 Tryd.results16 rfl w.heap.size rfl _ rfl _ rfl 23 _ (Hbx.out.setRow _) _ Tryd.underlying23 sizeN ⟨below_setRow' HB.out (Nat.le_refl _) _, .inr ⟨by rw [hz]; omega, by rw [hz]; rfl⟩⟩
   by_cases h57 : 57 < c
   ·have hI : ¬ (c : Int) < 48 := by omega
    have hJ : (57 : Int) < (c : Int) := by omega
    have hd : dgB (f (1 + k)) = false := by rw [← Hc.out]; unfold dgB; simp; omega
    have hz := par_len Hv.out (by rw [lenZ_bad (f := fun i => f (1 + i)) hlt hd]; omega)
    go_wp2_with (first
     | (with_reducible refine wpl_str rfl 9 _ _ rfl (strF n f) rfl .i64 _ rfl (1 + k) (by omega) Tryd.underlying9 c Hb.out ?_)
     | ((with_reducible refine wpg_val ?_ _ (exec_str 9 _ _ rfl (strF n f) rfl .i64 _ rfl (1 + k) (by omega) Tryd.underlying9 c Hb.out) ?_); exact rfl)
     | (with_reducible refine wpl_build0 rfl 23 rfl _ built0 ?_)
     | (with_reducible refine wpl_storeH rfl 23 _ _ rfl w.heap.size noHd rfl rfl 23 _ Hbx.out sizeN rfl oneNo ?_))
    exact ret_cs3 Tryd.results16 rfl w.heap.size rfl _ rfl _ rfl 23 _ (Hbx.out.setRow _) _ Tryd.underlying23 sizeN ⟨below_setRow' HB.out (Nat.le_refl _) _, .inr ⟨by rw [hz]; omega, by rw [hz]; rfl⟩⟩
   have hI : ¬ (c : Int) < 48 := by omega
   have hJ : ¬ (57 : Int) < (c : Int) := by omega
   go_wp2_with (first
    | (with_reducible refine wpl_str rfl 9 _ _ rfl (strF n f) rfl .i64 _ rfl (1 + k) (by omega) Tryd.underlying9 c Hb.out ?_)
    | ((with_reducible refine wpg_val ?_ _ (exec_str 9 _ _ rfl (strF n f) rfl .i64 _ rfl (1 + k) (by omega) Tryd.underlying9 c Hb.out) ?_); exact rfl)
    | (with_reducible refine wpl_build0 rfl 23 rfl _ built0 ?_)
    | (with_reducible refine wpl_storeH rfl 23 _ _ rfl w.heap.size noHd rfl rfl 23 _ Hbx.out sizeN rfl oneNo ?_))
   go_round
   case rel => exact ⟨k + 1, by omega, val_int (by simp only [lenF]; rw [← Hc.out]; omega), val_int (by omega), hid (fun i hi => by
     by_cases h : i < k
     ·exact HD.out i h
     obtain rfl : i = k := by omega
     rw [← Hc.out]; unfold dgB; simp; omega), by first | rfl | trivial⟩
   case measure => simp [intOf]; omega
  obtain rfl : k = 4 := by omega
  have hZ := lenZ_ok (f := fun i => f (1 + i)) HD.out
  have hL := lenF_lt 4 HD.out
  have hL2 : lenF (fun i => f (1 + i)) 4 < 10000 := hL
  clear hL
  obtain ⟨q, hq⟩ : ∃ q, q = lenF (fun i => f (1 + i)) 4 := ⟨_, rfl⟩
  rw [← hq] at hZ hL2 ⊢
  have HZ := hid hZ
  clear hq hZ HD
  by_cases hl : q < 16
  ·have hI : (q : Int) < 16 := by omega
   have hz := par_len Hv.out (by rw [HZ.out]; omega)
   go_wp2_with (first
    | (with_reducible refine wpl_build0 rfl 23 rfl _ built0 ?_)
    | (with_reducible refine wpl_storeH rfl 23 _ _ rfl w.heap.size noHd rfl rfl 23 _ Hbx.out sizeN rfl oneNo ?_))
   exact ret_cs3 Tryd.results16 rfl w.heap.size rfl _ rfl _ rfl 23 _ (Hbx.out.setRow _) _ Tryd.underlying23 sizeN ⟨below_setRow' HB.out (Nat.le_refl _) _, .inr ⟨by rw [hz]; omega, by rw [hz]; rfl⟩⟩
  have hI : ¬ (q : Int) < 16 := by omega
  have Hl : Hid (¬ (lenZ fun i => f (1 + i)) < 16) := hid (by rw [HZ.out]; omega)
  go_wp2_with (with_reducible refine wpl_valw rfl _ (exec_ldcs 23 _ rfl g5 rfl 23 _ H5.out _ Tryd.underlying23 (sizeC _)) ?_)
  refine (rwrong_any (cutH f) (cutH_ok hf) _).mono ?_
  rintro e w4 ⟨rfl, hB4⟩
  have hbx4 := Hbx.out.below hB4 Hbx.out.lt
  have h54 := H5.out.below hB4 H5.out.lt
  have HB4 := hid (HB.out.trans (hB4.mono hsb))
  have Hbx4 := hid hbx4
  have H54 := hid h54
  have hs4 : w.heap.size ≤ w4.heap.size := Nat.le_trans hsb hB4.size
  clear hbx4 h54 hB4
  by_cases hw : 0 ≤ wrong (cutH f)
  ·have hz := par_w Hv.out (by have := Hl.out; omega) hw
   obtain ⟨z, hzz⟩ : ∃ z, z = wrong (cutH f) := ⟨_, rfl⟩
   have HWz := hid hzz
   rw [← hzz] at hw hz ⊢
   clear hzz
   go_wp2_with (first
    | (with_reducible refine wpl_build0 rfl 23 rfl _ built0 ?_)
    | (with_reducible refine wpl_valw rfl _ (exec_ldcs 23 _ rfl g5 rfl 23 _ H54.out _ Tryd.underlying23 (sizeC _)) ?_))
   refine (rwrong_any (cutH f) (cutH_ok hf) _).mono ?_
   rintro e w5 ⟨rfl, hB5⟩
   have hbx5 := Hbx4.out.below hB5 Hbx4.out.lt
   have HB5 := hid (HB4.out.trans (hB5.mono hs4))
   have Hbx5 := hid hbx5
   clear hbx5 hB5
   rw [← HWz.out]
   go_wp2_with (first
    | (with_reducible refine wpl_build0 rfl 23 rfl _ built0 ?_)
    | (with_reducible refine wpl_storeH rfl 23 _ _ rfl w.heap.size noHd rfl rfl 23 _ Hbx5.out sizeN rfl oneNo ?_))
   exact ret_cs3 Tryd.results16 rfl w.heap.size rfl _ rfl _ rfl 23 _ (Hbx5.out.setRow _) _ Tryd.underlying23 sizeN ⟨below_setRow' HB5.out (Nat.le_refl _) _, .inr ⟨by rw [hz]; omega, by rw [hz]; rfl⟩⟩
  obtain ⟨z, hzz⟩ : ∃ z, z = wrong (cutH f) := ⟨_, rfl⟩
  have HWz := hid hzz
  have Hw := hid hw
  rw [← hzz] at hw ⊢
  clear hzz
  go_wp2_with fail
  go_loopw [8] (fun y wr => ∃ k : Nat, k ≤ 4 ∧ y = .int .i64 ((k : Int) + 12) ∧ Hid (∀ i, i < k → f (12 + i) = 48) ∧ wr = w4) (fun y _ => 16 - (intOf y).toNat)
  case atStart => exact ⟨0, by omega, rfl, hid (fun i hi => by omega), rfl⟩
  case round =>
   obtain ⟨k, hk, rfl, HD, rfl⟩ := hrel
   by_cases hlt : k < 4
   ·have hb := byteAt_strF (n := n) (f := f) (k := 12 + k) (by omega) (hf _)
    obtain ⟨c, hc⟩ : ∃ c, c = f (12 + k) := ⟨_, rfl⟩
    rw [← hc] at hb
    have Hc := hid hc
    clear hc
    have Hb := hid hb
    clear hb
    by_cases h48 : c = 48
    ·have hI : (c : Int) = 48 := by omega
     go_wp2_with (first
      | (with_reducible refine wpl_str rfl 9 _ _ rfl (strF n f) rfl .i64 _ rfl (12 + k) (by omega) Tryd.underlying9 c Hb.out ?_)
      | (with_reducible refine wpl_build0 rfl 23 rfl _ built0 ?_)
      | (with_reducible refine wpl_storeH rfl 23 _ _ rfl w.heap.size noHd rfl rfl 23 _ Hbx4.out sizeN rfl oneNo ?_))
     go_round
     case rel => exact ⟨k + 1, by omega, val_int (by omega), hid (fun i hi => by
       by_cases h : i < k
       ·exact HD.out i h
       obtain rfl : i = k := by omega
       rw [← Hc.out, h48]), by first | rfl | trivial⟩
     case measure => simp [intOf]; omega
    have hI : ¬ (c : Int) = 48 := by omega
    have hz := par_z Hv.out (by have := Hl.out; omega) (by have := Hw.out; omega) k hlt (by rw [← Hc.out]; exact h48)
    go_wp2_with (first
     | (with_reducible refine wpl_str rfl 9 _ _ rfl (strF n f) rfl .i64 _ rfl (12 + k) (by omega) Tryd.underlying9 c Hb.out ?_)
     | (with_reducible refine wpl_build0 rfl 23 rfl _ built0 ?_)
     | (with_reducible refine wpl_storeH rfl 23 _ _ rfl w.heap.size noHd rfl rfl 23 _ Hbx4.out sizeN rfl oneNo ?_))
    exact ret_cs3 Tryd.results16 rfl w.heap.size rfl _ rfl _ rfl 23 _ (Hbx4.out.setRow _) _ Tryd.underlying23 sizeN ⟨below_setRow' HB4.out (Nat.le_refl _) _, .inr ⟨by rw [hz]; omega, by rw [hz]; rfl⟩⟩
   obtain rfl : k = 4 := by omega
   have hz := par_ok Hv.out (by have := Hl.out; omega) (by have := Hw.out; omega) HD.out
   go_wp2_with (first
    | (with_reducible refine wpl_valw rfl _ (exec_ldcs 23 _ rfl g5 rfl 23 _ H54.out _ Tryd.underlying23 (sizeC _)) ?_)
    | (with_reducible refine wpl_storeH rfl 23 _ _ rfl w.heap.size (hdC (cutH f)) rfl rfl 23 _ Hbx4.out (sizeC _) rfl (oneC _) ?_))
   exact ret_cs3 Tryd.results16 rfl w.heap.size rfl _ rfl _ rfl 23 _ (Hbx4.out.setRow _) _ Tryd.underlying23 (sizeC _) ⟨below_setRow' HB4.out (Nat.le_refl _) _, .inl ⟨hz, by rw [HZ.out]; rfl⟩⟩
end Go.Proofs.YtklgngdcihkfjaaDoor.Hd
