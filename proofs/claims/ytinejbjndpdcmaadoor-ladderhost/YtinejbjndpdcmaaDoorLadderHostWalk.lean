/-
 LadderHost returns true: its walk.
-/
import Derived.Test.YtinejbjndpdcmaaDoorLaw13b
import Derived.Test.YtinejbjndpdcmaaDoorRefKsn2
set_option linter.unusedSimpArgs false
set_option linter.unusedVariables false
namespace Go.Proofs.YtinejbjndpdcmaaDoor.Lad
open Go.ChangeShapes Go.WideShapes Go.ChangeAt Go.RowKit Mem Dk
theorem host_key (f0 f1 : Nat → Nat) (B0 : ∀ i, i < 16 → f0 i < 256) (B1 : By10 f1) (c : Nat) (hc : c < 1023) (w : World) :
  Calls Tryd.prog 13 #[.agg (row 16 (b8 f0)), .agg (row 10 (b8 (atF f1 c)))] w fun e w' => e = .returned (.tuple #[.agg (row 16 (b8 (kD f0 (atF f1 0) c))), .nilIface]) ∧ Below w.heap.size w w' := by
 have h := derive_ok f0 (atF f1 c) B0 (atF_lt B1 c) (by rw [cnt_at (by omega)]; have := few_ones hc; omega) w
 have e : drF f0 (atF f1 c) = kD f0 (atF f1 0) c := by unfold drF; rw [cnt_at (by omega), xF_at, kD_at]; rfl
 rw [e] at h
 exact h
set_option maxRecDepth 100000 in
set_option maxHeartbeats 40000000 in
theorem host_true (f0 f1 : Nat → Nat) (s : Nat) (n : Nat) (w : World) (hT : Tab w) (B0 : ∀ i, i < 16 → f0 i < 256) (B1 : ∀ i, i < 10 → f1 i < 256) (hs : s < 65536) (hn : n < 256) :
  Calls Tryd.prog 4 #[.agg (row 16 (b8 f0)), .agg (row 10 (b8 f1)), .int .u16 s, .int .u8 n] w fun e w' => e = .returned (.bool true) ∧ Below w.heap.size w w' := by
 have hl2 := hT.lt
 obtain ⟨N, hN, hN2⟩ : ∃ N, N = n % 40 ∧ N < 40 := ⟨n % 40, rfl, by omega⟩
 obtain ⟨k, hk, hk2⟩ : ∃ k, k = s % 300 ∧ k < 300 := ⟨s % 300, rfl, by omega⟩
 have hmodN : ((n : Int) % 40) = (N : Int) := by omega
 have hmodk : ((s : Int) % 300) = (k : Int) := by omega
 clear hN hk
 have hb0 : Blk ((w.alloc (.cells (row 16 (b8 f0)) 27)).alloc (.cells (row 10 (b8 f1)) 28)) w.heap.size 27 (row 16 (b8 f0)) := (Blk.fresh _ _ _).alloc _
 have hb1 : Blk ((w.alloc (.cells (row 16 (b8 f0)) 27)).alloc (.cells (row 10 (b8 f1)) 28)) (w.heap.size + 1) 28 (row 10 (b8 f1)) := by simpa using Blk.fresh (w.alloc (.cells (row 16 (b8 f0)) 27)) 28 (row 10 (b8 f1))
 have hB : Below w.heap.size w ((w.alloc (.cells (row 16 (b8 f0)) 27)).alloc (.cells (row 10 (b8 f1)) 28)) := ((Below.refl _ _).alloc (Nat.le_refl _) _).alloc (by simp) _
 have hTa := hT.below hB hl2
 have Hnb := hid (atF_lt (k := f1) B1 0)
 have HB0 := hid B0
 have HB1 := hid B1
 clear hT B0 B1
 go_enter Tryd.func4, Tryd.ntmps4
 go_wp2_with (first
  | (with_reducible refine wpl_load rfl 27 _ rfl _ rfl 27 _ hb0 16 5 Tryd.underlying27 (i16' _) ?_)
  | (with_reducible refine wpl_load rfl 28 _ rfl _ rfl 28 _ hb1 10 5 Tryd.underlying28 (i10' _) ?_))
 generalize ((w.alloc (.cells (row 16 (b8 f0)) 27)).alloc (.cells (row 10 (b8 f1)) 28)) = w0 at *
 refine (new_any f0 f1 HB0.out HB1.out _).mono ?_
 rintro e w1 ⟨g, hg1, rfl, hL, hBn⟩
 have hgs : w.heap.size + 1 < g := by have := hb1.lt; omega
 replace hb0 := hb0.below hBn hb0.lt
 replace hb1 := hb1.below hBn hb1.lt
 replace hTa := hTa.below hBn hTa.lt
 replace hB := hB.trans (hBn.mono hB.size)
 clear hBn hg1
 go_simp
 go_wp2_with fail
 refine (awake13_any _ hTa).mono ?_
 rintro e w3 ⟨rfl, hBn⟩
 replace hb0 := hb0.below hBn hb0.lt
 replace hb1 := hb1.below hBn hb1.lt
 replace hL := hL.sv (Sv.of (X := fun _ => False) hBn) id
 replace hTa := hTa.below hBn hTa.lt
 replace hB := hB.trans (hBn.mono hB.size)
 have hgn : g ≠ 2 := by omega
 clear hBn
 go_simp
 go_wp2_with fail
 refine (skip_any f0 (atF f1 0) HB0.out Hnb.out 0 k (by omega) (by omega) _ (Or.inl (by omega)) g _ hL hTa hgn).mono ?_
 rintro e w4 ⟨rfl, hL4, hS⟩
 rw [Nat.zero_add] at hL4
 replace hb0 := hS.blk hb0 (by omega)
 replace hb1 := hS.blk hb1 (by omega)
 replace hTa := hTa.sv hS (by omega)
 replace hB := hS.below hB (fun q hq => by omega) hB.size
 clear hS hL
 go_simp
 go_wp2_with fail
 go_loopw [11, 12] (fun c i wr => ∃ j : Nat, j ≤ k ∧ c = .int .i64 j ∧ i = .int .i64 j ∧ wr = w4) (fun _ i _ => k - (intOf i).toNat)
 case atStart => exact ⟨0, by omega, rfl, rfl, rfl⟩
 case round =>
  obtain ⟨j, hj, rfl, rfl, rfl⟩ := hrel
  by_cases hlt : j < k
  ·go_wp2_with (go_at_call 7; refine (next_one j (by omega) _).mono ?_; rintro e w' ⟨rfl, rfl⟩; go_simp)
   exact ⟨⟨j + 1, by omega, val_int (by omega), val_int (by omega), trivial⟩, by simp [intOf]; omega⟩
  obtain rfl : j = k := by omega
  go_wp2_with fail
  clear hlt hj
  go_loopw [11, 13] (fun c i wr => ∃ q : Nat, q ≤ N ∧ c = .int .i64 (j + q : Nat) ∧ i = .int .i64 q ∧ Term wr g f0 (atF f1 0) (j + q) ∧ Blk wr w.heap.size 27 (row 16 (b8 f0)) ∧ Blk wr (w.heap.size + 1) 28 (row 10 (b8 f1)) ∧ Tab wr ∧ Below w.heap.size w wr) (fun _ i _ => N - (intOf i).toNat)
  case atStart => exact ⟨0, by omega, rfl, rfl, hL4, hb0, hb1, hTa, hB⟩
  case round =>
   clear hL4 hb0 hb1 hTa hB
   obtain ⟨q, hq, rfl, rfl, hL, hb0, hb1, hTa, hB⟩ := hrel
   by_cases hlt : q < N
   ·go_wp2_with fail
    obtain ⟨t, ht, ht2⟩ : ∃ t, j + q = t ∧ t < 400 := ⟨_, rfl, by omega⟩
    obtain ⟨c, hc, hc2⟩ : ∃ c, t + 1 = c ∧ c < 401 := ⟨_, rfl, by omega⟩
    rw [ht] at hL
    have hLc : LadAt wr g (atF f1 0) c (fl t) (kf f0 (atF f1 0) t) := by rw [← hc]; exact hL
    have hnx := hid (fun w => next_one t (by omega) w)
    rw [hc] at hnx
    have hrat := hid (fun w => rat_any f1 HB1.out (c : Int) w)
    rw [show ((c : Int) % 2097152).toNat = c by omega] at hrat
    have Hat := hid (at_at f1 0 c)
    have Hc := hid hc
    have Ht := hid ht
    refine (take_c f0 (atF f1 0) HB0.out Hnb.out t c hc.symm (by omega) g _ hLc hTa hgn).mono ?_
    clear hc hL hLc
    rintro e w5 ⟨rfl, hLn, hS⟩
    replace hb0 := hS.blk hb0 (by omega)
    replace hb1 := hS.blk hb1 (by omega)
    replace hTa := hTa.sv hS (by omega)
    replace hB := hS.below hB (fun q hq => by omega) hB.size
    have hL : Term w5 g f0 (atF f1 0) c := hLn
    clear hS hLn
    obtain ⟨h5, h6, hk1, hn1, hBt, hsz3⟩ := taken w5 (kD f0 (atF f1 0) c) (atF (atF f1 0) c)
    generalize hW : (World.setRow (World.setRow _ w5.heap.size _) (w5.heap.size + 1) _) = w6 at hk1 hn1 hBt
    replace hL := hL.sv (Sv.of (X := fun _ => False) hBt) id
    replace hb0 := hb0.below hBt hb0.lt
    replace hb1 := hb1.below hBt hb1.lt
    replace hTa := hTa.below hBt hTa.lt
    replace hB := hB.trans (hBt.mono hB.size)
    clear hBt
    go_simp
    go_wp2_with (first
    | (with_reducible refine wpl_alloc rfl 27 rfl _ z16 ?_)
    | (with_reducible refine wpl_alloc rfl 28 rfl _ z10 ?_; rw [hsz3])
    | (with_reducible refine wpl_store rfl 27 _ _ rfl _ _ rfl rfl 27 _ h5 (i16' _) (by simp [row_size]) (one_b8 _ _) ?_)
    | (with_reducible refine wpl_store rfl 28 _ _ rfl _ _ rfl rfl 28 _ h6 (i10' _) (by simp [row_size]) (one_b8 _ _) ?_; rw [hW]))
    clear h5 h6 hsz3 hW
    generalize w5.heap.size = s1 at *
    refine (hnx.out _).mono ?_
    rintro e w' ⟨rfl, rfl⟩
    rw [Hat.out] at hn1
    clear hnx
    go_simp
    go_wp2_with fail
    apply suff (F := Past w6 27 (row 16 (b8 (kD f0 (atF f1 0) c))))
    case h1 =>
     intro key
     refine wp_region_held_drew (S := fun W => Below w6.heap.size w6 W) (by kernel_rfl) (Below.refl _ _).drew (fun hS0 => ?_)
     refine ztk (i := 0) (v := .agg (row 16 (b8 f0))) rfl (fun W hW => exec_load 27 _ rfl _ rfl 27 16 _ (hb0.below hW hb0.lt) 5 Tryd.underlying27 i16) hS0 ?_
     (try simp only [Act.put,zza,zzb,zzc,zzd,zze,zzf])
     refine ztk (i := 1) (v := .agg (row 10 (b8 f1))) rfl (fun W hW => exec_load 28 _ rfl _ rfl 28 10 _ (hb1.below hW hb1.lt) 5 Tryd.underlying28 i10) hS0 ?_
     (try simp only [Act.put,zza,zzb,zzc,zzd,zze,zzf])
     refine ztk (i := 2) (v := .int .i64 c) rfl (fun _ _ => exec_move _ rfl _ rfl) hS0 ?_
     (try simp only [Act.put,zza,zzb,zzc,zzd,zze,zzf])
     refine wpAnyH_ready (rs := [3, 8]) (by kernel_rfl) (by simp) ?_
     refine AllReadyH.cons rfl (fun K hK => ?_) (AllReadyH.cons rfl (fun K hK => ?_) AllReadyH.nil)
     ·(try simp only [Act.put,zza,zzb,zzc,zzd,zze,zzf])
      refine Eq.mpr (if_pos (by rfl)) ?_
      go_simp
      refine (at_any f1 HB1.out c (by omega) _).mono ?_
      rintro e wa ⟨rfl, hBa⟩
      go_simp
      refine hK.out _ _ (hS0.trans (hBa.mono hS0.size)) (fun hS1 => ?_)
      (try simp only [Act.put,zza,zzb,zzc,zzd,zze,zzf])
      clear hK K
      refine wpAnyH_ready (rs := [4, 8]) (by kernel_rfl) (by simp) ?_
      refine AllReadyH.cons rfl (fun K hK => ?_) (AllReadyH.cons rfl (fun K hK => ?_) AllReadyH.nil)
      ·(try simp only [Act.put,zza,zzb,zzc,zzd,zze,zzf])
       refine Eq.mpr (if_pos (by rfl)) ?_
       go_simp
       refine (host_key f0 f1 HB0.out HB1.out c (by omega) _).mono ?_
       rintro e wb ⟨rfl, hBb⟩
       go_simp
       refine hK.out _ _ (hS1.trans (hBb.mono hS1.size)) (fun hS2 => ?_)
       (try simp only [Act.put,zza,zzb,zzc,zzd,zze,zzf])
       clear hK K
       refine ztk (i := 5) (v := .tuple #[.agg (row 16 (b8 (kD f0 (atF f1 0) c))), .nilIface]) rfl (fun _ _ => exec_move _ rfl _ rfl) hS2 ?_
       (try simp only [Act.put,zza,zzb,zzc,zzd,zze,zzf])
       refine ztk (i := 6) (v := .agg (row 16 (b8 (kD f0 (atF f1 0) c)))) rfl (fun _ _ => exec_extract _ 0 rfl _ rfl _ rfl) hS2 ?_
       (try simp only [Act.put,zza,zzb,zzc,zzd,zze,zzf])
       refine ztk (i := 7) (v := .nilIface) rfl (fun _ _ => exec_extract _ 1 rfl _ rfl _ rfl) hS2 ?_
       (try simp only [Act.put,zza,zzb,zzc,zzd,zze,zzf])
       refine wpAnyH_ready (rs := [8]) (by kernel_rfl) (by simp) (AllReadyH.cons rfl (fun K hK => ?_) AllReadyH.nil)
       (try simp only [Act.put,zza,zzb,zzc,zzd,zze,zzf])
       refine Eq.mpr (if_pos (by rfl)) ?_
       refine wp_new 27 rfl _ z16 ?_
       (try simp only [Act.put,zza,zzb,zzc,zzd,zze,zzf])
       refine hK.out _ _ (hS2.alloc hS2.size _) (fun hS3 => ?_)
       (try simp only [Act.put,zza,zzb,zzc,zzd,zze,zzf])
       clear hK K
       have hF : Blk (wb.alloc (.cells (row 16 (b8 fun _ => 0)) 27)) wb.heap.size 27 (row 16 (b8 fun _ => 0)) := Blk.fresh _ _ _
       have hle : w6.heap.size ≤ wb.heap.size := hS2.size
       generalize wb.alloc (.cells (row 16 (b8 fun _ => 0)) 27) = wd at *
       generalize wb.heap.size = ga at *
       refine wpAnyH_ready (rs := [9]) (by kernel_rfl) (by simp) (AllReadyH.cons rfl (fun K hK => ?_) AllReadyH.nil)
       (try simp only [Act.put,zza,zzb,zzc,zzd,zze,zzf])
       refine Eq.mpr (if_pos (by rfl)) ?_
       with_reducible refine wp_store_blk 27 _ _ rfl ga _ rfl rfl 27 _ hF (i16' _) (by simp [row_size]) (one_b8 _ _) ?_
       (try simp only [Act.put,zza,zzb,zzc,zzd,zze,zzf])
       have hSe := below_setRow' hS3 hle (row 16 (b8 (kD f0 (atF f1 0) c)))
       have hFe := hF.setRow (row 16 (b8 (kD f0 (atF f1 0) c)))
       refine hK.out _ _ hSe (fun hSf => ?_)
       (try simp only [Act.put,zza,zzb,zzc,zzd,zze,zzf])
       clear hK K
       refine ztk (i := 10) (v := .nilIface) rfl (fun _ _ => exec_assign _ rfl _ rfl) hSf ?_
       (try simp only [Act.put,zza,zzb,zzc,zzd,zze,zzf])
       refine wpAnyH_done (by kernel_rfl) ?_ _
       have hp : Past w6 27 (row 16 (b8 (kD f0 (atF f1 0) c))) (wd.setRow ga (row 16 (b8 (kD f0 (atF f1 0) c)))) ga := ⟨hSe, hFe, hle⟩
       clear hSe hFe hSf hS0 hF
       generalize wd.setRow ga (row 16 (b8 (kD f0 (atF f1 0) c))) = wX at hp ⊢
       exact key _ _ hp
      (try simp only [Act.put,zza,zzb,zzc,zzd,zze,zzf])
      refine Eq.mpr (if_pos (by rfl)) ?_
      refine wp_new 27 rfl _ z16 ?_
      (try simp only [Act.put,zza,zzb,zzc,zzd,zze,zzf])
      refine hK.out _ _ (hS1.alloc hS1.size _) (fun hS2 => ?_)
      (try simp only [Act.put,zza,zzb,zzc,zzd,zze,zzf])
      clear hK K
      have hF : Blk (wa.alloc (.cells (row 16 (b8 fun _ => 0)) 27)) wa.heap.size 27 (row 16 (b8 fun _ => 0)) := Blk.fresh _ _ _
      have hle : w6.heap.size ≤ wa.heap.size := hS1.size
      generalize wa.alloc (.cells (row 16 (b8 fun _ => 0)) 27) = wd at *
      generalize wa.heap.size = ga at *
      refine wpAnyH_ready (rs := [4]) (by kernel_rfl) (by simp) (AllReadyH.cons rfl (fun K hK => ?_) AllReadyH.nil)
      (try simp only [Act.put,zza,zzb,zzc,zzd,zze,zzf])
      refine Eq.mpr (if_pos (by rfl)) ?_
      go_simp
      refine (host_key f0 f1 HB0.out HB1.out c (by omega) _).mono ?_
      rintro e wb ⟨rfl, hBb⟩
      go_simp
      refine hK.out _ _ (hS2.trans (hBb.mono hS2.size)) (fun hS3 => ?_)
      (try simp only [Act.put,zza,zzb,zzc,zzd,zze,zzf])
      clear hK K
      have hF3 := hF.below hBb hF.lt
      refine ztk (i := 5) (v := .tuple #[.agg (row 16 (b8 (kD f0 (atF f1 0) c))), .nilIface]) rfl (fun _ _ => exec_move _ rfl _ rfl) hS3 ?_
      (try simp only [Act.put,zza,zzb,zzc,zzd,zze,zzf])
      refine ztk (i := 6) (v := .agg (row 16 (b8 (kD f0 (atF f1 0) c)))) rfl (fun _ _ => exec_extract _ 0 rfl _ rfl _ rfl) hS3 ?_
      (try simp only [Act.put,zza,zzb,zzc,zzd,zze,zzf])
      refine ztk (i := 7) (v := .nilIface) rfl (fun _ _ => exec_extract _ 1 rfl _ rfl _ rfl) hS3 ?_
      (try simp only [Act.put,zza,zzb,zzc,zzd,zze,zzf])
      refine wpAnyH_ready (rs := [9]) (by kernel_rfl) (by simp) (AllReadyH.cons rfl (fun K hK => ?_) AllReadyH.nil)
      (try simp only [Act.put,zza,zzb,zzc,zzd,zze,zzf])
      refine Eq.mpr (if_pos (by rfl)) ?_
      with_reducible refine wp_store_blk 27 _ _ rfl ga _ rfl rfl 27 _ hF3 (i16' _) (by simp [row_size]) (one_b8 _ _) ?_
      (try simp only [Act.put,zza,zzb,zzc,zzd,zze,zzf])
      have hSe := below_setRow' hS3 hle (row 16 (b8 (kD f0 (atF f1 0) c)))
      have hFe := hF3.setRow (row 16 (b8 (kD f0 (atF f1 0) c)))
      refine hK.out _ _ hSe (fun hSf => ?_)
      (try simp only [Act.put,zza,zzb,zzc,zzd,zze,zzf])
      clear hK K
      refine ztk (i := 10) (v := .nilIface) rfl (fun _ _ => exec_assign _ rfl _ rfl) hSf ?_
      (try simp only [Act.put,zza,zzb,zzc,zzd,zze,zzf])
      refine wpAnyH_done (by kernel_rfl) ?_ _
      have hp : Past w6 27 (row 16 (b8 (kD f0 (atF f1 0) c))) (wb.setRow ga (row 16 (b8 (kD f0 (atF f1 0) c)))) ga := ⟨hSe, hFe, hle⟩
      clear hSe hFe hSf hS0 hF
      generalize wb.setRow ga (row 16 (b8 (kD f0 (atF f1 0) c))) = wX at hp ⊢
      exact key _ _ hp
     (try simp only [Act.put,zza,zzb,zzc,zzd,zze,zzf])
     refine Eq.mpr (if_pos (by rfl)) ?_
     refine wp_new 27 rfl _ z16 ?_
     (try simp only [Act.put,zza,zzb,zzc,zzd,zze,zzf])
     refine hK.out _ _ (hS0.alloc hS0.size _) (fun hS1 => ?_)
     (try simp only [Act.put,zza,zzb,zzc,zzd,zze,zzf])
     clear hK K
     have hF : Blk (w6.drew.alloc (.cells (row 16 (b8 fun _ => 0)) 27)) w6.drew.heap.size 27 (row 16 (b8 fun _ => 0)) := Blk.fresh _ _ _
     have hle : w6.heap.size ≤ w6.drew.heap.size := hS0.size
     generalize w6.drew.alloc (.cells (row 16 (b8 fun _ => 0)) 27) = wd at *
     generalize w6.drew.heap.size = ga at *
     refine wpAnyH_ready (rs := [3]) (by kernel_rfl) (by simp) (AllReadyH.cons rfl (fun K hK => ?_) AllReadyH.nil)
     (try simp only [Act.put,zza,zzb,zzc,zzd,zze,zzf])
     refine Eq.mpr (if_pos (by rfl)) ?_
     go_simp
     refine (at_any f1 HB1.out c (by omega) _).mono ?_
     rintro e wa ⟨rfl, hBa⟩
     go_simp
     refine hK.out _ _ (hS1.trans (hBa.mono hS1.size)) (fun hS2 => ?_)
     (try simp only [Act.put,zza,zzb,zzc,zzd,zze,zzf])
     clear hK K
     have hF2 := hF.below hBa hF.lt
     refine wpAnyH_ready (rs := [4]) (by kernel_rfl) (by simp) (AllReadyH.cons rfl (fun K hK => ?_) AllReadyH.nil)
     (try simp only [Act.put,zza,zzb,zzc,zzd,zze,zzf])
     refine Eq.mpr (if_pos (by rfl)) ?_
     go_simp
     refine (host_key f0 f1 HB0.out HB1.out c (by omega) _).mono ?_
     rintro e wb ⟨rfl, hBb⟩
     go_simp
     refine hK.out _ _ (hS2.trans (hBb.mono hS2.size)) (fun hS3 => ?_)
     (try simp only [Act.put,zza,zzb,zzc,zzd,zze,zzf])
     clear hK K
     have hF3 := hF2.below hBb hF2.lt
     refine ztk (i := 5) (v := .tuple #[.agg (row 16 (b8 (kD f0 (atF f1 0) c))), .nilIface]) rfl (fun _ _ => exec_move _ rfl _ rfl) hS3 ?_
     (try simp only [Act.put,zza,zzb,zzc,zzd,zze,zzf])
     refine ztk (i := 6) (v := .agg (row 16 (b8 (kD f0 (atF f1 0) c)))) rfl (fun _ _ => exec_extract _ 0 rfl _ rfl _ rfl) hS3 ?_
     (try simp only [Act.put,zza,zzb,zzc,zzd,zze,zzf])
     refine ztk (i := 7) (v := .nilIface) rfl (fun _ _ => exec_extract _ 1 rfl _ rfl _ rfl) hS3 ?_
     (try simp only [Act.put,zza,zzb,zzc,zzd,zze,zzf])
     refine wpAnyH_ready (rs := [9]) (by kernel_rfl) (by simp) (AllReadyH.cons rfl (fun K hK => ?_) AllReadyH.nil)
     (try simp only [Act.put,zza,zzb,zzc,zzd,zze,zzf])
     refine Eq.mpr (if_pos (by rfl)) ?_
     with_reducible refine wp_store_blk 27 _ _ rfl ga _ rfl rfl 27 _ hF3 (i16' _) (by simp [row_size]) (one_b8 _ _) ?_
     (try simp only [Act.put,zza,zzb,zzc,zzd,zze,zzf])
     have hSe := below_setRow' hS3 hle (row 16 (b8 (kD f0 (atF f1 0) c)))
     have hFe := hF3.setRow (row 16 (b8 (kD f0 (atF f1 0) c)))
     refine hK.out _ _ hSe (fun hSf => ?_)
     (try simp only [Act.put,zza,zzb,zzc,zzd,zze,zzf])
     clear hK K
     refine ztk (i := 10) (v := .nilIface) rfl (fun _ _ => exec_assign _ rfl _ rfl) hSf ?_
     (try simp only [Act.put,zza,zzb,zzc,zzd,zze,zzf])
     refine wpAnyH_done (by kernel_rfl) ?_ _
     have hp : Past w6 27 (row 16 (b8 (kD f0 (atF f1 0) c))) (wb.setRow ga (row 16 (b8 (kD f0 (atF f1 0) c)))) ga := ⟨hSe, hFe, hle⟩
     clear hSe hFe hSf hS0 hF
     generalize wb.setRow ga (row 16 (b8 (kD f0 (atF f1 0) c))) = wX at hp ⊢
     exact key _ _ hp
    rintro wX g19 ⟨hBt, hk2, hg19⟩
    replace hL := hL.sv (Sv.of (X := fun _ => False) hBt) id
    replace hb0 := hb0.below hBt hb0.lt
    replace hb1 := hb1.below hBt hb1.lt
    replace hk1 := hk1.below hBt hk1.lt
    replace hn1 := hn1.below hBt hn1.lt
    replace hTa := hTa.below hBt hTa.lt
    replace hB := hB.trans (hBt.mono hB.size)
    clear hBt hg19
    go_wp2_with fail
    refine wp_region_held_drew (S := fun W => Below wX.heap.size wX W) (by kernel_rfl) (Below.refl _ _).drew (fun hS0 => ?_)
    refine ztk (i := 0) (v := .nilIface) rfl (fun _ _ => exec_move _ rfl _ rfl) hS0 ?_
    (try simp only [Act.put,zza,zzb,zzc,zzd,zze,zzf])
    refine ztk (i := 1) (v := .bool false) rfl (fun W _ => by go_simp) hS0 ?_
    (try simp only [Act.put,zza,zzb,zzc,zzd,zze,zzf])
    refine ztk (i := 2) (v := .bool false) rfl (fun _ _ => exec_move _ rfl _ rfl) hS0 ?_
    (try simp only [Act.put,zza,zzb,zzc,zzd,zze,zzf])
    refine ztk (i := 3) (v := .bool true) rfl (fun _ _ => exec_move _ rfl _ rfl) hS0 ?_
    (try simp only [Act.put,zza,zzb,zzc,zzd,zze,zzf])
    refine ztk (i := 4) (v := .bool false) rfl (fun W _ => by go_simp) hS0 ?_
    (try simp only [Act.put,zza,zzb,zzc,zzd,zze,zzf])
    refine ztk (i := 5) (v := .bool false) rfl (fun W _ => by go_simp) hS0 ?_
    (try simp only [Act.put,zza,zzb,zzc,zzd,zze,zzf])
    refine ztk (i := 6) (v := .bool false) rfl (fun _ _ => exec_move _ rfl _ rfl) hS0 ?_
    (try simp only [Act.put,zza,zzb,zzc,zzd,zze,zzf])
    refine ztk (i := 7) (v := .nilIface) rfl (fun _ _ => exec_move _ rfl _ rfl) hS0 ?_
    (try simp only [Act.put,zza,zzb,zzc,zzd,zze,zzf])
    refine ztk (i := 8) (v := .bool false) rfl (fun W _ => by go_simp) hS0 ?_
    (try simp only [Act.put,zza,zzb,zzc,zzd,zze,zzf])
    refine ztk (i := 9) (v := .bool false) rfl (fun W _ => by go_simp) hS0 ?_
    (try simp only [Act.put,zza,zzb,zzc,zzd,zze,zzf])
    refine ztk (i := 10) (v := .bool false) rfl (fun _ _ => exec_move _ rfl _ rfl) hS0 ?_
    (try simp only [Act.put,zza,zzb,zzc,zzd,zze,zzf])
    refine ztk (i := 11) (v := .agg (row 10 (b8 (atF f1 c)))) rfl (fun W hW => exec_load 28 _ rfl _ rfl 28 10 _ (hn1.below hW hn1.lt) 5 Tryd.underlying28 i10) hS0 ?_
    (try simp only [Act.put,zza,zzb,zzc,zzd,zze,zzf])
    refine ztk (i := 12) (v := .agg (row 10 (b8 f1))) rfl (fun W hW => exec_load 28 _ rfl _ rfl 28 10 _ (hb1.below hW hb1.lt) 5 Tryd.underlying28 i10) hS0 ?_
    (try simp only [Act.put,zza,zzb,zzc,zzd,zze,zzf])
    refine ztk (i := 13) (v := .int .i64 c) rfl (fun _ _ => exec_move _ rfl _ rfl) hS0 ?_
    (try simp only [Act.put,zza,zzb,zzc,zzd,zze,zzf])
    refine wpAnyH_ready (rs := [14]) (by kernel_rfl) (by simp) (AllReadyH.cons rfl (fun K hK => ?_) AllReadyH.nil)
    (try simp only [Act.put,zza,zzb,zzc,zzd,zze,zzf])
    refine Eq.mpr (if_pos (by rfl)) ?_
    go_simp
    refine (hrat.out _).mono ?_
    rintro e wa ⟨rfl, hBa⟩
    go_simp
    refine hK.out _ _ (hS0.trans (hBa.mono hS0.size)) (fun hS1 => ?_)
    (try simp only [Act.put,zza,zzb,zzc,zzd,zze,zzf])
    clear hK K
    refine ztk (i := 15) (v := .bool false) rfl (fun _ _ => exec_neL 28 _ _ _ rfl 10 _ rfl rfl 5 Tryd.underlying28 Tryd.underlying5 i1 eqG10) hS1 ?_
    (try simp only [Act.put,zza,zzb,zzc,zzd,zze,zzf])
    refine ztk (i := 16) (v := .bool false) rfl (fun W _ => by go_simp) hS1 ?_
    (try simp only [Act.put,zza,zzb,zzc,zzd,zze,zzf])
    refine ztk (i := 17) (v := .bool false) rfl (fun _ _ => exec_move _ rfl _ rfl) hS1 ?_
    (try simp only [Act.put,zza,zzb,zzc,zzd,zze,zzf])
    refine ztk (i := 18) (v := .agg (row 16 (b8 (kD f0 (atF f1 0) c)))) rfl (fun W hW => exec_load 27 _ rfl _ rfl 27 16 _ (hk1.below hW hk1.lt) 5 Tryd.underlying27 i16) hS1 ?_
    (try simp only [Act.put,zza,zzb,zzc,zzd,zze,zzf])
    refine ztk (i := 19) (v := .agg (row 16 (b8 (kD f0 (atF f1 0) c)))) rfl (fun W hW => exec_load 27 _ rfl _ rfl 27 16 _ (hk2.below hW hk2.lt) 5 Tryd.underlying27 i16) hS1 ?_
    (try simp only [Act.put,zza,zzb,zzc,zzd,zze,zzf])
    refine ztk (i := 20) (v := .bool false) rfl (fun _ _ => exec_neL 27 _ _ _ rfl 16 _ rfl rfl 5 Tryd.underlying27 Tryd.underlying5 i1 eqG16) hS1 ?_
    (try simp only [Act.put,zza,zzb,zzc,zzd,zze,zzf])
    refine ztk (i := 21) (v := .bool false) rfl (fun W _ => by go_simp) hS1 ?_
    (try simp only [Act.put,zza,zzb,zzc,zzd,zze,zzf])
    refine wpAnyH_done (by kernel_rfl) ?_ _
    replace hL := hL.sv (Sv.of (X := fun _ => False) hS1) id
    replace hb0 := hb0.below hS1 hb0.lt
    replace hb1 := hb1.below hS1 hb1.lt
    replace hTa := hTa.below hS1 hTa.lt
    replace hB := hB.trans (hS1.mono hB.size)
    clear hS0 hS1 hBa hk1 hk2 hn1 hrat
    have hjq : j + (q + 1) = c := by have := Hc.out; have := Ht.out; omega
    go_wp2_with fail
    exact ⟨⟨q + 1, by omega, by rw [hjq], val_int (by omega), by rw [hjq]; exact hL, hb0, hb1, hTa, hB⟩, by simp [intOf]; omega⟩
   obtain rfl : q = N := by omega
   go_wp2_with fail
   go_ret
   exact ⟨rfl, hB⟩
end Go.Proofs.YtinejbjndpdcmaaDoor.Lad
