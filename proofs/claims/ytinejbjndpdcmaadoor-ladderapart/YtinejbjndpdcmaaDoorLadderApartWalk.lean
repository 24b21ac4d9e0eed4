/-
 LadderApart returns true: its walk.
-/
import Derived.Test.YtinejbjndpdcmaaDoorLaw13b
import Derived.Test.YtinejbjndpdcmaaDoorRefKsn2
import Derived.Test.YtinejbjndpdcmaaDoorAsX
set_option linter.unusedSimpArgs false
set_option linter.unusedVariables false
namespace Go.Proofs.YtinejbjndpdcmaaDoor.Lad
open Go.ChangeShapes Go.WideShapes Go.ChangeAt Go.RowKit Mem Dk
set_option maxRecDepth 100000 in
set_option maxHeartbeats 4000000 in
theorem apart_true (f0 f1 : Nat → Nat) (z : Int) (n : Nat) (w : World) (hT : Tab w) (B0 : ∀ i, i < 16 → f0 i < 256) (B1 : ∀ i, i < 10 → f1 i < 256) (_hz : (Lit.int .i64 z).wf = true) (hn : n < 256) :
  Calls Tryd.prog 6 #[.agg (row 16 (b8 f0)), .agg (row 10 (b8 f1)), .int .i64 z, .int .u8 n] w fun e w' => e = .returned (.bool true) ∧ Below w.heap.size w w' := by
 have hl2 := hT.lt
 obtain ⟨N, hN, hN2⟩ : ∃ N, N = n % 60 ∧ N < 60 := ⟨n % 60, rfl, by omega⟩
 have hmod : ((n : Int) % 60) = (N : Int) := by omega
 clear hN
 have hb0 : Blk ((w.alloc (.cells (row 16 (b8 f0)) 27)).alloc (.cells (row 10 (b8 f1)) 28)) w.heap.size 27 (row 16 (b8 f0)) := (Blk.fresh _ _ _).alloc _
 have hb1 : Blk ((w.alloc (.cells (row 16 (b8 f0)) 27)).alloc (.cells (row 10 (b8 f1)) 28)) (w.heap.size + 1) 28 (row 10 (b8 f1)) := by simpa using Blk.fresh (w.alloc (.cells (row 16 (b8 f0)) 27)) 28 (row 10 (b8 f1))
 have hB : Below w.heap.size w ((w.alloc (.cells (row 16 (b8 f0)) 27)).alloc (.cells (row 10 (b8 f1)) 28)) := ((Below.refl _ _).alloc (Nat.le_refl _) _).alloc (by simp) _
 have hTa := hT.below hB hl2
 have Hnb := hid (atF_lt (k := f1) B1 0)
 have HB0 := hid B0
 have HB1 := hid B1
 clear hT B0 B1
 go_enter Tryd.func6, Tryd.ntmps6
 go_wp2_with (first
  | (with_reducible refine wpl_load rfl 27 _ rfl _ rfl 27 _ hb0 16 5 Tryd.underlying27 (i16' _) ?_)
  | (with_reducible refine wpl_load rfl 28 _ rfl _ rfl 28 _ hb1 10 5 Tryd.underlying28 (i10' _) ?_))
 generalize ((w.alloc (.cells (row 16 (b8 f0)) 27)).alloc (.cells (row 10 (b8 f1)) 28)) = w0 at *
 refine (new_any f0 f1 HB0.out HB1.out _).mono ?_
 rintro e w1 ⟨g1, hg1, rfl, hL1, hBn⟩
 replace hb0 := hb0.below hBn hb0.lt
 replace hb1 := hb1.below hBn hb1.lt
 replace hTa := hTa.below hBn hTa.lt
 have hgw : w.heap.size ≤ g1 := Nat.le_trans hB.size hg1
 replace hB := hB.trans (hBn.mono hB.size)
 clear hBn hg1
 go_simp
 go_wp2_with fail
 have hcz := hid (atF_lt (k := f1) HB1.out (z % 2097152).toNat)
 have hat0 : Hid (atF (atF f1 (z % 2097152).toNat) 0 = atF f1 0) := hid (at_at _ _ _)
 have hrat := hid (rat_any f1 HB1.out z)
 generalize atF f1 (z % 2097152).toNat = f2 at *
 refine wp_region_held_drew (S := fun W => Below w1.heap.size w1 W) (by kernel_rfl) (Below.refl _ _).drew (fun hS0 => ?_)
 refine ztk (i := 0) (v := .agg (row 16 (b8 f0))) rfl (fun W hW => exec_load 27 _ rfl _ rfl 27 16 _ (hb0.below hW hb0.lt) 5 Tryd.underlying27 i16) hS0 ?_
 (try simp only [Act.put,zza,zzb,zzc,zzd,zze,zzf])
 refine ztk (i := 1) (v := .agg (row 10 (b8 f1))) rfl (fun W hW => exec_load 28 _ rfl _ rfl 28 10 _ (hb1.below hW hb1.lt) 5 Tryd.underlying28 i10) hS0 ?_
 (try simp only [Act.put,zza,zzb,zzc,zzd,zze,zzf])
 refine ztk (i := 2) (v := .int .i64 z) rfl (fun _ _ => exec_move _ rfl _ rfl) hS0 ?_
 (try simp only [Act.put,zza,zzb,zzc,zzd,zze,zzf])
 refine wpAnyH_ready (rs := [3]) (by kernel_rfl) (by simp) (AllReadyH.cons rfl (fun K hK => ?_) AllReadyH.nil)
 (try simp only [Act.put,zza,zzb,zzc,zzd,zze,zzf])
 refine Eq.mpr (if_pos (by rfl)) ?_
 go_simp
 refine (hrat.out _).mono ?_
 rintro e wa ⟨rfl, hBa⟩
 go_simp
 refine hK.out _ _ (hS0.trans (hBa.mono hS0.size)) (fun hS1 => ?_)
 (try simp only [Act.put,zza,zzb,zzc,zzd,zze,zzf])
 clear hK K hBa hS0
 refine wpAnyH_ready (rs := [4]) (by kernel_rfl) (by simp) (AllReadyH.cons rfl (fun K hK => ?_) AllReadyH.nil)
 (try simp only [Act.put,zza,zzb,zzc,zzd,zze,zzf])
 refine Eq.mpr (if_pos (by rfl)) ?_
 go_simp
 refine (new_any f0 f2 HB0.out hcz.out _).mono ?_
 rintro e w2 ⟨g2, hg2, rfl, hL2, hBn⟩
 rw [hat0.out] at hL2
 go_simp
 have hS2s := hS1.trans (hBn.mono hS1.size)
 have hgl := hL1.lt
 have hg12 : g1 ≠ g2 := (by have := hS1.size; omega)
 have hgw2 : w.heap.size ≤ g2 := (by have := hS1.size; have := hB.size; omega)
 refine hK.out _ _ hS2s (fun hS2 => ?_)
 (try simp only [Act.put,zza,zzb,zzc,zzd,zze,zzf])
 clear hK K
 refine ztk (i := 5) (v := .pointer (some ⟨g2, 0, none⟩)) rfl (fun _ _ => exec_assign _ rfl _ rfl) hS2 ?_
 (try simp only [Act.put,zza,zzb,zzc,zzd,zze,zzf])
 refine wpAnyH_done (by kernel_rfl) ?_ _
 replace hL1 := hL1.sv (Sv.of (X := fun _ => False) hS2s) id
 replace hTa := hTa.below hS2s hTa.lt
 replace hB := hB.trans (hS2s.mono hB.size)
 clear hS1 hS2 hS2s hBn hb0 hb1 hrat hcz hat0 hgl hg2
 go_wp2_with fail
 refine (awake13_any _ hTa).mono ?_
 rintro e w3 ⟨rfl, hBn⟩
 replace hL1 := hL1.sv (Sv.of (X := fun _ => False) hBn) id
 replace hL2 := hL2.sv (Sv.of (X := fun _ => False) hBn) id
 replace hTa := hTa.below hBn hTa.lt
 replace hB := hB.trans (hBn.mono hB.size)
 have hg1n : g1 ≠ 2 := by omega
 have hg2n : g2 ≠ 2 := by omega
 clear hBn
 go_simp
 go_wp2_with fail
 go_loopw [11, 12] (fun l i wr => ∃ j : Nat, j ≤ N ∧ l = .int .i64 j ∧ i = .int .i64 j ∧ Term wr g1 f0 (atF f1 0) j ∧ Term wr g2 f0 (atF f1 0) j ∧ Tab wr ∧ Below w.heap.size w wr) (fun _ i _ => N - (intOf i).toNat)
 case atStart => exact ⟨0, by omega, rfl, rfl, hL1, hL2, hTa, hB⟩
 case round =>
  clear hL1 hL2 hTa hB
  obtain ⟨j, hj, rfl, rfl, hL1, hL2, hTa, hB⟩ := hrel
  by_cases hlt : j < N
  ·go_wp2_with fail
   refine (take_term f0 (atF f1 0) HB0.out Hnb.out j (by omega) g1 _ hL1 hTa hg1n).mono ?_
   rintro e w5 ⟨rfl, hLn, hS⟩
   replace hL2 := hL2.sv hS (fun h => hg12 h.symm)
   replace hTa := hTa.sv hS (by omega)
   replace hB := hS.below hB (fun q hq => by omega) hB.size
   replace hL1 := hLn
   clear hS hLn
   obtain ⟨h5, h6, hk1, hn1, hBt, hsz3⟩ := taken w5 (kD f0 (atF f1 0) (j + 1)) (atF (atF f1 0) (j + 1))
   generalize hW : (World.setRow (World.setRow _ w5.heap.size _) (w5.heap.size + 1) _) = w6 at hk1 hn1 hBt
   have hl5 := hL2.lt
   replace hL1 := hL1.sv (Sv.of (X := fun _ => False) hBt) id
   replace hL2 := hL2.sv (Sv.of (X := fun _ => False) hBt) id
   replace hTa := hTa.below hBt hTa.lt
   replace hB := hB.trans (hBt.mono hB.size)
   clear hBt
   go_simp
   go_wp2_with (first
    | (with_reducible refine wpl_alloc rfl 27 rfl _ z16 ?_)
    | (with_reducible refine wpl_alloc rfl 28 rfl _ z10 ?_; rw [hsz3])
    | (with_reducible refine wpl_store rfl 27 _ _ rfl _ _ rfl rfl 27 _ h5 (i16' _) (by simp [row_size]) (one_b8 _ _) ?_)
    | (with_reducible refine wpl_store rfl 28 _ _ rfl _ _ rfl rfl 28 _ h6 (i10' _) (by simp [row_size]) (one_b8 _ _) ?_; rw [hW]))
   clear h5 h6 hsz3 hW
   generalize w5.heap.size = s1 at *
   refine (take_term f0 (atF f1 0) HB0.out Hnb.out j (by omega) g2 _ hL2 hTa hg2n).mono ?_
   rintro e w7 ⟨rfl, hLn, hS⟩
   replace hL1 := hL1.sv hS hg12
   replace hTa := hTa.sv hS (by omega)
   replace hB := hS.below hB (fun q hq => by omega) hB.size
   replace hL2 := hLn
   replace hk1 := hS.blk hk1 (by omega)
   replace hn1 := hS.blk hn1 (by omega)
   clear hS hLn
   obtain ⟨h5, h6, hk2, hn2, hBt, hsz3⟩ := taken w7 (kD f0 (atF f1 0) (j + 1)) (atF (atF f1 0) (j + 1))
   generalize hW : (World.setRow (World.setRow _ w7.heap.size _) (w7.heap.size + 1) _) = w8 at hk2 hn2 hBt
   replace hL1 := hL1.sv (Sv.of (X := fun _ => False) hBt) id
   replace hL2 := hL2.sv (Sv.of (X := fun _ => False) hBt) id
   replace hTa := hTa.below hBt hTa.lt
   replace hB := hB.trans (hBt.mono hB.size)
   replace hk1 := hk1.below hBt hk1.lt
   replace hn1 := hn1.below hBt hn1.lt
   clear hBt
   have Hby := hid (atF_lt Hnb.out (j + 1))
   have Hcnt := hid (cnt_at (k := atF f1 0) (c := j + 1) (by omega))
   have hd9 : decide (((j + 1 : Nat) : Int) ≤ (j : Int)) = false := decide_eq_false (by omega)
   go_simp
   go_wp2_with (first
    | (with_reducible refine wpl_alloc rfl 27 rfl _ z16 ?_)
    | (with_reducible refine wpl_alloc rfl 28 rfl _ z10 ?_; rw [hsz3])
    | (with_reducible refine wpl_store rfl 27 _ _ rfl _ _ rfl rfl 27 _ h5 (i16' _) (by simp [row_size]) (one_b8 _ _) ?_)
    | (with_reducible refine wpl_store rfl 28 _ _ rfl _ _ rfl rfl 28 _ h6 (i10' _) (by simp [row_size]) (one_b8 _ _) ?_; rw [hW])
    | ((with_reducible refine wpg_val ?_ _ (exec_load 27 _ rfl _ rfl 27 16 _ hk1 5 Tryd.underlying27 i16) ?_); exact rfl)
    | ((with_reducible refine wpg_val ?_ _ (exec_load 27 _ rfl _ rfl 27 16 _ hk2 5 Tryd.underlying27 i16) ?_); exact rfl)
    | ((with_reducible refine wpg_val ?_ _ (exec_load 28 _ rfl _ rfl 28 10 _ hn1 5 Tryd.underlying28 i10) ?_); exact rfl)
    | ((with_reducible refine wpg_val ?_ _ (exec_load 28 _ rfl _ rfl 28 10 _ hn2 5 Tryd.underlying28 i10) ?_); exact rfl)
    | ((with_reducible refine wpg_val ?_ _ (exec_neL 27 _ _ _ rfl 16 _ rfl rfl 5 Tryd.underlying27 Tryd.underlying5 i1 eqG16) ?_); exact rfl)
    | ((with_reducible refine wpg_val ?_ _ (exec_neL 28 _ _ _ rfl 10 _ rfl rfl 5 Tryd.underlying28 Tryd.underlying5 i1 eqG10) ?_); exact rfl))
   clear h5 h6 hsz3 hW
   refine (rcnt_any _ Hby.out _).mono ?_
   rintro e w9 ⟨rfl, hBt⟩
   rw [Hcnt.out]
   replace hL1 := hL1.sv (Sv.of (X := fun _ => False) hBt) id
   replace hL2 := hL2.sv (Sv.of (X := fun _ => False) hBt) id
   replace hTa := hTa.below hBt hTa.lt
   replace hB := hB.trans (hBt.mono hB.size)
   replace hn1 := hn1.below hBt hn1.lt
   clear hBt hk1 hk2 hn2
   go_simp
   go_wp2_with (first
    | (with_reducible refine wpl_load rfl 28 _ rfl _ rfl 28 _ hn1 10 5 Tryd.underlying28 (i10' _) ?_))
   refine (rcnt_any _ Hby.out _).mono ?_
   rintro e wa ⟨rfl, hBt⟩
   rw [Hcnt.out]
   replace hL1 := hL1.sv (Sv.of (X := fun _ => False) hBt) id
   replace hL2 := hL2.sv (Sv.of (X := fun _ => False) hBt) id
   replace hTa := hTa.below hBt hTa.lt
   replace hB := hB.trans (hBt.mono hB.size)
   clear hBt hn1
   go_simp
   go_wp2_with fail
   exact ⟨⟨j + 1, by omega, val_int (by omega), val_int (by omega), hL1, hL2, hTa, hB⟩, by simp [intOf]; omega⟩
  obtain rfl : j = N := by omega
  go_wp2_with fail
  refine (skip_any f0 (atF f1 0) HB0.out Hnb.out j 0 (by omega) (by omega) _ (Or.inr ⟨by omega, rfl⟩) g1 _ hL1 hTa hg1n).mono ?_
  rintro e w4 ⟨rfl, hLn, hS⟩
  replace hB := hS.below hB (fun q hq => by omega) hB.size
  clear hS hLn hL1 hL2
  go_simp
  go_wp2_with fail
  refine (As.code_nil _).mono ?_
  rintro e w5 ⟨rfl, hBt⟩
  replace hB := hB.trans (hBt.mono hB.size)
  go_simp
  go_wp2_with fail
  go_ret
  exact ⟨rfl, hB⟩
end Go.Proofs.YtinejbjndpdcmaaDoor.Lad
