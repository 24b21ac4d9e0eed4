/-
 ladder: what Take returns and leaves.
-/
import Derived.Test.YtinejbjndpdcmaaDoorLad2
set_option linter.unusedSimpArgs false
set_option linter.unusedVariables false
namespace Go.Proofs.YtinejbjndpdcmaaDoor.Lad
open Go.ChangeShapes Go.WideShapes Go.ChangeAt Go.RowKit Mem Dk
open Des (exec_loadR)
def kD (k n : Nat → Nat) (c : Nat) : Nat → Nat := dkey stF (xF n) k c
theorem kD_by {k n : Nat → Nat} (hk : ∀ i, i < 16 → k i < 256) (c : Nat) : ∀ i, i < 16 → kD k n c i < 256 := dk_by hk c 21
def kf (k n : Nat → Nat) (t : Nat) : Nat → Nat → Nat := fun i => if fl t i then kD k n (rc t i) else fun _ => 0
theorem kf_low {k n : Nat → Nat} {t p : Nat} (h : LowAt (t + 1) p) : kf k n t p = kD k n (t + 1) := by
 unfold kf; rw [if_pos (low_fl h).1, (low_fl h).2]
theorem regs_step {k n : Nat → Nat} {t p : Nat} (h : LowAt (t + 1) p) (hp : p < 21) :
  (∀ i, i < 21 → flF (upd' (fl t) p false) p i = fl (t + 1) i) ∧ ∀ i, i < 21 → flK (kD k n (t + 1)) n (t + 1) (upd' (kf k n t) p fun _ => 0) p i = kf k n (t + 1) i := by
 refine ⟨fun i hi => ?_, fun i hi => ?_⟩
 ·unfold flF upd'
  rcases Nat.lt_trichotomy i p with h1 | rfl | h1
  ·rw [if_pos h1, (low_below h h1).1]
  ·rw [if_neg (by omega), if_pos rfl, low_self h]
  rw [if_neg (by omega), if_neg (by omega), (low_above h h1).1]
 unfold flK upd' kf
 rcases Nat.lt_trichotomy i p with h1 | rfl | h1
 ·rw [if_pos h1, if_pos (low_below h h1).1, (low_below h h1).2, or_two h h1]
  exact (dkey_bit (by omega) (h.mod (by omega))).symm
 ·rw [if_neg (by omega), if_pos rfl, if_neg (by rw [low_self h]; exact Bool.false_ne_true)]
 rw [if_neg (by omega), if_neg (by omega), (low_above h h1).1, (low_above h h1).2]
theorem exec_iatL {P : Program} {o : Oper} {a : Act} {w : World} (ty : TypeId) (x ix : Operand) (ho : o.op = .indexAddr ty x ix) (g off : Nat) (hx : a.eval x = .pointer (some ⟨g, off, none⟩)) (kd : IntKind) (z : Int) (hix : a.eval ix = .int kd z) (k : Nat) (hz : z = (k : Int))
  (n : Nat) (e : TypeId) (hu : P.underlying ty = some (.array n e)) (hk : k < n) (sz : Nat) (hs : (P.info? e).map (·.size) = some sz) : (execOp a.eval o).run P w = .ok (.value (.pointer (some ⟨g, off + k * sz, none⟩))) w := by
 rw [← addr_lit g off (k * sz)]
 exact exec_iat ty x ix ho ⟨g, off, none⟩ hx kd z hix k hz n e hu hk sz hs
theorem ret_rows_tmp {P : Program} {fn : Func} {p p' q : Tmp} {ty ty' : TypeId} {R : Ending → World → Prop} {a : Act} {w : World} (h : fn.results = #[.cell p ty, .cell p' ty', .tmp q]) (hd : a.defers = []) (g : Nat) (hp : a.tmps.getD p undef = .pointer (some ⟨g, 0, none⟩)) (g' : Nat) (hp2 : a.tmps.getD p' undef = .pointer (some ⟨g', 0, none⟩)) (v : Value) (hq : a.tmps.getD q undef = v)
  (t : TypeId) (n : Nat) (c : Nat → Value) (hg : Blk w g t (row n c)) (e : TypeId) (hu : P.underlying ty = some (.array n e)) (hi : (P.info? ty).map (·.size) = some n)
  (t' : TypeId) (n' : Nat) (c' : Nat → Value) (hg' : Blk w g' t' (row n' c')) (e' : TypeId) (hu' : P.underlying ty' = some (.array n' e')) (hi' : (P.info? ty').map (·.size) = some n') (hR : R (.returned (.tuple #[.agg (row n c), .agg (row n' c'), v])) w) : bodyPost P fn R .ret a w := by
 refine bodyPost_ret ?_ hd hR
 have hl := run_loadVar_row (P := P) w g t ty (row n c) (0, 0) _ hg hu rfl (by rw [row_size]; exact hi)
 have hl' := run_loadVar_row (P := P) w g' t' ty' (row n' c') (0, 0) _ hg' hu' rfl (by rw [row_size]; exact hi')
 have hp' : a.tmps[p]?.getD undef = .pointer (some ⟨g, 0, none⟩) := by simpa using hp
 have hp2' : a.tmps[p']?.getD undef = .pointer (some ⟨g', 0, none⟩) := by simpa using hp2
 have hq' : a.tmps[q]?.getD undef = v := by simpa using hq
 simp [results, h, hp', hp2', hq', asAddr, hl, hl']
theorem suffT {F G : World → Prop} {R : Prop} (h1 : (∀ W, F W → G W) → R) (h2 : ∀ W, F W → G W) : R := h1 h2
set_option maxRecDepth 100000 in
set_option maxHeartbeats 4000000 in
theorem take_c (k n : Nat → Nat) (hk : ∀ i, i < 16 → k i < 256) (hn : By10 n) (t c : Nat) (hc : c = t + 1) (ht : c < 1023) (g : Nat) (w : World) (hL : LadAt w g n c (fl t) (kf k n t)) (hT : Tab w) (hg2 : g ≠ 2) :
  Calls Tryd.prog 12 #[.pointer (some ⟨g, 0, none⟩)] w fun e w' => e = .returned (.tuple #[.agg (row 16 (b8 (kD k n c))), .agg (row 10 (b8 (atF n c))), .nilIface]) ∧ LadAt w' g n (c + 1) (fl c) (kf k n c) ∧ Sv (· = g) w w' := by
 obtain ⟨p, hp21, hp⟩ := low_ex 21 c (by omega) (by omega)
 have htz := hid (tz_any c p hp (by omega))
 have hkp : Hid (kf k n t p = kD k n c) := hid (by rw [hc]; exact kf_low (hc ▸ hp))
 have hrs := hid (regs_step (k := k) (n := n) (hc ▸ hp) hp21)
 rw [← hc] at hrs
 have hon := hid (ones_any c (by omega))
 have ho : Pop.ones 24 c < 10 := few_ones (by omega)
 have hnx : Hid (∀ w, Calls Tryd.prog 7 #[.int .i64 c] w fun e w' => e = .returned (.tuple #[.int .i64 (c + 1 : Nat), .bool true]) ∧ w = w') := hid (fun w => (next_in c (by omega) w).mono (by
  rintro e w' ⟨⟨r, hr, rfl⟩, rfl⟩
  have e2 : r = c + 1 := hr.uniq (next_few (by omega))
  subst e2
  refine ⟨?_, rfl⟩
  unfold nxE
  rw [if_pos (by omega)]))
 have hkby := hid (kD_by (n := n) hk c)
 have hwr : Hid (IntKind.u64.wrap (c : Int) = (c : Int)) := hid (Des.u64_wrap c (by omega) _ rfl)
 have hz : ((c : Int) == 0) = false := by simp; omega
 have ht2 : c < 2097152 := by omega
 have Hn := hid hn
 have hgl := hL.blk.lt
 have hL2 : LadAt ((w.alloc (.cells (row 16 (b8 fun _ => 0)) 27)).alloc (.cells (row 10 (b8 fun _ => 0)) 28)) g n c (fl t) (kf k n t) := (hL.blk.alloc _).alloc _
 have hT2 := hT.sv (((Sv.refl (· = g) w).alloc (.cells (row 16 (b8 fun _ => 0)) 27)).alloc (.cells (row 10 (b8 fun _ => 0)) 28)) (fun h => hg2 h.symm)
 have hSa := hid (((Sv.refl (· = g) w).alloc (.cells (row 16 (b8 fun _ => 0)) 27)).alloc (.cells (row 10 (b8 fun _ => 0)) 28))
 have h2 := hid (show Blk ((w.alloc (.cells (row 16 (b8 fun _ => 0)) 27)).alloc (.cells (row 10 (b8 fun _ => 0)) 28)) w.heap.size 27 (row 16 (b8 fun _ => 0)) from (Blk.fresh _ _ _).alloc _)
 have h3 := hid (show Blk ((w.alloc (.cells (row 16 (b8 fun _ => 0)) 27)).alloc (.cells (row 10 (b8 fun _ => 0)) 28)) (w.heap.size + 1) 28 (row 10 (b8 fun _ => 0)) from by simpa using Blk.fresh (w.alloc (.cells (row 16 (b8 fun _ => 0)) 27)) 28 (row 10 (b8 fun _ => 0)))
 have hw2 : ((w.alloc (.cells (row 16 (b8 fun _ => 0)) 27)).alloc (.cells (row 10 (b8 fun _ => 0)) 28)).heap.size = w.heap.size + 1 + 1 := by simp
 clear hL hT hn hp hk hc
 go_enter Tryd.func12, Tryd.ntmps12
 have hcnt := hL2.cnt
 go_wp2_with (first
  | (with_reducible refine wpl_alloc rfl 27 rfl _ z16 ?_)
  | (with_reducible refine wpl_alloc rfl 28 rfl _ z10 ?_)
  | (with_reducible refine wpl_ld rfl 3 _ rfl _ rfl .i64 Tryd.underlying3 _ hcnt ?_)
  | (go_at_call 21; (try rw [hwr.out]); clear hcnt))
 generalize ((w.alloc (.cells (row 16 (b8 fun _ => 0)) 27)).alloc (.cells (row 10 (b8 fun _ => 0)) 28)) = w2 at *
 generalize hr2 : w.heap.size = r2 at *
 refine (htz.out w2 hT2).mono ?_
 rintro e w' ⟨rfl, rfl⟩
 have hkey := fun i hi => hL2.key p hp21 i hi
 rw [hkp.out] at hkey
 have hL3 : LadAt (w2.alloc (.cells (row 16 (b8 (kD k n c))) 27)) g n c (fl t) (kf k n t) := hL2.blk.alloc _
 have hL4 := hid (LadAt.set (n := n) (c := c) (f := fl t) (k := kf k n t) hL3 p false (fun _ => 0))
 have hS4 := hid (((Sv.refl (· = g) w2).alloc (.cells (row 16 (b8 (kD k n c))) 27)).setRow g (Or.inl rfl) (row 368 (fun j => if 11 + p * 17 ≤ j ∧ j < 11 + p * 17 + 17 then gcell false (fun _ => 0) (j - (11 + p * 17)) else lcell n c (fl t) (kf k n t) j)))
 have h7 := hid ((Blk.fresh w2 27 (row 16 (b8 (kD k n c)))).otherRow g (row 368 (fun j => if 11 + p * 17 ≤ j ∧ j < 11 + p * 17 + 17 then gcell false (fun _ => 0) (j - (11 + p * 17)) else lcell n c (fl t) (kf k n t) j)) (by omega))
 go_wp2_with (first
  | (with_reducible refine wpl_val rfl _ (exec_iatL 50 _ _ rfl g 11 rfl .i64 _ rfl p rfl 21 49 Tryd.underlying50 hp21 17 ireg) ?_)
  | (with_reducible refine wpl_val rfl _ (exec_loadR 27 _ rfl ⟨g, 11 + p * 17 + 1, none⟩ rfl 16 _ hkey 5 Tryd.underlying27 i16) ?_)
  | (with_reducible refine wpl_alloc rfl 27 rfl _ z16 ?_)
  | (with_reducible refine wpl_store_newg rfl 27 _ _ rfl _ _ 16 _ _ rfl rfl rfl 27 i16 (row_size _ _) ?_)
  | (with_reducible refine wpl_build0 rfl 49 rfl _ builtReg0 ?_)
  | (with_reducible refine wpl_store_seg rfl 49 _ _ rfl g (11 + p * 17) 52 368 17 _ _ rfl rfl hL3.blk ireg (by omega) (fun i _ => gcell_one _ _ i) ?_))
 rw [hw2] at h7
 have h24 := hid (hS4.out.blk h2.out (by omega))
 have h34 := hid (hS4.out.blk h3.out (by omega))
 clear hL3 hkey hL2 hT2 h2 h3 hkp
 generalize ((w2.alloc (.cells (row 16 (b8 (kD k n c))) 27)).setRow g (row 368 (fun j => if 11 + p * 17 ≤ j ∧ j < 11 + p * 17 + 17 then gcell false (fun _ => 0) (j - (11 + p * 17)) else lcell n c (fl t) (kf k n t) j))) = w4 at *
 have h7' := h7.out
 generalize Pop.ones 24 c = o at *
 go_wp2_with (first
  | (go_at_call 19; (try rw [hwr.out]); refine (hon.out _).mono ?_; rintro e w' ⟨rfl, rfl⟩; go_simp)
  | (with_reducible refine wpl_load rfl 27 _ rfl _ rfl 27 _ h7' 16 5 Tryd.underlying27 (i16' _) ?_)
  | (go_at_call 20; refine (fill_any p (by omega) _ hkby.out c ht2 n Hn.out c _ _ g _ hL4.out).mono ?_; rintro e w5 ⟨rfl, hL5, hS5⟩; have hL6 := hL5.ext hrs.out.1 (fun i hi j _ => congrFun (hrs.out.2 i hi) j); have hc6 := hL6.cnt; have hf6 := hL6.blk.free 10; go_simp)
  | (go_at_call 7; refine (hnx.out _).mono ?_; rintro e w' ⟨rfl, rfl⟩; go_simp)
  | (with_reducible refine wpl_st rfl 3 _ _ rfl _ rfl .i64 _ rfl iint _ hc6 hf6 ?_))
 have hL7 : LadAt (w5.setCell ⟨g, 10, none⟩ (.int .i64 ((c : Int) + 1))) g n (c + 1) (fl c) (kf k n c) := hL6.setCnt (c + 1)
 have hS7 := hid ((hS4.out.trans hS5).setCell g 10 (Or.inl rfl) (.int .i64 ((c : Int) + 1)))
 have hSx := hid (hS5.setCell g 10 (Or.inl rfl) (.int .i64 ((c : Int) + 1)))
 have h76 := hSx.out.blk h7.out (by omega)
 have h26 := hSx.out.blk h24.out (by omega)
 have h36 := hSx.out.blk h34.out (by omega)
 clear hc6 hf6 hL6 hL5 hS5 hL4 hS4 h7 h7' h24 h34 hSx htz hrs hnx hon hwr
 generalize w5.setCell ⟨g, 10, none⟩ (.int .i64 ((c : Int) + 1)) = w6 at *
 simp only [Act.put]
 have hg6 := hL7.blk.lt
 refine wp_region_held_drew (S := fun W => Sv (fun k => k = r2 ∨ k = r2 + 1) w6 W ∧ (∃ z, Blk W r2 27 (row 16 (b8 z))) ∧ ∃ z, Blk W (r2 + 1) 28 (row 10 (b8 z))) (by kernel_rfl) ⟨(Sv.refl _ _).drew, ⟨_, h26⟩, _, h36⟩ (fun hS0 => ?_)
 refine ztk (i := 0) (v := .agg (row 16 (b8 (kD k n c)))) rfl (fun W hW => exec_loadR 27 _ rfl ⟨r2 + 1 + 1, 0, none⟩ rfl 16 _ (fun i hi => by rw [Addr.add_lit, Nat.zero_add]; exact (hW.1.blk h76 (by omega)).val i hi) 5 Tryd.underlying27 i16) hS0 ?_
 (try simp only [Act.put,zza,zzb,zzc,zzd,zze,zzf])
 refine ztk (i := 1) (v := .pointer (some ⟨g, 0, none⟩)) rfl (fun _ _ => exec_move _ rfl _ rfl) hS0 ?_
 (try simp only [Act.put,zza,zzb,zzc,zzd,zze,zzf])
 refine ztk (i := 2) (v := .int .i64 c) rfl (fun _ _ => exec_move _ rfl _ rfl) hS0 ?_
 (try simp only [Act.put,zza,zzb,zzc,zzd,zze,zzf])
 refine wpAnyH_ready (rs := [3]) (by kernel_rfl) (by simp) (AllReadyH.cons rfl (fun K hK => ?_) AllReadyH.nil)
 (try simp only [Act.put,zza,zzb,zzc,zzd,zze,zzf])
 refine Eq.mpr (if_pos (by rfl)) ?_
 go_simp
 refine (num_any n Hn.out (c + 1) _ _ c ht2 g _ (show LadAt w6.drew g n (c + 1) (fl c) (kf k n c) from hL7)).mono ?_
 rintro e w7 ⟨rfl, hB7⟩
 go_simp
 have h27 := Blk.below (w := w6.drew) h26 hB7 (show r2 < w6.drew.heap.size from h26.lt)
 have h37 := Blk.below (w := w6.drew) h36 hB7 (show r2 + 1 < w6.drew.heap.size from h36.lt)
 refine hK.out _ _ ⟨hS0.1.call hB7, ⟨_, h27⟩, _, h37⟩ (fun hS1 => ?_)
 (try simp only [Act.put,zza,zzb,zzc,zzd,zze,zzf])
 clear hK K
 refine wpAnyH_ready (rs := [4]) (by kernel_rfl) (by simp) (AllReadyH.cons rfl (fun K hK => ?_) AllReadyH.nil)
 (try simp only [Act.put,zza,zzb,zzc,zzd,zze,zzf])
 refine Eq.mpr (if_pos (by rfl)) ?_
 with_reducible refine wp_store_blk 27 _ _ rfl r2 _ rfl rfl 27 _ h27 (i16' _) (by simp [row_size]) (one_b8 _ _) ?_
 (try simp only [Act.put,zza,zzb,zzc,zzd,zze,zzf])
 have h28 := h27.setRow (row 16 (b8 (kD k n c)))
 have h38 := h37.otherRow r2 (row 16 (b8 (kD k n c))) (by omega)
 have hS8 := hS1.1.setRow r2 (Or.inl (Or.inl rfl)) (row 16 (b8 (kD k n c)))
 refine hK.out _ _ ⟨hS8, ⟨_, h28⟩, _, h38⟩ (fun hS2 => ?_)
 (try simp only [Act.put,zza,zzb,zzc,zzd,zze,zzf])
 clear hK K
 refine wpAnyH_ready (rs := [5]) (by kernel_rfl) (by simp) (AllReadyH.cons rfl (fun K hK => ?_) AllReadyH.nil)
 (try simp only [Act.put,zza,zzb,zzc,zzd,zze,zzf])
 refine Eq.mpr (if_pos (by rfl)) ?_
 with_reducible refine wp_store_blk 28 _ _ rfl (r2 + 1) _ rfl rfl 28 _ h38 (i10' _) (by simp [row_size]) (one_b8 _ _) ?_
 (try simp only [Act.put,zza,zzb,zzc,zzd,zze,zzf])
 have h29 := h28.otherRow (r2 + 1) (row 10 (b8 (atF n c))) (by omega)
 have h39 := h38.setRow (row 10 (b8 (atF n c)))
 have hS9 := hS8.setRow (r2 + 1) (Or.inl (Or.inr rfl)) (row 10 (b8 (atF n c)))
 refine hK.out _ _ ⟨hS9, ⟨_, h29⟩, _, h39⟩ (fun hS3 => ?_)
 (try simp only [Act.put,zza,zzb,zzc,zzd,zze,zzf])
 clear hK K
 refine ztk (i := 6) (v := .nilIface) rfl (fun _ _ => exec_assign _ rfl _ rfl) hS3 ?_
 (try simp only [Act.put,zza,zzb,zzc,zzd,zze,zzf])
 refine wpAnyH_done (by kernel_rfl) ?_ _
 have hLe : LadAt _ g n (c + 1) (fl c) (kf k n c) := hS9.blk hL7 (by omega)
 have hSe := Sv.sub (Y := (· = g)) ((hSa.out.trans hS7.out).sub (Y := fun k => k = g ∨ k = r2 ∨ k = r2 + 1) (fun q _ hq => Or.inl hq) |>.trans (hS9.sub (fun q _ hq => Or.inr hq))) (fun q hq hx => by rcases hx with h | h | h <;> omega)
 clear hS0 hS1 hS2 hS3 hS7 hS8 hS9 hL7 h26 h27 h28 h36 h37 h38 h76
 go_wp2_with fail
 exact ret_rows_tmp Tryd.results12 rfl r2 rfl (r2 + 1) rfl _ rfl 27 16 _ h29 5 Tryd.underlying27 i16 28 10 _ h39 5 Tryd.underlying28 i10 ⟨rfl, hLe, hSe⟩
end Go.Proofs.YtinejbjndpdcmaaDoor.Lad
