/-
 What Parse of package head returns.
-/
import Derived.Test.YtklgngdcihkfjaaDoorHd7
namespace Go.Proofs.YtklgngdcihkfjaaDoor.Hd
open Mem As Go.ChangeShapes Go.WideShapes Go.ChangeAt Go.RowKit
section
variable {P : Program} {ops : Array Oper} {rest : List Oper} {o : Oper} {a : Act} {w : World} {Q : Exit → Act → World → Prop}
theorem wpl_storeH (hgd : o.guard = none) (ty : TypeId) (x y : Operand) (ho : o.op = .store ty x y) (g : Nat) (cells : Array Value) (hx : a.eval x = .pointer (some ⟨g, 0, none⟩)) (hy : a.eval y = .agg cells)
  (t : TypeId) (old : Array Value) (hg : Blk w g t old) (hi : (P.info? ty).map (·.size) = some cells.size) (hold : old.size = cells.size) (h1 : cells.all (·.oneCell') = true)
  (h : wpList P ops Q rest (a.put o.dst undef) (w.setRow g cells)) : wpList P ops Q (o :: rest) a w :=
 wpList_plain hgd fun _ hK => wp_store_row ty x y ho g cells hx hy t old hg hi hold h1 (hK _ _ h)
end
theorem exec_allocH {o : Oper} {a : Act} {w : World} (t : TypeId) (ho : o.op = .alloc t) (cs : Array Value) (hz : (Tryd.prog.info? t).map (·.zero) = some (some (.agg cs))) : (execOp a.eval o).run Tryd.prog w = .ok (.value (.pointer (some ⟨w.heap.size, 0, none⟩))) (w.alloc (.cells cs t)) := by
 have hz' : (zeroValue t).run Tryd.prog w = .ok (.agg cs) w := by
  cases hq : Tryd.prog.info? t with
  | none => simp [hq] at hz
  | some i => simp [hq] at hz; simp [zeroValue, typeInfo, hq, hz]
 unfold execOp
 simp only [ho, Instr.alloc, Sem.run_bind, hz', Result.andThen_ok]
 rfl
theorem wp_vw {P : Program} {o : Oper} {a : Act} {w w' : World} {K : Act → World → Prop} {Q : Exit → Act → World → Prop} (v : Value) (hr : (execOp a.eval o).run P w = .ok (.value v) w') (h : K (a.put o.dst v) w') : o.wp P a w K Q := by
 unfold Oper.wp
 rw [hr]
 exact h
theorem built0 : Tryd.prog.built 23 [] = some noHd := by kernel_rfl
theorem oneNo : noHd.all (·.oneCell') = true := by kernel_rfl
theorem oneC (h : Hd) : (hdC h).all (·.oneCell') = true := one6 _ _ _ _ _ _
theorem sizeC (h : Hd) : (Tryd.prog.info? 23).map (·.size) = some (hdC h).size := iHead
theorem sizeN : (Tryd.prog.info? 23).map (·.size) = some noHd.size := iHead
theorem cutH_ok {f : Nat → Nat} (hf : ∀ i, f i < 256) : (cutH f).Ok := ⟨hf _, fun _ => hf _, hf _, hf _, fun _ => hf _, hf _⟩
def parZ (f : Nat → Nat) : Int := refZ (wrong (cutH f)) (lenZ fun i => f (1 + i)) (fun i => f (12 + i))
def P3 (w : World) (f : Nat → Nat) (W : World) (g : Nat) : Prop := Below w.heap.size w W ∧ Blk W w.heap.size 23 noHd ∧ Blk W g 23 (hdC (cutH f)) ∧ w.heap.size < g
theorem parse_short (n : Nat) (f : Nat → Nat) (hn : n < 16) (w : World) : Calls Tryd.prog 15 #[.string (strF n f)] w fun e w' => e = .returned (.tuple #[.agg noHd, .int .i64 0, .iface 44 (.int .i64 2)]) ∧ Below w.heap.size w w' := by
 have hsz := strF_size n f
 have hnI : (n : Int) < 16 := by omega
 have hB0 : ∀ cs, Below w.heap.size w (w.alloc (.cells cs 23)) := fun cs => (Below.refl _ _).alloc (Nat.le_refl _) _
 have hb0 := Blk.fresh w 23 noHd
 have HB0 := hid hB0
 have Hb0 := hid hb0
 clear hB0 hb0
 go_enter Tryd.func15, Tryd.ntmps15
 go_wp2_with (first
  | (with_reducible refine wpl_alloc rfl 23 rfl _ zHead ?_)
  | (with_reducible refine wpl_build0 rfl 23 rfl _ built0 ?_)
  | (with_reducible refine wpl_storeH rfl 23 _ _ rfl w.heap.size noHd rfl rfl 23 _ Hb0.out sizeN rfl oneNo ?_))
 exact ret_cs3 Tryd.results15 rfl w.heap.size rfl _ rfl _ rfl 23 _ (Hb0.out.setRow _) _ Tryd.underlying23 sizeN ⟨rfl, below_setRow' (HB0.out _) (Nat.le_refl _) _⟩
set_option maxRecDepth 100000 in
set_option maxHeartbeats 1000000 in
set_option linter.unusedSimpArgs false in
theorem parse_any (n : Nat) (f : Nat → Nat) (hf : ∀ i, f i < 256) (hn : 16 ≤ n) (hn2 : n ≤ 100000) (w : World) (hg : Laid w) : Calls Tryd.prog 15 #[.string (strF n f)] w fun e w' => Below w.heap.size w w' ∧
  ((parZ f = -1 ∧ e = .returned (.tuple #[.agg (hdC (cutH f)), .int .i64 (lenZ fun i => f (1 + i)), .nilIface])) ∨
  (0 ≤ parZ f ∧ ∃ g, w.heap.size ≤ g ∧ e = .returned (.tuple #[.agg noHd, .int .i64 0, .iface 53 (.pointer (some ⟨g, 0, none⟩))]) ∧ Blk w' g 56 #[.int .i64 (parZ f), .iface 44 (.int .i64 6)])) := by
 have hsz := strF_size n f
 have hnI : ¬ (n : Int) < 16 := by omega
 have hlt16 : decide ((n : Int) < 16) = false := by simp; omega
 have hB0 : Below w.heap.size w (w.alloc (.cells noHd 23)) := (Below.refl _ _).alloc (Nat.le_refl _) _
 have hb0 := Blk.fresh w 23 noHd
 have HB0 := hid hB0
 have Hb0 := hid hb0
 have Hg := hid hg
 clear hB0 hb0 hg
 go_enter Tryd.func15, Tryd.ntmps15
 go_wp2_with (with_reducible refine wpl_alloc rfl 23 rfl _ zHead ?_)
 generalize w.alloc (.cells noHd 23) = w0 at HB0 Hb0 ⊢
 apply suff (F := P3 w f)
 case h1 =>
  intro kk
  refine wp_region_held_drew (S := fun W => Below w.heap.size w W) (by kernel_rfl) HB0.out.drew (fun hS0 => ?_)
  have hbx0 : Blk w0.drew w.heap.size 23 noHd := Hb0.out
  refine ztk (i := 0) (v := .string (strF n f)) rfl (fun _ _ => exec_move _ rfl _ rfl) hS0 ?_
  (try simp only [Act.put,zza,zzb,zzc,zzd,zze,zzf])
  refine ztk (i := 2) (v := .string (strF n f)) rfl (fun _ _ => exec_move _ rfl _ rfl) hS0 ?_
  (try simp only [Act.put,zza,zzb,zzc,zzd,zze,zzf])
  refine ztk (i := 3) (v := .string (strF 4 fun i => f (1 + i))) rfl (fun W _ => exec_cutS 9 _ _ _ rfl n f 1 5 rfl rfl rfl 1 5 rfl rfl (by omega) (by omega) Tryd.underlying9) hS0 ?_
  (try simp only [Act.put,zza,zzb,zzc,zzd,zze,zzf])
  refine wpAnyH_ready (rs := [1, 5]) (by kernel_rfl) (by simp) ?_
  refine AllReadyH.cons rfl (fun K hK => ?_) (AllReadyH.cons rfl (fun K hK => ?_) AllReadyH.nil)
  (try simp only [Act.put,zza,zzb,zzc,zzd,zze,zzf])
  refine Eq.mpr (if_pos (by rfl)) ?_
  go_simp
  refine (cut_any n f hf hn hn2 _).mono ?_
  rintro e wq1 ⟨rfl, hB1⟩
  have hbx1 := hbx0.below hB1 hbx0.lt
  refine hK.out _ _ (hS0.trans (hB1.mono hS0.size)) (fun hS1 => ?_)
  (try simp only [Act.put,zza,zzb,zzc,zzd,zze,zzf])
  clear hK K
  refine wpAnyH_ready (rs := [4, 5]) (by kernel_rfl) (by simp) ?_
  refine AllReadyH.cons rfl (fun K hK => ?_) (AllReadyH.cons rfl (fun K hK => ?_) AllReadyH.nil)
  (try simp only [Act.put,zza,zzb,zzc,zzd,zze,zzf])
  refine Eq.mpr (if_pos (by rfl)) ?_
  go_simp
  refine (lenOf_any (fun i => f (1 + i)) (fun _ => hf _) _).mono ?_
  rintro e wq2 ⟨rfl, rfl⟩
  refine hK.out _ _ hS1 (fun hS2 => ?_)
  (try simp only [Act.put,zza,zzb,zzc,zzd,zze,zzf])
  clear hK K
  refine wpAnyH_ready (rs := [5]) (by kernel_rfl) (by simp) ?_
  refine AllReadyH.cons rfl (fun K hK => ?_) AllReadyH.nil
  (try simp only [Act.put,zza,zzb,zzc,zzd,zze,zzf])
  refine Eq.mpr (if_pos (by rfl)) ?_
  refine wp_vw _ (exec_allocH 23 rfl _ zHead) ?_
  have hbx3 := hbx1.alloc (.cells noHd 23)
  have h5_3 := Blk.fresh wq2 23 noHd
  refine hK.out _ _ (hS2.alloc hS2.size _) (fun hS3 => ?_)
  (try simp only [Act.put,zza,zzb,zzc,zzd,zze,zzf])
  clear hK K
  have hl5 : w.heap.size < wq2.heap.size := hbx1.lt
  obtain ⟨g5, hg5⟩ : ∃ g, g = wq2.heap.size := ⟨_, rfl⟩
  rw [← hg5] at h5_3 hl5 ⊢
  clear hg5
  generalize wq2.alloc (.cells noHd 23) = wx3 at *
  have hSE := hS3
  have hbxE := hbx3
  have h5E := h5_3
  obtain ⟨wE, hE⟩ : ∃ x, x = wx3 := ⟨_, rfl⟩
  subst hE
  rotate_left
  (try simp only [Act.put,zza,zzb,zzc,zzd,zze,zzf])
  refine Eq.mpr (if_pos (by rfl)) ?_
  refine wp_vw _ (exec_allocH 23 rfl _ zHead) ?_
  have hbx4 := hbx1.alloc (.cells noHd 23)
  have h5_4 := Blk.fresh wq1 23 noHd
  refine hK.out _ _ (hS1.alloc hS1.size _) (fun hS4 => ?_)
  (try simp only [Act.put,zza,zzb,zzc,zzd,zze,zzf])
  clear hK K
  have hl5 : w.heap.size < wq1.heap.size := hbx1.lt
  obtain ⟨g5, hg5⟩ : ∃ g, g = wq1.heap.size := ⟨_, rfl⟩
  rw [← hg5] at h5_4 hl5 ⊢
  clear hg5
  generalize wq1.alloc (.cells noHd 23) = wx4 at *
  refine wpAnyH_ready (rs := [4]) (by kernel_rfl) (by simp) ?_
  refine AllReadyH.cons rfl (fun K hK => ?_) AllReadyH.nil
  (try simp only [Act.put,zza,zzb,zzc,zzd,zze,zzf])
  refine Eq.mpr (if_pos (by rfl)) ?_
  go_simp
  refine (lenOf_any (fun i => f (1 + i)) (fun _ => hf _) _).mono ?_
  rintro e wq5 ⟨rfl, rfl⟩
  refine hK.out _ _ hS4 (fun hS5 => ?_)
  (try simp only [Act.put,zza,zzb,zzc,zzd,zze,zzf])
  clear hK K
  have hSE := hS5
  have hbxE := hbx4
  have h5E := h5_4
  obtain ⟨wE, hE⟩ : ∃ x, x = wq5 := ⟨_, rfl⟩
  subst hE
  rotate_left
  (try simp only [Act.put,zza,zzb,zzc,zzd,zze,zzf])
  refine Eq.mpr (if_pos (by rfl)) ?_
  refine wp_vw _ (exec_allocH 23 rfl _ zHead) ?_
  have hbx6 := hbx0.alloc (.cells noHd 23)
  have h5_6 := Blk.fresh w0.drew 23 noHd
  refine hK.out _ _ (hS0.alloc hS0.size _) (fun hS6 => ?_)
  (try simp only [Act.put,zza,zzb,zzc,zzd,zze,zzf])
  clear hK K
  have hl5 : w.heap.size < w0.drew.heap.size := hbx0.lt
  obtain ⟨g5, hg5⟩ : ∃ g, g = w0.drew.heap.size := ⟨_, rfl⟩
  rw [← hg5] at h5_6 hl5 ⊢
  clear hg5
  generalize w0.drew.alloc (.cells noHd 23) = wx6 at *
  refine wpAnyH_ready (rs := [1]) (by kernel_rfl) (by simp) ?_
  refine AllReadyH.cons rfl (fun K hK => ?_) AllReadyH.nil
  (try simp only [Act.put,zza,zzb,zzc,zzd,zze,zzf])
  refine Eq.mpr (if_pos (by rfl)) ?_
  go_simp
  refine (cut_any n f hf hn hn2 _).mono ?_
  rintro e wq7 ⟨rfl, hB7⟩
  have hbx7 := hbx6.below hB7 hbx6.lt
  have h5_7 := h5_6.below hB7 h5_6.lt
  refine hK.out _ _ (hS6.trans (hB7.mono hS6.size)) (fun hS7 => ?_)
  (try simp only [Act.put,zza,zzb,zzc,zzd,zze,zzf])
  clear hK K
  refine wpAnyH_ready (rs := [4]) (by kernel_rfl) (by simp) ?_
  refine AllReadyH.cons rfl (fun K hK => ?_) AllReadyH.nil
  (try simp only [Act.put,zza,zzb,zzc,zzd,zze,zzf])
  refine Eq.mpr (if_pos (by rfl)) ?_
  go_simp
  refine (lenOf_any (fun i => f (1 + i)) (fun _ => hf _) _).mono ?_
  rintro e wq8 ⟨rfl, rfl⟩
  refine hK.out _ _ hS7 (fun hS8 => ?_)
  (try simp only [Act.put,zza,zzb,zzc,zzd,zze,zzf])
  clear hK K
  have hSE := hS8
  have hbxE := hbx7
  have h5E := h5_7
  obtain ⟨wE, hE⟩ : ∃ x, x = wq8 := ⟨_, rfl⟩
  subst hE
  rotate_left
  all_goals
   refine wpAnyH_ready (rs := [6]) (by kernel_rfl) (by simp) ?_
   refine AllReadyH.cons rfl (fun K hK => ?_) AllReadyH.nil
   (try simp only [Act.put,zza,zzb,zzc,zzd,zze,zzf])
   refine Eq.mpr (if_pos (by rfl)) ?_
   refine wp_store_blk 23 _ _ rfl g5 (hdC (cutH f)) rfl rfl 23 _ h5E (sizeC _) rfl (oneC _) ?_
   (try simp only [Act.put,zza,zzb,zzc,zzd,zze,zzf])
   refine hK.out _ _ (below_setRow' hSE (Nat.le_of_lt hl5) _) (fun hSz => ?_)
   (try simp only [Act.put,zza,zzb,zzc,zzd,zze,zzf])
   clear hK K
   refine ztk (i := 7) (v := .int .i64 (lenZ fun i => f (1 + i))) rfl (fun _ _ => exec_assign _ rfl _ rfl) hSz ?_
   (try simp only [Act.put,zza,zzb,zzc,zzd,zze,zzf])
   refine wpAnyH_done (by kernel_rfl) ?_ _
   have hp : P3 w f (wE.setRow g5 (hdC (cutH f))) g5 := ⟨hSz, hbxE.otherRow _ _ (by omega), h5E.setRow _, hl5⟩
   generalize wE.setRow g5 (hdC (cutH f)) = wF at hp ⊢
   exact kk wF g5 hp
 intro w3 g5 ⟨hB3, hbx3, hb3, hl5⟩
 try dsimp only
 have hg3 := Hg.out.below hB3
 have HB3 := hid hB3
 have Hbx3 := hid hbx3
 have Hb3 := hid hb3
 have Hg3 := hid hg3
 have hs3 := hB3.size
 have hsx := hbx3.lt
 clear hB3 hbx3 hb3 hg3
 go_wp2_with fail
 refine wp_region_held_drew (S := fun W => Below w3.heap.size w3 W) (by kernel_rfl) (Below.refl _ _).drew (fun hS0 => ?_)
 refine ztk (i := 0) (v := .agg (hdC (cutH f))) rfl (fun W hW => exec_ldcs 23 _ rfl g5 rfl 23 _ (Hb3.out.below hW Hb3.out.lt) _ Tryd.underlying23 (sizeC _)) hS0 ?_
 (try simp only [Act.put,zza,zzb,zzc,zzd,zze,zzf])
 refine ztk (i := 1) (v := .int .i64 (lenZ fun i => f (1 + i))) rfl (fun _ _ => exec_move _ rfl _ rfl) hS0 ?_
 (try simp only [Act.put,zza,zzb,zzc,zzd,zze,zzf])
 refine ztk (i := 2) (v := .string (strF n f)) rfl (fun _ _ => exec_move _ rfl _ rfl) hS0 ?_
 (try simp only [Act.put,zza,zzb,zzc,zzd,zze,zzf])
 refine ztk (i := 3) (v := .string (strF 4 fun i => f (12 + i))) rfl (fun W _ => exec_cutS 9 _ _ _ rfl n f 12 16 rfl rfl rfl 12 16 rfl rfl (by omega) (by omega) Tryd.underlying9) hS0 ?_
 (try simp only [Act.put,zza,zzb,zzc,zzd,zze,zzf])
 refine wpAnyH_ready (rs := [4]) (by kernel_rfl) (by simp) ?_
 refine AllReadyH.cons rfl (fun K hK => ?_) AllReadyH.nil
 (try simp only [Act.put,zza,zzb,zzc,zzd,zze,zzf])
 refine Eq.mpr (if_pos (by rfl)) ?_
 go_simp
 refine (refuse_any (cutH f) (cutH_ok hf) (lenZ fun i => f (1 + i)) (fun i => f (12 + i)) (fun _ => hf _) _ (Hg3.out.below hS0)).mono ?_
 rintro e w4 ⟨hB4, v4, rfl, hz4⟩
 have hS1 := hS0.trans (hB4.mono hS0.size)
 have Hz4 := hid hz4
 have hs4 := hS0.size
 clear hz4
 refine hK.out _ _ hS1 (fun _ => ?_)
 (try simp only [Act.put,zza,zzb,zzc,zzd,zze,zzf])
 clear hK K
 refine ztk (i := 5) (v := v4) rfl (fun _ _ => exec_assign _ rfl _ rfl) hS1 ?_
 (try simp only [Act.put,zza,zzb,zzc,zzd,zze,zzf])
 refine wpAnyH_done (by kernel_rfl) ?_ _
 have hbx4 := Hbx3.out.below hS1 Hbx3.out.lt
 have hb4 := Hb3.out.below hS1 Hb3.out.lt
 have Hbx4 := hid hbx4
 have Hb4 := hid hb4
 have HB4 := hid (HB3.out.trans (hS1.mono hs3))
 clear hbx4 hb4 hS1 hB4 hS0 Hbx3 Hb3 Hg3 HB3 hs3
 rcases Hz4.out with ⟨hz, rfl⟩ | ⟨hz, g, hg, rfl, hb⟩
 ·go_wp2_with (first
   | (with_reducible refine wpl_valw rfl _ (exec_ldcs 23 _ rfl g5 rfl 23 _ Hb4.out _ Tryd.underlying23 (sizeC _)) ?_)
   | (with_reducible refine wpl_storeH rfl 23 _ _ rfl w.heap.size (hdC (cutH f)) rfl rfl 23 _ Hbx4.out (sizeC _) rfl (oneC _) ?_))
  exact ret_cs3 Tryd.results15 rfl w.heap.size rfl _ rfl _ rfl 23 _ (Hbx4.out.setRow _) _ Tryd.underlying23 (sizeC _) ⟨below_setRow' HB4.out (Nat.le_refl _) _, .inl ⟨hz, rfl⟩⟩
 have hgl : w.heap.size < g := by omega
 have Hb := hid hb
 clear hb
 go_wp2_with (first
  | (with_reducible refine wpl_build0 rfl 23 rfl _ built0 ?_)
  | (with_reducible refine wpl_storeH rfl 23 _ _ rfl w.heap.size noHd rfl rfl 23 _ Hbx4.out sizeN rfl oneNo ?_))
 exact ret_cs3 Tryd.results15 rfl w.heap.size rfl _ rfl _ rfl 23 _ (Hbx4.out.setRow _) _ Tryd.underlying23 sizeN ⟨below_setRow' HB4.out (Nat.le_refl _) _, .inr ⟨hz, g, by omega, rfl, Hb.out.otherRow _ _ (by omega)⟩⟩
end Go.Proofs.YtklgngdcihkfjaaDoor.Hd
