/-
 dukpt: what steppedHalf and Step return.
-/
import Derived.Test.YtinejbjndpdcmaaDoorDk2
import Derived.Test.YtinejbjndpdcmaaDoorDraw
import Derived.Test.YtinejbjndpdcmaaDoorDesY
set_option linter.unusedSimpArgs false
set_option linter.unusedVariables false
namespace Go.Proofs.YtinejbjndpdcmaaDoor.Dk
open Go.ChangeShapes Go.WideShapes Go.ChangeAt Go.RowKit Mem
structure But (w2 : World) (r : Nat) (t : TypeId) (n : Nat) (W : World) : Prop where
 below : Below r w2 W
 rest : ∀ k, k < w2.heap.size → k ≠ r → W.heap[k]? = w2.heap[k]?
 cell : ∃ z, Blk W r t (row n (b8 z))
theorem But.start {w2 : World} {r : Nat} {t : TypeId} {n : Nat} {z : Nat → Nat} (h : Blk w2 r t (row n (b8 z))) : But w2 r t n w2.drew := ⟨(Below.refl _ _).drew, fun _ _ _ => rfl, z, h⟩
theorem But.call {w2 W W' : World} {r : Nat} {t : TypeId} {n : Nat} (h : But w2 r t n W) (hb : Below W.heap.size W W') : But w2 r t n W' := by
 obtain ⟨z, hz⟩ := h.cell
 exact ⟨h.below.trans (hb.mono (Nat.le_of_lt hz.lt)), fun k hk hr => (hb.block k (Nat.lt_of_lt_of_le hk h.below.size)).trans (h.rest k hk hr), z, hz.below hb hz.lt⟩
theorem But.store {w2 W : World} {r : Nat} {t : TypeId} {n : Nat} (h : But w2 r t n W) (f : Nat → Nat) : But w2 r t n (W.setRow r (row n (b8 f))) := by
 obtain ⟨z, hz⟩ := h.cell
 exact ⟨below_setRow' h.below (Nat.le_refl _) _, fun k hk hr => (setRow_other W r k _ hr).trans (h.rest k hk hr), f, hz.setRow _⟩
theorem But.alloc {w2 W : World} {r : Nat} {t : TypeId} {n : Nat} (h : But w2 r t n W) (o : Obj) : But w2 r t n (W.alloc o) :=
 h.call ((Below.refl _ _).alloc (Nat.le_refl _) o)
theorem But.keep {w2 W W' : World} {r : Nat} {t : TypeId} {n : Nat} (h : But w2 r t n W) (hr : r < w2.heap.size) (hb : Below w2.heap.size W W') : But w2 r t n W' := by
 obtain ⟨z, hz⟩ := h.cell
 exact ⟨h.below.trans (hb.mono (Nat.le_of_lt hr)), fun k hk hne => (hb.block k hk).trans (h.rest k hk hne), z, hz.below hb hr⟩
theorem suff2 {F G : World → Nat → Nat → Prop} {R : Prop} (h1 : (∀ W g g', F W g g' → G W g g') → R) (h2 : ∀ W g g', F W g g' → G W g g') : R := h1 h2
def Two (w2 : World) (r : Nat) (c d : Array Value) (W : World) (g g' : Nat) : Prop := But w2 r 57 8 W ∧ Blk W g 57 c ∧ Blk W g' 57 d ∧ r < g ∧ r < g'
theorem But.blk {w2 W : World} {r : Nat} {t : TypeId} {n : Nat} (h : But w2 r t n W) {g : Nat} {t' : TypeId} {cs : Array Value} (hb : Blk w2 g t' cs) (hr : g ≠ r) : Blk W g t' cs := (h.rest g hb.lt hr).trans hb
def lo8 (k : Nat → Nat) : Nat → Nat := fun i => k i
def hi8 (k : Nat → Nat) : Nat → Nat := fun i => k (8 + i)
def shF (k x : Nat → Nat) : Nat → Nat := tnF (Des.des k (tnF x (hi8 k)) false) (hi8 k)
def stF (k x : Nat → Nat) : Nat → Nat := cat 8 (shF (mkF k) x) (shF k x)
theorem tnF_lt {a b : Nat → Nat} (ha : ∀ i, i < 8 → a i < 256) (hb : ∀ i, i < 8 → b i < 256) : ∀ i, i < 8 → tnF a b i < 256 := fun i hi => Nat.xor_lt_two_pow (n := 8) (ha i hi) (hb i hi)
theorem mkF_lt {k : Nat → Nat} (hk : ∀ i, i < 16 → k i < 256) : ∀ i, i < 16 → mkF k i < 256 := fun i hi => by
 unfold mkF; split
 ·exact Nat.xor_lt_two_pow (n := 8) (hk i hi) (by omega)
 exact hk i hi
theorem des_lt (k b : Nat → Nat) (back : Bool) (i : Nat) : Des.des k b back i < 256 := Nat.mod_lt _ (by omega)
theorem shF_lt {k x : Nat → Nat} (hk : ∀ i, i < 16 → k i < 256) : ∀ i, i < 8 → shF k x i < 256 := tnF_lt (fun i _ => des_lt _ _ _ i) (fun i hi => hk (8 + i) (by omega))
theorem stF_lt {k x : Nat → Nat} (hk : ∀ i, i < 16 → k i < 256) : ∀ i, i < 16 → stF k x i < 256 := fun i hi => by
 unfold stF cat; split
 ·exact shF_lt (mkF_lt hk) i (by assumption)
 exact shF_lt hk (i - 8) (by omega)
set_option maxRecDepth 100000 in
set_option maxHeartbeats 4000000 in
theorem half_any (k x : Nat → Nat) (hk : ∀ i, i < 16 → k i < 256) (hx : ∀ i, i < 8 → x i < 256) (w : World) : Calls Tryd.prog 33 #[.agg (row 16 (b8 k)), .agg (row 8 (b8 x))] w fun e w' => e = .returned (.agg (row 8 (b8 (shF k x)))) ∧ Below w.heap.size w w' := by
 have Hk := hid hk
 have Hx := hid hx
 have hb1 : Blk (((w.alloc (.cells (row 16 (b8 k)) 27)).alloc (.cells (row 8 (b8 x)) 57)).alloc (.cells (row 8 (b8 fun _ => 0)) 57)) w.heap.size 27 (row 16 (b8 k)) := ((Blk.fresh _ _ _).alloc _).alloc _
 have hb2 : Blk (((w.alloc (.cells (row 16 (b8 k)) 27)).alloc (.cells (row 8 (b8 x)) 57)).alloc (.cells (row 8 (b8 fun _ => 0)) 57)) (w.heap.size + 1) 57 (row 8 (b8 x)) := (Des.two_new _ _ _ _).alloc _
 have hb3 : Blk (((w.alloc (.cells (row 16 (b8 k)) 27)).alloc (.cells (row 8 (b8 x)) 57)).alloc (.cells (row 8 (b8 fun _ => 0)) 57)) (w.heap.size + 1 + 1) 57 (row 8 (b8 fun _ => 0)) := by simpa using Blk.fresh ((w.alloc (.cells (row 16 (b8 k)) 27)).alloc (.cells (row 8 (b8 x)) 57)) 57 (row 8 (b8 fun _ => 0))
 have hB : Below w.heap.size w (((w.alloc (.cells (row 16 (b8 k)) 27)).alloc (.cells (row 8 (b8 x)) 57)).alloc (.cells (row 8 (b8 fun _ => 0)) 57)) := (((Below.refl _ _).alloc (Nat.le_refl _) _).alloc (by simp) _).alloc (by simp; omega) _
 clear hk hx
 go_enter Tryd.func33, Tryd.ntmps33
 go_wp2_with (first | (with_reducible refine wpl_alloc rfl 57 rfl _ z8 ?_))
 generalize (((w.alloc (.cells (row 16 (b8 k)) 27)).alloc (.cells (row 8 (b8 x)) 57)).alloc (.cells (row 8 (b8 fun _ => 0)) 57)) = w2 at *
 have h3lt := hb3.lt
 apply suff2 (F := Two w2 (w.heap.size + 1 + 1) (row 8 (b8 k)) (row 8 (b8 (hi8 k))))
 case h1 =>
  intro key
  refine wp_region_held_drew (S := fun W => But w2 (w.heap.size + 1 + 1) 57 8 W) (by kernel_rfl) (But.start hb3) (fun hS0 => ?_)
  refine ztk (i := 0) (v := .slice (some ⟨w.heap.size, 0, none⟩) 8 16) rfl (fun W _ => by go_simp) hS0 ?_
  (try simp only [Act.put,zza,zzb,zzc,zzd,zze,zzf])
  refine ztk (i := 1) (v := .pointer (some ⟨w.heap.size, 0, none⟩)) rfl (fun W _ => Des.exec_arr 57 _ rfl _ _ _ rfl 8 5 Tryd.underlying57 (by omega)) hS0 ?_
  (try simp only [Act.put,zza,zzb,zzc,zzd,zze,zzf])
  refine ztk (i := 2) (v := .agg (row 8 (b8 k))) rfl (fun W hW => Des.exec_loadR 57 _ rfl ⟨w.heap.size, 0, none⟩ rfl 8 _ (fun i hi => by rw [Addr.add_lit, Nat.zero_add]; exact (hW.blk hb1 (by omega)).val i (by omega)) 5 Tryd.underlying57 i8a) hS0 ?_
  (try simp only [Act.put,zza,zzb,zzc,zzd,zze,zzf])
  refine ztk (i := 3) (v := .slice (some ⟨w.heap.size, 8, none⟩) 8 8) rfl (fun W _ => by go_simp) hS0 ?_
  (try simp only [Act.put,zza,zzb,zzc,zzd,zze,zzf])
  refine ztk (i := 4) (v := .pointer (some ⟨w.heap.size, 8, none⟩)) rfl (fun W _ => Des.exec_arr 57 _ rfl _ _ _ rfl 8 5 Tryd.underlying57 (by omega)) hS0 ?_
  (try simp only [Act.put,zza,zzb,zzc,zzd,zze,zzf])
  refine ztk (i := 5) (v := .agg (row 8 (b8 (hi8 k)))) rfl (fun W hW => Des.exec_loadR 57 _ rfl ⟨w.heap.size, 8, none⟩ rfl 8 _ (fun i hi => by rw [Addr.add_lit]; exact (hW.blk hb1 (by omega)).val (8 + i) (by omega)) 5 Tryd.underlying57 i8a) hS0 ?_
  (try simp only [Act.put,zza,zzb,zzc,zzd,zze,zzf])
  refine wpAnyH_ready (rs := [6, 7]) (by kernel_rfl) (by simp) ?_
  refine AllReadyH.cons rfl (fun K hK => ?_) (AllReadyH.cons rfl (fun K hK => ?_) AllReadyH.nil)
  ·(try simp only [Act.put,zza,zzb,zzc,zzd,zze,zzf])
   refine Eq.mpr (if_pos (by rfl)) ?_
   refine wp_new 57 rfl _ z8 ?_
   (try simp only [Act.put,zza,zzb,zzc,zzd,zze,zzf])
   refine hK.out _ _ (hS0.alloc _) (fun hS1 => ?_)
   (try simp only [Act.put,zza,zzb,zzc,zzd,zze,zzf])
   clear hK K
   have ha : Blk (w2.drew.alloc (.cells (row 8 (b8 fun _ => 0)) 57)) w2.heap.size 57 (row 8 (b8 fun _ => 0)) := Blk.fresh w2.drew _ _
   have hn : w2.heap.size < (w2.drew.alloc (.cells (row 8 (b8 fun _ => 0)) 57)).heap.size := ha.lt
   generalize w2.drew.alloc (.cells (row 8 (b8 fun _ => 0)) 57) = wa at *
   refine wpAnyH_ready (rs := [7]) (by kernel_rfl) (by simp) (AllReadyH.cons rfl (fun K hK => ?_) AllReadyH.nil)
   (try simp only [Act.put,zza,zzb,zzc,zzd,zze,zzf])
   refine Eq.mpr (if_pos (by rfl)) ?_
   refine wp_new 57 rfl _ z8 ?_
   (try simp only [Act.put,zza,zzb,zzc,zzd,zze,zzf])
   refine hK.out _ _ (hS1.alloc _) (fun hS2 => ?_)
   (try simp only [Act.put,zza,zzb,zzc,zzd,zze,zzf])
   clear hK K
   have hc : Blk (wa.alloc (.cells (row 8 (b8 fun _ => 0)) 57)) wa.heap.size 57 (row 8 (b8 fun _ => 0)) := Blk.fresh wa _ _
   have ha2 : Blk (wa.alloc (.cells (row 8 (b8 fun _ => 0)) 57)) w2.heap.size 57 (row 8 (b8 fun _ => 0)) := ha.alloc _
   generalize wa.alloc (.cells (row 8 (b8 fun _ => 0)) 57) = wc at *
   refine wpAnyH_ready (rs := [8]) (by kernel_rfl) (by simp) (AllReadyH.cons rfl (fun K hK => ?_) AllReadyH.nil)
   (try simp only [Act.put,zza,zzb,zzc,zzd,zze,zzf])
   refine Eq.mpr (if_pos (by rfl)) ?_
   with_reducible refine wp_store_blk 57 _ _ rfl w2.heap.size (row 8 (b8 k)) rfl rfl 57 _ ha2 (i8' _) (by simp [row_size]) (one_b8 _ _) ?_
   (try simp only [Act.put,zza,zzb,zzc,zzd,zze,zzf])
   refine hK.out _ _ (hS2.keep h3lt (below_setRow' (Below.refl w2.heap.size wc) (by omega) _)) (fun hS3 => ?_)
   (try simp only [Act.put,zza,zzb,zzc,zzd,zze,zzf])
   clear hK K
   have h5 : Blk (wc.setRow w2.heap.size (row 8 (b8 k))) w2.heap.size 57 (row 8 (b8 k)) := Blk.setRow ha2 _
   have h6 : Blk (wc.setRow w2.heap.size (row 8 (b8 k))) wa.heap.size 57 (row 8 (b8 fun _ => 0)) := Blk.otherRow hc _ _ (by omega)
   generalize wc.setRow w2.heap.size (row 8 (b8 k)) = wd at *
   refine wpAnyH_ready (rs := [9]) (by kernel_rfl) (by simp) (AllReadyH.cons rfl (fun K hK => ?_) AllReadyH.nil)
   (try simp only [Act.put,zza,zzb,zzc,zzd,zze,zzf])
   refine Eq.mpr (if_pos (by rfl)) ?_
   with_reducible refine wp_store_blk 57 _ _ rfl wa.heap.size (row 8 (b8 (hi8 k))) rfl rfl 57 _ h6 (i8' _) (by simp [row_size]) (one_b8 _ _) ?_
   (try simp only [Act.put,zza,zzb,zzc,zzd,zze,zzf])
   refine hK.out _ _ (hS3.keep h3lt (below_setRow' (Below.refl w2.heap.size wd) (by omega) _)) (fun hS4 => ?_)
   (try simp only [Act.put,zza,zzb,zzc,zzd,zze,zzf])
   clear hK K
   refine wpAnyH_done (by kernel_rfl) ?_ _
   have h5' : Blk (wd.setRow wa.heap.size (row 8 (b8 (hi8 k)))) w2.heap.size 57 (row 8 (b8 k)) := h5.otherRow _ _ (by omega)
   have h6' : Blk (wd.setRow wa.heap.size (row 8 (b8 (hi8 k)))) wa.heap.size 57 (row 8 (b8 (hi8 k))) := h6.setRow _
   have hp : Two w2 (w.heap.size + 1 + 1) (row 8 (b8 k)) (row 8 (b8 (hi8 k))) (wd.setRow wa.heap.size (row 8 (b8 (hi8 k)))) w2.heap.size wa.heap.size := ⟨hS4, h5', h6', by omega, by omega⟩
   clear hS0 hS1 hS2 hS3 hS4 h5 h6 h5' h6' hc ha2 ha hn
   generalize wd.setRow wa.heap.size (row 8 (b8 (hi8 k))) = wX at hp ⊢
   simp only [show w2.drew.heap.size = w2.heap.size from rfl]
   generalize wa.heap.size = gB at hp ⊢
   generalize w2.heap.size = gA at hp ⊢
   exact key _ _ _ hp
  (try simp only [Act.put,zza,zzb,zzc,zzd,zze,zzf])
  refine Eq.mpr (if_pos (by rfl)) ?_
  refine wp_new 57 rfl _ z8 ?_
  (try simp only [Act.put,zza,zzb,zzc,zzd,zze,zzf])
  refine hK.out _ _ (hS0.alloc _) (fun hS1 => ?_)
  (try simp only [Act.put,zza,zzb,zzc,zzd,zze,zzf])
  clear hK K
  have ha : Blk (w2.drew.alloc (.cells (row 8 (b8 fun _ => 0)) 57)) w2.heap.size 57 (row 8 (b8 fun _ => 0)) := Blk.fresh w2.drew _ _
  have hn : w2.heap.size < (w2.drew.alloc (.cells (row 8 (b8 fun _ => 0)) 57)).heap.size := ha.lt
  generalize w2.drew.alloc (.cells (row 8 (b8 fun _ => 0)) 57) = wa at *
  refine wpAnyH_ready (rs := [6]) (by kernel_rfl) (by simp) (AllReadyH.cons rfl (fun K hK => ?_) AllReadyH.nil)
  (try simp only [Act.put,zza,zzb,zzc,zzd,zze,zzf])
  refine Eq.mpr (if_pos (by rfl)) ?_
  refine wp_new 57 rfl _ z8 ?_
  (try simp only [Act.put,zza,zzb,zzc,zzd,zze,zzf])
  refine hK.out _ _ (hS1.alloc _) (fun hS2 => ?_)
  (try simp only [Act.put,zza,zzb,zzc,zzd,zze,zzf])
  clear hK K
  have hc : Blk (wa.alloc (.cells (row 8 (b8 fun _ => 0)) 57)) wa.heap.size 57 (row 8 (b8 fun _ => 0)) := Blk.fresh wa _ _
  have ha2 : Blk (wa.alloc (.cells (row 8 (b8 fun _ => 0)) 57)) w2.heap.size 57 (row 8 (b8 fun _ => 0)) := ha.alloc _
  generalize wa.alloc (.cells (row 8 (b8 fun _ => 0)) 57) = wc at *
  refine wpAnyH_ready (rs := [8]) (by kernel_rfl) (by simp) (AllReadyH.cons rfl (fun K hK => ?_) AllReadyH.nil)
  (try simp only [Act.put,zza,zzb,zzc,zzd,zze,zzf])
  refine Eq.mpr (if_pos (by rfl)) ?_
  with_reducible refine wp_store_blk 57 _ _ rfl wa.heap.size (row 8 (b8 k)) rfl rfl 57 _ hc (i8' _) (by simp [row_size]) (one_b8 _ _) ?_
  (try simp only [Act.put,zza,zzb,zzc,zzd,zze,zzf])
  refine hK.out _ _ (hS2.keep h3lt (below_setRow' (Below.refl w2.heap.size wc) (by omega) _)) (fun hS3 => ?_)
  (try simp only [Act.put,zza,zzb,zzc,zzd,zze,zzf])
  clear hK K
  have h5 : Blk (wc.setRow wa.heap.size (row 8 (b8 k))) wa.heap.size 57 (row 8 (b8 k)) := Blk.setRow hc _
  have h6 : Blk (wc.setRow wa.heap.size (row 8 (b8 k))) w2.heap.size 57 (row 8 (b8 fun _ => 0)) := Blk.otherRow ha2 _ _ (by omega)
  generalize wc.setRow wa.heap.size (row 8 (b8 k)) = wd at *
  refine wpAnyH_ready (rs := [9]) (by kernel_rfl) (by simp) (AllReadyH.cons rfl (fun K hK => ?_) AllReadyH.nil)
  (try simp only [Act.put,zza,zzb,zzc,zzd,zze,zzf])
  refine Eq.mpr (if_pos (by rfl)) ?_
  with_reducible refine wp_store_blk 57 _ _ rfl w2.heap.size (row 8 (b8 (hi8 k))) rfl rfl 57 _ h6 (i8' _) (by simp [row_size]) (one_b8 _ _) ?_
  (try simp only [Act.put,zza,zzb,zzc,zzd,zze,zzf])
  refine hK.out _ _ (hS3.keep h3lt (below_setRow' (Below.refl w2.heap.size wd) (by omega) _)) (fun hS4 => ?_)
  (try simp only [Act.put,zza,zzb,zzc,zzd,zze,zzf])
  clear hK K
  refine wpAnyH_done (by kernel_rfl) ?_ _
  have h5' : Blk (wd.setRow w2.heap.size (row 8 (b8 (hi8 k)))) wa.heap.size 57 (row 8 (b8 k)) := h5.otherRow _ _ (by omega)
  have h6' : Blk (wd.setRow w2.heap.size (row 8 (b8 (hi8 k)))) w2.heap.size 57 (row 8 (b8 (hi8 k))) := h6.setRow _
  have hp : Two w2 (w.heap.size + 1 + 1) (row 8 (b8 k)) (row 8 (b8 (hi8 k))) (wd.setRow w2.heap.size (row 8 (b8 (hi8 k)))) wa.heap.size w2.heap.size := ⟨hS4, h5', h6', by omega, by omega⟩
  clear hS0 hS1 hS2 hS3 hS4 h5 h6 h5' h6' hc ha2 ha hn
  generalize wd.setRow w2.heap.size (row 8 (b8 (hi8 k))) = wX at hp ⊢
  simp only [show w2.drew.heap.size = w2.heap.size from rfl]
  generalize wa.heap.size = gB at hp ⊢
  generalize w2.heap.size = gA at hp ⊢
  exact key _ _ _ hp
 intro wX g5 g6 ⟨hS, hb5, hb6, hg5, hg6⟩
 try dsimp only
 have hbx := hS.blk hb2 (by omega)
 obtain ⟨z, hbz⟩ := hS.cell
 have hBX := hB.trans (hS.below.mono (by omega))
 clear hb1 hb2 hb3 hB hS h3lt
 go_wp2_with fail
 refine wp_region_held_drew (S := fun W => But wX (w.heap.size + 1 + 1) 57 8 W) (by kernel_rfl) (But.start hbz) (fun hS0 => ?_)
 refine ztk (i := 0) (v := .agg (row 8 (b8 k))) rfl (fun W hW => Des.exec_loadR 57 _ rfl ⟨g5, 0, none⟩ rfl 8 _ (fun i hi => by rw [Addr.add_lit, Nat.zero_add]; exact (hW.blk hb5 (by omega)).val i hi) 5 Tryd.underlying57 i8a) hS0 ?_
 (try simp only [Act.put,zza,zzb,zzc,zzd,zze,zzf])
 refine ztk (i := 1) (v := .agg (row 8 (b8 x))) rfl (fun W hW => Des.exec_loadR 57 _ rfl ⟨w.heap.size + 1, 0, none⟩ rfl 8 _ (fun i hi => by rw [Addr.add_lit, Nat.zero_add]; exact (hW.blk hbx (by omega)).val i hi) 5 Tryd.underlying57 i8a) hS0 ?_
 (try simp only [Act.put,zza,zzb,zzc,zzd,zze,zzf])
 refine ztk (i := 2) (v := .agg (row 8 (b8 (hi8 k)))) rfl (fun W hW => Des.exec_loadR 57 _ rfl ⟨g6, 0, none⟩ rfl 8 _ (fun i hi => by rw [Addr.add_lit, Nat.zero_add]; exact (hW.blk hb6 (by omega)).val i hi) 5 Tryd.underlying57 i8a) hS0 ?_
 (try simp only [Act.put,zza,zzb,zzc,zzd,zze,zzf])
 refine ztk (i := 5) (v := .agg (row 8 (b8 (hi8 k)))) rfl (fun W hW => Des.exec_loadR 57 _ rfl ⟨g6, 0, none⟩ rfl 8 _ (fun i hi => by rw [Addr.add_lit, Nat.zero_add]; exact (hW.blk hb6 (by omega)).val i hi) 5 Tryd.underlying57 i8a) hS0 ?_
 (try simp only [Act.put,zza,zzb,zzc,zzd,zze,zzf])
 refine wpAnyH_ready (rs := [3]) (by kernel_rfl) (by simp) (AllReadyH.cons rfl (fun K hK => ?_) AllReadyH.nil)
 (try simp only [Act.put,zza,zzb,zzc,zzd,zze,zzf])
 refine Eq.mpr (if_pos (by rfl)) ?_
 go_simp
 refine (turned_any x (hi8 k) Hx.out (fun i hi => Hk.out (8 + i) (by omega)) _).mono ?_
 rintro e wq1 ⟨rfl, hBq1⟩
 refine hK.out _ _ (hS0.call hBq1) (fun hS1 => ?_)
 (try simp only [Act.put,zza,zzb,zzc,zzd,zze,zzf])
 clear hK K
 refine wpAnyH_ready (rs := [4]) (by kernel_rfl) (by simp) (AllReadyH.cons rfl (fun K hK => ?_) AllReadyH.nil)
 (try simp only [Act.put,zza,zzb,zzc,zzd,zze,zzf])
 refine Eq.mpr (if_pos (by rfl)) ?_
 go_simp
 refine (Des.block_any k (tnF x (hi8 k)) false (fun i hi => Hk.out i (by omega)) (tnF_lt Hx.out (fun i hi => Hk.out (8 + i) (by omega))) _).mono ?_
 rintro e wq2 ⟨rfl, hBq2⟩
 refine hK.out _ _ (hS1.call hBq2) (fun hS2 => ?_)
 (try simp only [Act.put,zza,zzb,zzc,zzd,zze,zzf])
 clear hK K
 refine wpAnyH_ready (rs := [6]) (by kernel_rfl) (by simp) (AllReadyH.cons rfl (fun K hK => ?_) AllReadyH.nil)
 (try simp only [Act.put,zza,zzb,zzc,zzd,zze,zzf])
 refine Eq.mpr (if_pos (by rfl)) ?_
 go_simp
 refine (turned_any (Des.des k (tnF x (hi8 k)) false) (hi8 k) (fun i _ => des_lt _ _ _ i) (fun i hi => Hk.out (8 + i) (by omega)) _).mono ?_
 rintro e wq3 ⟨rfl, hBq3⟩
 refine hK.out _ _ (hS2.call hBq3) (fun hS3 => ?_)
 (try simp only [Act.put,zza,zzb,zzc,zzd,zze,zzf])
 clear hK K
 obtain ⟨z3, hz3⟩ := hS3.cell
 refine wpAnyH_ready (rs := [7]) (by kernel_rfl) (by simp) (AllReadyH.cons rfl (fun K hK => ?_) AllReadyH.nil)
 (try simp only [Act.put,zza,zzb,zzc,zzd,zze,zzf])
 refine Eq.mpr (if_pos (by rfl)) ?_
 with_reducible refine wp_store_blk 57 _ _ rfl (w.heap.size + 1 + 1) (row 8 (b8 (shF k x))) rfl rfl 57 _ hz3 (i8' _) (by simp [row_size]) (one_b8 _ _) ?_
 (try simp only [Act.put,zza,zzb,zzc,zzd,zze,zzf])
 refine hK.out _ _ (hS3.store _) (fun hS4 => ?_)
 (try simp only [Act.put,zza,zzb,zzc,zzd,zze,zzf])
 clear hK K
 refine wpAnyH_done (by kernel_rfl) ?_ _
 go_wp2_with fail
 exact ret_row Tryd.results33 rfl (w.heap.size + 1 + 1) rfl 57 8 _ (hz3.setRow _) 5 Tryd.underlying57 i8a ⟨rfl, hBX.trans (hS4.below.mono (by omega))⟩
set_option maxRecDepth 100000 in
set_option maxHeartbeats 4000000 in
theorem step_any (k x : Nat → Nat) (hk : ∀ i, i < 16 → k i < 256) (hx : ∀ i, i < 8 → x i < 256) (w : World) : Calls Tryd.prog 24 #[.agg (row 16 (b8 k)), .agg (row 8 (b8 x))] w fun e w' => e = .returned (.agg (row 16 (b8 (stF k x)))) ∧ Below w.heap.size w w' := by
 have Hk := hid hk
 have Hx := hid hx
 have hb1 : Blk (((w.alloc (.cells (row 16 (b8 k)) 27)).alloc (.cells (row 8 (b8 x)) 57)).alloc (.cells (row 16 (b8 fun _ => 0)) 27)) w.heap.size 27 (row 16 (b8 k)) := ((Blk.fresh _ _ _).alloc _).alloc _
 have hb2 : Blk (((w.alloc (.cells (row 16 (b8 k)) 27)).alloc (.cells (row 8 (b8 x)) 57)).alloc (.cells (row 16 (b8 fun _ => 0)) 27)) (w.heap.size + 1) 57 (row 8 (b8 x)) := (Des.two_new _ _ _ _).alloc _
 have hb3 : Blk (((w.alloc (.cells (row 16 (b8 k)) 27)).alloc (.cells (row 8 (b8 x)) 57)).alloc (.cells (row 16 (b8 fun _ => 0)) 27)) (w.heap.size + 1 + 1) 27 (row 16 (b8 fun _ => 0)) := by simpa using Blk.fresh ((w.alloc (.cells (row 16 (b8 k)) 27)).alloc (.cells (row 8 (b8 x)) 57)) 27 (row 16 (b8 fun _ => 0))
 have hB : Below w.heap.size w (((w.alloc (.cells (row 16 (b8 k)) 27)).alloc (.cells (row 8 (b8 x)) 57)).alloc (.cells (row 16 (b8 fun _ => 0)) 27)) := (((Below.refl _ _).alloc (Nat.le_refl _) _).alloc (by simp) _).alloc (by simp; omega) _
 clear hk hx
 go_enter Tryd.func24, Tryd.ntmps24
 go_wp2_with (first | (with_reducible refine wpl_alloc rfl 27 rfl _ z16 ?_))
 generalize (((w.alloc (.cells (row 16 (b8 k)) 27)).alloc (.cells (row 8 (b8 x)) 57)).alloc (.cells (row 16 (b8 fun _ => 0)) 27)) = w2 at *
 refine wp_region_held_drew (S := fun W => But w2 (w.heap.size + 1 + 1) 27 16 W) (by kernel_rfl) (But.start hb3) (fun hS0 => ?_)
 refine ztk (i := 0) (v := .agg (row 16 (b8 k))) rfl (fun W hW => Des.exec_loadR 27 _ rfl ⟨w.heap.size, 0, none⟩ rfl 16 _ (fun i hi => by rw [Addr.add_lit, Nat.zero_add]; exact (hW.blk hb1 (by omega)).val i hi) 5 Tryd.underlying27 i16) hS0 ?_
 (try simp only [Act.put,zza,zzb,zzc,zzd,zze,zzf])
 refine ztk (i := 2) (v := .agg (row 8 (b8 x))) rfl (fun W hW => Des.exec_loadR 57 _ rfl ⟨w.heap.size + 1, 0, none⟩ rfl 8 _ (fun i hi => by rw [Addr.add_lit, Nat.zero_add]; exact (hW.blk hb2 (by omega)).val i hi) 5 Tryd.underlying57 i8a) hS0 ?_
 (try simp only [Act.put,zza,zzb,zzc,zzd,zze,zzf])
 refine ztk (i := 4) (v := .agg (row 16 (b8 k))) rfl (fun W hW => Des.exec_loadR 27 _ rfl ⟨w.heap.size, 0, none⟩ rfl 16 _ (fun i hi => by rw [Addr.add_lit, Nat.zero_add]; exact (hW.blk hb1 (by omega)).val i hi) 5 Tryd.underlying27 i16) hS0 ?_
 (try simp only [Act.put,zza,zzb,zzc,zzd,zze,zzf])
 refine ztk (i := 5) (v := .agg (row 8 (b8 x))) rfl (fun W hW => Des.exec_loadR 57 _ rfl ⟨w.heap.size + 1, 0, none⟩ rfl 8 _ (fun i hi => by rw [Addr.add_lit, Nat.zero_add]; exact (hW.blk hb2 (by omega)).val i hi) 5 Tryd.underlying57 i8a) hS0 ?_
 (try simp only [Act.put,zza,zzb,zzc,zzd,zze,zzf])
 refine wpAnyH_ready (rs := [1]) (by kernel_rfl) (by simp) (AllReadyH.cons rfl (fun K hK => ?_) AllReadyH.nil)
 (try simp only [Act.put,zza,zzb,zzc,zzd,zze,zzf])
 refine Eq.mpr (if_pos (by rfl)) ?_
 go_simp
 refine (masked_any k Hk.out _).mono ?_
 rintro e wq1 ⟨rfl, hBq1⟩
 refine hK.out _ _ (hS0.call hBq1) (fun hS1 => ?_)
 (try simp only [Act.put,zza,zzb,zzc,zzd,zze,zzf])
 clear hK K
 refine wpAnyH_ready (rs := [3]) (by kernel_rfl) (by simp) (AllReadyH.cons rfl (fun K hK => ?_) AllReadyH.nil)
 (try simp only [Act.put,zza,zzb,zzc,zzd,zze,zzf])
 refine Eq.mpr (if_pos (by rfl)) ?_
 go_simp
 refine (half_any (mkF k) x (mkF_lt Hk.out) Hx.out _).mono ?_
 rintro e wq2 ⟨rfl, hBq2⟩
 refine hK.out _ _ (hS1.call hBq2) (fun hS2 => ?_)
 (try simp only [Act.put,zza,zzb,zzc,zzd,zze,zzf])
 clear hK K
 refine wpAnyH_ready (rs := [6]) (by kernel_rfl) (by simp) (AllReadyH.cons rfl (fun K hK => ?_) AllReadyH.nil)
 (try simp only [Act.put,zza,zzb,zzc,zzd,zze,zzf])
 refine Eq.mpr (if_pos (by rfl)) ?_
 go_simp
 refine (half_any k x Hk.out Hx.out _).mono ?_
 rintro e wq3 ⟨rfl, hBq3⟩
 refine hK.out _ _ (hS2.call hBq3) (fun hS3 => ?_)
 (try simp only [Act.put,zza,zzb,zzc,zzd,zze,zzf])
 clear hK K
 refine wpAnyH_ready (rs := [7]) (by kernel_rfl) (by simp) (AllReadyH.cons rfl (fun K hK => ?_) AllReadyH.nil)
 (try simp only [Act.put,zza,zzb,zzc,zzd,zze,zzf])
 refine Eq.mpr (if_pos (by rfl)) ?_
 go_simp
 refine (joined_any (shF (mkF k) x) (shF k x) _).mono ?_
 rintro e wq4 ⟨rfl, hBq4⟩
 obtain ⟨y, hy⟩ : ∃ y, y = cat 8 (shF (mkF k) x) (shF k x) := ⟨_, rfl⟩
 rw [← hy]
 have Hy := hid hy
 clear hy
 refine hK.out _ _ (hS3.call hBq4) (fun hS4 => ?_)
 (try simp only [Act.put,zza,zzb,zzc,zzd,zze,zzf])
 clear hK K
 obtain ⟨z3, hz3⟩ := hS4.cell
 refine wpAnyH_ready (rs := [8]) (by kernel_rfl) (by simp) (AllReadyH.cons rfl (fun K hK => ?_) AllReadyH.nil)
 (try simp only [Act.put,zza,zzb,zzc,zzd,zze,zzf])
 refine Eq.mpr (if_pos (by rfl)) ?_
 with_reducible refine wp_store_blk 27 _ _ rfl (w.heap.size + 1 + 1) (row 16 (b8 y)) rfl rfl 27 _ hz3 (i16' _) (by simp [row_size]) (one_b8 _ _) ?_
 (try simp only [Act.put,zza,zzb,zzc,zzd,zze,zzf])
 refine hK.out _ _ (hS4.store _) (fun hS5 => ?_)
 (try simp only [Act.put,zza,zzb,zzc,zzd,zze,zzf])
 clear hK K
 refine wpAnyH_done (by kernel_rfl) ?_ _
 go_wp2_with fail
 exact ret_row Tryd.results24 rfl (w.heap.size + 1 + 1) rfl 27 16 _ (hz3.setRow _) 5 Tryd.underlying27 i16 ⟨by rw [Hy.out]; rfl, hB.trans (hS5.below.mono (by omega))⟩
end Go.Proofs.YtinejbjndpdcmaaDoor.Dk
