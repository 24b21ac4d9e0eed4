/-
 What cut of package head returns.
-/
import Derived.Test.YtklgngdcihkfjaaDoorHd6
namespace Go.Proofs.YtklgngdcihkfjaaDoor.Hd
open Mem As Go.ChangeShapes Go.WideShapes Go.ChangeAt Go.RowKit
section
variable {P : Program} {fn : Func} {R : Ending → World → Prop} {a : Act} {w : World} {o : Oper}
theorem ret_cs1 {p : Tmp} {ty : TypeId} (h : fn.results = #[.cell p ty]) (hd : a.defers = []) (g : Nat) (hp : a.tmps.getD p undef = .pointer (some ⟨g, 0, none⟩)) (t : TypeId) (cs : Array Value) (hg : Blk w g t cs) (fs : Array Field) (hu : P.underlying ty = some (.struct fs)) (hi : (P.info? ty).map (·.size) = some cs.size) (hR : R (.returned (.agg cs)) w) : bodyPost P fn R .ret a w := by
 refine bodyPost_ret ?_ hd hR
 have hl := run_loadVar_row (P := P) w g t ty cs (0, 0) _ hg hu rfl hi
 have hp' : a.tmps[p]?.getD undef = .pointer (some ⟨g, 0, none⟩) := by simpa using hp
 simp [results, h, hp', asAddr, hl]
theorem ret_cs3 {p q q2 : Tmp} {ty : TypeId} (h : fn.results = #[.cell p ty, .tmp q, .tmp q2]) (hd : a.defers = []) (g : Nat) (hp : a.tmps.getD p undef = .pointer (some ⟨g, 0, none⟩)) (v : Value) (hq : a.tmps.getD q undef = v) (v2 : Value) (hq2 : a.tmps.getD q2 undef = v2)
  (t : TypeId) (cs : Array Value) (hg : Blk w g t cs) (fs : Array Field) (hu : P.underlying ty = some (.struct fs)) (hi : (P.info? ty).map (·.size) = some cs.size) (hR : R (.returned (.tuple #[.agg cs, v, v2])) w) : bodyPost P fn R .ret a w := by
 refine bodyPost_ret ?_ hd hR
 have hl := run_loadVar_row (P := P) w g t ty cs (0, 0) _ hg hu rfl hi
 have hp' : a.tmps[p]?.getD undef = .pointer (some ⟨g, 0, none⟩) := by simpa using hp
 have hq' : a.tmps[q]?.getD undef = v := by simpa using hq
 have hq2' : a.tmps[q2]?.getD undef = v2 := by simpa using hq2
 simp [results, h, hp', hq', hq2', asAddr, hl]
theorem exec_ldcs (ty : TypeId) (x : Operand) (ho : o.op = .load ty x) (g : Nat) (hx : a.eval x = .pointer (some ⟨g, 0, none⟩)) (t : TypeId) (cs : Array Value) (hg : Blk w g t cs) (fs : Array Field) (hu : P.underlying ty = some (.struct fs)) (hi : (P.info? ty).map (·.size) = some cs.size) : (execOp a.eval o).run P w = .ok (.value (.agg cs)) w := by
 have hl := run_loadVar_row (P := P) w g t ty cs (0, 0) _ hg hu rfl hi
 unfold execOp
 simp [ho, hx, Instr.loadAt, Instr.sureAddr, hl]
end
theorem iHead : (Tryd.prog.info? 23).map (·.size) = some 6 := by kernel_rfl
theorem one6 (a b c d : Int) (s t : ByteArray) : (#[.int .u8 a, .string s, .int .u8 b, .int .u8 c, .string t, .int .u8 d] : Array Value).all (·.oneCell') = true := by simp [Value.oneCell']
def noHd : Array Value := #[.int .u8 0, .string ⟨#[]⟩, .int .u8 0, .int .u8 0, .string ⟨#[]⟩, .int .u8 0]
theorem zHead : (Tryd.prog.info? 23).map (·.zero) = some (some (.agg noHd)) := by kernel_rfl
theorem clone_any (n : Nat) (f : Nat → Nat) (hn : n ≤ 1000) (w : World) : Calls Tryd.prog 34 #[.string (strF n f)] w fun e w' => e = .returned (.string (strF n f)) ∧ Below w.heap.size w w' := by
 have hC := hid (Sh.stringslite_Clone (strF n f) w (by rw [strF_size]; omega))
 go_enter Tryd.func34, Tryd.ntmps34
 go_wp2_with (go_at_call 40; refine hC.out.mono ?_; rintro e w' ⟨rfl, hB⟩)
 go_ret
 exact ⟨rfl, hB⟩
def cutH (f : Nat → Nat) : Hd := ⟨f 0, 2, fun i => f (5 + i), f 7, f 8, 2, fun i => f (9 + i), f 11⟩
set_option maxRecDepth 100000 in
set_option maxHeartbeats 1000000 in
set_option linter.unusedSimpArgs false in
theorem cut_any (n : Nat) (f : Nat → Nat) (hf : ∀ i, f i < 256) (hn : 16 ≤ n) (hn2 : n ≤ 100000) (w : World) : Calls Tryd.prog 25 #[.string (strF n f)] w fun e w' => e = .returned (.agg (hdC (cutH f))) ∧ Below w.heap.size w w' := by
 have h0 := byteAt_strF (n := n) (f := f) (k := 0) (by omega) (hf 0)
 have h7 := byteAt_strF (n := n) (f := f) (k := 7) (by omega) (hf 7)
 have h8 := byteAt_strF (n := n) (f := f) (k := 8) (by omega) (hf 8)
 have h11 := byteAt_strF (n := n) (f := f) (k := 11) (by omega) (hf 11)
 have hB0 : Below w.heap.size w (w.alloc (.cells noHd 23)) := (Below.refl _ _).alloc (Nat.le_refl _) _
 have hb0 := Blk.fresh w 23 noHd
 have HB0 := hid hB0
 have Hb0 := hid hb0
 clear hB0 hb0
 go_enter Tryd.func25, Tryd.ntmps25
 go_wp2_with (with_reducible refine wpl_alloc rfl 23 rfl _ zHead ?_)
 generalize w.alloc (.cells noHd 23) = w0 at HB0 Hb0 ⊢
 refine wp_region_held_drew (S := fun W => Below w.heap.size w W) (by kernel_rfl) HB0.out.drew (fun hS0 => ?_)
 have hb1 : Blk w0.drew w.heap.size 23 noHd := Hb0.out
 refine ztk (i := 0) (v := .string (strF n f)) rfl (fun _ _ => exec_move _ rfl _ rfl) hS0 ?_
 (try simp only [Act.put,zza,zzb,zzc,zzd,zze,zzf])
 refine ztk (i := 1) (v := .int .u8 ((f 0 : Nat) : Int)) rfl (fun W _ => exec_str 9 _ _ rfl (strF n f) rfl .i64 _ rfl 0 rfl Tryd.underlying9 (f 0) h0) hS0 ?_
 (try simp only [Act.put,zza,zzb,zzc,zzd,zze,zzf])
 refine ztk (i := 2) (v := .string (strF n f)) rfl (fun _ _ => exec_move _ rfl _ rfl) hS0 ?_
 (try simp only [Act.put,zza,zzb,zzc,zzd,zze,zzf])
 refine ztk (i := 3) (v := .string (strF 2 fun i => f (5 + i))) rfl (fun W _ => exec_cutS 9 _ _ _ rfl n f 5 7 rfl rfl rfl 5 7 rfl rfl (by omega) (by omega) Tryd.underlying9) hS0 ?_
 (try simp only [Act.put,zza,zzb,zzc,zzd,zze,zzf])
 refine ztk (i := 5) (v := .string (strF n f)) rfl (fun _ _ => exec_move _ rfl _ rfl) hS0 ?_
 (try simp only [Act.put,zza,zzb,zzc,zzd,zze,zzf])
 refine ztk (i := 6) (v := .int .u8 ((f 7 : Nat) : Int)) rfl (fun W _ => exec_str 9 _ _ rfl (strF n f) rfl .i64 _ rfl 7 rfl Tryd.underlying9 (f 7) h7) hS0 ?_
 (try simp only [Act.put,zza,zzb,zzc,zzd,zze,zzf])
 refine ztk (i := 7) (v := .string (strF n f)) rfl (fun _ _ => exec_move _ rfl _ rfl) hS0 ?_
 (try simp only [Act.put,zza,zzb,zzc,zzd,zze,zzf])
 refine ztk (i := 8) (v := .int .u8 ((f 8 : Nat) : Int)) rfl (fun W _ => exec_str 9 _ _ rfl (strF n f) rfl .i64 _ rfl 8 rfl Tryd.underlying9 (f 8) h8) hS0 ?_
 (try simp only [Act.put,zza,zzb,zzc,zzd,zze,zzf])
 refine ztk (i := 9) (v := .string (strF n f)) rfl (fun _ _ => exec_move _ rfl _ rfl) hS0 ?_
 (try simp only [Act.put,zza,zzb,zzc,zzd,zze,zzf])
 refine ztk (i := 10) (v := .string (strF 2 fun i => f (9 + i))) rfl (fun W _ => exec_cutS 9 _ _ _ rfl n f 9 11 rfl rfl rfl 9 11 rfl rfl (by omega) (by omega) Tryd.underlying9) hS0 ?_
 (try simp only [Act.put,zza,zzb,zzc,zzd,zze,zzf])
 refine ztk (i := 12) (v := .string (strF n f)) rfl (fun _ _ => exec_move _ rfl _ rfl) hS0 ?_
 (try simp only [Act.put,zza,zzb,zzc,zzd,zze,zzf])
 refine ztk (i := 13) (v := .int .u8 ((f 11 : Nat) : Int)) rfl (fun W _ => exec_str 9 _ _ rfl (strF n f) rfl .i64 _ rfl 11 rfl Tryd.underlying9 (f 11) h11) hS0 ?_
 (try simp only [Act.put,zza,zzb,zzc,zzd,zze,zzf])
 refine wpAnyH_ready (rs := [4]) (by kernel_rfl) (by simp) (AllReadyH.cons rfl (fun K hK => ?_) AllReadyH.nil)
 (try simp only [Act.put,zza,zzb,zzc,zzd,zze,zzf])
 refine Eq.mpr (if_pos (by rfl)) ?_
 go_simp
 refine (clone_any 2 _ (by omega) _).mono ?_
 rintro e wq1 ⟨rfl, hBwq1⟩
 have hb2 := hb1.below hBwq1 hb1.lt
 refine hK.out _ _ (hS0.trans (hBwq1.mono hS0.size)) (fun hS1 => ?_)
 (try simp only [Act.put,zza,zzb,zzc,zzd,zze,zzf])
 clear hK K
 refine wpAnyH_ready (rs := [11]) (by kernel_rfl) (by simp) (AllReadyH.cons rfl (fun K hK => ?_) AllReadyH.nil)
 (try simp only [Act.put,zza,zzb,zzc,zzd,zze,zzf])
 refine Eq.mpr (if_pos (by rfl)) ?_
 go_simp
 refine (clone_any 2 _ (by omega) _).mono ?_
 rintro e wq2 ⟨rfl, hBwq2⟩
 have hb3 := hb2.below hBwq2 hb2.lt
 refine hK.out _ _ (hS1.trans (hBwq2.mono hS1.size)) (fun hS2 => ?_)
 (try simp only [Act.put,zza,zzb,zzc,zzd,zze,zzf])
 clear hK K
 refine ztk (i := 14) (v := .agg #[.int .u8 ((f 0 : Nat) : Int), .string (strF 2 fun i => f (5 + i)), .int .u8 ((f 7 : Nat) : Int), .int .u8 ((f 8 : Nat) : Int), .string (strF 2 fun i => f (9 + i)), .int .u8 ((f 11 : Nat) : Int)]) rfl (fun W _ => by go_simp) hS2 ?_
 (try simp only [Act.put,zza,zzb,zzc,zzd,zze,zzf])
 refine wpAnyH_ready (rs := [15]) (by kernel_rfl) (by simp) (AllReadyH.cons rfl (fun K hK => ?_) AllReadyH.nil)
 (try simp only [Act.put,zza,zzb,zzc,zzd,zze,zzf])
 refine Eq.mpr (if_pos (by rfl)) ?_
 refine wp_store_blk 23 _ _ rfl w.heap.size (#[.int .u8 ((f 0 : Nat) : Int), .string (strF 2 fun i => f (5 + i)), .int .u8 ((f 7 : Nat) : Int), .int .u8 ((f 8 : Nat) : Int), .string (strF 2 fun i => f (9 + i)), .int .u8 ((f 11 : Nat) : Int)]) rfl rfl 23 _ hb3 iHead rfl (one6 _ _ _ _ _ _) ?_
 (try simp only [Act.put,zza,zzb,zzc,zzd,zze,zzf])
 refine hK.out _ _ (below_setRow' hS2 (Nat.le_refl _) _) (fun hS3 => ?_)
 (try simp only [Act.put,zza,zzb,zzc,zzd,zze,zzf])
 refine wpAnyH_done (by kernel_rfl) ?_ _
 clear hK
 go_wp2_with fail
 exact ret_cs1 Tryd.results25 rfl w.heap.size rfl 23 _ (hb3.setRow _) _ Tryd.underlying23 iHead ⟨rfl, hS3⟩
end Go.Proofs.YtklgngdcihkfjaaDoor.Hd
