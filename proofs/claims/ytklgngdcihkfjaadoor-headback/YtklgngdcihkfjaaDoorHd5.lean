/-
 What lockboxref10's Print returns.
-/
import Derived.Test.YtklgngdcihkfjaaDoorHd4
namespace Go.Proofs.YtklgngdcihkfjaaDoor.Hd
open Mem Go.ChangeShapes Go.WideShapes Go.ChangeAt Go.RowKit
theorem bsb5 (x y z s t : Int) (w : World) : (Instr.buildSlice 45 5 #[(0, .int .u8 x), (1, .int .u8 y), (2, .int .u8 z), (3, .int .u8 s), (4, .int .u8 t)]).run Tryd.prog w = .ok (.slice (some ⟨w.heap.size, 0, none⟩) 5 5) (w.alloc (.cells #[.int .u8 x, .int .u8 y, .int .u8 z, .int .u8 s, .int .u8 t] 5)) := by kernel_rfl
theorem bsb7 (x y z s t u v : Int) (w : World) : (Instr.buildSlice 45 7 #[(0, .int .u8 x), (1, .int .u8 y), (2, .int .u8 z), (3, .int .u8 s), (4, .int .u8 t), (5, .int .u8 u), (6, .int .u8 v)]).run Tryd.prog w = .ok (.slice (some ⟨w.heap.size, 0, none⟩) 7 7) (w.alloc (.cells #[.int .u8 x, .int .u8 y, .int .u8 z, .int .u8 s, .int .u8 t, .int .u8 u, .int .u8 v] 5)) := by kernel_rfl
theorem wpl_appG {ops : Array Oper} {rest : List Oper} {o : Oper} {a : Act} {w : World} {Q : Exit → Act → World → Prop} (hgd : o.guard = none) (p q : Operand) (ho : o.op = .call { callee := .builtin .append, args := #[p, q], argTypes := #[45, 45] }) (base : Nat) (v : Value) (n : Nat) (f : Nat → Nat) (hp : a.eval p = v) (hown : Own w base 5 1 v n f)
  (m : Nat) (g : Nat → Nat) (cs : Array Value) (hcs : cs = row (m * 1) (b8 g)) (b : Nat) (hb : b = w.heap.size) (hq : a.eval q = .slice (some ⟨b, 0, none⟩) m m) (hn : (n + m) * 1 ≤ 1000000) (hbase : base ≤ w.heap.size)
  (h : ∀ v' w', Own w' base 5 1 v' (n + m) (cat (n * 1) f g) → Below base w w' → wpList Tryd.prog ops Q rest (a.put o.dst v') w') : wpList Tryd.prog ops Q (o :: rest) a (w.alloc (.cells cs 5)) := by
 subst hb
 exact wpl_app hgd p q 45 ho base 5 1 (.int .u8 0) Tryd.underlying45 info8h rfl (by omega) v n f hp hown m g cs hcs hq hn hbase h
theorem exec_catZ {P : Program} {o : Oper} {a : Act} {w : World} (t : TypeId) (x y : Operand) (rt : TypeId) (ho : o.op = .binOp .add t x y rt) (n : Nat) (f : Nat → Nat) (hx : a.eval x = .string (strF n f)) (hy : a.eval y = .string ⟨#[48, 48, 48, 48]⟩) (hn : n ≤ 1000) :
  (execOp a.eval o).run P w = .ok (.value (.string (strF (n + 4) (cat n f fun _ => 48)))) w :=
 exec_cat t x y rt ho n 4 f (fun _ => 48) hx (hy.trans rfl) (by omega)
theorem wp_vw {P : Program} {o : Oper} {a : Act} {w w' : World} {K : Act → World → Prop} {Q : Exit → Act → World → Prop} (v : Value) (hr : (execOp a.eval o).run P w = .ok (.value v) w') (h : K (a.put o.dst v) w') : o.wp P a w K Q := by
 unfold Oper.wp
 rw [hr]
 exact h
def h5 (v n : Nat) : Nat → Nat := fun i => if i = 0 then v else dgF n (i - 1)
theorem row5 (v n : Nat) : #[Value.int .u8 (v : Int), .int .u8 ((dgF n 0 : Nat) : Int), .int .u8 ((dgF n 1 : Nat) : Int), .int .u8 ((dgF n 2 : Nat) : Int), .int .u8 ((dgF n 3 : Nat) : Int)] = row (5 * 1) (b8 (h5 v n)) := rfl
def h7 (f : Nat → Nat) (a k : Nat) (g : Nat → Nat) (x : Nat) : Nat → Nat := fun i => if i = 0 then f 0 else if i = 1 then f 1 else if i = 2 then a else if i = 3 then k else if i = 4 then g 0 else if i = 5 then g 1 else x
theorem row7 (f : Nat → Nat) (a k : Nat) (g : Nat → Nat) (x : Nat) : #[Value.int .u8 ((f 0 : Nat) : Int), .int .u8 ((f 1 : Nat) : Int), .int .u8 (a : Int), .int .u8 (k : Int), .int .u8 ((g 0 : Nat) : Int), .int .u8 ((g 1 : Nat) : Int), .int .u8 (x : Int)] = row (7 * 1) (b8 (h7 f a k g x)) := rfl
theorem prF_cat2 (v a k x n : Nat) (f g : Nat → Nat) (i : Nat) (hi : i < 16) : cat 12 (cat 5 (cat 0 (fun _ => 0) (h5 v n)) (h7 f a k g x)) (fun _ => 48) i = prF ⟨v, 2, f, a, k, 2, g, x⟩ n i := by
 match i, hi with
 | 0, _ => rfl
 | 1, _ => rfl
 | 2, _ => rfl
 | 3, _ => rfl
 | 4, _ => rfl
 | 5, _ => rfl
 | 6, _ => rfl
 | 7, _ => rfl
 | 8, _ => rfl
 | 9, _ => rfl
 | 10, _ => rfl
 | 11, _ => rfl
 | 12, _ => rfl
 | 13, _ => rfl
 | 14, _ => rfl
 | 15, _ => rfl
 | i + 16, hi => exact absurd hi (by omega)
set_option maxRecDepth 100000 in
set_option maxHeartbeats 1000000 in
set_option linter.unusedSimpArgs false in
theorem rprint_ok (h : Hd) (ok : h.Ok) (hw : wrong h = -1) (n : Nat) (hn1 : 16 ≤ n) (hn2 : n ≤ 9999) (w : World) :
  Calls Tryd.prog 14 #[.agg (hdC h), .int .i64 (n : Int)] w fun e w' => e = .returned (.string (strF 16 (prF h n))) ∧ Below w.heap.size w w' := by
 obtain ⟨v, nn, f, a, k, m, g, x⟩ := h
 obtain ⟨hv, hf, ha, hk, hg, hx⟩ := ok
 simp only at hv hf ha hk hg hx
 have hpr := prB_two (wrong_n hw)
 have hpm := prB_two (wrong_m hw)
 simp only at hpr hpm
 subst hpr hpm
 have hB0 : Below w.heap.size w (w.alloc (.cells (hdC ⟨v, 2, f, a, k, 2, g, x⟩) 23)) := (Below.refl _ _).alloc (Nat.le_refl _) _
 have hb0 := Blk.fresh w 23 (hdC ⟨v, 2, f, a, k, 2, g, x⟩)
 have hlt : w.heap.size < (w.alloc (.cells (hdC ⟨v, 2, f, a, k, 2, g, x⟩) 23)).heap.size := by simp
 unfold hdC at hB0 hb0 hlt ⊢
 simp only at hB0 hb0 hlt ⊢
 have HB0 := hid hB0
 have HC : Hid (∀ W, Below (w.alloc (.cells #[Value.int .u8 (v : Int), .string (strF 2 f), .int .u8 (a : Int), .int .u8 (k : Int), .string (strF 2 g), .int .u8 (x : Int)] 23)).heap.size (w.alloc (.cells #[Value.int .u8 (v : Int), .string (strF 2 f), .int .u8 (a : Int), .int .u8 (k : Int), .string (strF 2 g), .int .u8 (x : Int)] 23)) W → ∀ i u, (#[Value.int .u8 (v : Int), .string (strF 2 f), .int .u8 (a : Int), .int .u8 (k : Int), .string (strF 2 g), .int .u8 (x : Int)] : Array Value)[i]? = some u → W.cell? ⟨w.heap.size, i, none⟩ = some u) := hid (fun W hW i u hu => by rw [(hb0.below hW hb0.lt).cell i]; exact hu)
 have Hlt := hid hlt
 clear hb0 hB0 hw hlt
 go_enter Tryd.func14, Tryd.ntmps14
 have hd0 : (48 + (n : Int) / 1000) = ((dgF n 0 : Nat) : Int) := by rw [show dgF n 0 = 48 + n / 1000 % 10 from rfl]; omega
 have hd1 : (48 + (n : Int) / 100 % 10) = ((dgF n 1 : Nat) : Int) := by rw [show dgF n 1 = 48 + n / 100 % 10 from rfl]; omega
 have hd2 : (48 + (n : Int) / 10 % 10) = ((dgF n 2 : Nat) : Int) := by rw [show dgF n 2 = 48 + n / 10 % 10 from rfl]; omega
 have hd3 : (48 + (n : Int) % 10) = ((dgF n 3 : Nat) : Int) := by rw [show dgF n 3 = 48 + n % 10 from rfl]; omega
 have hrw : #[Value.int .u8 (v : Int), .int .u8 (48 + (n : Int) / 1000), .int .u8 (48 + (n : Int) / 100 % 10), .int .u8 (48 + (n : Int) / 10 % 10), .int .u8 (48 + (n : Int) % 10)] = row (5 * 1) (b8 (h5 v n)) := by rw [hd0, hd1, hd2, hd3]; rfl
 have Hrw := hid hrw
 have hn0 := Own.nil (w.alloc (.cells #[Value.int .u8 (v : Int), .string (strF 2 f), .int .u8 (a : Int), .int .u8 (k : Int), .string (strF 2 g), .int .u8 (x : Int)] 23)) (w.alloc (.cells #[Value.int .u8 (v : Int), .string (strF 2 f), .int .u8 (a : Int), .int .u8 (k : Int), .string (strF 2 g), .int .u8 (x : Int)] 23)).heap.size 5 1 (fun _ => 0)
 have Hn0 := hid hn0
 clear hrw hn0 hd0 hd1 hd2 hd3
 go_wp2_with (first
  | (with_reducible refine wpl_valw rfl _ (exec_bs 45 5 _ rfl #[(0, .int .u8 (v : Int)), (1, .int .u8 (48 + (n : Int) / 1000)), (2, .int .u8 (48 + (n : Int) / 100 % 10)), (3, .int .u8 (48 + (n : Int) / 10 % 10)), (4, .int .u8 (48 + (n : Int) % 10))] rfl _ (bsb5 _ _ _ _ _ _)) ?_)
  | (at_builtin; refine wpl_appG rfl _ _ rfl (w.alloc (.cells #[Value.int .u8 (v : Int), .string (strF 2 f), .int .u8 (a : Int), .int .u8 (k : Int), .string (strF 2 g), .int .u8 (x : Int)] 23)).heap.size _ 0 _ rfl Hn0.out 5 (h5 v n) _ Hrw.out (w.heap.size + 1) (by simp) rfl (by omega) (Nat.le_refl _) ?_))
 intro v1 w1 ho1 hB1
 rw [← show (w.alloc (.cells #[Value.int .u8 (v : Int), .string (strF 2 f), .int .u8 (a : Int), .int .u8 (k : Int), .string (strF 2 g), .int .u8 (x : Int)] 23)).heap.size = w.heap.size + 1 by simp] at ho1 hB1
 generalize w.alloc (.cells #[Value.int .u8 (v : Int), .string (strF 2 f), .int .u8 (a : Int), .int .u8 (k : Int), .string (strF 2 g), .int .u8 (x : Int)] 23) = W0 at *
 have Ho1 := hid ho1
 have HB1 := hid hB1
 have h0 := byteAt_strF (n := 2) (f := f) (k := 0) (by omega) (hf 0)
 have h1 := byteAt_strF (n := 2) (f := f) (k := 1) (by omega) (hf 1)
 have h2 := byteAt_strF (n := 2) (f := g) (k := 0) (by omega) (hg 0)
 have h3 := byteAt_strF (n := 2) (f := g) (k := 1) (by omega) (hg 1)
 have hsz1 := hB1.size
 clear Hn0 Hrw ho1 hB1
 go_wp2_with fail
 refine wp_region_held_drew (S := fun W => Below W0.heap.size W0 W) (by kernel_rfl) HB1.out.drew (fun hS0 => ?_)
 refine ztk (i := 0) (v := v1) rfl (fun _ _ => exec_move _ rfl _ rfl) hS0 ?_
 (try simp only [Act.put,zza,zzb,zzc,zzd,zze,zzf])
 refine ztk (i := 1) (v := .pointer (some ⟨w.heap.size, 1, none⟩)) rfl (fun W _ => by go_simp) hS0 ?_
 (try simp only [Act.put,zza,zzb,zzc,zzd,zze,zzf])
 refine ztk (i := 2) (v := .string (strF 2 f)) rfl (fun W hW => exec_ldc 9 _ rfl ⟨w.heap.size, 1, none⟩ rfl _ (HC.out W hW 1 _ rfl) (.inr Tryd.underlying9)) hS0 ?_
 (try simp only [Act.put,zza,zzb,zzc,zzd,zze,zzf])
 refine ztk (i := 3) (v := .int .u8 ((f 0 : Nat) : Int)) rfl (fun W _ => exec_str 9 _ _ rfl (strF 2 f) rfl .i64 _ rfl 0 rfl Tryd.underlying9 (f 0) h0) hS0 ?_
 (try simp only [Act.put,zza,zzb,zzc,zzd,zze,zzf])
 refine ztk (i := 4) (v := .pointer (some ⟨w.heap.size, 1, none⟩)) rfl (fun W _ => by go_simp) hS0 ?_
 (try simp only [Act.put,zza,zzb,zzc,zzd,zze,zzf])
 refine ztk (i := 5) (v := .string (strF 2 f)) rfl (fun W hW => exec_ldc 9 _ rfl ⟨w.heap.size, 1, none⟩ rfl _ (HC.out W hW 1 _ rfl) (.inr Tryd.underlying9)) hS0 ?_
 (try simp only [Act.put,zza,zzb,zzc,zzd,zze,zzf])
 refine ztk (i := 6) (v := .int .u8 ((f 1 : Nat) : Int)) rfl (fun W _ => exec_str 9 _ _ rfl (strF 2 f) rfl .i64 _ rfl 1 rfl Tryd.underlying9 (f 1) h1) hS0 ?_
 (try simp only [Act.put,zza,zzb,zzc,zzd,zze,zzf])
 refine ztk (i := 7) (v := .pointer (some ⟨w.heap.size, 2, none⟩)) rfl (fun W _ => by go_simp) hS0 ?_
 (try simp only [Act.put,zza,zzb,zzc,zzd,zze,zzf])
 refine ztk (i := 8) (v := .int .u8 (a : Int)) rfl (fun W hW => exec_ldc 5 _ rfl ⟨w.heap.size, 2, none⟩ rfl _ (HC.out W hW 2 _ rfl) (.inl ⟨_, Tryd.underlying5⟩)) hS0 ?_
 (try simp only [Act.put,zza,zzb,zzc,zzd,zze,zzf])
 refine ztk (i := 9) (v := .pointer (some ⟨w.heap.size, 3, none⟩)) rfl (fun W _ => by go_simp) hS0 ?_
 (try simp only [Act.put,zza,zzb,zzc,zzd,zze,zzf])
 refine ztk (i := 10) (v := .int .u8 (k : Int)) rfl (fun W hW => exec_ldc 5 _ rfl ⟨w.heap.size, 3, none⟩ rfl _ (HC.out W hW 3 _ rfl) (.inl ⟨_, Tryd.underlying5⟩)) hS0 ?_
 (try simp only [Act.put,zza,zzb,zzc,zzd,zze,zzf])
 refine ztk (i := 11) (v := .pointer (some ⟨w.heap.size, 4, none⟩)) rfl (fun W _ => by go_simp) hS0 ?_
 (try simp only [Act.put,zza,zzb,zzc,zzd,zze,zzf])
 refine ztk (i := 12) (v := .string (strF 2 g)) rfl (fun W hW => exec_ldc 9 _ rfl ⟨w.heap.size, 4, none⟩ rfl _ (HC.out W hW 4 _ rfl) (.inr Tryd.underlying9)) hS0 ?_
 (try simp only [Act.put,zza,zzb,zzc,zzd,zze,zzf])
 refine ztk (i := 13) (v := .int .u8 ((g 0 : Nat) : Int)) rfl (fun W _ => exec_str 9 _ _ rfl (strF 2 g) rfl .i64 _ rfl 0 rfl Tryd.underlying9 (g 0) h2) hS0 ?_
 (try simp only [Act.put,zza,zzb,zzc,zzd,zze,zzf])
 refine ztk (i := 14) (v := .pointer (some ⟨w.heap.size, 4, none⟩)) rfl (fun W _ => by go_simp) hS0 ?_
 (try simp only [Act.put,zza,zzb,zzc,zzd,zze,zzf])
 refine ztk (i := 15) (v := .string (strF 2 g)) rfl (fun W hW => exec_ldc 9 _ rfl ⟨w.heap.size, 4, none⟩ rfl _ (HC.out W hW 4 _ rfl) (.inr Tryd.underlying9)) hS0 ?_
 (try simp only [Act.put,zza,zzb,zzc,zzd,zze,zzf])
 refine ztk (i := 16) (v := .int .u8 ((g 1 : Nat) : Int)) rfl (fun W _ => exec_str 9 _ _ rfl (strF 2 g) rfl .i64 _ rfl 1 rfl Tryd.underlying9 (g 1) h3) hS0 ?_
 (try simp only [Act.put,zza,zzb,zzc,zzd,zze,zzf])
 refine ztk (i := 17) (v := .pointer (some ⟨w.heap.size, 5, none⟩)) rfl (fun W _ => by go_simp) hS0 ?_
 (try simp only [Act.put,zza,zzb,zzc,zzd,zze,zzf])
 refine ztk (i := 18) (v := .int .u8 (x : Int)) rfl (fun W hW => exec_ldc 5 _ rfl ⟨w.heap.size, 5, none⟩ rfl _ (HC.out W hW 5 _ rfl) (.inl ⟨_, Tryd.underlying5⟩)) hS0 ?_
 (try simp only [Act.put,zza,zzb,zzc,zzd,zze,zzf])
 refine wpAnyH_ready (rs := [19]) (by kernel_rfl) (by simp) (AllReadyH.cons rfl (fun K hK => ?_) AllReadyH.nil)
 (try simp only [Act.put,zza,zzb,zzc,zzd,zze,zzf])
 refine Eq.mpr (if_pos (by rfl)) ?_
 refine wp_vw _ (exec_bs 45 7 _ rfl #[(0, .int .u8 ((f 0 : Nat) : Int)), (1, .int .u8 ((f 1 : Nat) : Int)), (2, .int .u8 (a : Int)), (3, .int .u8 (k : Int)), (4, .int .u8 ((g 0 : Nat) : Int)), (5, .int .u8 ((g 1 : Nat) : Int)), (6, .int .u8 (x : Int))] (by simp only [List.map_toArray, List.map_cons, List.map_nil]; rfl) _ (bsb7 _ _ _ _ _ _ _ _)) ?_
 refine hK.out _ _ (hS0.alloc hS0.size _) (fun hS1 => ?_)
 (try simp only [Act.put,zza,zzb,zzc,zzd,zze,zzf])
 clear hK K
 refine wpAnyH_ready (rs := [20]) (by kernel_rfl) (by simp) (AllReadyH.cons rfl (fun K hK => ?_) AllReadyH.nil)
 (try simp only [Act.put,zza,zzb,zzc,zzd,zze,zzf])
 refine Eq.mpr (if_pos (by rfl)) ?_
 refine wp_app _ _ 45 rfl W0.heap.size 5 1 (.int .u8 0) Tryd.underlying45 info8h rfl (by omega) _ 5 _ rfl (Ho1.out.drewN 1) 7 (h7 f a k g x) _ (row7 f a k g x) rfl (by omega) (by show W0.heap.size ≤ w1.heap.size; exact hsz1) ?_
 intro v2 w2 ho2 hB2
 have hS2 := HB1.out.drew.trans hB2
 refine hK.out _ _ hS2 (fun hS3 => ?_)
 (try simp only [Act.put,zza,zzb,zzc,zzd,zze,zzf])
 clear hK K hS1
 refine ztk (i := 21) (v := v2) rfl (fun _ _ => exec_assign _ rfl _ rfl) hS2 ?_
 (try simp only [Act.put,zza,zzb,zzc,zzd,zze,zzf])
 refine wpAnyH_done (by kernel_rfl) ?_ _
 have ho2x : Own w2 W0.heap.size 5 1 v2 12 (cat 5 (cat 0 (fun _ => 0) (h5 v n)) (h7 f a k g x)) := ho2
 have Ho2 := hid ho2x
 have HB2 := hid hS2
 clear ho2 ho2x hB2 hS2 hS3 hS0
 have hE : strF 16 (cat 12 (cat 5 (cat 0 (fun _ => 0) (h5 v n)) (h7 f a k g x)) fun _ => 48) = strF 16 (prF ⟨v, 2, f, a, k, 2, g, x⟩ n) := strF_ext fun i hi => prF_cat2 v a k x n f g i hi
 have HE := hid hE
 clear hE
 go_wp2_with (first
  | (with_reducible refine wpl_valw rfl _ (exec_convS _ rfl _ rfl Ho2.out) ?_)
  | (with_reducible refine wpl_valw rfl _ (exec_catZ 9 _ _ _ rfl 12 _ rfl rfl (by omega)) ?_))
 go_ret
 exact ⟨congrArg (fun s => Ending.returned (Value.string s)) HE.out, HB0.out.trans (HB2.out.mono HB0.out.size)⟩
end Go.Proofs.YtklgngdcihkfjaaDoor.Hd
