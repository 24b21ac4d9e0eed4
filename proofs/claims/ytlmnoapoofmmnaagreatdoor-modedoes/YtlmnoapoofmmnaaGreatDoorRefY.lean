/-
 RefLoc RefXor Ref06 RefPad RefDbl RefCmac
-/
import Derived.Test.YtlmnoapoofmmnaaGreatDoorRefHX
import Derived.Test.YtlmnoapoofmmnaaGreatDoorModeX
import Derived.Maps.AppendAt
import Derived.Test.YtlmnoapoofmmnaaGreatDoorLst
import Derived.Test.YtlmnoapoofmmnaaGreatDoorMacX
import Derived.Test.YtlmnoapoofmmnaaGreatDoorRef03X
import Derived.Deep.RegionHeld3
import Derived.Test.YtlmnoapoofmmnaaGreatDoorLaw05
namespace Go.Proofs.YtlmnoapoofmmnaaGreatDoor.Bk
open Mem Go.ChangeShapes Go.WideShapes Go.ChangeAt Go.RowKit
def LocP (P : Nat → Prop) (w w' : World) : Nat → Prop := fun g => g < w'.heap.size ∧ (P g ∨ w.heap.size ≤ g)
theorem agree_hole {P : Nat → Prop} {w w' : World} {b : Nat} (h : ¬ (P b ∨ w.heap.size ≤ b)) : Agree P w w' (w'.setRow b #[]) :=
 ⟨rfl, rfl, rfl, by simp, fun g _ hor => setRow_other w' b g _ (fun e => h (e ▸ hor))⟩
theorem loc_block {P : Nat → Prop} {w w' : World} {a : Addr} {v : Value} (h : w'.cell? a = some v) (hs : ∀ W, Agree P w w' W → ∃ u, W.cell? a = some u) : P a.block ∨ w.heap.size ≤ a.block := by
 apply Classical.byContradiction
 intro hno
 obtain ⟨u, hu⟩ := hs _ (agree_hole hno)
 obtain ⟨cs, t, fz, hb, _⟩ := cell_in h
 have h2 := setRow_heap w' a.block cs #[] t fz hb
 obtain ⟨cs', t', fz', hb', hc'⟩ := cell_in hu
 rw [h2] at hb'
 injection hb' with hb'
 injection hb' with hb' _ _
 subst hb'
 simp at hc'
theorem loc_reads {P : Nat → Prop} {w w' : World} {A : Option Addr} {n : Nat} {f : Nat → Nat} (h : Reads w' w'.heap.size A n f) (hs : ∀ W, Agree P w w' W → ∃ f', Reads W W.heap.size A n f') : ReadsP w' (LocP P w w') A n f := fun hn => by
 obtain ⟨ad, rfl, hb, hc⟩ := h hn
 refine ⟨ad, rfl, ⟨hb, ?_⟩, hc⟩
 have h0 := loc_block (P := P) (w := w) (hc 0 hn) (fun W ha => by
  obtain ⟨f', hf'⟩ := hs W ha
  obtain ⟨ad', e', _, hc'⟩ := hf' hn
  cases e'
  exact ⟨_, hc' 0 hn⟩)
 rwa [add_block] at h0
theorem loc_rows {P : Nat → Prop} {w w' : World} {Lk : Nat} {A : Option Addr} {R : List Rw} (h : ∀ W, Agree P w w' W → RowsAt W W.heap.size A Lk R) : RowsAtP w' (LocP P w w') A Lk R := fun i hi => by
 obtain ⟨ad, rfl, hb, c, hc, hr⟩ := h w' (Agree.refl _ _ _) i hi
 have hP : P ad.block ∨ w.heap.size ≤ ad.block := by
  have h0 := loc_block (P := P) (w := w) (hc 0 (by omega)) (fun W ha => by
   obtain ⟨ad', e', _, c', hc', _⟩ := h W ha i hi
   cases e'
   exact ⟨_, hc' 0 (by omega)⟩)
  rwa [add_block, add_block] at h0
 have hk : ∀ W, Agree P w w' W → RowC W W.heap.size Lk R[i] c := fun W ha => by
  obtain ⟨ad', e', _, c', hc', hr'⟩ := h W ha i hi
  cases e'
  have he : ∀ j, j < 3 → c' j = c j := fun j hj => by
   have h1 := hc' j hj
   rw [World.cell?_of_block (w := w') (by rw [add_block, add_block]; exact ha.block ad.block hb hP), hc j hj] at h1
   injection h1 with h1
   exact h1.symm
  obtain ⟨⟨A, cp, f, k1, k2, k3, k4⟩, ⟨A1, c1, k5, k6, k7⟩, ⟨A2, c2, k8, k9, k10⟩⟩ := hr'
  exact ⟨⟨A, cp, f, by rw [← he 0 (by omega), k1], k2, k3, k4⟩, ⟨A1, c1, by rw [← he 1 (by omega), k5], k6, k7⟩, ⟨A2, c2, by rw [← he 2 (by omega), k8], k9, k10⟩⟩
 refine ⟨ad, rfl, ⟨hb, hP⟩, c, hc, ?_⟩
 obtain ⟨⟨A, cp, f, k1, k2, k3, k4⟩, ⟨A1, c1, k5, k6, k7⟩, ⟨A2, c2, k8, k9, k10⟩⟩ := hr
 refine ⟨⟨A, cp, f, k1, loc_reads k2 (fun W ha => ?_), k3, k4⟩, ⟨A1, c1, k5, k6, loc_reads k7 (fun W ha => ?_)⟩, ⟨A2, c2, k8, k9, loc_reads k10 (fun W ha => ?_)⟩⟩
 ·obtain ⟨B, cq, g, q1, q2, _⟩ := (hk W ha).key
  rw [k1] at q1
  cases q1
  exact ⟨g, q2⟩
 ·obtain ⟨B, cq, q1, _, q2⟩ := (hk W ha).inn
  rw [k5] at q1
  cases q1
  exact ⟨_, q2⟩
 obtain ⟨B, cq, q1, _, q2⟩ := (hk W ha).out
 rw [k8] at q1
 cases q1
 exact ⟨_, q2⟩
def RDoL (F : Nat → Nat) (n k Lk : Nat) (P : Nat → Prop) (o : Option (Nat → Nat)) (R' : List Rw) (d' : Nat) (w : World) (e : Ending) (w' : World) : Prop :=
 Below w.heap.size w w' ∧ ∃ Ar cr At ct v ok, e = .returned (.tuple #[.agg #[.slice Ar R'.length cr, .slice At (n - d') ct], v, .bool ok]) ∧ RowsAtP w' (LocP P w w') Ar Lk R' ∧ ReadsP w' (LocP P w w') At (n - d') (fun i => F (d' + i)) ∧ n - d' ≤ ct ∧ (Ar = none → R'.length = 0 ∧ cr = 0) ∧
  ((∃ y A c, o = some y ∧ ok = true ∧ v = .slice A (sz k) c ∧ ReadsP w' (LocP P w w') A (sz k) y) ∨ (o = none ∧ ok = false))
def DoC (p : Pl) (k Lk : Nat) (Ak : Option Addr) (ck : Nat) (key : Nat → Nat) (bk : Bool) : Prop :=
 ∀ (d : Nat) (R : List Rw) (Ar : Option Addr) (cr : Nat) (At : Option Addr) (ct : Nat) (Ax : Option Addr) (cx : Nat) (x : Nat → Nat) (w : World) (B0 : Nat → Prop), (∀ g, B0 g → g < w.heap.size) → RowsAtP w B0 Ar Lk R → ReadsP w B0 At (p.n - d) (fun i => p.F (d + i)) → p.n - d ≤ ct → p.n ≤ 100000 → d ≤ p.n → R.length ≤ 1000 → Reads w w.heap.size Ak Lk key → Reads w w.heap.size Ax (sz k) x → (∀ i, i < sz k → x i < 256) → (Ar = none → R.length = 0 ∧ cr = 0) →
  ∀ (o : Option (Nat → Nat)) (R' : List Rw) (d' : Nat), turnC k Lk key p R d bk x = (o, R', d') →
  Calls Tryz.prog 31 #[.int .i64 (k : Int), .slice Ak Lk ck, .agg (row 2 (bookC (.slice Ar R.length cr) (.slice At (p.n - d) ct))), .slice Ax (sz k) cx, .bool bk] w (RDoL p.F p.n k Lk B0 o R' d' w)
end Go.Proofs.YtlmnoapoofmmnaaGreatDoor.Bk
namespace Go.Proofs.YtlmnoapoofmmnaaGreatDoor.Md
open Mem Bk Go.ChangeShapes Go.WideShapes Go.ChangeAt Go.RowKit
theorem bs8 (x : Int) (w : World) : (Instr.buildSlice 22 1 #[(0, .int .u8 x)]).run Tryz.prog w = .ok (.slice (some ⟨w.heap.size, 0, none⟩) 1 1) (w.alloc (.cells #[.int .u8 x] 5)) := by kernel_rfl
theorem exec_xor8 {P : Program} {o : Oper} {a : Act} {w : World} (t : TypeId) (x y : Operand) (rt : TypeId) (ho : o.op = .binOp .xor t x y rt) (p q : Int) (hx : a.eval x = .int .u8 p) (hy : a.eval y = .int .u8 q) (r : Int) (hr : bits .xor .u8 p q = r) : (execOp a.eval o).run P w = .ok (.value (.int .u8 r)) w := by
 have e : Op.intBits BinOp.xor IntKind.u8 p q = pure (.int .u8 (bits .xor .u8 p q)) := rfl
 unfold execOp
 simp [ho, hx, hy, eqGuard, binOp, e, hr]
set_option linter.unusedSimpArgs false in
set_option maxRecDepth 100000 in
set_option maxHeartbeats 1000000 in
theorem rxor_any (A A' : Option Addr) (n c c' : Nat) (f g : Nat → Nat) (w : World) (hn : n ≤ 1000) (hf : ∀ i, i < n → f i < 256) (hg : ∀ i, i < n → g i < 256) (hR : Reads w w.heap.size A n f) (hR' : Reads w w.heap.size A' n g) :
  Calls Tryz.prog 30 #[.slice A n c, .slice A' n c'] w fun e w' => ∃ v, e = .returned v ∧ Mem.Own w' w.heap.size 5 1 v n (xr f g) ∧ Below w.heap.size w w' := by
 have HR := hid hR
 have HR' := hid hR'
 have Hf := hid hf
 have Hg := hid hg
 clear hR hR' hf hg
 go_enter Tryz.func30, Tryz.ntmps30
 go_wp2_with fail
 go_loopw [5, 6] (fun v i wr => ∃ k : Nat, k ≤ n ∧ i = .int .i64 k ∧ Mem.Own wr w.heap.size 5 1 v k (xr f g) ∧ Below w.heap.size w wr) (fun _ i _ => n - (intOf i).toNat)
 case atStart => exact ⟨0, by omega, rfl, Mem.Own.nil _ _ _ _ _, Below.refl _ _⟩
 case round =>
  obtain ⟨k, hk, rfl, ho, hB⟩ := hrel
  obtain ⟨Av, cv, rfl, hcv⟩ := ho.slice
  have Ho := hid ho
  clear ho
  by_cases hlt : k < n
  ·have hfk := Hf.out k hlt
   have hgk := Hg.out k hlt
   have hltI : (k : Int) < (n : Int) := by omega
   obtain ⟨ad, rfl, hbl, hcs⟩ := HR.out (by omega)
   obtain ⟨ad', rfl, hbl', hcs'⟩ := HR'.out (by omega)
   have hc := (hB.cell (p := ad.add k) (by rw [add_block]; exact hbl)).trans (hcs k hlt)
   have hc' := (hB.cell (p := ad'.add k) (by rw [add_block]; exact hbl')).trans (hcs' k hlt)
   clear hcs hcs'
   go_wp2_with fail
   have C1 : Hid (∀ W, Below w.heap.size wr W → W.cell? (ad.add k) = some (.int .u8 ((f k : Nat) : Int))) := hid fun W hW => (hW.cell (p := ad.add k) (by rw [add_block]; exact hbl)).trans hc
   have C2 : Hid (∀ W, Below w.heap.size wr W → W.cell? (ad'.add k) = some (.int .u8 ((g k : Nat) : Int))) := hid fun W hW => (hW.cell (p := ad'.add k) (by rw [add_block]; exact hbl')).trans hc'
   have HX : Hid (bits .xor .u8 ((f k : Nat) : Int) ((g k : Nat) : Int) = ((f k ^^^ g k : Nat) : Int)) := hid (u8_xor_nat _ _ hfk hgk)
   clear hc hc'
   have hsz := hB.size
   refine wp_region_held_drew (S := fun W => Below w.heap.size wr W) (by kernel_rfl) (Below.refl _ _).drew (fun hS0 => ?_)
   refine ztk (i := 0) (v := .slice Av k cv) rfl (fun _ _ => exec_move _ rfl _ rfl) hS0 ?_
   (try simp only [Act.put,zza,zzb,zzc,zzd,zze,zzf])
   refine ztk (i := 1) (v := .slice (some ad) n c) rfl (fun _ _ => exec_move _ rfl _ rfl) hS0 ?_
   (try simp only [Act.put,zza,zzb,zzc,zzd,zze,zzf])
   refine ztk (i := 2) (v := .int .i64 (k : Int)) rfl (fun _ _ => exec_move _ rfl _ rfl) hS0 ?_
   (try simp only [Act.put,zza,zzb,zzc,zzd,zze,zzf])
   refine ztk (i := 3) (v := .pointer (some (ad.add k))) rfl (fun _ _ => exec_sl1 22 _ _ rfl ad n c rfl .i64 _ rfl k rfl 5 Tryz.underlying22 hlt i8q) hS0 ?_
   (try simp only [Act.put,zza,zzb,zzc,zzd,zze,zzf])
   refine ztk (i := 4) (v := .int .u8 ((f k : Nat) : Int)) rfl (fun W hW => exec_ld 5 _ rfl _ rfl .u8 Tryz.underlying5 _ (C1.out W hW)) hS0 ?_
   (try simp only [Act.put,zza,zzb,zzc,zzd,zze,zzf])
   refine ztk (i := 5) (v := (.slice (some ad') n c')) rfl (fun _ _ => exec_move _ rfl _ rfl) hS0 ?_
   (try simp only [Act.put,zza,zzb,zzc,zzd,zze,zzf])
   refine ztk (i := 6) (v := .int .i64 (k : Int)) rfl (fun _ _ => exec_move _ rfl _ rfl) hS0 ?_
   (try simp only [Act.put,zza,zzb,zzc,zzd,zze,zzf])
   refine ztk (i := 7) (v := (.pointer (some (ad'.add k)))) rfl (fun _ _ => exec_sl1 22 _ _ rfl ad' n c' rfl .i64 _ rfl k rfl 5 Tryz.underlying22 hlt i8q) hS0 ?_
   (try simp only [Act.put,zza,zzb,zzc,zzd,zze,zzf])
   refine ztk (i := 8) (v := .int .u8 ((g k : Nat) : Int)) rfl (fun W hW => exec_ld 5 _ rfl _ rfl .u8 Tryz.underlying5 _ (C2.out W hW)) hS0 ?_
   (try simp only [Act.put,zza,zzb,zzc,zzd,zze,zzf])
   refine ztk (i := 9) (v := .int .u8 ((f k ^^^ g k : Nat) : Int)) rfl (fun _ _ => exec_xor8 _ _ _ _ rfl _ _ rfl rfl _ HX.out) hS0 ?_
   (try simp only [Act.put,zza,zzb,zzc,zzd,zze,zzf])
   refine wpAnyH_ready (rs := [10]) (by kernel_rfl) (by simp) (AllReadyH.cons rfl (fun K hK => ?_) AllReadyH.nil)
   (try simp only [Act.put,zza,zzb,zzc,zzd,zze,zzf])
   refine Eq.mpr (if_pos (by rfl)) ?_
   refine wp_bs 22 _ rfl (.int .u8 ((f k ^^^ g k : Nat) : Int)) rfl #[.int .u8 ((f k ^^^ g k : Nat) : Int)] 5 (bs8 _ _) ?_
   (try simp only [Act.put,zza,zzb,zzc,zzd,zze,zzf])
   refine hK.out _ _ (hS0.alloc (Nat.le_trans hsz hS0.size) _) (fun hS1 => ?_)
   (try simp only [Act.put,zza,zzb,zzc,zzd,zze,zzf])
   clear hK K
   refine wpAnyH_ready (rs := [11]) (by kernel_rfl) (by simp) (AllReadyH.cons rfl (fun K hK => ?_) AllReadyH.nil)
   (try simp only [Act.put,zza,zzb,zzc,zzd,zze,zzf])
   refine Eq.mpr (if_pos (by rfl)) ?_
   have ho7 : Mem.Own wr.drew w.heap.size 5 1 (.slice Av k cv) k (xr f g) := Ho.out
   have hRA : Reads (wr.drew.alloc (.cells #[.int .u8 ((f k ^^^ g k : Nat) : Int)] 5)) (wr.heap.size + 1) (some ⟨wr.heap.size, 0, none⟩) 1 (fun _ => f k ^^^ g k) := fun _ => ⟨_, rfl, Nat.lt_succ_self _, fun j hj => by
    have : j = 0 := by omega
    subst this
    exact (Blk.fresh wr.drew 5 #[.int .u8 ((f k ^^^ g k : Nat) : Int)]).cell 0⟩
   refine wp_app_gen _ _ 22 rfl w.heap.size 5 (.int .u8 0) Tryz.underlying22 info_u8 rfl _ k _ rfl (ho7.alloc _) (some ⟨wr.heap.size, 0, none⟩) 1 1 _ _ hRA (fun h => by cases h) rfl (by omega) (Nat.le_trans hsz hS1.size) ?_
   intro v' w1 ho1 hB1
   (try simp only [Act.put,zza,zzb,zzc,zzd,zze,zzf])
   refine hK.out _ _ (hS1.trans hB1) (fun hS2 => ?_)
   (try simp only [Act.put,zza,zzb,zzc,zzd,zze,zzf])
   clear hK K
   refine ztk (i := 12) (v := v') rfl (fun _ _ => exec_assign _ rfl _ rfl) hS2 ?_
   (try simp only [Act.put,zza,zzb,zzc,zzd,zze,zzf])
   refine wpAnyH_done (by kernel_rfl) ?_ _
   have Ho1 := hid ho1
   have HB1 := hid (hB.trans hS2)
   clear ho1 hB1 hS0 hS1 hS2 hRA ho7 C1 C2 hB Ho
   go_wp2_with fail
   go_round
   case rel =>
    refine ⟨k + 1, by omega, val_int (by omega), Ho1.out.ext (fun q hq => ?_), HB1.out⟩
    unfold cat
    by_cases hqk : q < k
    ·rw [if_pos hqk]
    rw [if_neg hqk]
    have : q = k := by omega
    subst this
    rfl
   case measure => simp [intOf]; omega
  have hltI : ¬ (k : Int) < (n : Int) := by omega
  obtain rfl : k = n := by omega
  go_wp2_with fail
  go_ret
  exact ⟨_, rfl, Ho.out, hB⟩
end Go.Proofs.YtlmnoapoofmmnaaGreatDoor.Md
namespace Go.Proofs.YtlmnoapoofmmnaaGreatDoor.R6
open Mem Bk Md Go.ChangeShapes Go.WideShapes Go.ChangeAt Go.RowKit
structure MS where
 R : List Rw
 d : Nat
 last : Nat → Nat
 out : Nat → Nat
def tb (k : Nat) (x : Nat → Nat) (j : Nat) : Nat → Nat := fun i => x (j * sz k + i)
def ask6 (k : Nat) (bk ch : Bool) (x : Nat → Nat) (j : Nat) (s : MS) : Nat → Nat := if bk = false ∧ ch = true then xr (tb k x j) s.last else tb k x j
def mNext (p : Pl) (k Lk : Nat) (key : Nat → Nat) (bk ch : Bool) (x : Nat → Nat) (j : Nat) (s : MS) : Option MS :=
 match turnC k Lk key p s.R s.d bk (ask6 k bk ch x j s) with
 | (none, _, _) => none
 | (some y, R', d') => some ⟨R', d', if bk = true ∧ ch = true then tb k x j else y, cat (j * sz k) s.out (if bk = true ∧ ch = true then xr y s.last else y)⟩
def mAt (p : Pl) (k Lk : Nat) (key : Nat → Nat) (bk ch : Bool) (x : Nat → Nat) (s0 : MS) : Nat → Option MS
 | 0 => some s0
 | j + 1 => match mAt p k Lk key bk ch x s0 j with
  | none => none
  | some s => mNext p k Lk key bk ch x j s
theorem mAt_next {p : Pl} {k Lk : Nat} {key : Nat → Nat} {bk ch : Bool} {x : Nat → Nat} {s0 s s' : MS} {j : Nat} (h : mAt p k Lk key bk ch x s0 j = some s) (h' : mNext p k Lk key bk ch x j s = some s') : mAt p k Lk key bk ch x s0 (j + 1) = some s' := by
 simp only [mAt, h, h']
theorem mAt_end {p : Pl} {k Lk : Nat} {key : Nat → Nat} {bk ch : Bool} {x : Nat → Nat} {s0 s : MS} {j : Nat} (h : mAt p k Lk key bk ch x s0 j = some s) (h' : mNext p k Lk key bk ch x j s = none) : mAt p k Lk key bk ch x s0 (j + 1) = none := by
 simp only [mAt, h, h']
theorem mNext_some {p : Pl} {k Lk : Nat} {key : Nat → Nat} {bk ch : Bool} {x : Nat → Nat} {s : MS} {j : Nat} {y : Nat → Nat} {R' : List Rw} {d' : Nat} (h : turnC k Lk key p s.R s.d bk (ask6 k bk ch x j s) = (some y, R', d')) :
  mNext p k Lk key bk ch x j s = some ⟨R', d', if bk = true ∧ ch = true then tb k x j else y, cat (j * sz k) s.out (if bk = true ∧ ch = true then xr y s.last else y)⟩ := by
 unfold mNext; rw [h]
theorem mNext_none {p : Pl} {k Lk : Nat} {key : Nat → Nat} {bk ch : Bool} {x : Nat → Nat} {s : MS} {j : Nat} {R' : List Rw} {d' : Nat} (h : turnC k Lk key p s.R s.d bk (ask6 k bk ch x j s) = (none, R', d')) : mNext p k Lk key bk ch x j s = none := by
 unfold mNext; rw [h]
theorem kept_row {w : World} (gm : Nat) (cs : Array Value) : KeptS [gm] w (w.setRow gm cs) := ⟨rfl, rfl, rfl, by simp, fun j _ hs => setRow_other w gm j cs (by simpa using hs)⟩
theorem own_row {w : World} {base n gm : Nat} {v : Value} {f : Nat → Nat} {ds : Array Value} (h : Mem.Own w base 5 1 v n f) (hg : Blk w gm 37 ds) (cs : Array Value) : Mem.Own (w.setRow gm cs) base 5 1 v n f :=
 (kept_row (w := w) gm cs).own h (fun j es hj => by simpa using hg.ne hj (by decide))
theorem cells2 {w : World} {g : Nat} {S T : Value} (h : Blk w g 37 (row 2 (bookC S T))) : ∀ i, i < 2 → w.cell? ((⟨g, 0, none⟩ : Addr).add i) = some (bookC S T i) := fun i hi => by
 rw [add_zero_off, h.cell, row_get _ _ _ hi]
theorem wpl_store_blk {P : Program} {ops : Array Oper} {rest : List Oper} {o : Oper} {a : Act} {w : World} {Q : Exit → Act → World → Prop} (hgd : o.guard = none) (ty : TypeId) (x y : Operand) (ho : o.op = .store ty x y) (g : Nat) (cells : Array Value) (hx : a.eval x = .pointer (some ⟨g, 0, none⟩)) (hy : a.eval y = .agg cells)
  (t : TypeId) (old : Array Value) (hg : Blk w g t old) (hi : (P.info? ty).map (·.size) = some cells.size) (hold : old.size = cells.size) (h1 : cells.all (·.oneCell') = true)
  (h : wpList P ops Q rest (a.put o.dst undef) (w.setRow g cells)) : wpList P ops Q (o :: rest) a w :=
 wpList_plain hgd fun _ hK => wp_store_row ty x y ho g cells hx hy t old hg hi hold h1 (hK _ _ h)
theorem exec_cutLH {P : Program} {o : Oper} {a : Act} {w : World} (ty : TypeId) (p lo hi : Operand) (ho : o.op = .slice ty p (some lo) (some hi) none) (u y z v : Value) (hp : a.eval p = u) (hl : a.eval lo = y) (hh : a.eval hi = z) (hr : (Instr.sliceAt ty u (some y) (some z) none).run P w = .ok v w) : (execOp a.eval o).run P w = .ok (.value v) w := by
 subst hp; subst hl; subst hh
 unfold execOp
 simp [ho, hr]
theorem uS8 : Tryz.prog.underlying 22 = some (.slice (Tryz.prog.elem 22)) := by kernel_rfl
theorem eS8 : Tryz.prog.elem 22 = 5 := by kernel_rfl
theorem cutLoHi (g : Addr) (n c l m : Nat) (h : l ≤ m) (hm : m ≤ c) (hc : l < c) (w : World) : (Instr.sliceAt 22 (.slice (some g) n c) (some (.int .i64 (l : Int))) (some (.int .i64 (m : Int))) none).run Tryz.prog w = .ok (.slice (some (g.add l)) (m - l) (c - l)) w := by
 rw [run_sliceAt_slice w 22 _ _ _ _ uS8, run_slice_lh w 22 _ _ _ uS8 .i64 .i64 (l : Int) (m : Int) (by omega) (by omega) (by omega), eS8, run_size i8q]
 simp [Result.andThen, sliced, show ¬ c = l by omega]
theorem exec_cutB {o : Oper} {a : Act} {w : World} (p lo hi : Operand) (ho : o.op = .slice 22 p (some lo) (some hi) none) (g : Addr) (M c q n : Nat) (z : Int) (hp : a.eval p = .slice (some g) M c) (hl : a.eval lo = .int .i64 (q : Int)) (hh : a.eval hi = .int .i64 z) (hz : z = ((q + n : Nat) : Int)) (hn : 0 < n) (hc : q + n ≤ c) : (execOp a.eval o).run Tryz.prog w = .ok (.value (.slice (some (g.add q)) n (c - q))) w := by
 subst hz
 have h := cutLoHi g M c q (q + n) (by omega) hc (by omega) w
 rw [Nat.add_sub_cancel_left] at h
 exact exec_cutLH 22 p lo hi ho _ _ _ _ hp hl hh h
theorem rsize_any (k : Nat) (hk : k = 1 ∨ k = 2 ∨ k = 3) (w : World) : Calls Tryz.prog 10 #[.int .i64 (k : Int)] w fun e w' => e = .returned (.int .i64 (sz k : Int)) ∧ w' = w := by
 rcases hk with rfl | rfl | rfl
 ·go_enter Tryz.func10, Tryz.ntmps10
  go_wp2
  go_ret
  exact ⟨rfl, rfl⟩
 ·go_enter Tryz.func10, Tryz.ntmps10
  go_wp2
  go_ret
  exact ⟨rfl, rfl⟩
 go_enter Tryz.func10, Tryz.ntmps10
 go_wp2
 go_ret
 exact ⟨rfl, rfl⟩
theorem len_le {R R' : List Rw} (h : R' = R ∨ R'.length = R.length + 1) : R'.length ≤ R.length + 1 := by
 rcases h with h | h
 ·rw [h]; omega
 omega
theorem fits_kind {k L : Nat} (h : fits k L) : k = 1 ∨ k = 2 ∨ k = 3 := by
 rcases h with ⟨h, _⟩ | ⟨h, _⟩ | ⟨h, _⟩
 ·exact .inl h
 ·exact .inr (.inl h)
 exact .inr (.inr h)
theorem sz_pos (k : Nat) : 0 < sz k ∧ sz k ≤ 16 := by unfold sz; split <;> omega
def offV (b : Nat) (w : World) (v : Value) : Nat → Prop := fun g => g < w.heap.size ∧ v.ownBlock ≠ some g ∧ g ≠ b
section
variable {w w' wx w3 : World} {b n Lk : Nat} {v v' : Value} {A : Option Addr} {f : Nat → Nat} {R : List Rw}
theorem off0 (hB : Below w.heap.size w w') : ∀ g, g < w.heap.size → offV w.heap.size w' (.slice none 0 0) g := fun g hg => ⟨Nat.lt_of_lt_of_le hg hB.size, by simp [Value.ownBlock], by omega⟩
theorem reads_off0 (h : Reads w w.heap.size A n f) (hB : Below w.heap.size w w') : ReadsP w' (offV w.heap.size w' (.slice none 0 0)) A n f :=
 ((show ReadsP w (fun g => g < w.heap.size) A n f from h).keep (fun g hg => hB.block g hg)).moreP (off0 hB)
theorem rows_off0 (h : RowsAt w w.heap.size A Lk R) (hB : Below w.heap.size w w') : RowsAtP w' (offV w.heap.size w' (.slice none 0 0)) A Lk R :=
 (h.toP.keep (fun g hg => hB.block g hg)).moreP (off0 hB)
theorem reads_offB (h : ReadsP w (offV b w v) A n f) (hB : Below w.heap.size w w') : ReadsP w' (offV b w' v) A n f :=
 (h.keep (fun g hg => hB.block g hg.1)).moreP (fun _ hg => ⟨Nat.lt_of_lt_of_le hg.1 hB.size, hg.2⟩)
theorem rows_offB (h : RowsAtP w (offV b w v) A Lk R) (hB : Below w.heap.size w w') : RowsAtP w' (offV b w' v) A Lk R :=
 (h.keep (fun g hg => hB.block g hg.1)).moreP (fun _ hg => ⟨Nat.lt_of_lt_of_le hg.1 hB.size, hg.2⟩)
theorem loc_same (hb : b < wx.heap.size) (o : Obj) (cs : Array Value) : ∀ g, LocP (offV b wx v) wx w3 g → ((w3.alloc o).setRow b cs).heap[g]? = w3.heap[g]? := fun g hg => by
 have hne : g ≠ b := by rcases hg.2 with h | h; exact h.2.2; omega
 exact (setRow_other _ b g cs hne).trans (Below.heap_alloc w3 o g hg.1)
theorem loc_off (hb : b < wx.heap.size) (hv : ∀ g, v.ownBlock = some g → g < wx.heap.size) (o : Obj) (cs : Array Value) : ∀ g, LocP (offV b wx v) wx w3 g → offV b ((w3.alloc o).setRow b cs) v g := fun g hg => by
 refine ⟨by have := hg.1; simp; omega, fun e => ?_, ?_⟩
 ·rcases hg.2 with h | h
  ·exact h.2.1 e
  have := hv g e; omega
 rcases hg.2 with h | h
 ·exact h.2.2
 omega
theorem reads_offL (h : ReadsP w3 (LocP (offV b wx v) wx w3) A n f) (hb : b < wx.heap.size) (hv : ∀ g, v.ownBlock = some g → g < wx.heap.size) (o : Obj) (cs : Array Value) : ReadsP ((w3.alloc o).setRow b cs) (offV b ((w3.alloc o).setRow b cs) v) A n f :=
 (h.keep (loc_same hb o cs)).moreP (loc_off hb hv o cs)
theorem rows_offL (h : RowsAtP w3 (LocP (offV b wx v) wx w3) A Lk R) (hb : b < wx.heap.size) (hv : ∀ g, v.ownBlock = some g → g < wx.heap.size) (o : Obj) (cs : Array Value) : RowsAtP ((w3.alloc o).setRow b cs) (offV b ((w3.alloc o).setRow b cs) v) A Lk R :=
 (h.keep (loc_same hb o cs)).moreP (loc_off hb hv o cs)
theorem grow_same (hg : w.grownBy w' v.ownBlock) : ∀ g, offV b w v g → w'.heap[g]? = w.heap[g]? := fun g h => hg.block g h.1 (fun e => h.2.1 e.symm)
theorem grow_off (hg : w.grownBy w' v.ownBlock) (hv : v'.ownBlock = v.ownBlock ∨ v'.ownBlock = some w.heap.size) : ∀ g, offV b w v g → offV b w' v' g := fun g h => by
 refine ⟨Nat.lt_of_lt_of_le h.1 hg.size, fun e => ?_, h.2.2⟩
 rcases hv with hv | hv
 ·exact h.2.1 (hv ▸ e)
 rw [hv] at e
 injection e with e
 have := h.1
 omega
theorem reads_offG (h : ReadsP w (offV b w v) A n f) (hg : w.grownBy w' v.ownBlock) (hv : v'.ownBlock = v.ownBlock ∨ v'.ownBlock = some w.heap.size) : ReadsP w' (offV b w' v') A n f :=
 (h.keep (grow_same hg)).moreP (grow_off hg hv)
theorem rows_offG (h : RowsAtP w (offV b w v) A Lk R) (hg : w.grownBy w' v.ownBlock) (hv : v'.ownBlock = v.ownBlock ∨ v'.ownBlock = some w.heap.size) : RowsAtP w' (offV b w' v') A Lk R :=
 (h.keep (grow_same hg)).moreP (grow_off hg hv)
end
theorem cat_list6 (a b : Nat) (f g : Nat → Nat) : (List.range (a * 1)).map (b8 f) ++ (List.range b).map (b8 g) = (List.range ((a + b) * 1)).map (b8 (cat a f g)) := by
 rw [Nat.mul_one, Nat.mul_one]
 exact cat_list a b f g
theorem wpl_app_at {P : Program} {ops : Array Oper} {rest : List Oper} {o : Oper} {a : Act} {w : World} {Q : Exit → Act → World → Prop} (hgd : o.guard = none) (p q : Operand) (t : TypeId) (ho : o.op = .call { callee := .builtin .append, args := #[p, q], argTypes := #[t, t] }) (base : Nat) (e : TypeId) (ht : P.underlying t = some (.slice e))
  (hinfo : (P.info? e).map (fun i => (i.zero, i.size, i.bytes)) = some (some (.int .u8 0), 1, 1)) (v : Value) (n : Nat) (f : Nat → Nat) (hp : a.eval p = v) (hown : Mem.Own w base e 1 v n f)
  (ad : Addr) (m c : Nat) (g : Nat → Nat) (hR : ∀ i, i < m → w.cell? (ad.add i) = some (.int .u8 ((g i : Nat) : Int))) (hq : a.eval q = .slice (some ad) m c) (hn : n + m ≤ 1000000) (hbase : base ≤ w.heap.size)
  (h : ∀ v' w', Mem.Own w' base e 1 v' (n + m) (cat n f g) → Below base w w' → w.grownBy w' v.ownBlock → (v'.ownBlock = v.ownBlock ∨ v'.ownBlock = some w.heap.size) → wpList P ops Q rest (a.put o.dst v') w') : wpList P ops Q (o :: rest) a w := by
 obtain ⟨i, hi, hz0, hz1, hz2⟩ := info_parts hinfo
 obtain ⟨v', w', hr, h2, h3, -, h5⟩ := run_append_own_at (P := P) w base t o.type e i (.int .u8 0) 1 1 ht hi hz0 hz1 hz2 rfl (by omega) v n _ hown ad m c ((List.range m).map (b8 g)) (by simp) (by
   intro j u hu
   by_cases hj : j < m
   ·simp [hj] at hu
    subst hu
    exact hR j hj
   ·rw [List.getElem?_eq_none (by simp; omega)] at hu; cases hu) (by
   intro u hu
   simp only [List.mem_map] at hu
   obtain ⟨i, _, rfl⟩ := hu
   rfl) (by unfold maxLen; omega) (by omega) hbase
 refine wpList_plain hgd fun _ hK => ?_
 unfold Oper.wp execOp
 simp only [ho, resolve, invoke, builtin, Sem.run_bind, Sem.run_pure, Result.andThen_ok, List.map_toArray, List.map_cons, List.map_nil, hp, hq, hr]
 rw [cat_list6] at h2
 refine hK _ _ (h v' w' h2 ?_ h3 h5)
 exact (Below.refl base w).grown h3 hbase (fun k hk => (World.ownsRow.lt hown k hk).1)
theorem exec_quo6 {P : Program} {o : Oper} {a : Act} {w : World} (t : TypeId) (x y : Operand) (rt : TypeId) (ho : o.op = .binOp .quo t x y rt) (p q r : Int) (hx : a.eval x = .int .i64 p) (hy : a.eval y = .int .i64 q) (h : 0 ≤ p ∧ 0 < q ∧ p / q = r ∧ 0 ≤ r ∧ r ≤ 100000) : (execOp a.eval o).run P w = .ok (.value (.int .i64 r)) w := by
 obtain ⟨hp, hq, hr, hr0, hr1⟩ := h
 have hm : p.tdiv q = r := by rw [Int.tdiv_eq_ediv_of_nonneg hp, hr]
 have hw : IntKind.i64.wrap r = r := wrap_i64 r r rfl (by clear hm hr; omega) (by clear hm hr; omega)
 have hq0 : ¬ q = 0 := by clear hm hr; omega
 unfold execOp
 simp [ho, hx, hy, eqGuard, binOp, Op.intDiv, hm, hq0, hw]
theorem own_base6 {w : World} {base base' n : Nat} {v : Value} {f : Nat → Nat} (ho : Mem.Own w base 5 1 v n f) (h : base' ≤ base) : Mem.Own w base' 5 1 v n f := Md.own_base ho h
def BkV (bv : Value) : Prop := ∃ A n c A' n' c', bv = .agg (row 2 (bookC (.slice A n c) (.slice A' n' c')))
theorem bkv (A : Option Addr) (n c : Nat) (A' : Option Addr) (n' c' : Nat) : BkV (.agg (row 2 (bookC (.slice A n c) (.slice A' n' c')))) := ⟨A, n, c, A', n', c', rfl⟩
def RMode (p : Pl) (k Lk : Nat) (key : Nat → Nat) (bk ch : Bool) (x : Nat → Nat) (N : Nat) (s0 : MS) (w : World) (e : Ending) (w' : World) : Prop :=
 Below w.heap.size w w' ∧ ((∃ s bv v, mAt p k Lk key bk ch x s0 N = some s ∧ e = .returned (.tuple #[bv, v, .int .i64 (-1)]) ∧ Mem.Own w' w.heap.size 5 1 v (N * sz k) s.out ∧ BkV bv) ∨
  (∃ j s bv, j < N ∧ mAt p k Lk key bk ch x s0 j = some s ∧ mNext p k Lk key bk ch x j s = none ∧ e = .returned (.tuple #[bv, .slice none 0 0, .int .i64 (j : Int)]) ∧ BkV bv))
set_option maxRecDepth 100000 in
set_option maxHeartbeats 4000000 in
set_option linter.unusedSimpArgs false in
theorem rmode_forth (p : Pl) (k d Lk : Nat) (R : List Rw) (Ar : Option Addr) (cr : Nat) (At : Option Addr) (ct : Nat) (Ak : Option Addr) (ck : Nat) (key : Nat → Nat) (As : Option Addr) (cs : Nat) (s : Nat → Nat) (A : Option Addr) (M c N : Nat) (x : Nat → Nat) (w : World)
  (hf : fits k Lk) (hDo : DoC p k Lk Ak ck key false) (hI : Inv p.F p.n R d) (hRr : RowsAt w w.heap.size Ar Lk R) (hT : Reads w w.heap.size At (p.n - d) (fun i => p.F (d + i))) (hct : p.n - d ≤ ct) (hlen : R.length + N ≤ 1000) (hkey : Reads w w.heap.size Ak Lk key) (hkb : ∀ i, i < Lk → key i < 256) (hAr : Ar = none → R.length = 0 ∧ cr = 0)
  (hM : M = N * sz k) (hM1 : M ≤ 1000) (hc : M ≤ c) (hx : ∀ i, i < M → x i < 256) (hR : Reads w w.heap.size A M x) (hs : ∀ i, i < sz k → s i < 256) (hRs : Reads w w.heap.size As (sz k) s) :
  Calls Tryz.prog 12 #[.int .i64 (k : Int), .slice Ak Lk ck, .agg (row 2 (bookC (.slice Ar R.length cr) (.slice At (p.n - d) ct))), .slice As (sz k) cs, .slice A M c, .bool false] w (RMode p k Lk key false true x N ⟨R, d, s, fun _ => 0⟩ w) := by
 have hkk := fits_kind hf
 obtain ⟨hs1, hs2⟩ := sz_pos k
 have hn65 := hI.hn
 have hB0 : Below w.heap.size w ((w.alloc (.cells (row 2 (bookC (.slice Ar R.length cr) (.slice At (p.n - d) ct))) 37)).alloc (.cells (row 2 (bookC (.slice none 0 0) (.slice none 0 0))) 37)) := ((Below.refl _ _).alloc (Nat.le_refl _) _).alloc (by simp) _
 have h8 : Blk ((w.alloc (.cells (row 2 (bookC (.slice Ar R.length cr) (.slice At (p.n - d) ct))) 37)).alloc (.cells (row 2 (bookC (.slice none 0 0) (.slice none 0 0))) 37)) w.heap.size 37 (row 2 (bookC (.slice Ar R.length cr) (.slice At (p.n - d) ct))) := (Blk.fresh _ _ _).alloc _
 have h12 : Blk ((w.alloc (.cells (row 2 (bookC (.slice Ar R.length cr) (.slice At (p.n - d) ct))) 37)).alloc (.cells (row 2 (bookC (.slice none 0 0) (.slice none 0 0))) 37)) (w.heap.size + 1) 37 (row 2 (bookC (.slice none 0 0) (.slice none 0 0))) := by
  have := Blk.fresh (w.alloc (.cells (row 2 (bookC (.slice Ar R.length cr) (.slice At (p.n - d) ct))) 37)) 37 (row 2 (bookC (.slice none 0 0) (.slice none 0 0)))
  simpa using this
 have hz : ((w.alloc (.cells (row 2 (bookC (.slice Ar R.length cr) (.slice At (p.n - d) ct))) 37)).alloc (.cells (row 2 (bookC (.slice none 0 0) (.slice none 0 0))) 37)).heap.size = w.heap.size + 2 := by simp
 have HR0 := hid (rows_off0 hRr hB0)
 have HT0 := hid (reads_off0 hT hB0)
 have HS0 := hid (reads_off0 hRs hB0)
 have HKw := hid hkey
 have HXw := hid hR
 have Hsb := hid hs
 have HM := hid hM
 have Hx := hid hx
 have Hkb := hid hkb
 have HAr := hid hAr
 have HI := hid hI
 have HB0 := hid hB0
 have H8 := hid h8
 have H12 := hid h12
 have HSZ := hid (rsize_any k hkk)
 clear hRr hT hkey hR hM hx hkb hAr hI hB0 hs hRs h8 h12
 go_enter Tryz.func12, Tryz.ntmps12
 go_wp2_with (first
  | (with_reducible refine wpl_alloc rfl 37 rfl _ zRB2 ?_)
  | (go_at_call 10; refine (HSZ.out _).mono ?_; rintro e wa ⟨rfl, rfl⟩))
 generalize ((w.alloc (.cells (row 2 (bookC (.slice Ar R.length cr) (.slice At (p.n - d) ct))) 37)).alloc (.cells (row 2 (bookC (.slice none 0 0) (.slice none 0 0))) 37)) = w1 at *
 go_loopw [16, 17, 18, 19, 20, 21, 22] (fun lv ov iv _ _ _ _ wr => ∃ (j q : Nat) (st : MS) (Ar1 : Option Addr) (cr1 : Nat) (At1 : Option Addr) (ct1 : Nat) (Al : Option Addr) (cl : Nat), j ≤ N ∧ Hid (q = j * sz k) ∧ q ≤ M ∧ iv = .int .i64 (q : Int) ∧ lv = .slice Al (sz k) cl ∧ mAt p k Lk key false true x ⟨R, d, s, fun _ => 0⟩ j = some st ∧ st.R.length ≤ R.length + j ∧ Hid (Inv p.F p.n st.R st.d) ∧ p.n - st.d ≤ ct1 ∧ Hid (RowsAtP wr (offV w.heap.size wr ov) Ar1 Lk st.R) ∧ Hid (ReadsP wr (offV w.heap.size wr ov) At1 (p.n - st.d) (fun i => p.F (st.d + i))) ∧ Hid (Ar1 = none → st.R.length = 0 ∧ cr1 = 0) ∧ Hid (Blk wr w.heap.size 37 (row 2 (bookC (.slice Ar1 st.R.length cr1) (.slice At1 (p.n - st.d) ct1)))) ∧ Hid (Blk wr (w.heap.size + 1) 37 (row 2 (bookC (.slice none 0 0) (.slice none 0 0)))) ∧ Hid (Mem.Own wr (w.heap.size + 2) 5 1 ov q st.out) ∧ Hid (Below w.heap.size w wr) ∧ w.heap.size + 2 ≤ wr.heap.size ∧ Hid (∀ i, i < sz k → st.last i < 256) ∧ Hid (ReadsP wr (offV w.heap.size wr ov) Al (sz k) st.last)) (fun _ _ iv _ _ _ _ _ => M - (intOf iv).toNat)
 case atStart => exact ⟨0, 0, ⟨R, d, s, fun _ => 0⟩, Ar, cr, At, ct, As, cs, by omega, hid (by simp), by omega, rfl, rfl, rfl, by simp, HI, hct, HR0, HT0, HAr, H8, H12, hid (Mem.Own.nil _ _ _ _ _), HB0, by omega, Hsb, HS0⟩
 case round =>
  clear H8 H12 HR0 HT0 HB0 HI HAr hct hz HS0 Hsb
  obtain ⟨j, q, st, Ar1, cr1, At1, ct1, Al, cl, hj, hq, hqM, rfl, rfl, hst, hRl, HI, hct, HRw, HT, HAr, H8, H12, HO, HB, hsz, Hsl, HSl⟩ := hrel
  obtain ⟨Ao, co, rfl, hco, -⟩ := HO.out.slice'
  have Hst := hid hst
  clear hst
  by_cases hlt : j < N
  ·have hqn : q + sz k ≤ M := by
    have := Nat.mul_le_mul_right (sz k) (show j + 1 ≤ N from hlt)
    rw [Nat.succ_mul, ← hq.out, ← HM.out] at this
    exact this
   have hqI : (q : Int) + (sz k : Int) ≤ (M : Int) := by omega
   obtain ⟨ad, rfl, had, hcs⟩ := HXw.out (by omega)
   have hxb : Hid (∀ i, i < sz k → tb k x j i < 256) := hid (fun i hi => by unfold tb; rw [← hq.out]; exact Hx.out _ (by omega))
   have HXb : Hid (∀ W, Below w.heap.size w W → Reads W W.heap.size (some (ad.add q)) (sz k) (tb k x j)) := hid (fun W hW _ => ⟨_, rfl, by rw [add_block]; exact Nat.lt_of_lt_of_le had hW.size, fun i hi => by
    rw [add_add]
    unfold tb
    rw [← hq.out]
    exact (hW.cell (p := ad.add (q + i)) (by rw [add_block]; exact had)).trans (hcs _ (by omega))⟩)
   clear hcs
   have hao : ask6 k false true x j st = xr (tb k x j) st.last := by unfold ask6; rw [if_pos ⟨rfl, rfl⟩]
   have hsgt : ¬ (sz k : Int) ≤ 0 := by omega
   have HSr : Hid (Reads wr wr.heap.size Al (sz k) st.last) := hid (HSl.out.more (fun _ hg => hg.1))
   go_wp2_with (first | (with_reducible refine wpl_val rfl _ (exec_cutB _ _ _ rfl ad M c q (sz k) _ rfl rfl rfl (by omega) hs1 (by omega)) ?_))
   refine (rxor_any _ _ (sz k) _ cl (tb k x j) st.last _ (by omega) hxb.out Hsl.out (HXb.out _ HB.out) HSr.out).mono ?_
   rintro e wx ⟨vx, rfl, hox, hBx⟩
   obtain ⟨Ax, cx, rfl, hcx, -⟩ := hox.slice'
   have hain : Hid (Reads wx wx.heap.size Ax (sz k) (ask6 k false true x j st)) := hid (by rw [hao]; exact hox.reads)
   have hainb : Hid (∀ i, i < sz k → ask6 k false true x j st i < 256) := hid (fun i hi => by rw [hao]; exact xr_lt (hxb.out i hi) (Hsl.out i hi))
   clear hox hao HSr
   have H8x := hid (H8.out.below hBx H8.out.lt)
   have H12x := hid (H12.out.below hBx H12.out.lt)
   have HRx := hid (rows_offB HRw.out hBx)
   have HTx := hid (reads_offB HT.out hBx)
   have HOx := hid (HO.out.below hBx (Nat.le_refl _))
   have HBx := hid (HB.out.trans (hBx.mono HB.out.size))
   have hszx := hBx.size
   have hbx : w.heap.size < wx.heap.size := by omega
   have hvx : Hid (∀ g, (Value.slice Ao q co).ownBlock = some g → w.heap.size + 2 ≤ g ∧ g < wx.heap.size) := hid (fun g hg => World.ownsRow.lt HOx.out g hg)
   have HKx := hid ((HKw.out.below HBx.out).more HBx.out.size)
   rcases ht : turnC k Lk key p st.R st.d false (ask6 k false true x j st) with ⟨o, R2, d2⟩
   obtain ⟨hI2, hyb, -, hl2⟩ := turn_inv hf Hkb.out HI.out hainb.out ht
   have HTu := hid ht
   have HI2 := hid hI2
   have hd2 := hI2.hd
   have hl2 := len_le hl2
   have Hyb := hid hyb
   clear ht hI2 hyb hBx H8 H12 HRw HT HO HB HSl Hsl
   go_wp2_with (first | (with_reducible refine wpl_val rfl _ (exec_cutB _ _ _ rfl ad M c q (sz k) _ rfl rfl rfl (by omega) hs1 (by omega)) ?_) | (with_reducible refine wpl_val rfl _ (exec_loadSt 37 _ rfl ⟨w.heap.size, 0, none⟩ rfl 2 _ (cells2 H8x.out) _ Tryz.underlying37 iRB) ?_))
   refine (hDo st.d st.R Ar1 cr1 At1 ct1 Ax cx (ask6 k false true x j st) _ (offV w.heap.size wx (.slice Ao q co)) (fun _ hg => hg.1) HRx.out HTx.out hct (by omega) HI.out.hd (by omega) HKx.out hain.out hainb.out HAr.out _ _ _ HTu.out).mono ?_
   rintro e w3 ⟨hB3, Ar2, cr2, At2, ct2, v2, ok2, rfl, hr3, ht3, hct2, hAr2, hres⟩
   have hbz : #[Value.slice Ar2 R2.length cr2, .slice At2 (p.n - d2) ct2] = row 2 (bookC (.slice Ar2 R2.length cr2) (.slice At2 (p.n - d2) ct2)) := (row2 _ _).symm
   have hB34 : Below w3.heap.size w3 (w3.alloc (.cells (row 2 (bookC (.slice Ar2 R2.length cr2) (.slice At2 (p.n - d2) ct2))) 37)) := (Below.refl _ _).alloc (Nat.le_refl _) _
   have hB4 : Below wx.heap.size wx (w3.alloc (.cells (row 2 (bookC (.slice Ar2 R2.length cr2) (.slice At2 (p.n - d2) ct2))) 37)) := hB3.trans (hB34.mono hB3.size)
   have hN4 : Blk (w3.alloc (.cells (row 2 (bookC (.slice Ar2 R2.length cr2) (.slice At2 (p.n - d2) ct2))) 37)) w3.heap.size 37 (row 2 (bookC (.slice Ar2 R2.length cr2) (.slice At2 (p.n - d2) ct2))) := Blk.fresh _ _ _
   have H84 := hid (H8x.out.below hB4 H8x.out.lt)
   obtain ⟨w5, hw5⟩ : ∃ W, W = (w3.alloc (.cells (row 2 (bookC (.slice Ar2 R2.length cr2) (.slice At2 (p.n - d2) ct2))) 37)).setRow w.heap.size (row 2 (bookC (.slice Ar2 R2.length cr2) (.slice At2 (p.n - d2) ct2))) := ⟨_, rfl⟩
   have HN4 := hid hN4
   have H85 := hid (show Blk w5 w.heap.size 37 (row 2 (bookC (.slice Ar2 R2.length cr2) (.slice At2 (p.n - d2) ct2))) from by rw [hw5]; exact H84.out.setRow _)
   have H125 := hid (show Blk w5 (w.heap.size + 1) 37 _ from by rw [hw5]; exact (H12x.out.below hB4 H12x.out.lt).otherRow w.heap.size _ (by omega))
   have hvl : ∀ g, (Value.slice Ao q co).ownBlock = some g → g < wx.heap.size := fun g hg => (hvx.out g hg).2
   have HR5 := hid (show RowsAtP w5 (offV w.heap.size w5 (.slice Ao q co)) Ar2 Lk R2 from by rw [hw5]; exact rows_offL hr3 hbx hvl _ _)
   have HT5 := hid (show ReadsP w5 (offV w.heap.size w5 (.slice Ao q co)) At2 (p.n - d2) (fun i => p.F (d2 + i)) from by rw [hw5]; exact reads_offL ht3 hbx hvl _ _)
   have HO5 := hid (show Mem.Own w5 (w.heap.size + 2) 5 1 (.slice Ao q co) q st.out from by rw [hw5]; exact own_row (HOx.out.below hB4 (Nat.le_refl _)) H84.out _)
   have hs45 : (w3.alloc (.cells (row 2 (bookC (.slice Ar2 R2.length cr2) (.slice At2 (p.n - d2) ct2))) 37)).heap.size = w5.heap.size := by rw [hw5]; simp
   have hsz5 : w.heap.size + 2 ≤ w5.heap.size := by have := hB4.size; omega
   have HB5 := hid (show Below w.heap.size w w5 from by rw [hw5]; exact below_setRow' (HBx.out.trans (hB4.mono HBx.out.size)) (Nat.le_refl _) _)
   have hres5 : (∃ y Av cv, o = some y ∧ ok2 = true ∧ v2 = .slice Av (sz k) cv ∧ ReadsP w5 (offV w.heap.size w5 (.slice Ao q co)) Av (sz k) y) ∨ (o = none ∧ ok2 = false) := by
    rcases hres with ⟨y, Av, cv, e1, e2, e3, e4⟩ | h
    ·refine .inl ⟨y, Av, cv, e1, e2, e3, ?_⟩
     rw [hw5]
     exact reads_offL e4 hbx hvl _ _
    exact .inr h
   clear hres hr3 ht3 hN4 hB34 hB3 hB4 H8x H12x HRx HTx HKx HOx HBx hain hs45 hszx hvl hbx HXb
   rcases hres5 with ⟨y, Av, cv, rfl, rfl, rfl, hv5⟩ | ⟨rfl, rfl⟩
   ·have Hv5 := hid hv5
    have Hnx : Hid (mNext p k Lk key false true x j st = some ⟨R2, d2, y, cat (j * sz k) st.out y⟩) := hid (by rw [mNext_some HTu.out]; simp)
    obtain ⟨adv, rfl, hbv, hcv⟩ := hv5 hs1
    clear hv5 HTu
    go_wp2_with (first | (with_reducible refine wpl_alloc rfl 37 rfl _ zRB2 ?_) | (with_reducible refine wpl_store_newS rfl 37 _ _ rfl w3 _ 2 _ (one2 _ _ _ _ _ _) rfl rfl 37 iRB (row_size _ _) ?_) | (with_reducible refine wpl_val rfl _ (exec_loadSt 37 _ rfl ⟨w3.heap.size, 0, none⟩ rfl 2 _ (cells2 HN4.out) _ Tryz.underlying37 iRB) ?_) | (with_reducible refine wpl_store_blk rfl 37 _ _ rfl w.heap.size (row 2 (bookC (.slice Ar2 R2.length cr2) (.slice At2 (p.n - d2) ct2))) rfl rfl 37 _ H84.out (iRB' _) (by simp [row_size]) (one2 _ _ _ _ _ _) ?_) | (at_builtin; refine wpl_app_at rfl _ _ 22 rfl (w.heap.size + 2) 5 Tryz.underlying22 info_u8 _ q _ rfl (by rw [← hw5]; exact HO5.out) adv (sz k) cv y (by rw [← hw5]; exact hcv) rfl (by omega) (by rw [← hw5]; exact hsz5) ?_))
    rw [← hw5]
    intro v7 w7 ho7 hB7 hgr hov0
    have hs5 : w5.heap.size = w3.heap.size + 1 := by rw [hw5]; simp
    have hov : v7.ownBlock = (Value.slice Ao q co).ownBlock ∨ v7.ownBlock = some w5.heap.size := by rw [hs5]; exact hov0
    clear hov0 hs5
    obtain ⟨A7, c7, rfl, hc7, -⟩ := ho7.slice'
    have hlo : some w.heap.size ≠ (Value.slice Ao q co).ownBlock := fun e => by have := (hvx.out _ e.symm).1; omega
    have hlo1 : some (w.heap.size + 1) ≠ (Value.slice Ao q co).ownBlock := fun e => by have := (hvx.out _ e.symm).1; omega
    have H87 := hid (H85.out.grown hgr hlo)
    have H127 := hid (H125.out.grown hgr hlo1)
    have HR7 := hid (rows_offG HR5.out hgr hov)
    have HT7 := hid (reads_offG HT5.out hgr hov)
    have Hv7 := hid (reads_offG Hv5.out hgr hov)
    have HB7 := hid (HB5.out.trans (hB7.mono (show w.heap.size ≤ w.heap.size + 2 by omega)))
    have hsz7 : w.heap.size + 2 ≤ w7.heap.size := Nat.le_trans hsz5 hB7.size
    have HO7 : Hid (Mem.Own w7 (w.heap.size + 2) 5 1 (.slice A7 (q + sz k) c7) (q + sz k) (cat (j * sz k) st.out y)) := hid (by have e := hq.out; rw [← e]; exact ho7)
    have hq7 : Hid (q + sz k = (j + 1) * sz k) := hid (by rw [hq.out, Nat.succ_mul])
    have HAr2 := hid hAr2
    clear hlo hlo1 hgr hov ho7 hB7 hw5 hbz H85 H125 HR5 HT5 HO5 HB5 hsz5 HN4 H84 hvx Hv5 hbv hcv hAr2
    go_wp2_with fail
    go_round
    case rel => exact ⟨j + 1, q + sz k, ⟨R2, d2, y, cat (j * sz k) st.out y⟩, Ar2, cr2, At2, ct2, some adv, cv, by omega, hq7, hqn, val_int (by omega), rfl, mAt_next Hst.out Hnx.out, by show R2.length ≤ _; omega, HI2, hct2, HR7, HT7, HAr2, H87, H127, HO7, HB7, hsz7, hid (Hyb.out y rfl), Hv7⟩
    case measure => simp [intOf]; omega
   have Hnx := hid (mNext_none HTu.out)
   clear HTu
   have hjq : (0 : Int) ≤ (q : Int) ∧ (0 : Int) < (sz k : Int) ∧ (q : Int) / (sz k : Int) = (j : Int) ∧ (0 : Int) ≤ (j : Int) ∧ (j : Int) ≤ 100000 := by
    have hjM : j ≤ 1000 := Nat.le_trans (Nat.le_trans (Nat.le_mul_of_pos_right j hs1) (Nat.le_of_eq hq.out.symm)) (by omega)
    refine ⟨by omega, by omega, ?_, by omega, by omega⟩
    rw [hq.out, ← Int.natCast_ediv, Nat.mul_div_cancel _ hs1]
   have Hjq := hid hjq
   clear hjq
   go_wp2_with (first | (with_reducible refine wpl_alloc rfl 37 rfl _ zRB2 ?_) | (with_reducible refine wpl_store_newS rfl 37 _ _ rfl w3 _ 2 _ (one2 _ _ _ _ _ _) rfl rfl 37 iRB (row_size _ _) ?_) | (with_reducible refine wpl_val rfl _ (exec_loadSt 37 _ rfl ⟨w3.heap.size, 0, none⟩ rfl 2 _ (cells2 HN4.out) _ Tryz.underlying37 iRB) ?_) | (with_reducible refine wpl_store_blk rfl 37 _ _ rfl w.heap.size (row 2 (bookC (.slice Ar2 R2.length cr2) (.slice At2 (p.n - d2) ct2))) rfl rfl 37 _ H84.out (iRB' _) (by simp [row_size]) (one2 _ _ _ _ _ _) ?_))
   rw [← hw5]
   clear hw5 hbz HN4 H84 HR5 HT5 HO5 hvx Hyb HI2 hAr2
   have d8 : ∀ W, KeptS [w.heap.size + 1] w5 W → ∀ i, i < 2 → W.cell? ((⟨w.heap.size, 0, none⟩ : Addr).add i) = some (bookC (.slice Ar2 R2.length cr2) (.slice At2 (p.n - d2) ct2) i) := fun W hW => cells2 (hW.blk H85.out (by simp))
   refine wp_region_held_drew (S := fun W => KeptS [w.heap.size + 1] w5 W) (by kernel_rfl) (KeptS.of _ (Below.refl _ _).drew) (fun hS0 => ?_)
   have h12b : Blk w5.drew (w.heap.size + 1) 37 (row 2 (bookC (.slice none 0 0) (.slice none 0 0))) := H125.out
   refine ztk (i := 0) (v := .agg (row 2 (bookC (.slice Ar2 R2.length cr2) (.slice At2 (p.n - d2) ct2)))) rfl (fun W hW => exec_loadSt 37 _ rfl ⟨w.heap.size, 0, none⟩ rfl 2 _ (d8 W hW) _ Tryz.underlying37 iRB) hS0 ?_
   (try simp only [Act.put,zza,zzb,zzc,zzd,zze,zzf])
   refine ztk (i := 1) (v := .int .i64 (q : Int)) rfl (fun _ _ => exec_move _ rfl _ rfl) hS0 ?_
   (try simp only [Act.put,zza,zzb,zzc,zzd,zze,zzf])
   refine ztk (i := 2) (v := .int .i64 (sz k : Int)) rfl (fun _ _ => exec_move _ rfl _ rfl) hS0 ?_
   (try simp only [Act.put,zza,zzb,zzc,zzd,zze,zzf])
   refine ztk (i := 3) (v := .int .i64 (j : Int)) rfl (fun _ _ => exec_quo6 _ _ _ _ rfl _ _ _ rfl rfl Hjq.out) hS0 ?_
   (try simp only [Act.put,zza,zzb,zzc,zzd,zze,zzf])
   refine wpAnyH_ready (rs := [4]) (by kernel_rfl) (by simp) (ready_one rfl rfl (fun K hK => ?_))
   (try simp only [Act.put,zza,zzb,zzc,zzd,zze,zzf])
   with_reducible refine wp_store_blk 37 _ _ rfl (w.heap.size + 1) (row 2 (bookC (.slice Ar2 R2.length cr2) (.slice At2 (p.n - d2) ct2))) rfl rfl 37 _ h12b (iRB' _) (by simp [row_size]) (one2 _ _ _ _ _ _) ?_
   (try simp only [Act.put,zza,zzb,zzc,zzd,zze,zzf])
   refine hK.out _ _ (keptS_row hS0 (by simp) _) (fun hSz => ?_)
   (try simp only [Act.put,zza,zzb,zzc,zzd,zze,zzf])
   refine ztk (i := 5) (v := .slice none 0 0) rfl (fun _ _ => exec_assign _ rfl _ rfl) hSz ?_
   (try simp only [Act.put,zza,zzb,zzc,zzd,zze,zzf])
   refine ztk (i := 6) (v := .int .i64 (j : Int)) rfl (fun _ _ => exec_assign _ rfl _ rfl) hSz ?_
   (try simp only [Act.put,zza,zzb,zzc,zzd,zze,zzf])
   refine wpAnyH_done (by kernel_rfl) ?_ _
   clear hK
   have hBf : Below w.heap.size w _ := HB5.out.trans (hSz.below (B := w.heap.size) (by simp) (by omega))
   go_wp2_with fail
   refine ret_row3 Tryz.results12 rfl (w.heap.size + 1) rfl _ rfl _ rfl 37 2 _ (h12b.setRow _) _ Tryz.underlying37 iRB ⟨hBf, .inr ⟨j, st, _, hlt, Hst.out, Hnx.out, rfl, bkv _ _ _ _ _ _⟩⟩
  have hjN : j = N := by omega
  have hqI : ¬ (q : Int) + (sz k : Int) ≤ (M : Int) := by have := hq.out; have := HM.out; rw [← hjN, ← hq.out] at this; omega
  have hc8 := cells2 H8.out
  go_wp2_with (first
   | (with_reducible refine wpl_val rfl _ (exec_loadSt 37 _ rfl ⟨w.heap.size, 0, none⟩ rfl 2 _ hc8 _ Tryz.underlying37 iRB) ?_)
   | (with_reducible refine wpl_store_blk rfl 37 _ _ rfl (w.heap.size + 1) (row 2 (bookC (.slice Ar1 st.R.length cr1) (.slice At1 (p.n - st.d) ct1))) rfl rfl 37 _ H12.out (iRB' _) (by simp [row_size]) (one2 _ _ _ _ _ _) ?_))
  have hBf := below_setRow' HB.out (Nat.le_succ w.heap.size) (row 2 (bookC (.slice Ar1 st.R.length cr1) (.slice At1 (p.n - st.d) ct1)))
  have hof := own_row HO.out H12.out (row 2 (bookC (.slice Ar1 st.R.length cr1) (.slice At1 (p.n - st.d) ct1)))
  have hst2 := Hst.out
  rw [hjN] at hst2
  have hqN : q = N * sz k := by rw [hq.out, hjN]
  refine ret_row3 Tryz.results12 rfl (w.heap.size + 1) rfl _ rfl _ rfl 37 2 _ (H12.out.setRow _) _ Tryz.underlying37 iRB ⟨hBf, .inl ⟨st, .agg (row 2 (bookC (.slice Ar1 st.R.length cr1) (.slice At1 (p.n - st.d) ct1))), .slice Ao q co, hst2, rfl, ?_, bkv _ _ _ _ _ _⟩⟩
  rw [← hqN]
  exact own_base6 hof (by omega)
end Go.Proofs.YtlmnoapoofmmnaaGreatDoor.R6
namespace Go.Proofs.YtlmnoapoofmmnaaGreatDoor.Mc
open Mem Bk Md Go.ChangeShapes Go.WideShapes Go.ChangeAt Go.RowKit
theorem up {W W' : World} {A : Option Addr} {n : Nat} {f : Nat → Nat} (h : Reads W W.heap.size A n f) (hB : Below W.heap.size W W') : Reads W' W'.heap.size A n f := (h.below hB).more hB.size
theorem bs1 (x : Int) (w : World) : (Instr.buildSlice 22 1 #[(0, .int .u8 x)]).run Tryz.prog w = .ok (.slice (some ⟨w.heap.size, 0, none⟩) 1 1) (w.alloc (.cells #[.int .u8 x] 5)) := by kernel_rfl
section
variable {P : Program} {o : Oper} {x : Act} {w : World}
theorem exec_cutLH (ty : TypeId) (p lo hi : Operand) (ho : o.op = .slice ty p (some lo) (some hi) none) (u y z v : Value) (hp : x.eval p = u) (hl : x.eval lo = y) (hh : x.eval hi = z) (hr : (Instr.sliceAt ty u (some y) (some z) none).run P w = .ok v w) : (execOp x.eval o).run P w = .ok (.value v) w := by
 subst hp; subst hl; subst hh
 unfold execOp
 simp [ho, hr]
end
theorem uS8 : Tryz.prog.underlying 22 = some (.slice (Tryz.prog.elem 22)) := by kernel_rfl
theorem eS8 : Tryz.prog.elem 22 = 5 := by kernel_rfl
theorem cutLoHi (g : Addr) (n c l m : Nat) (h : l ≤ m) (hm : m ≤ c) (hc : l < c) (w : World) : (Instr.sliceAt 22 (.slice (some g) n c) (some (.int .i64 (l : Int))) (some (.int .i64 (m : Int))) none).run Tryz.prog w = .ok (.slice (some (g.add l)) (m - l) (c - l)) w := by
 rw [run_sliceAt_slice w 22 _ _ _ _ uS8, run_slice_lh w 22 _ _ _ uS8 .i64 .i64 (l : Int) (m : Int) (by omega) (by omega) (by omega), eS8, run_size i8q]
 simp [Result.andThen, sliced, show ¬ c = l by omega]
end Go.Proofs.YtlmnoapoofmmnaaGreatDoor.Mc
namespace Go.Proofs.YtlmnoapoofmmnaaGreatDoor.Rm
open Mem Des Bk Md Mc Go.ChangeShapes Go.WideShapes Go.ChangeAt Go.RowKit
end Go.Proofs.YtlmnoapoofmmnaaGreatDoor.Rm
namespace Go.Proofs.YtlmnoapoofmmnaaGreatDoor.Rc
open Mem Bk Md Mc R6 Rm Go.ChangeShapes Go.WideShapes Go.ChangeAt Go.RowKit
section
variable {P : Program} {o : Oper} {a : Act} {w w' : World} {K : Act → World → Prop} {Q : Exit → Act → World → Prop}
end
section
variable {p : Pl} {k Lk : Nat} {o : Option (Nat → Nat)} {R' : List Rw} {d' b : Nat} {w1 wc w3 : World} {Ar : Option Addr} {cr : Nat} {At : Option Addr} {ct : Nat} {v : Value} {ok : Bool} {t : TypeId} {old cs : Array Value}
end
end Go.Proofs.YtlmnoapoofmmnaaGreatDoor.Rc
