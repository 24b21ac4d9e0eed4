/-
 RefLoc RefXor Ref06 RefPad RefDbl RefCmac
-/
import Derived.Test.YteapfdnjbgonmaaGreatDoorRefHX
import Derived.Test.YteapfdnjbgonmaaGreatDoorModeX
import Derived.Maps.AppendAt
import Derived.Test.YteapfdnjbgonmaaGreatDoorLst
import Derived.Test.YteapfdnjbgonmaaGreatDoorMacX
import Derived.Test.YteapfdnjbgonmaaGreatDoorRef03X
import Derived.Deep.RegionHeld3
import Derived.Test.YteapfdnjbgonmaaGreatDoorLaw05
namespace Go.Proofs.YteapfdnjbgonmaaGreatDoor.Bk
open Mem Go.ChangeShapes Go.WideShapes Go.ChangeAt Go.RowKit
def LocP (P : Nat → Prop) (w w' : World) : Nat → Prop := fun g => g < w'.heap.size ∧ (P g ∨ w.heap.size ≤ g)
def RDoL (F : Nat → Nat) (n k Lk : Nat) (P : Nat → Prop) (o : Option (Nat → Nat)) (R' : List Rw) (d' : Nat) (w : World) (e : Ending) (w' : World) : Prop :=
 Below w.heap.size w w' ∧ ∃ Ar cr At ct v ok, e = .returned (.tuple #[.agg #[.slice Ar R'.length cr, .slice At (n - d') ct], v, .bool ok]) ∧ RowsAtP w' (LocP P w w') Ar Lk R' ∧ ReadsP w' (LocP P w w') At (n - d') (fun i => F (d' + i)) ∧ n - d' ≤ ct ∧ (Ar = none → R'.length = 0 ∧ cr = 0) ∧
  ((∃ y A c, o = some y ∧ ok = true ∧ v = .slice A (sz k) c ∧ ReadsP w' (LocP P w w') A (sz k) y) ∨ (o = none ∧ ok = false))
def DoC (p : Pl) (k Lk : Nat) (Ak : Option Addr) (ck : Nat) (key : Nat → Nat) (bk : Bool) : Prop :=
 ∀ (d : Nat) (R : List Rw) (Ar : Option Addr) (cr : Nat) (At : Option Addr) (ct : Nat) (Ax : Option Addr) (cx : Nat) (x : Nat → Nat) (w : World) (B0 : Nat → Prop), (∀ g, B0 g → g < w.heap.size) → RowsAtP w B0 Ar Lk R → ReadsP w B0 At (p.n - d) (fun i => p.F (d + i)) → p.n - d ≤ ct → p.n ≤ 100000 → d ≤ p.n → R.length ≤ 1000 → Reads w w.heap.size Ak Lk key → Reads w w.heap.size Ax (sz k) x → (∀ i, i < sz k → x i < 256) → (Ar = none → R.length = 0 ∧ cr = 0) →
  ∀ (o : Option (Nat → Nat)) (R' : List Rw) (d' : Nat), turnC k Lk key p R d bk x = (o, R', d') →
  Calls Tryz.prog 59 #[.int .i64 (k : Int), .slice Ak Lk ck, .agg (row 2 (bookC (.slice Ar R.length cr) (.slice At (p.n - d) ct))), .slice Ax (sz k) cx, .bool bk] w (RDoL p.F p.n k Lk B0 o R' d' w)
end Go.Proofs.YteapfdnjbgonmaaGreatDoor.Bk
namespace Go.Proofs.YteapfdnjbgonmaaGreatDoor.Md
open Mem Bk Go.ChangeShapes Go.WideShapes Go.ChangeAt Go.RowKit
theorem bs8 (x : Int) (w : World) : (Instr.buildSlice 22 1 #[(0, .int .u8 x)]).run Tryz.prog w = .ok (.slice (some ⟨w.heap.size, 0, none⟩) 1 1) (w.alloc (.cells #[.int .u8 x] 5)) := by kernel_rfl
theorem exec_xor8 {P : Program} {o : Oper} {a : Act} {w : World} (t : TypeId) (x y : Operand) (rt : TypeId) (ho : o.op = .binOp .xor t x y rt) (p q : Int) (hx : a.eval x = .int .u8 p) (hy : a.eval y = .int .u8 q) (r : Int) (hr : bits .xor .u8 p q = r) : (execOp a.eval o).run P w = .ok (.value (.int .u8 r)) w := by
 have e : Op.intBits BinOp.xor IntKind.u8 p q = pure (.int .u8 (bits .xor .u8 p q)) := rfl
 unfold execOp
 simp [ho, hx, hy, eqGuard, binOp, e, hr]
set_option linter.unusedSimpArgs false in
set_option maxRecDepth 100000 in
set_option maxHeartbeats 1000000 in
theorem rxor_any (A A' : Option Addr) (n c c' : Nat) (f g : Nat → Nat) (w : World) (hn : n ≤ 1000) (hf : ∀ i, i < n → f i < 256) (hg : ∀ i, i < n → g i < 256) (hR : Reads w w.heap.size A n f) (hR' : Reads w w.heap.size A' n g) :
  Calls Tryz.prog 62 #[.slice A n c, .slice A' n c'] w fun e w' => ∃ v, e = .returned v ∧ Mem.Own w' w.heap.size 5 1 v n (xr f g) ∧ Below w.heap.size w w' := by
 have HR := hid hR
 have HR' := hid hR'
 have Hf := hid hf
 have Hg := hid hg
 clear hR hR' hf hg
 go_enter Tryz.func62, Tryz.ntmps62
 go_wp2_with fail
 go_loopw [5, 6] (fun v i wr => ∃ k : Nat, k ≤ n ∧ i = .int .i64 k ∧ Mem.Own wr w.heap.size 5 1 v k (xr f g) ∧ Below w.heap.size w wr) (fun _ i _ => n - (intOf i).toNat)
 case atStart => exact ⟨0, by omega, rfl, Mem.Own.nil _ _ _ _ _, Below.refl _ _⟩
 case round =>
  obtain ⟨k, hk, rfl, ho, hB⟩ := hrel
  obtain ⟨Av, cv, rfl, hcv⟩ := ho.slice
  have Ho := hid ho
  clear ho
  by_cases hlt : k < n
  ·have hfk := Hf.out k hlt
   have hgk := Hg.out k hlt
   have hltI : (k : Int) < (n : Int) := by omega
   obtain ⟨ad, rfl, hbl, hcs⟩ := HR.out (by omega)
   obtain ⟨ad', rfl, hbl', hcs'⟩ := HR'.out (by omega)
   have hc := (hB.cell (p := ad.add k) (by rw [add_block]; exact hbl)).trans (hcs k hlt)
   have hc' := (hB.cell (p := ad'.add k) (by rw [add_block]; exact hbl')).trans (hcs' k hlt)
   clear hcs hcs'
   go_wp2_with fail
   have C1 : Hid (∀ W, Below w.heap.size wr W → W.cell? (ad.add k) = some (.int .u8 ((f k : Nat) : Int))) := hid fun W hW => (hW.cell (p := ad.add k) (by rw [add_block]; exact hbl)).trans hc
   have C2 : Hid (∀ W, Below w.heap.size wr W → W.cell? (ad'.add k) = some (.int .u8 ((g k : Nat) : Int))) := hid fun W hW => (hW.cell (p := ad'.add k) (by rw [add_block]; exact hbl')).trans hc'
   have HX : Hid (bits .xor .u8 ((f k : Nat) : Int) ((g k : Nat) : Int) = ((f k ^^^ g k : Nat) : Int)) := hid (u8_xor_nat _ _ hfk hgk)
   clear hc hc'
   have hsz := hB.size
   refine wp_region_held_drew (S := fun W => Below w.heap.size wr W) (by kernel_rfl) (Below.refl _ _).drew (fun hS0 => ?_)
   refine ztk (i := 0) (v := .slice Av k cv) rfl (fun _ _ => exec_move _ rfl _ rfl) hS0 ?_
   (try simp only [Act.put,zza,zzb,zzc,zzd,zze,zzf])
   refine ztk (i := 1) (v := .slice (some ad) n c) rfl (fun _ _ => exec_move _ rfl _ rfl) hS0 ?_
   (try simp only [Act.put,zza,zzb,zzc,zzd,zze,zzf])
   refine ztk (i := 2) (v := .int .i64 (k : Int)) rfl (fun _ _ => exec_move _ rfl _ rfl) hS0 ?_
   (try simp only [Act.put,zza,zzb,zzc,zzd,zze,zzf])
   refine ztk (i := 3) (v := .pointer (some (ad.add k))) rfl (fun _ _ => exec_sl1 22 _ _ rfl ad n c rfl .i64 _ rfl k rfl 5 Tryz.underlying22 hlt i8q) hS0 ?_
   (try simp only [Act.put,zza,zzb,zzc,zzd,zze,zzf])
   refine ztk (i := 4) (v := .int .u8 ((f k : Nat) : Int)) rfl (fun W hW => exec_ld 5 _ rfl _ rfl .u8 Tryz.underlying5 _ (C1.out W hW)) hS0 ?_
   (try simp only [Act.put,zza,zzb,zzc,zzd,zze,zzf])
   refine ztk (i := 5) (v := (.slice (some ad') n c')) rfl (fun _ _ => exec_move _ rfl _ rfl) hS0 ?_
   (try simp only [Act.put,zza,zzb,zzc,zzd,zze,zzf])
   refine ztk (i := 6) (v := .int .i64 (k : Int)) rfl (fun _ _ => exec_move _ rfl _ rfl) hS0 ?_
   (try simp only [Act.put,zza,zzb,zzc,zzd,zze,zzf])
   refine ztk (i := 7) (v := (.pointer (some (ad'.add k)))) rfl (fun _ _ => exec_sl1 22 _ _ rfl ad' n c' rfl .i64 _ rfl k rfl 5 Tryz.underlying22 hlt i8q) hS0 ?_
   (try simp only [Act.put,zza,zzb,zzc,zzd,zze,zzf])
   refine ztk (i := 8) (v := .int .u8 ((g k : Nat) : Int)) rfl (fun W hW => exec_ld 5 _ rfl _ rfl .u8 Tryz.underlying5 _ (C2.out W hW)) hS0 ?_
   (try simp only [Act.put,zza,zzb,zzc,zzd,zze,zzf])
   refine ztk (i := 9) (v := .int .u8 ((f k ^^^ g k : Nat) : Int)) rfl (fun _ _ => exec_xor8 _ _ _ _ rfl _ _ rfl rfl _ HX.out) hS0 ?_
   (try simp only [Act.put,zza,zzb,zzc,zzd,zze,zzf])
   refine wpAnyH_ready (rs := [10]) (by kernel_rfl) (by simp) (AllReadyH.cons rfl (fun K hK => ?_) AllReadyH.nil)
   (try simp only [Act.put,zza,zzb,zzc,zzd,zze,zzf])
   refine Eq.mpr (if_pos (by rfl)) ?_
   refine wp_bs 22 _ rfl (.int .u8 ((f k ^^^ g k : Nat) : Int)) rfl #[.int .u8 ((f k ^^^ g k : Nat) : Int)] 5 (bs8 _ _) ?_
   (try simp only [Act.put,zza,zzb,zzc,zzd,zze,zzf])
   refine hK.out _ _ (hS0.alloc (Nat.le_trans hsz hS0.size) _) (fun hS1 => ?_)
   (try simp only [Act.put,zza,zzb,zzc,zzd,zze,zzf])
   clear hK K
   refine wpAnyH_ready (rs := [11]) (by kernel_rfl) (by simp) (AllReadyH.cons rfl (fun K hK => ?_) AllReadyH.nil)
   (try simp only [Act.put,zza,zzb,zzc,zzd,zze,zzf])
   refine Eq.mpr (if_pos (by rfl)) ?_
   have ho7 : Mem.Own wr.drew w.heap.size 5 1 (.slice Av k cv) k (xr f g) := Ho.out
   have hRA : Reads (wr.drew.alloc (.cells #[.int .u8 ((f k ^^^ g k : Nat) : Int)] 5)) (wr.heap.size + 1) (some ⟨wr.heap.size, 0, none⟩) 1 (fun _ => f k ^^^ g k) := fun _ => ⟨_, rfl, Nat.lt_succ_self _, fun j hj => by
    have : j = 0 := by omega
    subst this
    exact (Blk.fresh wr.drew 5 #[.int .u8 ((f k ^^^ g k : Nat) : Int)]).cell 0⟩
   refine wp_app_gen _ _ 22 rfl w.heap.size 5 (.int .u8 0) Tryz.underlying22 info_u8 rfl _ k _ rfl (ho7.alloc _) (some ⟨wr.heap.size, 0, none⟩) 1 1 _ _ hRA (fun h => by cases h) rfl (by omega) (Nat.le_trans hsz hS1.size) ?_
   intro v' w1 ho1 hB1
   (try simp only [Act.put,zza,zzb,zzc,zzd,zze,zzf])
   refine hK.out _ _ (hS1.trans hB1) (fun hS2 => ?_)
   (try simp only [Act.put,zza,zzb,zzc,zzd,zze,zzf])
   clear hK K
   refine ztk (i := 12) (v := v') rfl (fun _ _ => exec_assign _ rfl _ rfl) hS2 ?_
   (try simp only [Act.put,zza,zzb,zzc,zzd,zze,zzf])
   refine wpAnyH_done (by kernel_rfl) ?_ _
   have Ho1 := hid ho1
   have HB1 := hid (hB.trans hS2)
   clear ho1 hB1 hS0 hS1 hS2 hRA ho7 C1 C2 hB Ho
   go_wp2_with fail
   go_round
   case rel =>
    refine ⟨k + 1, by omega, val_int (by omega), Ho1.out.ext (fun q hq => ?_), HB1.out⟩
    unfold cat
    by_cases hqk : q < k
    ·rw [if_pos hqk]
    rw [if_neg hqk]
    have : q = k := by omega
    subst this
    rfl
   case measure => simp [intOf]; omega
  have hltI : ¬ (k : Int) < (n : Int) := by omega
  obtain rfl : k = n := by omega
  go_wp2_with fail
  go_ret
  exact ⟨_, rfl, Ho.out, hB⟩
end Go.Proofs.YteapfdnjbgonmaaGreatDoor.Md
namespace Go.Proofs.YteapfdnjbgonmaaGreatDoor.R6
open Mem Bk Md Go.ChangeShapes Go.WideShapes Go.ChangeAt Go.RowKit
structure MS where
 R : List Rw
 d : Nat
 last : Nat → Nat
 out : Nat → Nat
def tb (k : Nat) (x : Nat → Nat) (j : Nat) : Nat → Nat := fun i => x (j * sz k + i)
def ask6 (k : Nat) (bk ch : Bool) (x : Nat → Nat) (j : Nat) (s : MS) : Nat → Nat := if bk = false ∧ ch = true then xr (tb k x j) s.last else tb k x j
def mNext (p : Pl) (k Lk : Nat) (key : Nat → Nat) (bk ch : Bool) (x : Nat → Nat) (j : Nat) (s : MS) : Option MS :=
 match turnC k Lk key p s.R s.d bk (ask6 k bk ch x j s) with
 | (none, _, _) => none
 | (some y, R', d') => some ⟨R', d', if bk = true ∧ ch = true then tb k x j else y, cat (j * sz k) s.out (if bk = true ∧ ch = true then xr y s.last else y)⟩
def mAt (p : Pl) (k Lk : Nat) (key : Nat → Nat) (bk ch : Bool) (x : Nat → Nat) (s0 : MS) : Nat → Option MS
 | 0 => some s0
 | j + 1 => match mAt p k Lk key bk ch x s0 j with
  | none => none
  | some s => mNext p k Lk key bk ch x j s
theorem mAt_next {p : Pl} {k Lk : Nat} {key : Nat → Nat} {bk ch : Bool} {x : Nat → Nat} {s0 s s' : MS} {j : Nat} (h : mAt p k Lk key bk ch x s0 j = some s) (h' : mNext p k Lk key bk ch x j s = some s') : mAt p k Lk key bk ch x s0 (j + 1) = some s' := by
 simp only [mAt, h, h']
theorem mAt_end {p : Pl} {k Lk : Nat} {key : Nat → Nat} {bk ch : Bool} {x : Nat → Nat} {s0 s : MS} {j : Nat} (h : mAt p k Lk key bk ch x s0 j = some s) (h' : mNext p k Lk key bk ch x j s = none) : mAt p k Lk key bk ch x s0 (j + 1) = none := by
 simp only [mAt, h, h']
theorem mNext_some {p : Pl} {k Lk : Nat} {key : Nat → Nat} {bk ch : Bool} {x : Nat → Nat} {s : MS} {j : Nat} {y : Nat → Nat} {R' : List Rw} {d' : Nat} (h : turnC k Lk key p s.R s.d bk (ask6 k bk ch x j s) = (some y, R', d')) :
  mNext p k Lk key bk ch x j s = some ⟨R', d', if bk = true ∧ ch = true then tb k x j else y, cat (j * sz k) s.out (if bk = true ∧ ch = true then xr y s.last else y)⟩ := by
 unfold mNext; rw [h]
theorem mNext_none {p : Pl} {k Lk : Nat} {key : Nat → Nat} {bk ch : Bool} {x : Nat → Nat} {s : MS} {j : Nat} {R' : List Rw} {d' : Nat} (h : turnC k Lk key p s.R s.d bk (ask6 k bk ch x j s) = (none, R', d')) : mNext p k Lk key bk ch x j s = none := by
 unfold mNext; rw [h]
theorem kept_row {w : World} (gm : Nat) (cs : Array Value) : KeptS [gm] w (w.setRow gm cs) := ⟨rfl, rfl, rfl, by simp, fun j _ hs => setRow_other w gm j cs (by simpa using hs)⟩
theorem own_row {w : World} {base n gm : Nat} {v : Value} {f : Nat → Nat} {ds : Array Value} (h : Mem.Own w base 5 1 v n f) (hg : Blk w gm 63 ds) (cs : Array Value) : Mem.Own (w.setRow gm cs) base 5 1 v n f :=
 (kept_row (w := w) gm cs).own h (fun j es hj => by simpa using hg.ne hj (by decide))
theorem cells2 {w : World} {g : Nat} {S T : Value} (h : Blk w g 63 (row 2 (bookC S T))) : ∀ i, i < 2 → w.cell? ((⟨g, 0, none⟩ : Addr).add i) = some (bookC S T i) := fun i hi => by
 rw [add_zero_off, h.cell, row_get _ _ _ hi]
theorem wpl_store_blk {P : Program} {ops : Array Oper} {rest : List Oper} {o : Oper} {a : Act} {w : World} {Q : Exit → Act → World → Prop} (hgd : o.guard = none) (ty : TypeId) (x y : Operand) (ho : o.op = .store ty x y) (g : Nat) (cells : Array Value) (hx : a.eval x = .pointer (some ⟨g, 0, none⟩)) (hy : a.eval y = .agg cells)
  (t : TypeId) (old : Array Value) (hg : Blk w g t old) (hi : (P.info? ty).map (·.size) = some cells.size) (hold : old.size = cells.size) (h1 : cells.all (·.oneCell') = true)
  (h : wpList P ops Q rest (a.put o.dst undef) (w.setRow g cells)) : wpList P ops Q (o :: rest) a w :=
 wpList_plain hgd fun _ hK => wp_store_row ty x y ho g cells hx hy t old hg hi hold h1 (hK _ _ h)
theorem exec_cutLH {P : Program} {o : Oper} {a : Act} {w : World} (ty : TypeId) (p lo hi : Operand) (ho : o.op = .slice ty p (some lo) (some hi) none) (u y z v : Value) (hp : a.eval p = u) (hl : a.eval lo = y) (hh : a.eval hi = z) (hr : (Instr.sliceAt ty u (some y) (some z) none).run P w = .ok v w) : (execOp a.eval o).run P w = .ok (.value v) w := by
 subst hp; subst hl; subst hh
 unfold execOp
 simp [ho, hr]
theorem uS8 : Tryz.prog.underlying 22 = some (.slice (Tryz.prog.elem 22)) := by kernel_rfl
theorem eS8 : Tryz.prog.elem 22 = 5 := by kernel_rfl
theorem cutLoHi (g : Addr) (n c l m : Nat) (h : l ≤ m) (hm : m ≤ c) (hc : l < c) (w : World) : (Instr.sliceAt 22 (.slice (some g) n c) (some (.int .i64 (l : Int))) (some (.int .i64 (m : Int))) none).run Tryz.prog w = .ok (.slice (some (g.add l)) (m - l) (c - l)) w := by
 rw [run_sliceAt_slice w 22 _ _ _ _ uS8, run_slice_lh w 22 _ _ _ uS8 .i64 .i64 (l : Int) (m : Int) (by omega) (by omega) (by omega), eS8, run_size i8q]
 simp [Result.andThen, sliced, show ¬ c = l by omega]
theorem exec_cutB {o : Oper} {a : Act} {w : World} (p lo hi : Operand) (ho : o.op = .slice 22 p (some lo) (some hi) none) (g : Addr) (M c q n : Nat) (z : Int) (hp : a.eval p = .slice (some g) M c) (hl : a.eval lo = .int .i64 (q : Int)) (hh : a.eval hi = .int .i64 z) (hz : z = ((q + n : Nat) : Int)) (hn : 0 < n) (hc : q + n ≤ c) : (execOp a.eval o).run Tryz.prog w = .ok (.value (.slice (some (g.add q)) n (c - q))) w := by
 subst hz
 have h := cutLoHi g M c q (q + n) (by omega) hc (by omega) w
 rw [Nat.add_sub_cancel_left] at h
 exact exec_cutLH 22 p lo hi ho _ _ _ _ hp hl hh h
theorem rsize_any (k : Nat) (hk : k = 1 ∨ k = 2 ∨ k = 3) (w : World) : Calls Tryz.prog 33 #[.int .i64 (k : Int)] w fun e w' => e = .returned (.int .i64 (sz k : Int)) ∧ w' = w := by
 rcases hk with rfl | rfl | rfl
 ·go_enter Tryz.func33, Tryz.ntmps33
  go_wp2
  go_ret
  exact ⟨rfl, rfl⟩
 ·go_enter Tryz.func33, Tryz.ntmps33
  go_wp2
  go_ret
  exact ⟨rfl, rfl⟩
 go_enter Tryz.func33, Tryz.ntmps33
 go_wp2
 go_ret
 exact ⟨rfl, rfl⟩
theorem len_le {R R' : List Rw} (h : R' = R ∨ R'.length = R.length + 1) : R'.length ≤ R.length + 1 := by
 rcases h with h | h
 ·rw [h]; omega
 omega
theorem fits_kind {k L : Nat} (h : fits k L) : k = 1 ∨ k = 2 ∨ k = 3 := by
 rcases h with ⟨h, _⟩ | ⟨h, _⟩ | ⟨h, _⟩
 ·exact .inl h
 ·exact .inr (.inl h)
 exact .inr (.inr h)
theorem sz_pos (k : Nat) : 0 < sz k ∧ sz k ≤ 16 := by unfold sz; split <;> omega
def offV (b : Nat) (w : World) (v : Value) : Nat → Prop := fun g => g < w.heap.size ∧ v.ownBlock ≠ some g ∧ g ≠ b
section
variable {w w' wx w3 : World} {b n Lk : Nat} {v v' : Value} {A : Option Addr} {f : Nat → Nat} {R : List Rw}
theorem off0 (hB : Below w.heap.size w w') : ∀ g, g < w.heap.size → offV w.heap.size w' (.slice none 0 0) g := fun g hg => ⟨Nat.lt_of_lt_of_le hg hB.size, by simp [Value.ownBlock], by omega⟩
theorem reads_off0 (h : Reads w w.heap.size A n f) (hB : Below w.heap.size w w') : ReadsP w' (offV w.heap.size w' (.slice none 0 0)) A n f :=
 ((show ReadsP w (fun g => g < w.heap.size) A n f from h).keep (fun g hg => hB.block g hg)).moreP (off0 hB)
theorem rows_off0 (h : RowsAt w w.heap.size A Lk R) (hB : Below w.heap.size w w') : RowsAtP w' (offV w.heap.size w' (.slice none 0 0)) A Lk R :=
 (h.toP.keep (fun g hg => hB.block g hg)).moreP (off0 hB)
theorem reads_offB (h : ReadsP w (offV b w v) A n f) (hB : Below w.heap.size w w') : ReadsP w' (offV b w' v) A n f :=
 (h.keep (fun g hg => hB.block g hg.1)).moreP (fun _ hg => ⟨Nat.lt_of_lt_of_le hg.1 hB.size, hg.2⟩)
theorem rows_offB (h : RowsAtP w (offV b w v) A Lk R) (hB : Below w.heap.size w w') : RowsAtP w' (offV b w' v) A Lk R :=
 (h.keep (fun g hg => hB.block g hg.1)).moreP (fun _ hg => ⟨Nat.lt_of_lt_of_le hg.1 hB.size, hg.2⟩)
theorem loc_same (hb : b < wx.heap.size) (o : Obj) (cs : Array Value) : ∀ g, LocP (offV b wx v) wx w3 g → ((w3.alloc o).setRow b cs).heap[g]? = w3.heap[g]? := fun g hg => by
 have hne : g ≠ b := by rcases hg.2 with h | h; exact h.2.2; omega
 exact (setRow_other _ b g cs hne).trans (Below.heap_alloc w3 o g hg.1)
theorem loc_off (hb : b < wx.heap.size) (hv : ∀ g, v.ownBlock = some g → g < wx.heap.size) (o : Obj) (cs : Array Value) : ∀ g, LocP (offV b wx v) wx w3 g → offV b ((w3.alloc o).setRow b cs) v g := fun g hg => by
 refine ⟨by have := hg.1; simp; omega, fun e => ?_, ?_⟩
 ·rcases hg.2 with h | h
  ·exact h.2.1 e
  have := hv g e; omega
 rcases hg.2 with h | h
 ·exact h.2.2
 omega
theorem reads_offL (h : ReadsP w3 (LocP (offV b wx v) wx w3) A n f) (hb : b < wx.heap.size) (hv : ∀ g, v.ownBlock = some g → g < wx.heap.size) (o : Obj) (cs : Array Value) : ReadsP ((w3.alloc o).setRow b cs) (offV b ((w3.alloc o).setRow b cs) v) A n f :=
 (h.keep (loc_same hb o cs)).moreP (loc_off hb hv o cs)
theorem rows_offL (h : RowsAtP w3 (LocP (offV b wx v) wx w3) A Lk R) (hb : b < wx.heap.size) (hv : ∀ g, v.ownBlock = some g → g < wx.heap.size) (o : Obj) (cs : Array Value) : RowsAtP ((w3.alloc o).setRow b cs) (offV b ((w3.alloc o).setRow b cs) v) A Lk R :=
 (h.keep (loc_same hb o cs)).moreP (loc_off hb hv o cs)
theorem grow_same (hg : w.grownBy w' v.ownBlock) : ∀ g, offV b w v g → w'.heap[g]? = w.heap[g]? := fun g h => hg.block g h.1 (fun e => h.2.1 e.symm)
theorem grow_off (hg : w.grownBy w' v.ownBlock) (hv : v'.ownBlock = v.ownBlock ∨ v'.ownBlock = some w.heap.size) : ∀ g, offV b w v g → offV b w' v' g := fun g h => by
 refine ⟨Nat.lt_of_lt_of_le h.1 hg.size, fun e => ?_, h.2.2⟩
 rcases hv with hv | hv
 ·exact h.2.1 (hv ▸ e)
 rw [hv] at e
 injection e with e
 have := h.1
 omega
theorem reads_offG (h : ReadsP w (offV b w v) A n f) (hg : w.grownBy w' v.ownBlock) (hv : v'.ownBlock = v.ownBlock ∨ v'.ownBlock = some w.heap.size) : ReadsP w' (offV b w' v') A n f :=
 (h.keep (grow_same hg)).moreP (grow_off hg hv)
theorem rows_offG (h : RowsAtP w (offV b w v) A Lk R) (hg : w.grownBy w' v.ownBlock) (hv : v'.ownBlock = v.ownBlock ∨ v'.ownBlock = some w.heap.size) : RowsAtP w' (offV b w' v') A Lk R :=
 (h.keep (grow_same hg)).moreP (grow_off hg hv)
end
theorem cat_list6 (a b : Nat) (f g : Nat → Nat) : (List.range (a * 1)).map (b8 f) ++ (List.range b).map (b8 g) = (List.range ((a + b) * 1)).map (b8 (cat a f g)) := by
 rw [Nat.mul_one, Nat.mul_one]
 exact cat_list a b f g
theorem wpl_app_at {P : Program} {ops : Array Oper} {rest : List Oper} {o : Oper} {a : Act} {w : World} {Q : Exit → Act → World → Prop} (hgd : o.guard = none) (p q : Operand) (t : TypeId) (ho : o.op = .call { callee := .builtin .append, args := #[p, q], argTypes := #[t, t] }) (base : Nat) (e : TypeId) (ht : P.underlying t = some (.slice e))
  (hinfo : (P.info? e).map (fun i => (i.zero, i.size, i.bytes)) = some (some (.int .u8 0), 1, 1)) (v : Value) (n : Nat) (f : Nat → Nat) (hp : a.eval p = v) (hown : Mem.Own w base e 1 v n f)
  (ad : Addr) (m c : Nat) (g : Nat → Nat) (hR : ∀ i, i < m → w.cell? (ad.add i) = some (.int .u8 ((g i : Nat) : Int))) (hq : a.eval q = .slice (some ad) m c) (hn : n + m ≤ 1000000) (hbase : base ≤ w.heap.size)
  (h : ∀ v' w', Mem.Own w' base e 1 v' (n + m) (cat n f g) → Below base w w' → w.grownBy w' v.ownBlock → (v'.ownBlock = v.ownBlock ∨ v'.ownBlock = some w.heap.size) → wpList P ops Q rest (a.put o.dst v') w') : wpList P ops Q (o :: rest) a w := by
 obtain ⟨i, hi, hz0, hz1, hz2⟩ := info_parts hinfo
 obtain ⟨v', w', hr, h2, h3, -, h5⟩ := run_append_own_at (P := P) w base t o.type e i (.int .u8 0) 1 1 ht hi hz0 hz1 hz2 rfl (by omega) v n _ hown ad m c ((List.range m).map (b8 g)) (by simp) (by
   intro j u hu
   by_cases hj : j < m
   ·simp [hj] at hu
    subst hu
    exact hR j hj
   ·rw [List.getElem?_eq_none (by simp; omega)] at hu; cases hu) (by
   intro u hu
   simp only [List.mem_map] at hu
   obtain ⟨i, _, rfl⟩ := hu
   rfl) (by unfold maxLen; omega) (by omega) hbase
 refine wpList_plain hgd fun _ hK => ?_
 unfold Oper.wp execOp
 simp only [ho, resolve, invoke, builtin, Sem.run_bind, Sem.run_pure, Result.andThen_ok, List.map_toArray, List.map_cons, List.map_nil, hp, hq, hr]
 rw [cat_list6] at h2
 refine hK _ _ (h v' w' h2 ?_ h3 h5)
 exact (Below.refl base w).grown h3 hbase (fun k hk => (World.ownsRow.lt hown k hk).1)
theorem exec_quo6 {P : Program} {o : Oper} {a : Act} {w : World} (t : TypeId) (x y : Operand) (rt : TypeId) (ho : o.op = .binOp .quo t x y rt) (p q r : Int) (hx : a.eval x = .int .i64 p) (hy : a.eval y = .int .i64 q) (h : 0 ≤ p ∧ 0 < q ∧ p / q = r ∧ 0 ≤ r ∧ r ≤ 100000) : (execOp a.eval o).run P w = .ok (.value (.int .i64 r)) w := by
 obtain ⟨hp, hq, hr, hr0, hr1⟩ := h
 have hm : p.tdiv q = r := by rw [Int.tdiv_eq_ediv_of_nonneg hp, hr]
 have hw : IntKind.i64.wrap r = r := wrap_i64 r r rfl (by clear hm hr; omega) (by clear hm hr; omega)
 have hq0 : ¬ q = 0 := by clear hm hr; omega
 unfold execOp
 simp [ho, hx, hy, eqGuard, binOp, Op.intDiv, hm, hq0, hw]
theorem own_base6 {w : World} {base base' n : Nat} {v : Value} {f : Nat → Nat} (ho : Mem.Own w base 5 1 v n f) (h : base' ≤ base) : Mem.Own w base' 5 1 v n f := Md.own_base ho h
def BkV (bv : Value) : Prop := ∃ A n c A' n' c', bv = .agg (row 2 (bookC (.slice A n c) (.slice A' n' c')))
theorem bkv (A : Option Addr) (n c : Nat) (A' : Option Addr) (n' c' : Nat) : BkV (.agg (row 2 (bookC (.slice A n c) (.slice A' n' c')))) := ⟨A, n, c, A', n', c', rfl⟩
def RMode (p : Pl) (k Lk : Nat) (key : Nat → Nat) (bk ch : Bool) (x : Nat → Nat) (N : Nat) (s0 : MS) (w : World) (e : Ending) (w' : World) : Prop :=
 Below w.heap.size w w' ∧ ((∃ s bv v, mAt p k Lk key bk ch x s0 N = some s ∧ e = .returned (.tuple #[bv, v, .int .i64 (-1)]) ∧ Mem.Own w' w.heap.size 5 1 v (N * sz k) s.out ∧ BkV bv) ∨
  (∃ j s bv, j < N ∧ mAt p k Lk key bk ch x s0 j = some s ∧ mNext p k Lk key bk ch x j s = none ∧ e = .returned (.tuple #[bv, .slice none 0 0, .int .i64 (j : Int)]) ∧ BkV bv))
set_option maxRecDepth 100000 in
set_option maxHeartbeats 4000000 in
set_option linter.unusedSimpArgs false in
theorem rmode_forth (p : Pl) (k d Lk : Nat) (R : List Rw) (Ar : Option Addr) (cr : Nat) (At : Option Addr) (ct : Nat) (Ak : Option Addr) (ck : Nat) (key : Nat → Nat) (As : Option Addr) (cs : Nat) (s : Nat → Nat) (A : Option Addr) (M c N : Nat) (x : Nat → Nat) (w : World)
  (hf : fits k Lk) (hDo : DoC p k Lk Ak ck key false) (hI : Inv p.F p.n R d) (hRr : RowsAt w w.heap.size Ar Lk R) (hT : Reads w w.heap.size At (p.n - d) (fun i => p.F (d + i))) (hct : p.n - d ≤ ct) (hlen : R.length + N ≤ 1000) (hkey : Reads w w.heap.size Ak Lk key) (hkb : ∀ i, i < Lk → key i < 256) (hAr : Ar = none → R.length = 0 ∧ cr = 0)
  (hM : M = N * sz k) (hM1 : M ≤ 1000) (hc : M ≤ c) (hx : ∀ i, i < M → x i < 256) (hR : Reads w w.heap.size A M x) (hs : ∀ i, i < sz k → s i < 256) (hRs : Reads w w.heap.size As (sz k) s) :
  Calls Tryz.prog 44 #[.int .i64 (k : Int), .slice Ak Lk ck, .agg (row 2 (bookC (.slice Ar R.length cr) (.slice At (p.n - d) ct))), .slice As (sz k) cs, .slice A M c, .bool false] w (RMode p k Lk key false true x N ⟨R, d, s, fun _ => 0⟩ w) := by
 have hkk := fits_kind hf
 obtain ⟨hs1, hs2⟩ := sz_pos k
 have hn65 := hI.hn
 have hB0 : Below w.heap.size w ((w.alloc (.cells (row 2 (bookC (.slice Ar R.length cr) (.slice At (p.n - d) ct))) 63)).alloc (.cells (row 2 (bookC (.slice none 0 0) (.slice none 0 0))) 63)) := ((Below.refl _ _).alloc (Nat.le_refl _) _).alloc (by simp) _
 have h8 : Blk ((w.alloc (.cells (row 2 (bookC (.slice Ar R.length cr) (.slice At (p.n - d) ct))) 63)).alloc (.cells (row 2 (bookC (.slice none 0 0) (.slice none 0 0))) 63)) w.heap.size 63 (row 2 (bookC (.slice Ar R.length cr) (.slice At (p.n - d) ct))) := (Blk.fresh _ _ _).alloc _
 have h12 : Blk ((w.alloc (.cells (row 2 (bookC (.slice Ar R.length cr) (.slice At (p.n - d) ct))) 63)).alloc (.cells (row 2 (bookC (.slice none 0 0) (.slice none 0 0))) 63)) (w.heap.size + 1) 63 (row 2 (bookC (.slice none 0 0) (.slice none 0 0))) := by
  have := Blk.fresh (w.alloc (.cells (row 2 (bookC (.slice Ar R.length cr) (.slice At (p.n - d) ct))) 63)) 63 (row 2 (bookC (.slice none 0 0) (.slice none 0 0)))
  simpa using this
 have hz : ((w.alloc (.cells (row 2 (bookC (.slice Ar R.length cr) (.slice At (p.n - d) ct))) 63)).alloc (.cells (row 2 (bookC (.slice none 0 0) (.slice none 0 0))) 63)).heap.size = w.heap.size + 2 := by simp
 have HR0 := hid (rows_off0 hRr hB0)
 have HT0 := hid (reads_off0 hT hB0)
 have HS0 := hid (reads_off0 hRs hB0)
 have HKw := hid hkey
 have HXw := hid hR
 have Hsb := hid hs
 have HM := hid hM
 have Hx := hid hx
 have Hkb := hid hkb
 have HAr := hid hAr
 have HI := hid hI
 have HB0 := hid hB0
 have H8 := hid h8
 have H12 := hid h12
 have HSZ := hid (rsize_any k hkk)
 clear hRr hT hkey hR hM hx hkb hAr hI hB0 hs hRs h8 h12
 go_enter Tryz.func44, Tryz.ntmps44
 go_wp2_with (first
  | (with_reducible refine wpl_alloc rfl 63 rfl _ zRB2 ?_)
  | (go_at_call 33; refine (HSZ.out _).mono ?_; rintro e wa ⟨rfl, rfl⟩))
 generalize ((w.alloc (.cells (row 2 (bookC (.slice Ar R.length cr) (.slice At (p.n - d) ct))) 63)).alloc (.cells (row 2 (bookC (.slice none 0 0) (.slice none 0 0))) 63)) = w1 at *
 go_loopw [16, 17, 18, 19, 20, 21, 22] (fun lv ov iv _ _ _ _ wr => ∃ (j q : Nat) (st : MS) (Ar1 : Option Addr) (cr1 : Nat) (At1 : Option Addr) (ct1 : Nat) (Al : Option Addr) (cl : Nat), j ≤ N ∧ Hid (q = j * sz k) ∧ q ≤ M ∧ iv = .int .i64 (q : Int) ∧ lv = .slice Al (sz k) cl ∧ mAt p k Lk key false true x ⟨R, d, s, fun _ => 0⟩ j = some st ∧ st.R.length ≤ R.length + j ∧ Hid (Inv p.F p.n st.R st.d) ∧ p.n - st.d ≤ ct1 ∧ Hid (RowsAtP wr (offV w.heap.size wr ov) Ar1 Lk st.R) ∧ Hid (ReadsP wr (offV w.heap.size wr ov) At1 (p.n - st.d) (fun i => p.F (st.d + i))) ∧ Hid (Ar1 = none → st.R.length = 0 ∧ cr1 = 0) ∧ Hid (Blk wr w.heap.size 63 (row 2 (bookC (.slice Ar1 st.R.length cr1) (.slice At1 (p.n - st.d) ct1)))) ∧ Hid (Blk wr (w.heap.size + 1) 63 (row 2 (bookC (.slice none 0 0) (.slice none 0 0)))) ∧ Hid (Mem.Own wr (w.heap.size + 2) 5 1 ov q st.out) ∧ Hid (Below w.heap.size w wr) ∧ w.heap.size + 2 ≤ wr.heap.size ∧ Hid (∀ i, i < sz k → st.last i < 256) ∧ Hid (ReadsP wr (offV w.heap.size wr ov) Al (sz k) st.last)) (fun _ _ iv _ _ _ _ _ => M - (intOf iv).toNat)
 case atStart => exact ⟨0, 0, ⟨R, d, s, fun _ => 0⟩, Ar, cr, At, ct, As, cs, by omega, hid (by simp), by omega, rfl, rfl, rfl, by simp, HI, hct, HR0, HT0, HAr, H8, H12, hid (Mem.Own.nil _ _ _ _ _), HB0, by omega, Hsb, HS0⟩
 case round =>
  clear H8 H12 HR0 HT0 HB0 HI HAr hct hz HS0 Hsb
  obtain ⟨j, q, st, Ar1, cr1, At1, ct1, Al, cl, hj, hq, hqM, rfl, rfl, hst, hRl, HI, hct, HRw, HT, HAr, H8, H12, HO, HB, hsz, Hsl, HSl⟩ := hrel
  obtain ⟨Ao, co, rfl, hco, -⟩ := HO.out.slice'
  have Hst := hid hst
  clear hst
  by_cases hlt : j < N
  ·have hqn : q + sz k ≤ M := by
    have := Nat.mul_le_mul_right (sz k) (show j + 1 ≤ N from hlt)
    rw [Nat.succ_mul, ← hq.out, ← HM.out] at this
    exact this
   have hqI : (q : Int) + (sz k : Int) ≤ (M : Int) := by omega
   obtain ⟨ad, rfl, had, hcs⟩ := HXw.out (by omega)
   have hxb : Hid (∀ i, i < sz k → tb k x j i < 256) := hid (fun i hi => by unfold tb; rw [← hq.out]; exact Hx.out _ (by omega))
   have HXb : Hid (∀ W, Below w.heap.size w W → Reads W W.heap.size (some (ad.add q)) (sz k) (tb k x j)) := hid (fun W hW _ => ⟨_, rfl, by rw [add_block]; exact Nat.lt_of_lt_of_le had hW.size, fun i hi => by
    rw [add_add]
    unfold tb
    rw [← hq.out]
    exact (hW.cell (p := ad.add (q + i)) (by rw [add_block]; exact had)).trans (hcs _ (by omega))⟩)
   clear hcs
   have hao : ask6 k false true x j st = xr (tb k x j) st.last := by unfold ask6; rw [if_pos ⟨rfl, rfl⟩]
   have hsgt : ¬ (sz k : Int) ≤ 0 := by omega
   have HSr : Hid (Reads wr wr.heap.size Al (sz k) st.last) := hid (HSl.out.more (fun _ hg => hg.1))
   go_wp2_with (first | (with_reducible refine wpl_val rfl _ (exec_cutB _ _ _ rfl ad M c q (sz k) _ rfl rfl rfl (by omega) hs1 (by omega)) ?_))
   refine (rxor_any _ _ (sz k) _ cl (tb k x j) st.last _ (by omega) hxb.out Hsl.out (HXb.out _ HB.out) HSr.out).mono ?_
   rintro e wx ⟨vx, rfl, hox, hBx⟩
   obtain ⟨Ax, cx, rfl, hcx, -⟩ := hox.slice'
   have hain : Hid (Reads wx wx.heap.size Ax (sz k) (ask6 k false true x j st)) := hid (by rw [hao]; exact hox.reads)
   have hainb : Hid (∀ i, i < sz k → ask6 k false true x j st i < 256) := hid (fun i hi => by rw [hao]; exact xr_lt (hxb.out i hi) (Hsl.out i hi))
   clear hox hao HSr
   have H8x := hid (H8.out.below hBx H8.out.lt)
   have H12x := hid (H12.out.below hBx H12.out.lt)
   have HRx := hid (rows_offB HRw.out hBx)
   have HTx := hid (reads_offB HT.out hBx)
   have HOx := hid (HO.out.below hBx (Nat.le_refl _))
   have HBx := hid (HB.out.trans (hBx.mono HB.out.size))
   have hszx := hBx.size
   have hbx : w.heap.size < wx.heap.size := by omega
   have hvx : Hid (∀ g, (Value.slice Ao q co).ownBlock = some g → w.heap.size + 2 ≤ g ∧ g < wx.heap.size) := hid (fun g hg => World.ownsRow.lt HOx.out g hg)
   have HKx := hid ((HKw.out.below HBx.out).more HBx.out.size)
   rcases ht : turnC k Lk key p st.R st.d false (ask6 k false true x j st) with ⟨o, R2, d2⟩
   obtain ⟨hI2, hyb, -, hl2⟩ := turn_inv hf Hkb.out HI.out hainb.out ht
   have HTu := hid ht
   have HI2 := hid hI2
   have hd2 := hI2.hd
   have hl2 := len_le hl2
   have Hyb := hid hyb
   clear ht hI2 hyb hBx H8 H12 HRw HT HO HB HSl Hsl
   go_wp2_with (first | (with_reducible refine wpl_val rfl _ (exec_cutB _ _ _ rfl ad M c q (sz k) _ rfl rfl rfl (by omega) hs1 (by omega)) ?_) | (with_reducible refine wpl_val rfl _ (exec_loadSt 63 _ rfl ⟨w.heap.size, 0, none⟩ rfl 2 _ (cells2 H8x.out) _ Tryz.underlying63 iRB) ?_))
   refine (hDo st.d st.R Ar1 cr1 At1 ct1 Ax cx (ask6 k false true x j st) _ (offV w.heap.size wx (.slice Ao q co)) (fun _ hg => hg.1) HRx.out HTx.out hct (by omega) HI.out.hd (by omega) HKx.out hain.out hainb.out HAr.out _ _ _ HTu.out).mono ?_
   rintro e w3 ⟨hB3, Ar2, cr2, At2, ct2, v2, ok2, rfl, hr3, ht3, hct2, hAr2, hres⟩
   have hbz : #[Value.slice Ar2 R2.length cr2, .slice At2 (p.n - d2) ct2] = row 2 (bookC (.slice Ar2 R2.length cr2) (.slice At2 (p.n - d2) ct2)) := (row2 _ _).symm
   have hB34 : Below w3.heap.size w3 (w3.alloc (.cells (row 2 (bookC (.slice Ar2 R2.length cr2) (.slice At2 (p.n - d2) ct2))) 63)) := (Below.refl _ _).alloc (Nat.le_refl _) _
   have hB4 : Below wx.heap.size wx (w3.alloc (.cells (row 2 (bookC (.slice Ar2 R2.length cr2) (.slice At2 (p.n - d2) ct2))) 63)) := hB3.trans (hB34.mono hB3.size)
   have hN4 : Blk (w3.alloc (.cells (row 2 (bookC (.slice Ar2 R2.length cr2) (.slice At2 (p.n - d2) ct2))) 63)) w3.heap.size 63 (row 2 (bookC (.slice Ar2 R2.length cr2) (.slice At2 (p.n - d2) ct2))) := Blk.fresh _ _ _
   have H84 := hid (H8x.out.below hB4 H8x.out.lt)
   obtain ⟨w5, hw5⟩ : ∃ W, W = (w3.alloc (.cells (row 2 (bookC (.slice Ar2 R2.length cr2) (.slice At2 (p.n - d2) ct2))) 63)).setRow w.heap.size (row 2 (bookC (.slice Ar2 R2.length cr2) (.slice At2 (p.n - d2) ct2))) := ⟨_, rfl⟩
   have HN4 := hid hN4
   have H85 := hid (show Blk w5 w.heap.size 63 (row 2 (bookC (.slice Ar2 R2.length cr2) (.slice At2 (p.n - d2) ct2))) from by rw [hw5]; exact H84.out.setRow _)
   have H125 := hid (show Blk w5 (w.heap.size + 1) 63 _ from by rw [hw5]; exact (H12x.out.below hB4 H12x.out.lt).otherRow w.heap.size _ (by omega))
   have hvl : ∀ g, (Value.slice Ao q co).ownBlock = some g → g < wx.heap.size := fun g hg => (hvx.out g hg).2
   have HR5 := hid (show RowsAtP w5 (offV w.heap.size w5 (.slice Ao q co)) Ar2 Lk R2 from by rw [hw5]; exact rows_offL hr3 hbx hvl _ _)
   have HT5 := hid (show ReadsP w5 (offV w.heap.size w5 (.slice Ao q co)) At2 (p.n - d2) (fun i => p.F (d2 + i)) from by rw [hw5]; exact reads_offL ht3 hbx hvl _ _)
   have HO5 := hid (show Mem.Own w5 (w.heap.size + 2) 5 1 (.slice Ao q co) q st.out from by rw [hw5]; exact own_row (HOx.out.below hB4 (Nat.le_refl _)) H84.out _)
   have hs45 : (w3.alloc (.cells (row 2 (bookC (.slice Ar2 R2.length cr2) (.slice At2 (p.n - d2) ct2))) 63)).heap.size = w5.heap.size := by rw [hw5]; simp
   have hsz5 : w.heap.size + 2 ≤ w5.heap.size := by have := hB4.size; omega
   have HB5 := hid (show Below w.heap.size w w5 from by rw [hw5]; exact below_setRow' (HBx.out.trans (hB4.mono HBx.out.size)) (Nat.le_refl _) _)
   have hres5 : (∃ y Av cv, o = some y ∧ ok2 = true ∧ v2 = .slice Av (sz k) cv ∧ ReadsP w5 (offV w.heap.size w5 (.slice Ao q co)) Av (sz k) y) ∨ (o = none ∧ ok2 = false) := by
    rcases hres with ⟨y, Av, cv, e1, e2, e3, e4⟩ | h
    ·refine .inl ⟨y, Av, cv, e1, e2, e3, ?_⟩
     rw [hw5]
     exact reads_offL e4 hbx hvl _ _
    exact .inr h
   clear hres hr3 ht3 hN4 hB34 hB3 hB4 H8x H12x HRx HTx HKx HOx HBx hain hs45 hszx hvl hbx HXb
   rcases hres5 with ⟨y, Av, cv, rfl, rfl, rfl, hv5⟩ | ⟨rfl, rfl⟩
   ·have Hv5 := hid hv5
    have Hnx : Hid (mNext p k Lk key false true x j st = some ⟨R2, d2, y, cat (j * sz k) st.out y⟩) := hid (by rw [mNext_some HTu.out]; simp)
    obtain ⟨adv, rfl, hbv, hcv⟩ := hv5 hs1
    clear hv5 HTu
    go_wp2_with (first | (with_reducible refine wpl_alloc rfl 63 rfl _ zRB2 ?_) | (with_reducible refine wpl_store_newS rfl 63 _ _ rfl w3 _ 2 _ (one2 _ _ _ _ _ _) rfl rfl 63 iRB (row_size _ _) ?_) | (with_reducible refine wpl_val rfl _ (exec_loadSt 63 _ rfl ⟨w3.heap.size, 0, none⟩ rfl 2 _ (cells2 HN4.out) _ Tryz.underlying63 iRB) ?_) | (with_reducible refine wpl_store_blk rfl 63 _ _ rfl w.heap.size (row 2 (bookC (.slice Ar2 R2.length cr2) (.slice At2 (p.n - d2) ct2))) rfl rfl 63 _ H84.out (iRB' _) (by simp [row_size]) (one2 _ _ _ _ _ _) ?_) | (at_builtin; refine wpl_app_at rfl _ _ 22 rfl (w.heap.size + 2) 5 Tryz.underlying22 info_u8 _ q _ rfl (by rw [← hw5]; exact HO5.out) adv (sz k) cv y (by rw [← hw5]; exact hcv) rfl (by omega) (by rw [← hw5]; exact hsz5) ?_))
    rw [← hw5]
    intro v7 w7 ho7 hB7 hgr hov0
    have hs5 : w5.heap.size = w3.heap.size + 1 := by rw [hw5]; simp
    have hov : v7.ownBlock = (Value.slice Ao q co).ownBlock ∨ v7.ownBlock = some w5.heap.size := by rw [hs5]; exact hov0
    clear hov0 hs5
    obtain ⟨A7, c7, rfl, hc7, -⟩ := ho7.slice'
    have hlo : some w.heap.size ≠ (Value.slice Ao q co).ownBlock := fun e => by have := (hvx.out _ e.symm).1; omega
    have hlo1 : some (w.heap.size + 1) ≠ (Value.slice Ao q co).ownBlock := fun e => by have := (hvx.out _ e.symm).1; omega
    have H87 := hid (H85.out.grown hgr hlo)
    have H127 := hid (H125.out.grown hgr hlo1)
    have HR7 := hid (rows_offG HR5.out hgr hov)
    have HT7 := hid (reads_offG HT5.out hgr hov)
    have Hv7 := hid (reads_offG Hv5.out hgr hov)
    have HB7 := hid (HB5.out.trans (hB7.mono (show w.heap.size ≤ w.heap.size + 2 by omega)))
    have hsz7 : w.heap.size + 2 ≤ w7.heap.size := Nat.le_trans hsz5 hB7.size
    have HO7 : Hid (Mem.Own w7 (w.heap.size + 2) 5 1 (.slice A7 (q + sz k) c7) (q + sz k) (cat (j * sz k) st.out y)) := hid (by have e := hq.out; rw [← e]; exact ho7)
    have hq7 : Hid (q + sz k = (j + 1) * sz k) := hid (by rw [hq.out, Nat.succ_mul])
    have HAr2 := hid hAr2
    clear hlo hlo1 hgr hov ho7 hB7 hw5 hbz H85 H125 HR5 HT5 HO5 HB5 hsz5 HN4 H84 hvx Hv5 hbv hcv hAr2
    go_wp2_with fail
    go_round
    case rel => exact ⟨j + 1, q + sz k, ⟨R2, d2, y, cat (j * sz k) st.out y⟩, Ar2, cr2, At2, ct2, some adv, cv, by omega, hq7, hqn, val_int (by omega), rfl, mAt_next Hst.out Hnx.out, by show R2.length ≤ _; omega, HI2, hct2, HR7, HT7, HAr2, H87, H127, HO7, HB7, hsz7, hid (Hyb.out y rfl), Hv7⟩
    case measure => simp [intOf]; omega
   have Hnx := hid (mNext_none HTu.out)
   clear HTu
   have hjq : (0 : Int) ≤ (q : Int) ∧ (0 : Int) < (sz k : Int) ∧ (q : Int) / (sz k : Int) = (j : Int) ∧ (0 : Int) ≤ (j : Int) ∧ (j : Int) ≤ 100000 := by
    have hjM : j ≤ 1000 := Nat.le_trans (Nat.le_trans (Nat.le_mul_of_pos_right j hs1) (Nat.le_of_eq hq.out.symm)) (by omega)
    refine ⟨by omega, by omega, ?_, by omega, by omega⟩
    rw [hq.out, ← Int.natCast_ediv, Nat.mul_div_cancel _ hs1]
   have Hjq := hid hjq
   clear hjq
   go_wp2_with (first | (with_reducible refine wpl_alloc rfl 63 rfl _ zRB2 ?_) | (with_reducible refine wpl_store_newS rfl 63 _ _ rfl w3 _ 2 _ (one2 _ _ _ _ _ _) rfl rfl 63 iRB (row_size _ _) ?_) | (with_reducible refine wpl_val rfl _ (exec_loadSt 63 _ rfl ⟨w3.heap.size, 0, none⟩ rfl 2 _ (cells2 HN4.out) _ Tryz.underlying63 iRB) ?_) | (with_reducible refine wpl_store_blk rfl 63 _ _ rfl w.heap.size (row 2 (bookC (.slice Ar2 R2.length cr2) (.slice At2 (p.n - d2) ct2))) rfl rfl 63 _ H84.out (iRB' _) (by simp [row_size]) (one2 _ _ _ _ _ _) ?_))
   rw [← hw5]
   clear hw5 hbz HN4 H84 HR5 HT5 HO5 hvx Hyb HI2 hAr2
   have d8 : ∀ W, KeptS [w.heap.size + 1] w5 W → ∀ i, i < 2 → W.cell? ((⟨w.heap.size, 0, none⟩ : Addr).add i) = some (bookC (.slice Ar2 R2.length cr2) (.slice At2 (p.n - d2) ct2) i) := fun W hW => cells2 (hW.blk H85.out (by simp))
   refine wp_region_held_drew (S := fun W => KeptS [w.heap.size + 1] w5 W) (by kernel_rfl) (KeptS.of _ (Below.refl _ _).drew) (fun hS0 => ?_)
   have h12b : Blk w5.drew (w.heap.size + 1) 63 (row 2 (bookC (.slice none 0 0) (.slice none 0 0))) := H125.out
   refine ztk (i := 0) (v := .agg (row 2 (bookC (.slice Ar2 R2.length cr2) (.slice At2 (p.n - d2) ct2)))) rfl (fun W hW => exec_loadSt 63 _ rfl ⟨w.heap.size, 0, none⟩ rfl 2 _ (d8 W hW) _ Tryz.underlying63 iRB) hS0 ?_
   (try simp only [Act.put,zza,zzb,zzc,zzd,zze,zzf])
   refine ztk (i := 1) (v := .int .i64 (q : Int)) rfl (fun _ _ => exec_move _ rfl _ rfl) hS0 ?_
   (try simp only [Act.put,zza,zzb,zzc,zzd,zze,zzf])
   refine ztk (i := 2) (v := .int .i64 (sz k : Int)) rfl (fun _ _ => exec_move _ rfl _ rfl) hS0 ?_
   (try simp only [Act.put,zza,zzb,zzc,zzd,zze,zzf])
   refine ztk (i := 3) (v := .int .i64 (j : Int)) rfl (fun _ _ => exec_quo6 _ _ _ _ rfl _ _ _ rfl rfl Hjq.out) hS0 ?_
   (try simp only [Act.put,zza,zzb,zzc,zzd,zze,zzf])
   refine wpAnyH_ready (rs := [4]) (by kernel_rfl) (by simp) (ready_one rfl rfl (fun K hK => ?_))
   (try simp only [Act.put,zza,zzb,zzc,zzd,zze,zzf])
   with_reducible refine wp_store_blk 63 _ _ rfl (w.heap.size + 1) (row 2 (bookC (.slice Ar2 R2.length cr2) (.slice At2 (p.n - d2) ct2))) rfl rfl 63 _ h12b (iRB' _) (by simp [row_size]) (one2 _ _ _ _ _ _) ?_
   (try simp only [Act.put,zza,zzb,zzc,zzd,zze,zzf])
   refine hK.out _ _ (keptS_row hS0 (by simp) _) (fun hSz => ?_)
   (try simp only [Act.put,zza,zzb,zzc,zzd,zze,zzf])
   refine ztk (i := 5) (v := .slice none 0 0) rfl (fun _ _ => exec_assign _ rfl _ rfl) hSz ?_
   (try simp only [Act.put,zza,zzb,zzc,zzd,zze,zzf])
   refine ztk (i := 6) (v := .int .i64 (j : Int)) rfl (fun _ _ => exec_assign _ rfl _ rfl) hSz ?_
   (try simp only [Act.put,zza,zzb,zzc,zzd,zze,zzf])
   refine wpAnyH_done (by kernel_rfl) ?_ _
   clear hK
   have hBf : Below w.heap.size w _ := HB5.out.trans (hSz.below (B := w.heap.size) (by simp) (by omega))
   go_wp2_with fail
   refine ret_row3 Tryz.results44 rfl (w.heap.size + 1) rfl _ rfl _ rfl 63 2 _ (h12b.setRow _) _ Tryz.underlying63 iRB ⟨hBf, .inr ⟨j, st, _, hlt, Hst.out, Hnx.out, rfl, bkv _ _ _ _ _ _⟩⟩
  have hjN : j = N := by omega
  have hqI : ¬ (q : Int) + (sz k : Int) ≤ (M : Int) := by have := hq.out; have := HM.out; rw [← hjN, ← hq.out] at this; omega
  have hc8 := cells2 H8.out
  go_wp2_with (first
   | (with_reducible refine wpl_val rfl _ (exec_loadSt 63 _ rfl ⟨w.heap.size, 0, none⟩ rfl 2 _ hc8 _ Tryz.underlying63 iRB) ?_)
   | (with_reducible refine wpl_store_blk rfl 63 _ _ rfl (w.heap.size + 1) (row 2 (bookC (.slice Ar1 st.R.length cr1) (.slice At1 (p.n - st.d) ct1))) rfl rfl 63 _ H12.out (iRB' _) (by simp [row_size]) (one2 _ _ _ _ _ _) ?_))
  have hBf := below_setRow' HB.out (Nat.le_succ w.heap.size) (row 2 (bookC (.slice Ar1 st.R.length cr1) (.slice At1 (p.n - st.d) ct1)))
  have hof := own_row HO.out H12.out (row 2 (bookC (.slice Ar1 st.R.length cr1) (.slice At1 (p.n - st.d) ct1)))
  have hst2 := Hst.out
  rw [hjN] at hst2
  have hqN : q = N * sz k := by rw [hq.out, hjN]
  refine ret_row3 Tryz.results44 rfl (w.heap.size + 1) rfl _ rfl _ rfl 63 2 _ (H12.out.setRow _) _ Tryz.underlying63 iRB ⟨hBf, .inl ⟨st, .agg (row 2 (bookC (.slice Ar1 st.R.length cr1) (.slice At1 (p.n - st.d) ct1))), .slice Ao q co, hst2, rfl, ?_, bkv _ _ _ _ _ _⟩⟩
  rw [← hqN]
  exact own_base6 hof (by omega)
end Go.Proofs.YteapfdnjbgonmaaGreatDoor.R6
namespace Go.Proofs.YteapfdnjbgonmaaGreatDoor.Mc
open Mem Bk Md Go.ChangeShapes Go.WideShapes Go.ChangeAt Go.RowKit
def lenV : Value → Nat
 | .slice _ n _ => n
 | _ => 0
theorem no_mult {L n m : Nat} (h1 : L < m) (h2 : m < padN L n) : m % n ≠ 0 := fun h => by
 have e1 := Nat.div_add_mod L n
 have e2 := Nat.div_add_mod m n
 rw [h, Nat.add_zero] at e2
 unfold padN at h2
 have h3 : L / n < m / n := by
  apply Classical.byContradiction
  intro hq
  have := Nat.mul_le_mul_left n (Nat.le_of_not_lt hq)
  omega
 have h4 := Nat.mul_le_mul_right n (Nat.succ_le_of_lt h3)
 rw [Nat.mul_comm (m / n)] at h4
 have h5 : (L / n).succ * n = (L / n + 1) * n := rfl
 omega
theorem up {W W' : World} {A : Option Addr} {n : Nat} {f : Nat → Nat} (h : Reads W W.heap.size A n f) (hB : Below W.heap.size W W') : Reads W' W'.heap.size A n f := (h.below hB).more hB.size
theorem bs1 (x : Int) (w : World) : (Instr.buildSlice 22 1 #[(0, .int .u8 x)]).run Tryz.prog w = .ok (.slice (some ⟨w.heap.size, 0, none⟩) 1 1) (w.alloc (.cells #[.int .u8 x] 5)) := by kernel_rfl
theorem one_reads (w : World) (x : Nat) : Reads (w.alloc (.cells #[.int .u8 (x : Int)] 5)) (w.heap.size + 1) (some ⟨w.heap.size, 0, none⟩) 1 (fun _ => x) := fun _ => ⟨_, rfl, Nat.lt_succ_self _, fun j hj => by
 have : j = 0 := by omega
 subst this
 exact (Blk.fresh w 5 #[.int .u8 (x : Int)]).cell 0⟩
set_option maxRecDepth 100000 in
set_option maxHeartbeats 1000000 in
theorem rpad_any (A : Option Addr) (L c : Nat) (f : Nat → Nat) (n M : Nat) (w : World) (hL : L ≤ 1000) (hn : 1 ≤ n) (hn' : n ≤ 64) (hM : M = padN L n) (hA : A = none → L = 0 ∧ c = 0) (hR : Reads w w.heap.size A L f) :
  Calls Tryz.prog 61 #[.slice A L c, .int .i64 (n : Int)] w fun e w' => ∃ v, e = .returned v ∧ Mem.Own w' w.heap.size 5 1 v M (padF L f) ∧ Below w.heap.size w w' := by
 have hLM : L < M := by rw [hM]; exact padN_gt hn
 have hML : M ≤ L + n := by rw [hM]; exact padN_le
 have Hno : Hid (∀ m, L < m → m < M → ((m : Int) % (n : Int) != 0) = true) := hid fun m h1 h2 => by
  rw [(rem_n (u := m) hn rfl).2.2, bne_iff_ne]
  exact fun h => no_mult h1 (hM ▸ h2) (Int.natCast_eq_zero.1 h)
 have Hyes : Hid (((M : Int) % (n : Int) != 0) = false) := hid (by
  rw [(rem_n (u := M) hn rfl).2.2]
  have : M % n = 0 := by rw [hM]; unfold padN; exact Nat.mul_mod_left _ _
  rw [this]; rfl)
 have HA := hid hA
 have hMs : M ≤ 2000 := by omega
 have hBe := (Below.refl w.heap.size w).alloc (Nat.le_refl _) (.cells #[] 5)
 have He := hid (Mem.Own.empty w w.heap.size 5 (fun _ => 0) (Nat.le_refl _))
 have HRe := hid ((hR.below hBe).more hBe.size)
 have HBe := hid hBe
 have hL6 : 0 + L ≤ 1000000 := by omega
 have hL7 : L + 1 ≤ 1000000 := by omega
 clear hM hA hR hBe
 go_enter Tryz.func61, Tryz.ntmps61
 go_wp2_with (at_builtin; (refine wpl_app_gen rfl _ _ 22 rfl w.heap.size 5 (.int .u8 0) Tryz.underlying22 info_u8 rfl _ 0 _ rfl He.out A L c _ _ HRe.out HA.out rfl hL6 (by simp) ?_))
 intro v1 w1 ho1 hB1
 try rw [Nat.zero_add] at ho1
 have hB01 := HBe.out.trans hB1
 obtain ⟨A1, c1, rfl, hc1, -, -⟩ := ho1.slice'
 have hBn := (Below.refl w1.heap.size w1).alloc (Nat.le_refl _) (.cells #[.int .u8 128] 5)
 have Ho1 := hid (ho1.below hBn (Nat.le_refl _))
 have HN1 := hid (one_reads w1 128)
 have HB1 := hid (hB01.trans (hBn.mono hB01.size))
 have hs1 := HB1.out.size
 clear ho1 hB1 He HRe HBe hBn hB01
 go_wp2_with (at_builtin; (refine wpl_app_gen rfl _ _ 22 rfl w.heap.size 5 (.int .u8 0) Tryz.underlying22 info_u8 rfl _ L _ rfl Ho1.out (some ⟨w1.heap.size, 0, none⟩) 1 1 _ _ HN1.out (fun h => by cases h) rfl hL7 hs1 ?_))
 intro v2 w2 ho2 hB2
 have HB2 := hid (HB1.out.trans hB2)
 have Ho2 : Hid (Mem.Own w2 w.heap.size 5 1 v2 (L + 1) (padF L f)) := hid (ho2.ext (fun i hi => by
  unfold cat padF
  by_cases h1 : i < L
  ·simp [h1]
  have : i = L := by omega
  simp [this]))
 clear ho2 hB2 Ho1 HN1 HB1 hs1
 go_wp2_with fail
 go_loopw [5] (fun v wr => ∃ m : Nat, L < m ∧ m ≤ M ∧ Mem.Own wr w.heap.size 5 1 v m (padF L f) ∧ Below w.heap.size w wr) (fun v _ => M - lenV v)
 case atStart => exact ⟨L + 1, by omega, by omega, Ho2.out, HB2.out⟩
 case round =>
  clear Ho2 HB2
  obtain ⟨m, hm1, hm2, ho, hB⟩ := hrel
  obtain ⟨g, cm, rfl, hcm⟩ := own_at ho (by omega)
  by_cases hlt : m < M
  ·have hno := Hno.out m hm1 hlt
   have hBn := (Below.refl wr.heap.size wr).alloc (Nat.le_refl _) (.cells #[.int .u8 0] 5)
   have Ho := hid (ho.below hBn (Nat.le_refl _))
   have HN := hid (one_reads wr 0)
   have HB := hid (hB.trans (hBn.mono hB.size))
   have hs := HB.out.size
   have hm6 : m + 1 ≤ 1000000 := by omega
   have hmM : m + 1 ≤ M := by omega
   have hLm : L < m + 1 := by omega
   have hdec : M - (m + 1) < M - m := by omega
   clear ho hB hBn
   go_wp2_with (at_builtin; (refine wpl_app_gen rfl _ _ 22 rfl w.heap.size 5 (.int .u8 0) Tryz.underlying22 info_u8 rfl _ m _ rfl Ho.out (some ⟨wr.heap.size, 0, none⟩) 1 1 _ _ HN.out (fun h => by cases h) rfl hm6 hs ?_))
   intro v3 w3 ho3 hB3
   obtain ⟨A3, c3, rfl, hc3, -, -⟩ := ho3.slice'
   clear hno
   have Ho3 : Hid (Mem.Own w3 w.heap.size 5 1 (.slice A3 (m + 1) c3) (m + 1) (padF L f)) := hid (ho3.ext (fun i hi => by
    unfold cat
    by_cases h1 : i < m
    ·rw [if_pos h1]
    rw [if_neg h1]
    unfold padF
    rw [if_neg (by omega), if_neg (by omega)]))
   have HB3 := hid (HB.out.trans hB3)
   clear ho3 hB3 Ho HN HB
   go_wp2_with fail
   go_round
   case rel => exact ⟨m + 1, hLm, hmM, Ho3.out, HB3.out⟩
   case measure => exact hdec
  have hmM : m = M := by omega
  have hyes := Hyes.out
  rw [← hmM] at hyes
  have HmM := hid hmM
  clear hmM
  go_wp2_with fail
  go_ret
  refine ⟨_, rfl, ?_, hB⟩
  have h := HmM.out
  subst h
  exact ho
section
variable {P : Program} {o : Oper} {x : Act} {w : World}
theorem exec_cutH (ty : TypeId) (p hi : Operand) (ho : o.op = .slice ty p none (some hi) none) (u z v : Value) (hp : x.eval p = u) (hh : x.eval hi = z) (hr : (Instr.sliceAt ty u none (some z) none).run P w = .ok v w) : (execOp x.eval o).run P w = .ok (.value v) w := by
 subst hp; subst hh
 unfold execOp
 simp [ho, hr]
theorem exec_cutL (ty : TypeId) (p lo : Operand) (ho : o.op = .slice ty p (some lo) none none) (u z v : Value) (hp : x.eval p = u) (hh : x.eval lo = z) (hr : (Instr.sliceAt ty u (some z) none none).run P w = .ok v w) : (execOp x.eval o).run P w = .ok (.value v) w := by
 subst hp; subst hh
 unfold execOp
 simp [ho, hr]
theorem exec_cutLH (ty : TypeId) (p lo hi : Operand) (ho : o.op = .slice ty p (some lo) (some hi) none) (u y z v : Value) (hp : x.eval p = u) (hl : x.eval lo = y) (hh : x.eval hi = z) (hr : (Instr.sliceAt ty u (some y) (some z) none).run P w = .ok v w) : (execOp x.eval o).run P w = .ok (.value v) w := by
 subst hp; subst hl; subst hh
 unfold execOp
 simp [ho, hr]
end
theorem uS8 : Tryz.prog.underlying 22 = some (.slice (Tryz.prog.elem 22)) := by kernel_rfl
theorem eS8 : Tryz.prog.elem 22 = 5 := by kernel_rfl
theorem cutHi (g : Addr) (n c m : Nat) (h : m ≤ c) (w : World) : (Instr.sliceAt 22 (.slice (some g) n c) none (some (.int .i64 (m : Int))) none).run Tryz.prog w = .ok (.slice (some g) m c) w := by
 rw [run_sliceAt_slice w 22 _ _ _ _ uS8, run_slice_h w 22 _ _ _ uS8 .i64 (m : Int) (by omega) (by omega), eS8, run_size i8q]
 simp [Result.andThen, sliced, Addr.add]
theorem cutLo (g : Addr) (n c m : Nat) (h : m ≤ n) (hc : m < c) (w : World) : (Instr.sliceAt 22 (.slice (some g) n c) (some (.int .i64 (m : Int))) none none).run Tryz.prog w = .ok (.slice (some (g.add m)) (n - m) (c - m)) w := by
 rw [run_sliceAt_slice w 22 _ _ _ _ uS8, run_slice_l w 22 _ _ _ uS8 .i64 (m : Int) (by omega) (by omega), eS8, run_size i8q]
 simp [Result.andThen, sliced, show ¬ c = m by omega]
theorem cutLoHi (g : Addr) (n c l m : Nat) (h : l ≤ m) (hm : m ≤ c) (hc : l < c) (w : World) : (Instr.sliceAt 22 (.slice (some g) n c) (some (.int .i64 (l : Int))) (some (.int .i64 (m : Int))) none).run Tryz.prog w = .ok (.slice (some (g.add l)) (m - l) (c - l)) w := by
 rw [run_sliceAt_slice w 22 _ _ _ _ uS8, run_slice_lh w 22 _ _ _ uS8 .i64 .i64 (l : Int) (m : Int) (by omega) (by omega) (by omega), eS8, run_size i8q]
 simp [Result.andThen, sliced, show ¬ c = l by omega]
end Go.Proofs.YteapfdnjbgonmaaGreatDoor.Mc
namespace Go.Proofs.YteapfdnjbgonmaaGreatDoor.Rm
open Mem Des Bk Md Mc Go.ChangeShapes Go.WideShapes Go.ChangeAt Go.RowKit
set_option maxRecDepth 100000 in
set_option maxHeartbeats 2000000 in
theorem bytes_M (A : Option Addr) (c M : Nat) (hM0 : 0 < M) (hM1 : M ≤ 100) (l : Nat → Nat) (hl : ∀ t, l t < 2) (w : World) (N : Nat) (hN : N = 8 * M) (hL : Lst w 3 A N (iv .i64 l)) :
  Calls Tryz.prog 96 #[.slice A N c] w fun e w' => ∃ A' c', e = .returned (.slice A' M c') ∧ M ≤ c' ∧ Lst w' 5 A' M (iv .u8 fun i => b2 l i 8) ∧ Below w.heap.size w w' ∧ Mem.Own w' w.heap.size 5 1 (.slice A' M c') M (fun i => b2 l i 8) := by
 obtain ⟨ad, rfl, had⟩ := hL.some
 have HL := hid hL
 have Hl := hid hl
 have HN := hid hN
 have hN8 : (N : Int) = 8 * (M : Int) := by omega
 clear hL hl hN
 go_enter Tryz.func96, Tryz.ntmps96
 go_wp2_with fail
 go_loopw [3, 4] (fun v i wr => ∃ m : Nat, m ≤ M ∧ OwnV wr w.heap.size 5 v m (iv .u8 fun i => b2 l i 8) ∧ i = .int .i64 (8 * (m : Int)) ∧ Below w.heap.size w wr) (fun _ i _ => N - (intOf i).toNat)
 case atStart => exact ⟨0, by omega, OwnV.nil _ _ _ _, rfl, Below.refl _ _⟩
 case round =>
  obtain ⟨m, hm, ho, rfl, hB⟩ := hrel
  by_cases hlt : m < M
  ·have e1 : decide (8 * (m : Int) + 8 ≤ (N : Int)) = true := by simp; have := HN.out; omega
   go_wp2_with fail
   go_loop [5, 6] (fun x k => ∃ q : Nat, q ≤ 8 ∧ x = .int .i64 (b2 l m q : Nat) ∧ k = .int .i64 q) (fun _ k => 8 - (intOf k).toNat)
   case atStart => exact ⟨0, by omega, rfl, rfl⟩
   case round =>
    obtain ⟨q, hq, rfl, rfl⟩ := hrel
    have hb := b2_lt Hl.out m q
    have hb8 : 2 ^ q ≤ 2 ^ 8 := Nat.pow_le_pow_right (by omega) hq
    by_cases hlt2 : q < 8
    ·have hl2 := Hl.out (8 * m + q)
     have hi : 8 * m + q < N := by have := HN.out; omega
     have HC : Hid (wr.cell? (ad.add (8 * m + q)) = some (.int .i64 ((l (8 * m + q) : Nat) : Int))) := hid ((hB.cell (by rw [add_block]; exact had)).trans (HL.out.at _ hi))
     have hbq : b2 l m q < 256 := by omega
     go_wp2_with (first
      | (with_reducible refine wpl_sl1 rfl 50 _ _ rfl ad N c rfl .i64 _ rfl (8 * m + q) (by omega) 3 Tryz.underlying50 hi iI ?_)
      | (with_reducible refine wpl_ld rfl 3 _ rfl _ rfl .i64 Tryz.underlying3 _ HC.out ?_))
     have hbs : b2 l m (q + 1) = 2 * b2 l m q + l (8 * m + q) := rfl
     exact ⟨⟨q + 1, by omega, by first | exact val_int (by rw [hbs]; omega) | (rw [hbs]; omega), by first | exact val_int (by omega) | omega⟩, by simp [intOf]; omega⟩
    have hq8 : Hid (b2 l m q = b2 l m 8) := hid (by rw [show q = 8 by omega])
    have hbq : b2 l m q < 256 := by omega
    go_wp2_with (at_builtin; refine wpl_appN rfl _ _ 22 rfl w.heap.size 5 (.int .u8 0) 1 Tryz.underlying22 infoB rfl _ m _ rfl ho 1 (fun _ => .int .u8 ((b2 l m q : Nat) : Int)) _ (row1v _ _ (val_int (by omega))) (fun _ => rfl) rfl (by omega) (by omega) hB.size ?_)
    intro v' w1 ho1 hB1 _
    have ho2 : OwnV w1 w.heap.size 5 v' (m + 1) (iv .u8 fun i => b2 l i 8) := ho1.ext (fun i hi => by
     unfold catV
     by_cases h : i < m
     ·rw [if_pos h]
     rw [if_neg h, hq8.out]; obtain rfl : i = m := by omega
     rfl)
    have hB2 := hB.trans hB1
    clear ho1 hB1 hB ho
    go_wp2_with fail
    exact ⟨⟨m + 1, by omega, ho2, val_int (by omega), hB2⟩, by have := HN.out; simp [intOf]; omega⟩
  have e1 : decide (8 * (m : Int) + 8 ≤ (N : Int)) = false := by simp; have := HN.out; omega
  go_wp2_with fail
  have hlst : OwnV wr w.heap.size 5 u3 M (iv .u8 fun i => b2 l i 8) := by
   have hm8 : m = M := by omega
   rw [hm8] at ho; exact ho
  have hown : Mem.Own wr w.heap.size 5 1 u3 M (fun i => b2 l i 8) := by
   have h0 : wr.ownsRow w.heap.size 5 1 u3 M ((List.range M).map (iv .u8 fun i => b2 l i 8)) := hlst
   unfold Mem.Own
   rw [Nat.mul_one]
   exact h0
  obtain ⟨A', c', rfl, hc', hL'⟩ := hlst.lst (by omega)
  go_ret
  exact ⟨A', c', rfl, hc', hL', hB, hown⟩
theorem b2_same {l l' : Nat → Nat} {i j : Nat} : ∀ q, (∀ t, t < q → l (8 * i + t) = l' (8 * j + t)) → b2 l i q = b2 l' j q
 | 0, _ => rfl
 | q + 1, h => by
  unfold b2
  rw [b2_same q (fun t ht => h t (by omega)), h q (by omega)]
def up7 (a c : Nat) : Nat → Nat := fun t => if t < 7 then a / 2 ^ (6 - t) % 2 else c
theorem up7_b2 : ∀ a, a < 256 → ∀ c, c < 2 → b2 (up7 a c) 0 8 = (a * 2 % 256) ||| c := by decide +kernel
def shB (n : Nat) (f : Nat → Nat) : Nat → Nat := fun t => if t < 8 * n - 1 then bitsF f (1 + t) else 0
theorem sh_b2 {n : Nat} {f : Nat → Nat} (hf : ∀ i, i < n → f i < 256) {i : Nat} (hi : i < n) : b2 (shB n f) i 8 = sh n f i := by
 have hc : (if i + 1 < n then f (i + 1) / 128 else 0) < 2 := by
  split
  ·have := hf (i + 1) (by assumption); omega
  omega
 unfold sh
 rw [← up7_b2 (f i) (hf i hi) _ hc]
 refine b2_same 8 fun t ht => ?_
 unfold shB up7 bitsF
 rw [Nat.mul_zero, Nat.zero_add]
 by_cases h7 : t < 7
 ·rw [if_pos (by omega), if_pos h7, show (1 + (8 * i + t)) / 8 = i by omega, show (1 + (8 * i + t)) % 8 = 1 + t by omega, show 7 - (1 + t) = 6 - t by omega]
 have h7' : t = 7 := by omega
 subst h7'
 rw [if_neg (show ¬ 7 < 7 by omega)]
 by_cases hl : i + 1 < n
 ·rw [if_pos (by omega), if_pos hl, show (1 + (8 * i + 7)) / 8 = i + 1 by omega, show (1 + (8 * i + 7)) % 8 = 0 by omega]
  have := hf (i + 1) hl
  show f (i + 1) / 128 % 2 = f (i + 1) / 128
  omega
 rw [if_neg (by omega), if_neg hl]
set_option maxRecDepth 100000 in
set_option maxHeartbeats 2000000 in
theorem rdbl_any (A : Option Addr) (n c : Nat) (f : Nat → Nat) (w : World) (hn : n = 8 ∨ n = 16) (hf : ∀ i, i < n → f i < 256) (hR : Reads w w.heap.size A n f) :
  Calls Tryz.prog 60 #[.slice A n c] w fun e w' => ∃ v, e = .returned v ∧ Mem.Own w' w.heap.size 5 1 v n (dbl n f) ∧ Below w.heap.size w w' := by
 have Hf := hid hf
 have HR := hid hR
 clear hf hR
 have hn0 : 0 < n := by omega
 go_enter Tryz.func60, Tryz.ntmps60
 have h8n : 1 ≤ 8 * n := by omega
 go_wp2_with (first
  | (go_at_call 95; refine (bits_any A n c f hn0 (by omega) Hf.out _ HR.out).mono ?_; rintro e w1 ⟨A1, c1, rfl, hc1, hL1, hB1⟩; obtain ⟨ad1, rfl, hbl1⟩ := hL1.some; have HL1 := hid hL1; have HB1 := hid hB1; have H0 := hid (OwnV.empty w1 w1.heap.size 3 (iv .i64 fun _ => 0) (Nat.le_refl _)); have HLe := hid ((hL1.alloc (.cells #[] 3)).cut 1 (by omega)); have HBe := hid ((Below.refl w1.heap.size w1).alloc (Nat.le_refl _) (.cells #[] 3)); have hsize1 : w1.heap.size ≤ (w1.alloc (.cells #[] 3)).heap.size := (by simp); clear hL1 hB1)
  | (at_builtin; refine wpl_appV rfl _ _ 50 rfl w1.heap.size 3 (.int .i64 0) 8 Tryz.underlying50 infoI rfl _ 0 (iv .i64 fun _ => 0) rfl H0.out ⟨ad1.block, ad1.off + 1, none⟩ (8 * n - 1) (c1 - 1) (fun i => iv .i64 (bitsF f) (1 + i)) (fun i hi => HLe.out.at i hi) (fun _ => rfl) rfl (by omega) (by omega) hsize1 ?_))
 intro v2 w2 ho2 hB2 _
 have hB12 := HBe.out.trans hB2
 have ho2b : OwnV w2 w1.heap.size 3 v2 (8 * n - 1) (iv .i64 fun t => bitsF f (1 + t)) := by
  try rw [Nat.zero_add] at ho2
  exact ho2.ext (fun i hi => by unfold catV; rw [if_neg (by omega)]; rfl)
 have Ho2 := hid ho2b
 have HL2 : Hid (w2.cell? (ad1.add 0) = some (iv .i64 (bitsF f) 0)) := hid ((hB12.cell (p := ad1.add 0) (by rw [add_block]; exact hbl1)).trans (HL1.out.at 0 (by omega)))
 have HB2 := hid (HB1.out.trans (hB12.mono HB1.out.size))
 have hs12 := hB12.size
 have hs01 := HB1.out.size
 clear ho2 ho2b hB2 hB12 H0 HLe HBe HB1 HL1 hsize1
 go_wp2_with (at_builtin; refine wpl_appN rfl _ _ 50 rfl w1.heap.size 3 (.int .i64 0) 8 Tryz.underlying50 infoI rfl _ (8 * n - 1) _ rfl Ho2.out 1 (fun _ => .int .i64 0) _ (row1v _ _ rfl) (fun _ => rfl) rfl (by omega) (by omega) hs12 ?_)
 intro v3 w3 ho3 hB3 _
 have e8 : 8 * n - 1 + 1 = 8 * n := by omega
 try rw [e8] at ho3
 have ho3b : OwnV w3 w1.heap.size 3 v3 (8 * n) (iv .i64 (shB n f)) := ho3.ext (fun i hi => by
  unfold catV iv shB
  by_cases h : i < 8 * n - 1
  ·rw [if_pos h, if_pos h]
  rw [if_neg h, if_neg h]
  rfl)
 obtain ⟨A3, c3, rfl, hc3, hL3⟩ := ho3b.lst (by omega)
 have HL3 := hid hL3
 have HL23 : Hid (w3.cell? (ad1.add 0) = some (iv .i64 (bitsF f) 0)) := hid ((hB3.cell (p := ad1.add 0) (by rw [add_block]; exact hbl1)).trans HL2.out)
 have hs13 := hB3.size
 have HB3 := hid (HB2.out.trans (hB3.mono (by have := HB2.out.size; omega)))
 clear ho3 ho3b hL3 HL2 HB2 Ho2
 go_wp2_with fail
 refine (bytes_M A3 c3 n (by omega) (by omega) (shB n f) (fun t => by unfold shB; split; exact Nat.mod_lt _ (by omega); omega) _ (8 * n) rfl HL3.out).mono ?_
 rintro e w4 ⟨A4, c4, rfl, hc4, -, hB4, ho4⟩
 have Ho4 : Hid (Mem.Own w4 w3.heap.size 5 1 (.slice A4 n c4) n (sh n f)) := hid (ho4.ext (fun i hi => sh_b2 Hf.out (by omega)))
 have HL4 : Hid (w4.cell? (ad1.add 0) = some (iv .i64 (bitsF f) 0)) := hid ((hB4.cell (p := ad1.add 0) (by rw [add_block]; omega)).trans HL23.out)
 have HB4 := hid (HB3.out.trans (hB4.mono HB3.out.size))
 have hs1 := HB3.out.size
 clear ho4 hB4 HL23 HB3 HL3
 have h0n : 0 < 8 * n := by omega
 have h00 : bitsF f 0 = f 0 / 128 := by
  have := Hf.out 0 hn0
  unfold bitsF
  show f 0 / 128 % 2 = f 0 / 128
  omega
 have hb0 : w4.cell? (ad1.add 0) = some (.int .i64 ((f 0 / 128 : Nat) : Int)) := by
  rw [← h00]
  exact HL4.out
 have hdb : ∀ i, dbl n f i = if f 0 / 128 = 1 ∧ i + 1 = n then sh n f i ^^^ en n else sh n f i := fun _ => rfl
 have Hdb := hid hdb
 have Hf0 := hid (Hf.out 0 hn0)
 clear h00 hdb
 generalize f 0 / 128 = tb at *
 by_cases ht : tb = 1
 ·have htI : ((tb : Int) == 1) = true := by simp; omega
  by_cases hn8 : n = 8
  ·have hnI : ((n : Int) == 8) = true := by simp; omega
   have hnJ : ((n : Int) == 16) = false := by simp; omega
   have Hn8 := hid hn8
   clear hn8
   have hi : 7 < n := by have := Hn8.out; omega
   have hx0 : sh n f 7 < 256 := sh_lt Hf.out _ hi
   obtain ⟨g, hgA, hgb, hgl, hcg, hfg, hoP⟩ := Bk.Own.put Ho4.out hi (sh n f 7 ^^^ 27)
   cases hgA
   have HoP := hid hoP
   have hxr : bits .xor .u8 ((sh n f 7 : Nat) : Int) 27 = ((sh n f 7 ^^^ 27 : Nat) : Int) := u8_xor_nat _ 27 hx0 (by omega)
   generalize hy : sh n f 7 = y at *
   have hb02 : (w4.setCell ⟨g, 7, none⟩ (.int .u8 ((y ^^^ 27 : Nat) : Int))).cell? (ad1.add 0) = some (.int .i64 ((tb : Nat) : Int)) := (((Below.refl w3.heap.size w4).setCell (p := ⟨g, 7, none⟩) hgb (.int .u8 ((y ^^^ 27 : Nat) : Int))).cell (p := ad1.add 0) (by rw [add_block]; omega)).trans hb0
   clear hoP
   go_wp2_with (first
    | (with_reducible refine wpl_ld rfl 3 _ rfl _ rfl .i64 Tryz.underlying3 _ hb02 ?_)
    | (with_reducible refine wpl_sl1 rfl 50 _ _ rfl ad1 (8 * n) c1 rfl .i64 _ rfl 0 rfl 3 Tryz.underlying50 h0n Des.iI ?_)
    | (with_reducible refine wpl_ld rfl 3 _ rfl _ rfl .i64 Tryz.underlying3 _ hb0 ?_)
    | (with_reducible refine wpl_slb rfl 22 _ _ rfl g n c4 rfl .i64 _ rfl 7 rfl 5 Tryz.underlying22 hi i8q ?_)
    | (with_reducible refine wpl_ld rfl 5 _ rfl _ rfl .u8 Tryz.underlying5 _ hcg ?_)
    | (with_reducible refine wpl_st rfl 5 _ _ rfl _ rfl .u8 _ rfl i8q _ hcg hfg ?_))
   go_ret
   refine ⟨_, rfl, own_base (HoP.out.ext (fun i hi => ?_)) hs1, HB4.out.setCell (by show w.heap.size ≤ g; omega) _⟩
   rw [Hdb.out]
   unfold upd
   by_cases h7 : i = 7
   ·subst h7
    rw [if_pos rfl, if_pos ⟨ht, by have := Hn8.out; omega⟩, ← hy]
    unfold en
    rw [if_pos Hn8.out]
   rw [if_neg h7, if_neg (by have := Hn8.out; omega)]
  have hnI : ((n : Int) == 8) = false := by simp; omega
  have hnJ : ((n : Int) == 16) = true := by simp; omega
  have hi : 15 < n := by omega
  have hx0 : sh n f 15 < 256 := sh_lt Hf.out _ hi
  obtain ⟨g, hgA, hgb, hgl, hcg, hfg, hoP⟩ := Bk.Own.put Ho4.out hi (sh n f 15 ^^^ 135)
  cases hgA
  have HoP := hid hoP
  have hxr : bits .xor .u8 ((sh n f 15 : Nat) : Int) 135 = ((sh n f 15 ^^^ 135 : Nat) : Int) := u8_xor_nat _ 135 hx0 (by omega)
  generalize hy : sh n f 15 = y at *
  have hb02 : (w4.setCell ⟨g, 15, none⟩ (.int .u8 ((y ^^^ 135 : Nat) : Int))).cell? (ad1.add 0) = some (.int .i64 ((tb : Nat) : Int)) := (((Below.refl w3.heap.size w4).setCell (p := ⟨g, 15, none⟩) hgb (.int .u8 ((y ^^^ 135 : Nat) : Int))).cell (p := ad1.add 0) (by rw [add_block]; omega)).trans hb0
  clear hoP
  go_wp2_with (first
   | (with_reducible refine wpl_ld rfl 3 _ rfl _ rfl .i64 Tryz.underlying3 _ hb02 ?_)
   | (with_reducible refine wpl_sl1 rfl 50 _ _ rfl ad1 (8 * n) c1 rfl .i64 _ rfl 0 rfl 3 Tryz.underlying50 h0n Des.iI ?_)
   | (with_reducible refine wpl_ld rfl 3 _ rfl _ rfl .i64 Tryz.underlying3 _ hb0 ?_)
   | (with_reducible refine wpl_slb rfl 22 _ _ rfl g n c4 rfl .i64 _ rfl 15 rfl 5 Tryz.underlying22 hi i8q ?_)
   | (with_reducible refine wpl_ld rfl 5 _ rfl _ rfl .u8 Tryz.underlying5 _ hcg ?_)
   | (with_reducible refine wpl_st rfl 5 _ _ rfl _ rfl .u8 _ rfl i8q _ hcg hfg ?_))
  go_ret
  refine ⟨_, rfl, own_base (HoP.out.ext (fun i hi => ?_)) hs1, HB4.out.setCell (by show w.heap.size ≤ g; omega) _⟩
  rw [Hdb.out]
  unfold upd
  by_cases h7 : i = 15
  ·subst h7
   rw [if_pos rfl, if_pos ⟨ht, by omega⟩, ← hy]
   unfold en
   rw [if_neg hn8]
  rw [if_neg h7, if_neg (by omega)]
 have htI : ((tb : Int) == 1) = false := by simp; omega
 go_wp2_with (first
  | (with_reducible refine wpl_sl1 rfl 50 _ _ rfl ad1 (8 * n) c1 rfl .i64 _ rfl 0 rfl 3 Tryz.underlying50 h0n Des.iI ?_)
  | (with_reducible refine wpl_ld rfl 3 _ rfl _ rfl .i64 Tryz.underlying3 _ hb0 ?_))
 go_ret
 exact ⟨_, rfl, own_base (Ho4.out.ext (fun i hi => by rw [Hdb.out, if_neg (fun h => ht h.1)])) hs1, HB4.out⟩
end Go.Proofs.YteapfdnjbgonmaaGreatDoor.Rm
namespace Go.Proofs.YteapfdnjbgonmaaGreatDoor.Rc
open Mem Bk Md Mc R6 Rm Go.ChangeShapes Go.WideShapes Go.ChangeAt Go.RowKit
theorem suff7 {F G : World → Option Addr → Nat → Option Addr → Nat → Value → Bool → Prop} {R : Prop} (h1 : (∀ W Ar cr At ct v ok, F W Ar cr At ct v ok → G W Ar cr At ct v ok) → R) (h2 : ∀ W Ar cr At ct v ok, F W Ar cr At ct v ok → G W Ar cr At ct v ok) : R := h1 h2
theorem suff9 {F G : World → Option Addr → Nat → Nat → Option Addr → Nat → Nat → Value → Int → Prop} {R : Prop} (h1 : (∀ W A n c A' n' c' v z, F W A n c A' n' c' v z → G W A n c A' n' c' v z) → R) (h2 : ∀ W A n c A' n' c' v z, F W A n c A' n' c' v z → G W A n c A' n' c' v z) : R := h1 h2
section
variable {P : Program} {o : Oper} {a : Act} {w w' : World} {K : Act → World → Prop} {Q : Exit → Act → World → Prop}
theorem wp_valw2 (v : Value) (hr : (execOp a.eval o).run P w = .ok (.value v) w') (h : K (a.put o.dst v) w') : o.wp P a w K Q := by
 unfold Oper.wp
 rw [hr]
 exact h
theorem exec_mk (x y : Operand) (ho : o.op = .makeSlice 22 x y) (n : Nat) (hn : n ≤ 1000) (hx : a.eval x = .int .i64 (n : Int)) (hy : a.eval y = .int .i64 (n : Int)) : (execOp a.eval o).run Tryz.prog w = .ok (.value (.slice (some ⟨w.heap.size, 0, none⟩) n n)) (w.alloc (.cells (row n (b8 Mc.zf)) 5)) := by
 have hr := run_make_row' (P := Tryz.prog) 22 5 (.int .u8 0) 1 Tryz.underlying22 info8 rfl .i64 .i64 n (by omega) (by omega) w
 rw [made_b8] at hr
 unfold execOp
 simp [ho, hx, hy, hr]
 rfl
theorem exec_cutLZ (p lo : Operand) (ho : o.op = .slice 22 p (some lo) none none) (g : Addr) (M c q n : Nat) (z : Int) (hp : a.eval p = .slice (some g) M c) (hl : a.eval lo = .int .i64 z) (hz : z = (q : Int)) (hM : M = q + n) (hn : 0 < n) (hc : M ≤ c) : (execOp a.eval o).run Tryz.prog w = .ok (.value (.slice (some (g.add q)) n (c - q))) w := by
 subst hz hM
 have h := cutLo g (q + n) c q (by omega) (by omega) w
 rw [Nat.add_sub_cancel_left] at h
 exact exec_cutL 22 p lo ho _ _ _ hp hl h
theorem exec_cutHZ (p hi : Operand) (ho : o.op = .slice 22 p none (some hi) none) (g : Addr) (M c q : Nat) (z : Int) (hp : a.eval p = .slice (some g) M c) (hl : a.eval hi = .int .i64 z) (hz : z = (q : Int)) (hc : q ≤ c) : (execOp a.eval o).run Tryz.prog w = .ok (.value (.slice (some g) q c)) w := by
 subst hz
 exact exec_cutH 22 p hi ho _ _ _ hp hl (cutHi g M c q hc w)
end
def Pc (p : Pl) (k Lk : Nat) (o : Option (Nat → Nat)) (R' : List Rw) (d' b : Nat) (w1 W : World) (Ar : Option Addr) (cr : Nat) (At : Option Addr) (ct : Nat) (v : Value) (ok : Bool) : Prop :=
 KeptS [b] w1 W ∧ Blk W b 63 (row 2 (bookC (.slice Ar R'.length cr) (.slice At (p.n - d') ct))) ∧ RowsAt W W.heap.size Ar Lk R' ∧ Reads W W.heap.size At (p.n - d') (fun i => p.F (d' + i)) ∧ p.n - d' ≤ ct ∧ (Ar = none → R'.length = 0 ∧ cr = 0) ∧
  ((∃ y A c, o = some y ∧ ok = true ∧ v = .slice A (sz k) c ∧ Reads W W.heap.size A (sz k) y) ∨ (o = none ∧ ok = false))
section
variable {p : Pl} {k Lk : Nat} {o : Option (Nat → Nat)} {R' : List Rw} {d' b : Nat} {w1 wc w3 : World} {Ar : Option Addr} {cr : Nat} {At : Option Addr} {ct : Nat} {v : Value} {ok : Bool} {t : TypeId} {old cs : Array Value}
theorem pc_of (hcs : cs = row 2 (bookC (.slice Ar R'.length cr) (.slice At (p.n - d') ct))) (hS : KeptS [b] w1 wc) (hb : Blk wc b 63 old) (hB : Below wc.heap.size wc w3) (hr : RowsAtP w3 (LocP (fun g => g < b) wc w3) Ar Lk R') (ht : ReadsP w3 (LocP (fun g => g < b) wc w3) At (p.n - d') (fun i => p.F (d' + i))) (hct : p.n - d' ≤ ct) (hAr : Ar = none → R'.length = 0 ∧ cr = 0)
  (hres : (∃ y A c, o = some y ∧ ok = true ∧ v = .slice A (sz k) c ∧ ReadsP w3 (LocP (fun g => g < b) wc w3) A (sz k) y) ∨ (o = none ∧ ok = false)) : Pc p k Lk o R' d' b w1 (w3.setRow b cs) Ar cr At ct v ok := by
 subst hcs
 have hlt := hb.lt
 have hk : ∀ g, LocP (fun g => g < b) wc w3 g → (w3.setRow b (row 2 (bookC (.slice Ar R'.length cr) (.slice At (p.n - d') ct)))).heap[g]? = w3.heap[g]? := fun g hg => setRow_other w3 b g _ (by rcases hg.2 with h | h <;> omega)
 have hm : ∀ g, LocP (fun g => g < b) wc w3 g → g < (w3.setRow b (row 2 (bookC (.slice Ar R'.length cr) (.slice At (p.n - d') ct)))).heap.size := fun g hg => by simpa using hg.1
 refine ⟨keptS_row (hS.trans (KeptS.of _ hB)) (by simp) _, (hb.below hB hlt).setRow _, (hr.keep hk).more hm, (ht.keep hk).more hm, hct, hAr, ?_⟩
 rcases hres with ⟨y, A, c, e1, e2, e3, h⟩ | h
 ·exact .inl ⟨y, A, c, e1, e2, e3, (h.keep hk).more hm⟩
 exact .inr h
end
theorem mAt_up {p : Pl} {k Lk : Nat} {key : Nat → Nat} {bk ch : Bool} {x : Nat → Nat} {s0 : MS} {j : Nat} (h : mAt p k Lk key bk ch x s0 j = none) : ∀ N, j ≤ N → mAt p k Lk key bk ch x s0 N = none
 | 0, hN => by
  have : j = 0 := by omega
  subst this
  exact h
 | N + 1, hN => by
  by_cases hj : j = N + 1
  ·exact hj ▸ h
  have := mAt_up h N (by omega)
  simp only [mAt, this]
def Pd (p : Pl) (k Lk : Nat) (key : Nat → Nat) (x : Nat → Nat) (N : Nat) (s0 : MS) (b : Nat) (w1 W : World) (A : Option Addr) (n c : Nat) (A' : Option Addr) (n' c' : Nat) (v : Value) (z : Int) : Prop :=
 KeptS [b] w1 W ∧ Blk W b 63 (row 2 (bookC (.slice A n c) (.slice A' n' c'))) ∧ ((∃ s, mAt p k Lk key false true x s0 N = some s ∧ z = -1 ∧ Mem.Own W w1.heap.size 5 1 v (N * sz k) s.out) ∨ (mAt p k Lk key false true x s0 N = none ∧ 0 ≤ z))
theorem pd_of {p : Pl} {k Lk : Nat} {key : Nat → Nat} {x : Nat → Nat} {N : Nat} {s0 : MS} {b : Nat} {w1 wc w3 : World} {old : Array Value} {e : Ending} (hS : KeptS [b] w1 wc) (hb : Blk wc b 63 old) (h : RMode p k Lk key false true x N s0 wc e w3) :
  Below wc.heap.size wc w3 ∧ ∃ A n c A' n' c' v z, e = .returned (.tuple #[.agg (row 2 (bookC (.slice A n c) (.slice A' n' c'))), v, .int .i64 z]) ∧ Pd p k Lk key x N s0 b w1 (w3.setRow b (row 2 (bookC (.slice A n c) (.slice A' n' c')))) A n c A' n' c' v z := by
 obtain ⟨hB, h⟩ := h
 have hlt := hb.lt
 refine ⟨hB, ?_⟩
 rcases h with ⟨s, bv, v, hm, rfl, ho, ⟨A, n, c, A', n', c', rfl⟩⟩ | ⟨j, s, bv, hj, h1, h2, rfl, ⟨A, n, c, A', n', c', rfl⟩⟩
 ·exact ⟨A, n, c, A', n', c', v, -1, rfl, keptS_row (hS.trans (KeptS.of _ hB)) (by simp) _, (hb.below hB hlt).setRow _, .inl ⟨s, hm, rfl, own_base6 (R6.own_row ho (hb.below hB hlt) _) hS.size⟩⟩
 exact ⟨A, n, c, A', n', c', _, (j : Int), rfl, keptS_row (hS.trans (KeptS.of _ hB)) (by simp) _, (hb.below hB hlt).setRow _, .inr ⟨mAt_up (mAt_end h1 h2) N (by omega), by omega⟩⟩
theorem mAt_last {p : Pl} {k Lk : Nat} {key : Nat → Nat} {x : Nat → Nat} {s0 s : MS} : ∀ N, 0 < N → mAt p k Lk key false true x s0 N = some s → ∀ i, i < sz k → s.out ((N - 1) * sz k + i) = s.last i
 | N + 1, _, h, i, hi => by
  simp only [mAt] at h
  split at h
  ·cases h
  unfold mNext at h
  split at h
  ·cases h
  injection h with h
  subst h
  simp only [Nat.add_sub_cancel, cat, if_neg (show ¬ N * sz k + i < N * sz k by omega)]
  simp
def cmR (p : Pl) (k Lk : Nat) (key : Nat → Nat) (L : Nat) (t : Nat → Nat) (R : List Rw) (d : Nat) : Option (Nat → Nat) :=
 match turnC k Lk key p R d false Mc.zf with
 | (none, _, _) => none
 | (some l, R1, d1) => (mAt p k Lk key false true (mtF (sz k) L t (dbl (sz k) l)) ⟨R1, d1, Mc.zf, fun _ => 0⟩ (mtB (sz k) L)).map MS.last
def RCm (k : Nat) (o : Option (Nat → Nat)) (w : World) (e : Ending) (w' : World) : Prop :=
 Below w.heap.size w w' ∧ ∃ bv, BkV bv ∧ ((∃ y A c, o = some y ∧ e = .returned (.tuple #[bv, .slice A (sz k) c, .bool true]) ∧ sz k ≤ c ∧ Reads w' w'.heap.size A (sz k) y) ∨ (o = none ∧ e = .returned (.tuple #[bv, .slice none 0 0, .bool false])))
set_option maxRecDepth 100000 in
set_option maxHeartbeats 4000000 in
set_option linter.unusedSimpArgs false in
theorem rcmac_any (p : Pl) (k d Lk : Nat) (R : List Rw) (Ar : Option Addr) (cr : Nat) (At : Option Addr) (ct : Nat) (Ak : Option Addr) (ck : Nat) (key : Nat → Nat) (A : Option Addr) (L c : Nat) (t : Nat → Nat) (w : World)
  (hf : fits k Lk) (hDo : DoC p k Lk Ak ck key false) (hI : Inv p.F p.n R d) (hRr : RowsAt w w.heap.size Ar Lk R) (hT : Reads w w.heap.size At (p.n - d) (fun i => p.F (d + i))) (hct : p.n - d ≤ ct) (hlen : R.length + 1 + mtB (sz k) L ≤ 1000) (hkey : Reads w w.heap.size Ak Lk key) (hkb : ∀ i, i < Lk → key i < 256) (hAr : Ar = none → R.length = 0 ∧ cr = 0)
  (hL : L ≤ 900) (hA : A = none → L = 0 ∧ c = 0) (ht : ∀ i, i < L → t i < 256) (hR : Reads w w.heap.size A L t) :
  Calls Tryz.prog 31 #[.int .i64 (k : Int), .slice Ak Lk ck, .agg (row 2 (bookC (.slice Ar R.length cr) (.slice At (p.n - d) ct))), .slice A L c] w (RCm k (cmR p k Lk key L t R d) w) := by
 have hkk := fits_kind hf
 obtain ⟨hs1, hs2⟩ := R6.sz_pos k
 have hn65 := hI.hn
 have hB0 : Below w.heap.size w ((w.alloc (.cells (row 2 (bookC (.slice Ar R.length cr) (.slice At (p.n - d) ct))) 63)).alloc (.cells (row 2 (bookC (.slice none 0 0) (.slice none 0 0))) 63)) := ((Below.refl _ _).alloc (Nat.le_refl _) _).alloc (by simp) _
 have h6 : Blk ((w.alloc (.cells (row 2 (bookC (.slice Ar R.length cr) (.slice At (p.n - d) ct))) 63)).alloc (.cells (row 2 (bookC (.slice none 0 0) (.slice none 0 0))) 63)) w.heap.size 63 (row 2 (bookC (.slice Ar R.length cr) (.slice At (p.n - d) ct))) := (Blk.fresh _ _ _).alloc _
 have h8 : Blk ((w.alloc (.cells (row 2 (bookC (.slice Ar R.length cr) (.slice At (p.n - d) ct))) 63)).alloc (.cells (row 2 (bookC (.slice none 0 0) (.slice none 0 0))) 63)) (w.heap.size + 1) 63 (row 2 (bookC (.slice none 0 0) (.slice none 0 0))) := by
  have := Blk.fresh (w.alloc (.cells (row 2 (bookC (.slice Ar R.length cr) (.slice At (p.n - d) ct))) 63)) 63 (row 2 (bookC (.slice none 0 0) (.slice none 0 0)))
  simpa using this
 have hz : ((w.alloc (.cells (row 2 (bookC (.slice Ar R.length cr) (.slice At (p.n - d) ct))) 63)).alloc (.cells (row 2 (bookC (.slice none 0 0) (.slice none 0 0))) 63)).heap.size = w.heap.size + 2 := by simp
 rcases htu : turnC k Lk key p R d false Mc.zf with ⟨o, R1, d1⟩
 have hcm : cmR p k Lk key L t R d = (match (o, R1, d1) with | (none, _, _) => none | (some l, R1, d1) => (mAt p k Lk key false true (mtF (sz k) L t (dbl (sz k) l)) ⟨R1, d1, Mc.zf, fun _ => 0⟩ (mtB (sz k) L)).map MS.last) := by unfold cmR; rw [htu]
 obtain ⟨hI1, hyb, -, hl1⟩ := turn_inv hf hkb hI (Mc.zf_lt _) htu
 have hd := hI.hd
 have hd1 := hI1.hd
 have hl1 := len_le hl1
 have HTu := hid htu
 have HI1 := hid hI1
 have Hyb := hid hyb
 have HRr := hid hRr
 have HT := hid hT
 have HK := hid hkey
 have Hkb := hid hkb
 have HAr := hid hAr
 have HA := hid hA
 have Ht := hid ht
 have HR := hid hR
 have Hlen := hid hlen
 have Hcm := hid hcm
 have HB0 := hid hB0
 have H6 := hid h6
 have H8 := hid h8
 have HSZ := hid (rsize_any k hkk)
 have Hsz := hid (sz_or k)
 have hlen1 : R.length ≤ 1000 := by omega
 clear hI hRr hT hkey hkb hAr hA ht hR hlen hcm hB0 h6 h8 htu hI1 hyb
 go_enter Tryz.func31, Tryz.ntmps31
 go_wp2_with (first
  | (with_reducible refine wpl_alloc rfl 63 rfl _ zRB2 ?_)
  | (go_at_call 33; refine (HSZ.out _).mono ?_; rintro e wa ⟨rfl, rfl⟩))
 generalize ((w.alloc (.cells (row 2 (bookC (.slice Ar R.length cr) (.slice At (p.n - d) ct))) 63)).alloc (.cells (row 2 (bookC (.slice none 0 0) (.slice none 0 0))) 63)) = w1 at *
 have hb1 : w.heap.size < w1.heap.size := by omega
 clear hz
 apply suff7 (F := Pc p k Lk o R1 d1 w.heap.size w1)
 case h1 =>
  intro key8
  refine wp_region_held_drew (S := fun W => KeptS [w.heap.size] w1 W) (by kernel_rfl) (KeptS.of _ (Below.refl _ _).drew) (fun hS0 => ?_)
  have h6d : Blk w1.drew w.heap.size 63 _ := H6.out
  refine ztk (i := 0) (v := .int .i64 (k : Int)) rfl (fun _ _ => exec_move _ rfl _ rfl) hS0 ?_
  (try simp only [Act.put,zza,zzb,zzc,zzd,zze,zzf])
  refine ztk (i := 1) (v := .slice Ak Lk ck) rfl (fun _ _ => exec_move _ rfl _ rfl) hS0 ?_
  (try simp only [Act.put,zza,zzb,zzc,zzd,zze,zzf])
  refine ztk (i := 3) (v := .int .i64 (sz k : Int)) rfl (fun _ _ => exec_move _ rfl _ rfl) hS0 ?_
  (try simp only [Act.put,zza,zzb,zzc,zzd,zze,zzf])
  refine wpAnyH_ready (rs := [2, 4]) (by kernel_rfl) (by simp) ?_
  refine AllReadyH.cons rfl (fun K hK => ?_) (AllReadyH.cons rfl (fun K hK => ?_) AllReadyH.nil)
  (try simp only [Act.put,zza,zzb,zzc,zzd,zze,zzf])
  refine Eq.mpr (if_pos (by rfl)) ?_
  refine wp_valw2 _ (exec_loadSt 63 _ rfl ⟨w.heap.size, 0, none⟩ rfl 2 _ (cells2 h6d) _ Tryz.underlying63 iRB) ?_
  (try simp only [Act.put,zza,zzb,zzc,zzd,zze,zzf])
  refine hK.out _ _ hS0 (fun hS1 => ?_)
  (try simp only [Act.put,zza,zzb,zzc,zzd,zze,zzf])
  clear hK K
  refine wpAnyH_ready (rs := [4]) (by kernel_rfl) (by simp) (ready_one rfl rfl (fun K hK => ?_))
  (try simp only [Act.put,zza,zzb,zzc,zzd,zze,zzf])
  refine wp_valw2 _ (exec_mk _ _ rfl (sz k) (by omega) rfl rfl) ?_
  (try simp only [Act.put,zza,zzb,zzc,zzd,zze,zzf])
  refine hK.out _ _ (keptS_alloc hS1 _) (fun hS2 => ?_)
  (try simp only [Act.put,zza,zzb,zzc,zzd,zze,zzf])
  rotate_left
  (try simp only [Act.put,zza,zzb,zzc,zzd,zze,zzf])
  refine Eq.mpr (if_pos (by rfl)) ?_
  refine wp_valw2 _ (exec_mk _ _ rfl (sz k) (by omega) rfl rfl) ?_
  (try simp only [Act.put,zza,zzb,zzc,zzd,zze,zzf])
  refine hK.out _ _ (keptS_alloc hS0 _) (fun hS1 => ?_)
  (try simp only [Act.put,zza,zzb,zzc,zzd,zze,zzf])
  clear hK K
  refine wpAnyH_ready (rs := [2]) (by kernel_rfl) (by simp) (ready_one rfl rfl (fun K hK => ?_))
  (try simp only [Act.put,zza,zzb,zzc,zzd,zze,zzf])
  refine wp_valw2 _ (exec_loadSt 63 _ rfl ⟨w.heap.size, 0, none⟩ rfl 2 _ (cells2 (h6d.alloc _)) _ Tryz.underlying63 iRB) ?_
  (try simp only [Act.put,zza,zzb,zzc,zzd,zze,zzf])
  refine hK.out _ _ hS1 (fun hS2 => ?_)
  (try simp only [Act.put,zza,zzb,zzc,zzd,zze,zzf])
  rotate_left
  all_goals
   have hbc : Blk (w1.drew.alloc (.cells (row (sz k) (b8 Mc.zf)) 5)) w.heap.size 63 _ := h6d.alloc _
   have hBw : Below w1.heap.size w1 (w1.drew.alloc (.cells (row (sz k) (b8 Mc.zf)) 5)) := (Below.refl _ _).drew.alloc (Nat.le_refl _) _
   have hzc : Blk (w1.drew.alloc (.cells (row (sz k) (b8 Mc.zf)) 5)) w1.heap.size 5 (row (sz k) (b8 Mc.zf)) := Blk.fresh w1.drew 5 _
   generalize (w1.drew.alloc (.cells (row (sz k) (b8 Mc.zf)) 5)) = wc at hS2 hbc hzc hBw ⊢
   clear hK K hS0 hS1 h6d
   have hBc : Below w.heap.size w wc := HB0.out.trans (hS2.below (by simp) (by omega))
   refine wpAnyH_ready (rs := [5]) (by kernel_rfl) (by simp) (AllReadyH.cons rfl (fun K hK => ?_) AllReadyH.nil)
   (try simp only [Act.put,zza,zzb,zzc,zzd,zze,zzf])
   refine Eq.mpr (if_pos (by rfl)) ?_
   go_simp
   refine (hDo d R Ar cr At ct (some ⟨w1.heap.size, 0, none⟩) (sz k) Mc.zf wc (fun g => g < w.heap.size) (fun g hg => Nat.lt_of_lt_of_le hg hBc.size) (HRr.out.toP.keep (fun g hg => hBc.block g hg)) ((show ReadsP w (fun g => g < w.heap.size) At _ _ from HT.out).keep (fun g hg => hBc.block g hg)) hct (by omega) (by omega) (by omega) ((HK.out.below hBc).more hBc.size) (Blk.reads hzc) (Mc.zf_lt _) HAr.out _ _ _ HTu.out).mono ?_
   rintro e w3 ⟨hB3, Ar2, cr2, At2, ct2, v2, ok2, rfl, hr3, ht3, hct2, hAr2, hres⟩
   have hp := pc_of (k := k) (v := v2) (ok := ok2) rfl hS2 hbc hB3 hr3 ht3 hct2 hAr2 hres
   refine hK.out _ _ (hS2.trans (KeptS.of _ hB3)) (fun hS3 => ?_)
   (try simp only [Act.put,zza,zzb,zzc,zzd,zze,zzf])
   clear hK K hr3 ht3 hct2 hAr2 hres
   refine ztk (i := 6) (v := .tuple #[.agg #[.slice Ar2 R1.length cr2, .slice At2 (p.n - d1) ct2], v2, .bool ok2]) rfl (fun _ _ => exec_move _ rfl _ rfl) hS3 ?_
   (try simp only [Act.put,zza,zzb,zzc,zzd,zze,zzf])
   refine ztk (i := 7) (v := .agg (row 2 (bookC (.slice Ar2 R1.length cr2) (.slice At2 (p.n - d1) ct2)))) rfl (fun _ _ => exec_extract _ 0 rfl _ rfl _ (by rw [row2]; rfl)) hS3 ?_
   (try simp only [Act.put,zza,zzb,zzc,zzd,zze,zzf])
   refine ztk (i := 8) (v := v2) rfl (fun _ _ => exec_extract _ 1 rfl _ rfl _ rfl) hS3 ?_
   (try simp only [Act.put,zza,zzb,zzc,zzd,zze,zzf])
   refine ztk (i := 9) (v := .bool ok2) rfl (fun _ _ => exec_extract _ 2 rfl _ rfl _ rfl) hS3 ?_
   (try simp only [Act.put,zza,zzb,zzc,zzd,zze,zzf])
   have hqb := hbc.below hB3 hbc.lt
   refine wpAnyH_ready (rs := [10]) (by kernel_rfl) (by simp) (ready_one rfl rfl (fun K hK => ?_))
   (try simp only [Act.put,zza,zzb,zzc,zzd,zze,zzf])
   with_reducible refine wp_store_blk 63 _ _ rfl w.heap.size (row 2 (bookC (.slice Ar2 R1.length cr2) (.slice At2 (p.n - d1) ct2))) rfl rfl 63 _ hqb (iRB' _) (by simp [row_size]) (one2 _ _ _ _ _ _) ?_
   (try simp only [Act.put,zza,zzb,zzc,zzd,zze,zzf])
   refine hK.out _ _ (keptS_row hS3 (by simp) _) (fun hSz => ?_)
   (try simp only [Act.put,zza,zzb,zzc,zzd,zze,zzf])
   refine ztk (i := 11) (v := v2) rfl (fun _ _ => exec_assign _ rfl _ rfl) hSz ?_
   (try simp only [Act.put,zza,zzb,zzc,zzd,zze,zzf])
   refine ztk (i := 12) (v := .bool ok2) rfl (fun _ _ => exec_assign _ rfl _ rfl) hSz ?_
   (try simp only [Act.put,zza,zzb,zzc,zzd,zze,zzf])
   refine wpAnyH_done (by kernel_rfl) ?_ _
   clear hK hSz hS2 hS3 hbc hzc hqb hB3 hBc hBw
   generalize w3.setRow w.heap.size (row 2 (bookC (.slice Ar2 R1.length cr2) (.slice At2 (p.n - d1) ct2))) = wX at hp ⊢
   exact key8 wX _ _ _ _ _ _ hp
 intro w2 Ar2 cr2 At2 ct2 v2 ok2 ⟨hKS, hb6, hr2, ht2, hct2, hAr2, hres⟩
 try dsimp only
 have HB2 := hid (HB0.out.trans (hKS.below (B := w.heap.size) (by simp) (by omega)))
 have H62 := hid hb6
 have H82 := hid (hKS.blk H8.out (by simp))
 have HR2 := hid hr2
 have HT2 := hid ht2
 have HAr2 := hid hAr2
 have hsz2 : w.heap.size + 2 ≤ w2.heap.size := by have := hKS.size; have := H8.out.lt; omega
 clear hKS hb6 hr2 ht2 hAr2 H6 H8 HB0 HRr HT HAr hb1
 rcases hres with ⟨y, Av, cv, rfl, rfl, rfl, hy⟩ | ⟨rfl, rfl⟩
 ·have HL := hid hy
  have Hyl : Hid (∀ i, i < sz k → y i < 256) := hid (Hyb.out y rfl)
  clear hy Hyb HTu
  go_wp2_with fail
  refine (rdbl_any Av (sz k) cv y _ Hsz.out Hyl.out HL.out).mono ?_
  rintro e w3 ⟨v3, rfl, ho3, hB3⟩
  obtain ⟨A3, c3, rfl, hc3, -⟩ := ho3.slice'
  have HD3 := hid ho3.reads
  have Hdb : Hid (∀ i, i < sz k → dbl (sz k) y i < 256) := hid (dbl_lt Hyl.out)
  have HB3 := hid (HB2.out.trans (hB3.mono HB2.out.size))
  have H63 := hid (H62.out.below hB3 H62.out.lt)
  have H83 := hid (H82.out.below hB3 H82.out.lt)
  have HR3 := hid ((HR2.out.below hB3).more hB3.size)
  have HT3 := hid ((HT2.out.below hB3).more hB3.size)
  have hsz3 : w.heap.size + 2 ≤ w3.heap.size := Nat.le_trans hsz2 hB3.size
  clear hB3 hsz2 HB2 H62 H82 HR2 HT2 ho3 HL Hyl
  have HX3 := hid ((HR.out.below HB3.out).more HB3.out.size)
  have hBe := (Below.refl w3.heap.size w3).alloc (Nat.le_refl _) (.cells #[] 5)
  have He := hid (Mem.Own.empty w3 w3.heap.size 5 (fun _ => 0) (Nat.le_refl _))
  have HRe := hid (((HX3.out)).below hBe |>.more hBe.size)
  go_wp2_with (first | (at_builtin; (refine wpl_app_gen rfl _ _ 22 rfl w3.heap.size 5 (.int .u8 0) Tryz.underlying22 info_u8 rfl _ 0 _ rfl He.out A L c _ _ HRe.out HA.out rfl (by omega) (by simp) ?_)))
  intro v4 w4 ho4 hBn
  try rw [Nat.zero_add] at ho4
  have hB4 := hBe.trans hBn
  obtain ⟨A4, c4, rfl, hc4, hn4, -⟩ := ho4.slice'
  clear hBe He HRe hBn
  have HB4 := hid (HB3.out.trans (hB4.mono HB3.out.size))
  have H64 := hid (H63.out.below hB4 H63.out.lt)
  have H84 := hid (H83.out.below hB4 H83.out.lt)
  have HR4 := hid ((HR3.out.below hB4).more hB4.size)
  have HT4 := hid ((HT3.out.below hB4).more hB4.size)
  have HD4 := hid ((HD3.out.below hB4).more hB4.size)
  have hsz4 : w.heap.size + 2 ≤ w4.heap.size := Nat.le_trans hsz3 hB4.size
  have HC4 : Hid (Reads w4 w4.heap.size A4 L t) := hid (ho4.reads.ext (fun i hi => by unfold cat; simp))
  have HX4 := hid ((HR.out.below HB4.out).more HB4.out.size)
  clear hB4 hsz3 HB3 H63 H83 HR3 HT3 HD3 ho4 HX3
  have hs83 := Hsz.out
  by_cases hw : wh (sz k) L
  ·obtain ⟨q, hq⟩ : ∃ q, q = L - sz k := ⟨_, rfl⟩
   have hnL : 0 < L ∧ sz k ≤ L := by
    obtain ⟨h1, h2⟩ := hw
    have := Nat.le_of_dvd (by omega) (Nat.dvd_of_mod_eq_zero h2)
    omega
   have hq2 : L = q + sz k := by omega
   have HMQ := hid hq2
   clear hq2
   obtain ⟨ff, hff⟩ : ∃ ff, ff = t := ⟨_, rfl⟩
   have HMN : Hid (L = mtB (sz k) L * sz k) := hid (by rw [← mtN_eq]; unfold mtN; rw [if_pos hw])
   have HF : Hid (mtF (sz k) L t (dbl (sz k) y) = cat q ff (xr (fun i => ff (q + i)) (dbl (sz k) y))) := hid (by unfold mtF; rw [if_pos hw, hff, hq])
   have Hff : Hid (∀ i, i < L → ff i < 256) := hid (by rw [hff]; exact Ht.out)
   obtain ⟨ad, rfl, -⟩ := HC4.out hnL.1
   have HT4x : Hid (Reads w4 w4.heap.size (some ad) L ff) := hid (by rw [hff]; exact HC4.out)
   have hcw : ¬ (((L : Int) == 0) = true ∨ 0 < (L : Int) % (sz k : Int)) := by
    obtain ⟨h1, h2⟩ := hw
    rintro (h | h)
    ·simp at h; omega
    rw [← Int.natCast_emod, h2] at h; simp at h
   clear hw HC4 HX4 hff hq
   go_wp2_with (with_reducible refine wpl_val rfl _ (exec_cutLZ _ _ rfl ad L c4 q (sz k) _ rfl rfl (by have := HMQ.out; omega) HMQ.out hs1 hc4) ?_)
   clear hcw
   have hqM : q ≤ L := by have := HMQ.out; omega
   have hMc : L ≤ c4 := by omega
   have hqc2 : ¬ c4 = q := by have := HMQ.out; omega
   have hqc : q ≤ c4 := by omega
   have Hmqs : Hid (L - q = sz k) := hid (by have := HMQ.out; omega)
   have HqM : Hid (∀ i, i < sz k → q + i < L) := hid (fun i hi => by have := HMQ.out; omega)
   have hM1 : L ≤ 1000 := by omega
   have hM2 : q + sz k ≤ 1000000 := by have := HMQ.out; omega
   have hqI : ((L : Nat) : Int) - ((sz k : Nat) : Int) = (q : Int) := by have := HMQ.out; omega
   have HqI := hid hqI
   clear hqI
   have HXc := hid (show Reads w4 w4.heap.size (some (ad.add q)) (sz k) (fun i => ff (q + i)) from by
    have h := (HT4x.out).cut (k := q) (cap := c4) hqM hMc
    rw [if_neg hqc2, Hmqs.out] at h
    exact h)
   refine (rxor_any (some (ad.add q)) A3 (sz k) (c4 - q) c3 (fun i => ff (q + i)) (dbl (sz k) y) _ (by omega) (fun i hi => Hff.out _ (HqM.out i hi)) Hdb.out HXc.out HD4.out).mono ?_
   rintro e w5 ⟨v5, rfl, ho5, hB5⟩
   obtain ⟨A5, c5, rfl, hc5, hn5, -⟩ := ho5.slice'
   have HB5 := hid (HB4.out.trans (hB5.mono HB4.out.size))
   have H65 := hid (H64.out.below hB5 H64.out.lt)
   have H85 := hid (H84.out.below hB5 H84.out.lt)
   have HR5 := hid ((HR4.out.below hB5).more hB5.size)
   have HT5 := hid ((HT4.out.below hB5).more hB5.size)
   have hsz5 : w.heap.size + 2 ≤ w5.heap.size := Nat.le_trans hsz4 hB5.size
   have HU5 := hid ((HT4x.out.below hB5).more hB5.size)
   have HV5 := hid ho5.reads
   clear hB5 hsz4 HB4 H64 H84 HR4 HT4 ho5 HXc HD4 HT4x
   have hBe := (Below.refl w5.heap.size w5).alloc (Nat.le_refl _) (.cells #[] 5)
   have He := hid (Mem.Own.empty w5 w5.heap.size 5 (fun _ => 0) (Nat.le_refl _))
   have HRe := hid (((HU5.out.less (hqM)).below hBe).more hBe.size)
   go_wp2_with (first | (with_reducible refine wpl_val rfl _ (exec_cutHZ _ _ rfl ad L c4 q _ rfl rfl HqI.out hqc) ?_) | (at_builtin; (refine wpl_app_gen rfl _ _ 22 rfl w5.heap.size 5 (.int .u8 0) Tryz.underlying22 info_u8 rfl _ 0 _ rfl He.out (some ad) q c4 _ _ HRe.out (fun h => by cases h) rfl (by omega) (by simp) ?_)))
   intro v6 w6 ho6 hBn
   try rw [Nat.zero_add] at ho6
   have hB6 := hBe.trans hBn
   clear hBe He HRe hBn
   have Ho6 := hid ho6
   have HV6 := hid ((HV5.out.below hB6).more hB6.size)
   have hs12 : w5.heap.size ≤ w6.heap.size := hB6.size
   have HBx := hid hB6
   clear hB6 ho6 HV5 HU5
   go_wp2_with (at_builtin; (refine wpl_app_gen rfl _ _ 22 rfl w5.heap.size 5 (.int .u8 0) Tryz.underlying22 info_u8 rfl _ q _ rfl Ho6.out A5 (sz k) c5 _ _ HV6.out hn5 rfl hM2 hs12 ?_))
   intro v7 w7 ho7 hBn
   have hB7 := HBx.out.trans hBn
   rw [← HMQ.out] at ho7
   obtain ⟨A7, c7, rfl, hc7, hn7, -⟩ := ho7.slice'
   clear hBn HBx Ho6 HV6
   have HB7 := hid (HB5.out.trans (hB7.mono HB5.out.size))
   have H67 := hid (H65.out.below hB7 H65.out.lt)
   have H87 := hid (H85.out.below hB7 H85.out.lt)
   have HR7 := hid ((HR5.out.below hB7).more hB7.size)
   have HT7 := hid ((HT5.out.below hB7).more hB7.size)
   have hsz7 : w.heap.size + 2 ≤ w7.heap.size := Nat.le_trans hsz5 hB7.size
   have HT7x : Hid (Reads w7 w7.heap.size A7 L (mtF (sz k) L t (dbl (sz k) y))) := hid (by rw [HF.out]; exact ho7.reads)
   clear hB7 hsz5 HB5 H65 H85 HR5 HT5 ho7 hs12 HF Hff
   have hxb := hid (mtF_lt (n := sz k) Ht.out (k1 := dbl (sz k) y) Hdb.out)
   have hmn : mtN (sz k) L = L := by rw [mtN_eq, ← HMN.out]
   rw [hmn] at hxb
   clear hmn
   go_wp2_with fail
   apply suff9 (F := Pd p k Lk key (mtF (sz k) L t (dbl (sz k) y)) (mtB (sz k) L) ⟨R1, d1, Mc.zf, fun _ => 0⟩ w.heap.size w7)
   case h1 =>
    intro key9
    refine wp_region_held_drew (S := fun W => KeptS [w.heap.size] w7 W) (by kernel_rfl) (KeptS.of _ (Below.refl _ _).drew) (fun hS0 => ?_)
    have h6d : Blk w7.drew w.heap.size 63 _ := H67.out
    refine ztk (i := 0) (v := .int .i64 (k : Int)) rfl (fun _ _ => exec_move _ rfl _ rfl) hS0 ?_
    (try simp only [Act.put,zza,zzb,zzc,zzd,zze,zzf])
    refine ztk (i := 1) (v := .slice Ak Lk ck) rfl (fun _ _ => exec_move _ rfl _ rfl) hS0 ?_
    (try simp only [Act.put,zza,zzb,zzc,zzd,zze,zzf])
    refine ztk (i := 3) (v := .int .i64 (sz k : Int)) rfl (fun _ _ => exec_move _ rfl _ rfl) hS0 ?_
    (try simp only [Act.put,zza,zzb,zzc,zzd,zze,zzf])
    refine ztk (i := 5) (v := .slice A7 L c7) rfl (fun _ _ => exec_move _ rfl _ rfl) hS0 ?_
    (try simp only [Act.put,zza,zzb,zzc,zzd,zze,zzf])
    refine wpAnyH_ready (rs := [2, 4]) (by kernel_rfl) (by simp) ?_
    refine AllReadyH.cons rfl (fun K hK => ?_) (AllReadyH.cons rfl (fun K hK => ?_) AllReadyH.nil)
    (try simp only [Act.put,zza,zzb,zzc,zzd,zze,zzf])
    refine Eq.mpr (if_pos (by rfl)) ?_
    refine wp_valw2 _ (exec_loadSt 63 _ rfl ⟨w.heap.size, 0, none⟩ rfl 2 _ (cells2 h6d) _ Tryz.underlying63 iRB) ?_
    (try simp only [Act.put,zza,zzb,zzc,zzd,zze,zzf])
    refine hK.out _ _ hS0 (fun hS1 => ?_)
    (try simp only [Act.put,zza,zzb,zzc,zzd,zze,zzf])
    clear hK K
    refine wpAnyH_ready (rs := [4]) (by kernel_rfl) (by simp) (ready_one rfl rfl (fun K hK => ?_))
    (try simp only [Act.put,zza,zzb,zzc,zzd,zze,zzf])
    refine wp_valw2 _ (exec_mk _ _ rfl (sz k) (by omega) rfl rfl) ?_
    (try simp only [Act.put,zza,zzb,zzc,zzd,zze,zzf])
    refine hK.out _ _ (keptS_alloc hS1 _) (fun hS2 => ?_)
    (try simp only [Act.put,zza,zzb,zzc,zzd,zze,zzf])
    rotate_left
    (try simp only [Act.put,zza,zzb,zzc,zzd,zze,zzf])
    refine Eq.mpr (if_pos (by rfl)) ?_
    refine wp_valw2 _ (exec_mk _ _ rfl (sz k) (by omega) rfl rfl) ?_
    (try simp only [Act.put,zza,zzb,zzc,zzd,zze,zzf])
    refine hK.out _ _ (keptS_alloc hS0 _) (fun hS1 => ?_)
    (try simp only [Act.put,zza,zzb,zzc,zzd,zze,zzf])
    clear hK K
    refine wpAnyH_ready (rs := [2]) (by kernel_rfl) (by simp) (ready_one rfl rfl (fun K hK => ?_))
    (try simp only [Act.put,zza,zzb,zzc,zzd,zze,zzf])
    refine wp_valw2 _ (exec_loadSt 63 _ rfl ⟨w.heap.size, 0, none⟩ rfl 2 _ (cells2 (h6d.alloc _)) _ Tryz.underlying63 iRB) ?_
    (try simp only [Act.put,zza,zzb,zzc,zzd,zze,zzf])
    refine hK.out _ _ hS1 (fun hS2 => ?_)
    (try simp only [Act.put,zza,zzb,zzc,zzd,zze,zzf])
    rotate_left
    all_goals
     have hbc : Blk (w7.drew.alloc (.cells (row (sz k) (b8 Mc.zf)) 5)) w.heap.size 63 _ := h6d.alloc _
     have hBw : Below w7.heap.size w7 (w7.drew.alloc (.cells (row (sz k) (b8 Mc.zf)) 5)) := (Below.refl _ _).drew.alloc (Nat.le_refl _) _
     have hzc : Blk (w7.drew.alloc (.cells (row (sz k) (b8 Mc.zf)) 5)) w7.heap.size 5 (row (sz k) (b8 Mc.zf)) := Blk.fresh w7.drew 5 _
     generalize (w7.drew.alloc (.cells (row (sz k) (b8 Mc.zf)) 5)) = wc at hS2 hbc hzc hBw ⊢
     clear hK K hS0 hS1 h6d
     refine wpAnyH_ready (rs := [6]) (by kernel_rfl) (by simp) (AllReadyH.cons rfl (fun K hK => ?_) AllReadyH.nil)
     (try simp only [Act.put,zza,zzb,zzc,zzd,zze,zzf])
     refine Eq.mpr (if_pos (by rfl)) ?_
     go_simp
     refine (rmode_forth p k d1 Lk R1 Ar2 cr2 At2 ct2 Ak ck key (some ⟨w7.heap.size, 0, none⟩) (sz k) Mc.zf A7 L c7 (mtB (sz k) L) _ wc hf hDo HI1.out ((HR7.out.below hBw).more hBw.size) ((HT7.out.below hBw).more hBw.size) hct2 (by have := Hlen.out; omega) ((HK.out.below (HB7.out.trans (hBw.mono HB7.out.size))).more (HB7.out.trans (hBw.mono HB7.out.size)).size) Hkb.out HAr2.out HMN.out (by omega) hc7 hxb.out ((HT7x.out.below hBw).more hBw.size) (Mc.zf_lt _) (Blk.reads hzc)).mono ?_
     rintro e w3x hRM
     obtain ⟨hB3, bA, bn, bc, tA, tn, tc, v3x, z3, rfl, hp⟩ := pd_of hS2 hbc hRM
     refine hK.out _ _ (hS2.trans (KeptS.of _ hB3)) (fun hS3 => ?_)
     (try simp only [Act.put,zza,zzb,zzc,zzd,zze,zzf])
     clear hK K hRM
     refine ztk (i := 7) (v := .tuple #[.agg (row 2 (bookC (.slice bA bn bc) (.slice tA tn tc))), v3x, .int .i64 z3]) rfl (fun _ _ => exec_move _ rfl _ rfl) hS3 ?_
     (try simp only [Act.put,zza,zzb,zzc,zzd,zze,zzf])
     refine ztk (i := 8) (v := .agg (row 2 (bookC (.slice bA bn bc) (.slice tA tn tc)))) rfl (fun _ _ => exec_extract _ 0 rfl _ rfl _ rfl) hS3 ?_
     (try simp only [Act.put,zza,zzb,zzc,zzd,zze,zzf])
     refine ztk (i := 9) (v := v3x) rfl (fun _ _ => exec_extract _ 1 rfl _ rfl _ rfl) hS3 ?_
     (try simp only [Act.put,zza,zzb,zzc,zzd,zze,zzf])
     refine ztk (i := 10) (v := .int .i64 z3) rfl (fun _ _ => exec_extract _ 2 rfl _ rfl _ rfl) hS3 ?_
     (try simp only [Act.put,zza,zzb,zzc,zzd,zze,zzf])
     have hqb := hbc.below hB3 hbc.lt
     refine wpAnyH_ready (rs := [11]) (by kernel_rfl) (by simp) (ready_one rfl rfl (fun K hK => ?_))
     (try simp only [Act.put,zza,zzb,zzc,zzd,zze,zzf])
     with_reducible refine wp_store_blk 63 _ _ rfl w.heap.size (row 2 (bookC (.slice bA bn bc) (.slice tA tn tc))) rfl rfl 63 _ hqb (iRB' _) (by simp [row_size]) (one2 _ _ _ _ _ _) ?_
     (try simp only [Act.put,zza,zzb,zzc,zzd,zze,zzf])
     refine hK.out _ _ (keptS_row hS3 (by simp) _) (fun hSz => ?_)
     (try simp only [Act.put,zza,zzb,zzc,zzd,zze,zzf])
     refine ztk (i := 12) (v := v3x) rfl (fun _ _ => exec_assign _ rfl _ rfl) hSz ?_
     (try simp only [Act.put,zza,zzb,zzc,zzd,zze,zzf])
     refine ztk (i := 13) (v := .int .i64 z3) rfl (fun _ _ => exec_assign _ rfl _ rfl) hSz ?_
     (try simp only [Act.put,zza,zzb,zzc,zzd,zze,zzf])
     refine wpAnyH_done (by kernel_rfl) ?_ _
     clear hK hSz hS2 hS3 hbc hzc hqb hB3 hBw
     generalize w3x.setRow w.heap.size (row 2 (bookC (.slice bA bn bc) (.slice tA tn tc))) = wX at hp ⊢
     exact key9 wX _ _ _ _ _ _ _ _ hp
   intro wE bA bn bc tA tn tc vE zE ⟨hKS, hbE, hres⟩
   try dsimp only
   have HBE := hid (HB7.out.trans (hKS.below (B := w.heap.size) (by simp) (by omega)))
   have H6E := hid hbE
   have H8E := hid (hKS.blk H87.out (by simp))
   have hszE : w.heap.size + 2 ≤ wE.heap.size := Nat.le_trans hsz7 hKS.size
   clear hKS hbE H67 H87 HR7 HT7 HT7x hxb HB7
   rcases hres with ⟨s, hm, rfl, ho⟩ | ⟨hm, hz⟩
   ·rw [← HMN.out] at ho
    obtain ⟨gE, cE, rfl, hcE⟩ := own_at ho (by have := HMQ.out; omega)
    have HoE := hid ho.reads
    have hcE2 : sz k ≤ cE - q := by have := HMQ.out; omega
    have Hm := hid hm
    clear hm ho
    have hqN : q = (mtB (sz k) L - 1) * sz k := by
     have h1 := HMN.out
     have h2 := HMQ.out
     rw [Nat.sub_mul, Nat.one_mul, ← h1]
     omega
    have HrE : Hid (Reads wE wE.heap.size (some (Addr.add ⟨gE, 0, none⟩ q)) (sz k) s.last) := hid (by
     have h := HoE.out.cut (k := q) (cap := cE) hqM hcE
     rw [if_neg (by have := HMQ.out; omega), Hmqs.out] at h
     refine h.ext (fun i hi => ?_)
     rw [hqN]
     exact mAt_last _ mtB_pos Hm.out i hi)
    clear hqN HoE
    go_wp2_with fail
    refine wp_region_held_drew (S := fun W => KeptS [w.heap.size + 1] wE W) (by kernel_rfl) (KeptS.of _ (Below.refl _ _).drew) (fun hS0 => ?_)
    have h8b : Blk wE.drew (w.heap.size + 1) 63 _ := H8E.out
    refine ztk (i := 0) (v := .agg (row 2 (bookC (.slice bA bn bc) (.slice tA tn tc)))) rfl (fun W hW => exec_loadSt 63 _ rfl ⟨w.heap.size, 0, none⟩ rfl 2 _ (cells2 (hW.blk H6E.out (by simp))) _ Tryz.underlying63 iRB) hS0 ?_
    (try simp only [Act.put,zza,zzb,zzc,zzd,zze,zzf])
    refine ztk (i := 1) (v := .slice (some ⟨gE, 0, none⟩) L cE) rfl (fun _ _ => exec_move _ rfl _ rfl) hS0 ?_
    (try simp only [Act.put,zza,zzb,zzc,zzd,zze,zzf])
    refine ztk (i := 2) (v := .slice (some ⟨gE, 0, none⟩) L cE) rfl (fun _ _ => exec_move _ rfl _ rfl) hS0 ?_
    (try simp only [Act.put,zza,zzb,zzc,zzd,zze,zzf])
    refine ztk (i := 3) (v := .int .i64 (L : Int)) rfl (fun W _ => by go_simp) hS0 ?_
    (try simp only [Act.put,zza,zzb,zzc,zzd,zze,zzf])
    refine ztk (i := 4) (v := .int .i64 (sz k : Int)) rfl (fun _ _ => exec_move _ rfl _ rfl) hS0 ?_
    (try simp only [Act.put,zza,zzb,zzc,zzd,zze,zzf])
    refine ztk (i := 5) (v := .int .i64 (q : Int)) rfl (fun _ _ => exec_arith .sub (.inr (.inl rfl)) _ _ _ _ rfl ((L : Nat) : Int) ((sz k : Nat) : Int) rfl rfl (q : Int) HqI.out (by omega) (by omega)) hS0 ?_
    (try simp only [Act.put,zza,zzb,zzc,zzd,zze,zzf])
    refine ztk (i := 6) (v := .slice (some (Addr.add ⟨gE, 0, none⟩ q)) (sz k) (cE - q)) rfl (fun _ _ => exec_cutLZ _ _ rfl ⟨gE, 0, none⟩ L cE q (sz k) _ rfl rfl rfl HMQ.out hs1 hcE) hS0 ?_
    (try simp only [Act.put,zza,zzb,zzc,zzd,zze,zzf])
    refine wpAnyH_ready (rs := [7]) (by kernel_rfl) (by simp) (ready_one rfl rfl (fun K hK => ?_))
    (try simp only [Act.put,zza,zzb,zzc,zzd,zze,zzf])
    with_reducible refine wp_store_blk 63 _ _ rfl (w.heap.size + 1) (row 2 (bookC (.slice bA bn bc) (.slice tA tn tc))) rfl rfl 63 _ h8b (iRB' _) (by simp [row_size]) (one2 _ _ _ _ _ _) ?_
    (try simp only [Act.put,zza,zzb,zzc,zzd,zze,zzf])
    refine hK.out _ _ (keptS_row hS0 (by simp) _) (fun hSz => ?_)
    (try simp only [Act.put,zza,zzb,zzc,zzd,zze,zzf])
    refine ztk (i := 8) (v := .slice (some (Addr.add ⟨gE, 0, none⟩ q)) (sz k) (cE - q)) rfl (fun _ _ => exec_assign _ rfl _ rfl) hSz ?_
    (try simp only [Act.put,zza,zzb,zzc,zzd,zze,zzf])
    refine ztk (i := 9) (v := .bool true) rfl (fun _ _ => exec_assign _ rfl _ rfl) hSz ?_
    (try simp only [Act.put,zza,zzb,zzc,zzd,zze,zzf])
    refine wpAnyH_done (by kernel_rfl) ?_ _
    clear hK
    have hBf : Below w.heap.size w _ := HBE.out.trans (hSz.below (B := w.heap.size) (by simp) (by omega))
    have hrf := reads_book h8b (row 2 (bookC (.slice bA bn bc) (.slice tA tn tc))) (show Reads wE.drew wE.drew.heap.size _ _ _ from HrE.out)
    go_wp2_with fail
    refine ret_row3 Tryz.results31 rfl (w.heap.size + 1) rfl _ rfl _ rfl 63 2 _ (h8b.setRow _) _ Tryz.underlying63 iRB ⟨hBf, _, bkv _ _ _ _ _ _, .inl ⟨s.last, _, _, ?_, rfl, hcE2, hrf⟩⟩
    rw [Hcm.out]
    show (mAt p k Lk key false true (mtF (sz k) L t (dbl (sz k) y)) ⟨R1, d1, Mc.zf, fun _ => 0⟩ (mtB (sz k) L)).map MS.last = _
    rw [Hm.out]
    rfl
   have Hm := hid hm
   clear hm
   go_wp2_with (first | (with_reducible refine wpl_val rfl _ (exec_loadSt 63 _ rfl ⟨w.heap.size, 0, none⟩ rfl 2 _ (cells2 H6E.out) _ Tryz.underlying63 iRB) ?_) | (with_reducible refine wpl_store_blk rfl 63 _ _ rfl (w.heap.size + 1) (row 2 (bookC (.slice bA bn bc) (.slice tA tn tc))) rfl rfl 63 _ H8E.out (iRB' _) (by simp [row_size]) (one2 _ _ _ _ _ _) ?_))
   have hBf := below_setRow' HBE.out (Nat.le_succ w.heap.size) (row 2 (bookC (.slice bA bn bc) (.slice tA tn tc)))
   refine ret_row3 Tryz.results31 rfl (w.heap.size + 1) rfl _ rfl _ rfl 63 2 _ (H8E.out.setRow _) _ Tryz.underlying63 iRB ⟨hBf, _, bkv _ _ _ _ _ _, .inr ⟨?_, rfl⟩⟩
   rw [Hcm.out]
   show (mAt p k Lk key false true (mtF (sz k) L t (dbl (sz k) y)) ⟨R1, d1, Mc.zf, fun _ => 0⟩ (mtB (sz k) L)).map MS.last = _
   rw [Hm.out]
   rfl
  by_cases hl0 : L = 0
  ·subst hl0
   obtain ⟨M, hM⟩ : ∃ M, M = padN 0 (sz k) := ⟨_, rfl⟩
   have hML : M ≤ 0 + sz k := by rw [hM]; exact padN_le
   have hnM : sz k ≤ M := by rw [hM]; unfold padN; exact Nat.le_mul_of_pos_left _ (Nat.succ_pos _)
   obtain ⟨q, hq⟩ : ∃ q, q = M - sz k := ⟨_, rfl⟩
   have HMQ : Hid (M = q + sz k) := hid (by omega)
   obtain ⟨ff, hff⟩ : ∃ ff, ff = padF 0 t := ⟨_, rfl⟩
   have HMN : Hid (M = mtB (sz k) 0 * sz k) := hid (by rw [← mtN_eq]; unfold mtN; rw [if_neg hw]; exact hM)
   have HF : Hid (mtF (sz k) 0 t (dbl (sz k) y) = cat q ff (xr (fun i => ff (q + i)) (dbl (sz k) (dbl (sz k) y)))) := hid (by unfold mtF; rw [if_neg hw, hff, hq, hM])
   have Hff : Hid (∀ i, i < M → ff i < 256) := hid (fun i _ => by rw [hff]; exact padF_lt Ht.out i)
   have Hfe := hid hff
   have HM := hid hM
   have hcw : True := trivial
   clear hw hM hff hq HC4
   go_wp2_with fail
   refine (rdbl_any A3 (sz k) c3 (dbl (sz k) y) _ Hsz.out Hdb.out HD4.out).mono ?_
   rintro e w5 ⟨v5, rfl, ho5, hB5⟩
   obtain ⟨A5, c5, rfl, hc5, -⟩ := ho5.slice'
   have Hd2 : Hid (∀ i, i < sz k → dbl (sz k) (dbl (sz k) y) i < 256) := hid (dbl_lt Hdb.out)
   have HD5 := hid ho5.reads
   have HB5 := hid (HB4.out.trans (hB5.mono HB4.out.size))
   have H65 := hid (H64.out.below hB5 H64.out.lt)
   have H85 := hid (H84.out.below hB5 H84.out.lt)
   have HR5 := hid ((HR4.out.below hB5).more hB5.size)
   have HT5 := hid ((HT4.out.below hB5).more hB5.size)
   have HX5 := hid ((HX4.out.below hB5).more hB5.size)
   have hsz5 : w.heap.size + 2 ≤ w5.heap.size := Nat.le_trans hsz4 hB5.size
   clear hB5 hsz4 HB4 H64 H84 HR4 HT4 HX4 ho5 HD4 hcw
   go_wp2_with fail
   refine (rpad_any A 0 c t (sz k) M _ (by omega) (by omega) (by omega) HM.out (fun h => ⟨rfl, (HA.out h).2⟩) HX5.out).mono ?_
   rintro e w6 ⟨v6, rfl, ho6, hB6⟩
   obtain ⟨A6, c6, rfl, hc6, -⟩ := ho6.slice'
   obtain ⟨ad, rfl, -⟩ := ho6.reads (by omega)
   have HT6x : Hid (Reads w6 w6.heap.size (some ad) M ff) := hid (by rw [Hfe.out]; exact ho6.reads)
   have HB6 := hid (HB5.out.trans (hB6.mono HB5.out.size))
   have H66 := hid (H65.out.below hB6 H65.out.lt)
   have H86 := hid (H85.out.below hB6 H85.out.lt)
   have HR6 := hid ((HR5.out.below hB6).more hB6.size)
   have HT6 := hid ((HT5.out.below hB6).more hB6.size)
   have HD6 := hid ((HD5.out.below hB6).more hB6.size)
   have hsz6 : w.heap.size + 2 ≤ w6.heap.size := Nat.le_trans hsz5 hB6.size
   clear hB6 hsz5 HB5 H65 H85 HR5 HT5 HD5 ho6 HX5
   go_wp2_with (with_reducible refine wpl_val rfl _ (exec_cutLZ _ _ rfl ad M c6 q (sz k) _ rfl rfl (by have := HMQ.out; omega) HMQ.out hs1 hc6) ?_)
   have hqM : q ≤ M := by have := HMQ.out; omega
   have hMc : M ≤ c6 := by omega
   have hqc2 : ¬ c6 = q := by have := HMQ.out; omega
   have hqc : q ≤ c6 := by omega
   have Hmqs : Hid (M - q = sz k) := hid (by have := HMQ.out; omega)
   have HqM : Hid (∀ i, i < sz k → q + i < M) := hid (fun i hi => by have := HMQ.out; omega)
   have hM1 : M ≤ 1000 := by omega
   have hM2 : q + sz k ≤ 1000000 := by have := HMQ.out; omega
   have hqI : ((M : Nat) : Int) - ((sz k : Nat) : Int) = (q : Int) := by have := HMQ.out; omega
   have HqI := hid hqI
   clear hqI
   have HXc := hid (show Reads w6 w6.heap.size (some (ad.add q)) (sz k) (fun i => ff (q + i)) from by
    have h := (HT6x.out).cut (k := q) (cap := c6) hqM hMc
    rw [if_neg hqc2, Hmqs.out] at h
    exact h)
   refine (rxor_any (some (ad.add q)) A5 (sz k) (c6 - q) c5 (fun i => ff (q + i)) (dbl (sz k) (dbl (sz k) y)) _ (by omega) (fun i hi => Hff.out _ (HqM.out i hi)) Hd2.out HXc.out HD6.out).mono ?_
   rintro e w7 ⟨v7, rfl, ho7, hB7⟩
   obtain ⟨A7, c7, rfl, hc7, hn7, -⟩ := ho7.slice'
   have HB7 := hid (HB6.out.trans (hB7.mono HB6.out.size))
   have H67 := hid (H66.out.below hB7 H66.out.lt)
   have H87 := hid (H86.out.below hB7 H86.out.lt)
   have HR7 := hid ((HR6.out.below hB7).more hB7.size)
   have HT7 := hid ((HT6.out.below hB7).more hB7.size)
   have hsz7 : w.heap.size + 2 ≤ w7.heap.size := Nat.le_trans hsz6 hB7.size
   have HU7 := hid ((HT6x.out.below hB7).more hB7.size)
   have HV7 := hid ho7.reads
   clear hB7 hsz6 HB6 H66 H86 HR6 HT6 ho7 HXc HD6 HT6x
   have hBe := (Below.refl w7.heap.size w7).alloc (Nat.le_refl _) (.cells #[] 5)
   have He := hid (Mem.Own.empty w7 w7.heap.size 5 (fun _ => 0) (Nat.le_refl _))
   have HRe := hid (((HU7.out.less (hqM)).below hBe).more hBe.size)
   go_wp2_with (first | (with_reducible refine wpl_val rfl _ (exec_cutHZ _ _ rfl ad M c6 q _ rfl rfl HqI.out hqc) ?_) | (at_builtin; (refine wpl_app_gen rfl _ _ 22 rfl w7.heap.size 5 (.int .u8 0) Tryz.underlying22 info_u8 rfl _ 0 _ rfl He.out (some ad) q c6 _ _ HRe.out (fun h => by cases h) rfl (by omega) (by simp) ?_)))
   intro v8 w8 ho8 hBn
   try rw [Nat.zero_add] at ho8
   have hB8 := hBe.trans hBn
   clear hBe He HRe hBn
   have Ho8 := hid ho8
   have HV8 := hid ((HV7.out.below hB8).more hB8.size)
   have hs12 : w7.heap.size ≤ w8.heap.size := hB8.size
   have HBx := hid hB8
   clear hB8 ho8 HV7 HU7
   go_wp2_with (at_builtin; (refine wpl_app_gen rfl _ _ 22 rfl w7.heap.size 5 (.int .u8 0) Tryz.underlying22 info_u8 rfl _ q _ rfl Ho8.out A7 (sz k) c7 _ _ HV8.out hn7 rfl hM2 hs12 ?_))
   intro v9 w9 ho9 hBn
   have hB9 := HBx.out.trans hBn
   rw [← HMQ.out] at ho9
   obtain ⟨A9, c9, rfl, hc9, hn9, -⟩ := ho9.slice'
   clear hBn HBx Ho8 HV8
   have HB9 := hid (HB7.out.trans (hB9.mono HB7.out.size))
   have H69 := hid (H67.out.below hB9 H67.out.lt)
   have H89 := hid (H87.out.below hB9 H87.out.lt)
   have HR9 := hid ((HR7.out.below hB9).more hB9.size)
   have HT9 := hid ((HT7.out.below hB9).more hB9.size)
   have hsz9 : w.heap.size + 2 ≤ w9.heap.size := Nat.le_trans hsz7 hB9.size
   have HT9x : Hid (Reads w9 w9.heap.size A9 M (mtF (sz k) 0 t (dbl (sz k) y))) := hid (by rw [HF.out]; exact ho9.reads)
   clear hB9 hsz7 HB7 H67 H87 HR7 HT7 ho9 hs12 HF Hff
   have hxb := hid (mtF_lt (n := sz k) Ht.out (k1 := dbl (sz k) y) Hdb.out)
   have hmn : mtN (sz k) 0 = M := by rw [mtN_eq, ← HMN.out]
   rw [hmn] at hxb
   clear hmn
   go_wp2_with fail
   apply suff9 (F := Pd p k Lk key (mtF (sz k) 0 t (dbl (sz k) y)) (mtB (sz k) 0) ⟨R1, d1, Mc.zf, fun _ => 0⟩ w.heap.size w9)
   case h1 =>
    intro key9
    refine wp_region_held_drew (S := fun W => KeptS [w.heap.size] w9 W) (by kernel_rfl) (KeptS.of _ (Below.refl _ _).drew) (fun hS0 => ?_)
    have h6d : Blk w9.drew w.heap.size 63 _ := H69.out
    refine ztk (i := 0) (v := .int .i64 (k : Int)) rfl (fun _ _ => exec_move _ rfl _ rfl) hS0 ?_
    (try simp only [Act.put,zza,zzb,zzc,zzd,zze,zzf])
    refine ztk (i := 1) (v := .slice Ak Lk ck) rfl (fun _ _ => exec_move _ rfl _ rfl) hS0 ?_
    (try simp only [Act.put,zza,zzb,zzc,zzd,zze,zzf])
    refine ztk (i := 3) (v := .int .i64 (sz k : Int)) rfl (fun _ _ => exec_move _ rfl _ rfl) hS0 ?_
    (try simp only [Act.put,zza,zzb,zzc,zzd,zze,zzf])
    refine ztk (i := 5) (v := .slice A9 M c9) rfl (fun _ _ => exec_move _ rfl _ rfl) hS0 ?_
    (try simp only [Act.put,zza,zzb,zzc,zzd,zze,zzf])
    refine wpAnyH_ready (rs := [2, 4]) (by kernel_rfl) (by simp) ?_
    refine AllReadyH.cons rfl (fun K hK => ?_) (AllReadyH.cons rfl (fun K hK => ?_) AllReadyH.nil)
    (try simp only [Act.put,zza,zzb,zzc,zzd,zze,zzf])
    refine Eq.mpr (if_pos (by rfl)) ?_
    refine wp_valw2 _ (exec_loadSt 63 _ rfl ⟨w.heap.size, 0, none⟩ rfl 2 _ (cells2 h6d) _ Tryz.underlying63 iRB) ?_
    (try simp only [Act.put,zza,zzb,zzc,zzd,zze,zzf])
    refine hK.out _ _ hS0 (fun hS1 => ?_)
    (try simp only [Act.put,zza,zzb,zzc,zzd,zze,zzf])
    clear hK K
    refine wpAnyH_ready (rs := [4]) (by kernel_rfl) (by simp) (ready_one rfl rfl (fun K hK => ?_))
    (try simp only [Act.put,zza,zzb,zzc,zzd,zze,zzf])
    refine wp_valw2 _ (exec_mk _ _ rfl (sz k) (by omega) rfl rfl) ?_
    (try simp only [Act.put,zza,zzb,zzc,zzd,zze,zzf])
    refine hK.out _ _ (keptS_alloc hS1 _) (fun hS2 => ?_)
    (try simp only [Act.put,zza,zzb,zzc,zzd,zze,zzf])
    rotate_left
    (try simp only [Act.put,zza,zzb,zzc,zzd,zze,zzf])
    refine Eq.mpr (if_pos (by rfl)) ?_
    refine wp_valw2 _ (exec_mk _ _ rfl (sz k) (by omega) rfl rfl) ?_
    (try simp only [Act.put,zza,zzb,zzc,zzd,zze,zzf])
    refine hK.out _ _ (keptS_alloc hS0 _) (fun hS1 => ?_)
    (try simp only [Act.put,zza,zzb,zzc,zzd,zze,zzf])
    clear hK K
    refine wpAnyH_ready (rs := [2]) (by kernel_rfl) (by simp) (ready_one rfl rfl (fun K hK => ?_))
    (try simp only [Act.put,zza,zzb,zzc,zzd,zze,zzf])
    refine wp_valw2 _ (exec_loadSt 63 _ rfl ⟨w.heap.size, 0, none⟩ rfl 2 _ (cells2 (h6d.alloc _)) _ Tryz.underlying63 iRB) ?_
    (try simp only [Act.put,zza,zzb,zzc,zzd,zze,zzf])
    refine hK.out _ _ hS1 (fun hS2 => ?_)
    (try simp only [Act.put,zza,zzb,zzc,zzd,zze,zzf])
    rotate_left
    all_goals
     have hbc : Blk (w9.drew.alloc (.cells (row (sz k) (b8 Mc.zf)) 5)) w.heap.size 63 _ := h6d.alloc _
     have hBw : Below w9.heap.size w9 (w9.drew.alloc (.cells (row (sz k) (b8 Mc.zf)) 5)) := (Below.refl _ _).drew.alloc (Nat.le_refl _) _
     have hzc : Blk (w9.drew.alloc (.cells (row (sz k) (b8 Mc.zf)) 5)) w9.heap.size 5 (row (sz k) (b8 Mc.zf)) := Blk.fresh w9.drew 5 _
     generalize (w9.drew.alloc (.cells (row (sz k) (b8 Mc.zf)) 5)) = wc at hS2 hbc hzc hBw ⊢
     clear hK K hS0 hS1 h6d
     refine wpAnyH_ready (rs := [6]) (by kernel_rfl) (by simp) (AllReadyH.cons rfl (fun K hK => ?_) AllReadyH.nil)
     (try simp only [Act.put,zza,zzb,zzc,zzd,zze,zzf])
     refine Eq.mpr (if_pos (by rfl)) ?_
     go_simp
     refine (rmode_forth p k d1 Lk R1 Ar2 cr2 At2 ct2 Ak ck key (some ⟨w9.heap.size, 0, none⟩) (sz k) Mc.zf A9 M c9 (mtB (sz k) 0) _ wc hf hDo HI1.out ((HR9.out.below hBw).more hBw.size) ((HT9.out.below hBw).more hBw.size) hct2 (by have := Hlen.out; omega) ((HK.out.below (HB9.out.trans (hBw.mono HB9.out.size))).more (HB9.out.trans (hBw.mono HB9.out.size)).size) Hkb.out HAr2.out HMN.out (by omega) hc9 hxb.out ((HT9x.out.below hBw).more hBw.size) (Mc.zf_lt _) (Blk.reads hzc)).mono ?_
     rintro e w3x hRM
     obtain ⟨hB3, bA, bn, bc, tA, tn, tc, v3x, z3, rfl, hp⟩ := pd_of hS2 hbc hRM
     refine hK.out _ _ (hS2.trans (KeptS.of _ hB3)) (fun hS3 => ?_)
     (try simp only [Act.put,zza,zzb,zzc,zzd,zze,zzf])
     clear hK K hRM
     refine ztk (i := 7) (v := .tuple #[.agg (row 2 (bookC (.slice bA bn bc) (.slice tA tn tc))), v3x, .int .i64 z3]) rfl (fun _ _ => exec_move _ rfl _ rfl) hS3 ?_
     (try simp only [Act.put,zza,zzb,zzc,zzd,zze,zzf])
     refine ztk (i := 8) (v := .agg (row 2 (bookC (.slice bA bn bc) (.slice tA tn tc)))) rfl (fun _ _ => exec_extract _ 0 rfl _ rfl _ rfl) hS3 ?_
     (try simp only [Act.put,zza,zzb,zzc,zzd,zze,zzf])
     refine ztk (i := 9) (v := v3x) rfl (fun _ _ => exec_extract _ 1 rfl _ rfl _ rfl) hS3 ?_
     (try simp only [Act.put,zza,zzb,zzc,zzd,zze,zzf])
     refine ztk (i := 10) (v := .int .i64 z3) rfl (fun _ _ => exec_extract _ 2 rfl _ rfl _ rfl) hS3 ?_
     (try simp only [Act.put,zza,zzb,zzc,zzd,zze,zzf])
     have hqb := hbc.below hB3 hbc.lt
     refine wpAnyH_ready (rs := [11]) (by kernel_rfl) (by simp) (ready_one rfl rfl (fun K hK => ?_))
     (try simp only [Act.put,zza,zzb,zzc,zzd,zze,zzf])
     with_reducible refine wp_store_blk 63 _ _ rfl w.heap.size (row 2 (bookC (.slice bA bn bc) (.slice tA tn tc))) rfl rfl 63 _ hqb (iRB' _) (by simp [row_size]) (one2 _ _ _ _ _ _) ?_
     (try simp only [Act.put,zza,zzb,zzc,zzd,zze,zzf])
     refine hK.out _ _ (keptS_row hS3 (by simp) _) (fun hSz => ?_)
     (try simp only [Act.put,zza,zzb,zzc,zzd,zze,zzf])
     refine ztk (i := 12) (v := v3x) rfl (fun _ _ => exec_assign _ rfl _ rfl) hSz ?_
     (try simp only [Act.put,zza,zzb,zzc,zzd,zze,zzf])
     refine ztk (i := 13) (v := .int .i64 z3) rfl (fun _ _ => exec_assign _ rfl _ rfl) hSz ?_
     (try simp only [Act.put,zza,zzb,zzc,zzd,zze,zzf])
     refine wpAnyH_done (by kernel_rfl) ?_ _
     clear hK hSz hS2 hS3 hbc hzc hqb hB3 hBw
     generalize w3x.setRow w.heap.size (row 2 (bookC (.slice bA bn bc) (.slice tA tn tc))) = wX at hp ⊢
     exact key9 wX _ _ _ _ _ _ _ _ hp
   intro wE bA bn bc tA tn tc vE zE ⟨hKS, hbE, hres⟩
   try dsimp only
   have HBE := hid (HB9.out.trans (hKS.below (B := w.heap.size) (by simp) (by omega)))
   have H6E := hid hbE
   have H8E := hid (hKS.blk H89.out (by simp))
   have hszE : w.heap.size + 2 ≤ wE.heap.size := Nat.le_trans hsz9 hKS.size
   clear hKS hbE H69 H89 HR9 HT9 HT9x hxb HB9
   rcases hres with ⟨s, hm, rfl, ho⟩ | ⟨hm, hz⟩
   ·rw [← HMN.out] at ho
    obtain ⟨gE, cE, rfl, hcE⟩ := own_at ho (by have := HMQ.out; omega)
    have HoE := hid ho.reads
    have hcE2 : sz k ≤ cE - q := by have := HMQ.out; omega
    have Hm := hid hm
    clear hm ho
    have hqN : q = (mtB (sz k) 0 - 1) * sz k := by
     have h1 := HMN.out
     have h2 := HMQ.out
     rw [Nat.sub_mul, Nat.one_mul, ← h1]
     omega
    have HrE : Hid (Reads wE wE.heap.size (some (Addr.add ⟨gE, 0, none⟩ q)) (sz k) s.last) := hid (by
     have h := HoE.out.cut (k := q) (cap := cE) hqM hcE
     rw [if_neg (by have := HMQ.out; omega), Hmqs.out] at h
     refine h.ext (fun i hi => ?_)
     rw [hqN]
     exact mAt_last _ mtB_pos Hm.out i hi)
    clear hqN HoE
    go_wp2_with fail
    refine wp_region_held_drew (S := fun W => KeptS [w.heap.size + 1] wE W) (by kernel_rfl) (KeptS.of _ (Below.refl _ _).drew) (fun hS0 => ?_)
    have h8b : Blk wE.drew (w.heap.size + 1) 63 _ := H8E.out
    refine ztk (i := 0) (v := .agg (row 2 (bookC (.slice bA bn bc) (.slice tA tn tc)))) rfl (fun W hW => exec_loadSt 63 _ rfl ⟨w.heap.size, 0, none⟩ rfl 2 _ (cells2 (hW.blk H6E.out (by simp))) _ Tryz.underlying63 iRB) hS0 ?_
    (try simp only [Act.put,zza,zzb,zzc,zzd,zze,zzf])
    refine ztk (i := 1) (v := .slice (some ⟨gE, 0, none⟩) M cE) rfl (fun _ _ => exec_move _ rfl _ rfl) hS0 ?_
    (try simp only [Act.put,zza,zzb,zzc,zzd,zze,zzf])
    refine ztk (i := 2) (v := .slice (some ⟨gE, 0, none⟩) M cE) rfl (fun _ _ => exec_move _ rfl _ rfl) hS0 ?_
    (try simp only [Act.put,zza,zzb,zzc,zzd,zze,zzf])
    refine ztk (i := 3) (v := .int .i64 (M : Int)) rfl (fun W _ => by go_simp) hS0 ?_
    (try simp only [Act.put,zza,zzb,zzc,zzd,zze,zzf])
    refine ztk (i := 4) (v := .int .i64 (sz k : Int)) rfl (fun _ _ => exec_move _ rfl _ rfl) hS0 ?_
    (try simp only [Act.put,zza,zzb,zzc,zzd,zze,zzf])
    refine ztk (i := 5) (v := .int .i64 (q : Int)) rfl (fun _ _ => exec_arith .sub (.inr (.inl rfl)) _ _ _ _ rfl ((M : Nat) : Int) ((sz k : Nat) : Int) rfl rfl (q : Int) HqI.out (by omega) (by omega)) hS0 ?_
    (try simp only [Act.put,zza,zzb,zzc,zzd,zze,zzf])
    refine ztk (i := 6) (v := .slice (some (Addr.add ⟨gE, 0, none⟩ q)) (sz k) (cE - q)) rfl (fun _ _ => exec_cutLZ _ _ rfl ⟨gE, 0, none⟩ M cE q (sz k) _ rfl rfl rfl HMQ.out hs1 hcE) hS0 ?_
    (try simp only [Act.put,zza,zzb,zzc,zzd,zze,zzf])
    refine wpAnyH_ready (rs := [7]) (by kernel_rfl) (by simp) (ready_one rfl rfl (fun K hK => ?_))
    (try simp only [Act.put,zza,zzb,zzc,zzd,zze,zzf])
    with_reducible refine wp_store_blk 63 _ _ rfl (w.heap.size + 1) (row 2 (bookC (.slice bA bn bc) (.slice tA tn tc))) rfl rfl 63 _ h8b (iRB' _) (by simp [row_size]) (one2 _ _ _ _ _ _) ?_
    (try simp only [Act.put,zza,zzb,zzc,zzd,zze,zzf])
    refine hK.out _ _ (keptS_row hS0 (by simp) _) (fun hSz => ?_)
    (try simp only [Act.put,zza,zzb,zzc,zzd,zze,zzf])
    refine ztk (i := 8) (v := .slice (some (Addr.add ⟨gE, 0, none⟩ q)) (sz k) (cE - q)) rfl (fun _ _ => exec_assign _ rfl _ rfl) hSz ?_
    (try simp only [Act.put,zza,zzb,zzc,zzd,zze,zzf])
    refine ztk (i := 9) (v := .bool true) rfl (fun _ _ => exec_assign _ rfl _ rfl) hSz ?_
    (try simp only [Act.put,zza,zzb,zzc,zzd,zze,zzf])
    refine wpAnyH_done (by kernel_rfl) ?_ _
    clear hK
    have hBf : Below w.heap.size w _ := HBE.out.trans (hSz.below (B := w.heap.size) (by simp) (by omega))
    have hrf := reads_book h8b (row 2 (bookC (.slice bA bn bc) (.slice tA tn tc))) (show Reads wE.drew wE.drew.heap.size _ _ _ from HrE.out)
    go_wp2_with fail
    refine ret_row3 Tryz.results31 rfl (w.heap.size + 1) rfl _ rfl _ rfl 63 2 _ (h8b.setRow _) _ Tryz.underlying63 iRB ⟨hBf, _, bkv _ _ _ _ _ _, .inl ⟨s.last, _, _, ?_, rfl, hcE2, hrf⟩⟩
    rw [Hcm.out]
    show (mAt p k Lk key false true (mtF (sz k) 0 t (dbl (sz k) y)) ⟨R1, d1, Mc.zf, fun _ => 0⟩ (mtB (sz k) 0)).map MS.last = _
    rw [Hm.out]
    rfl
   have Hm := hid hm
   clear hm
   go_wp2_with (first | (with_reducible refine wpl_val rfl _ (exec_loadSt 63 _ rfl ⟨w.heap.size, 0, none⟩ rfl 2 _ (cells2 H6E.out) _ Tryz.underlying63 iRB) ?_) | (with_reducible refine wpl_store_blk rfl 63 _ _ rfl (w.heap.size + 1) (row 2 (bookC (.slice bA bn bc) (.slice tA tn tc))) rfl rfl 63 _ H8E.out (iRB' _) (by simp [row_size]) (one2 _ _ _ _ _ _) ?_))
   have hBf := below_setRow' HBE.out (Nat.le_succ w.heap.size) (row 2 (bookC (.slice bA bn bc) (.slice tA tn tc)))
   refine ret_row3 Tryz.results31 rfl (w.heap.size + 1) rfl _ rfl _ rfl 63 2 _ (H8E.out.setRow _) _ Tryz.underlying63 iRB ⟨hBf, _, bkv _ _ _ _ _ _, .inr ⟨?_, rfl⟩⟩
   rw [Hcm.out]
   show (mAt p k Lk key false true (mtF (sz k) 0 t (dbl (sz k) y)) ⟨R1, d1, Mc.zf, fun _ => 0⟩ (mtB (sz k) 0)).map MS.last = _
   rw [Hm.out]
   rfl
  obtain ⟨M, hM⟩ : ∃ M, M = padN L (sz k) := ⟨_, rfl⟩
  have hML : M ≤ L + sz k := by rw [hM]; exact padN_le
  have hnM : sz k ≤ M := by rw [hM]; unfold padN; exact Nat.le_mul_of_pos_left _ (Nat.succ_pos _)
  obtain ⟨q, hq⟩ : ∃ q, q = M - sz k := ⟨_, rfl⟩
  have HMQ : Hid (M = q + sz k) := hid (by omega)
  obtain ⟨ff, hff⟩ : ∃ ff, ff = padF L t := ⟨_, rfl⟩
  have HMN : Hid (M = mtB (sz k) L * sz k) := hid (by rw [← mtN_eq]; unfold mtN; rw [if_neg hw]; exact hM)
  have HF : Hid (mtF (sz k) L t (dbl (sz k) y) = cat q ff (xr (fun i => ff (q + i)) (dbl (sz k) (dbl (sz k) y)))) := hid (by unfold mtF; rw [if_neg hw, hff, hq, hM])
  have Hff : Hid (∀ i, i < M → ff i < 256) := hid (fun i _ => by rw [hff]; exact padF_lt Ht.out i)
  have Hfe := hid hff
  have HM := hid hM
  have hcw : 0 < (L : Int) % (sz k : Int) := by
   have h2 : L % sz k ≠ 0 := fun h => hw ⟨hl0, h⟩
   rw [← Int.natCast_emod]
   omega
  have hl1I : ¬ (L : Int) = 0 := by omega
  clear hw hM hff hq HC4 hl0
  go_wp2_with fail
  refine (rdbl_any A3 (sz k) c3 (dbl (sz k) y) _ Hsz.out Hdb.out HD4.out).mono ?_
  rintro e w5 ⟨v5, rfl, ho5, hB5⟩
  obtain ⟨A5, c5, rfl, hc5, -⟩ := ho5.slice'
  have Hd2 : Hid (∀ i, i < sz k → dbl (sz k) (dbl (sz k) y) i < 256) := hid (dbl_lt Hdb.out)
  have HD5 := hid ho5.reads
  have HB5 := hid (HB4.out.trans (hB5.mono HB4.out.size))
  have H65 := hid (H64.out.below hB5 H64.out.lt)
  have H85 := hid (H84.out.below hB5 H84.out.lt)
  have HR5 := hid ((HR4.out.below hB5).more hB5.size)
  have HT5 := hid ((HT4.out.below hB5).more hB5.size)
  have HX5 := hid ((HX4.out.below hB5).more hB5.size)
  have hsz5 : w.heap.size + 2 ≤ w5.heap.size := Nat.le_trans hsz4 hB5.size
  clear hB5 hsz4 HB4 H64 H84 HR4 HT4 HX4 ho5 HD4 hcw
  go_wp2_with fail
  refine (rpad_any A L c t (sz k) M _ (by omega) (by omega) (by omega) HM.out HA.out HX5.out).mono ?_
  rintro e w6 ⟨v6, rfl, ho6, hB6⟩
  obtain ⟨A6, c6, rfl, hc6, -⟩ := ho6.slice'
  obtain ⟨ad, rfl, -⟩ := ho6.reads (by omega)
  have HT6x : Hid (Reads w6 w6.heap.size (some ad) M ff) := hid (by rw [Hfe.out]; exact ho6.reads)
  have HB6 := hid (HB5.out.trans (hB6.mono HB5.out.size))
  have H66 := hid (H65.out.below hB6 H65.out.lt)
  have H86 := hid (H85.out.below hB6 H85.out.lt)
  have HR6 := hid ((HR5.out.below hB6).more hB6.size)
  have HT6 := hid ((HT5.out.below hB6).more hB6.size)
  have HD6 := hid ((HD5.out.below hB6).more hB6.size)
  have hsz6 : w.heap.size + 2 ≤ w6.heap.size := Nat.le_trans hsz5 hB6.size
  clear hB6 hsz5 HB5 H65 H85 HR5 HT5 HD5 ho6 HX5
  go_wp2_with (with_reducible refine wpl_val rfl _ (exec_cutLZ _ _ rfl ad M c6 q (sz k) _ rfl rfl (by have := HMQ.out; omega) HMQ.out hs1 hc6) ?_)
  have hqM : q ≤ M := by have := HMQ.out; omega
  have hMc : M ≤ c6 := by omega
  have hqc2 : ¬ c6 = q := by have := HMQ.out; omega
  have hqc : q ≤ c6 := by omega
  have Hmqs : Hid (M - q = sz k) := hid (by have := HMQ.out; omega)
  have HqM : Hid (∀ i, i < sz k → q + i < M) := hid (fun i hi => by have := HMQ.out; omega)
  have hM1 : M ≤ 1000 := by omega
  have hM2 : q + sz k ≤ 1000000 := by have := HMQ.out; omega
  have hqI : ((M : Nat) : Int) - ((sz k : Nat) : Int) = (q : Int) := by have := HMQ.out; omega
  have HqI := hid hqI
  clear hqI
  have HXc := hid (show Reads w6 w6.heap.size (some (ad.add q)) (sz k) (fun i => ff (q + i)) from by
   have h := (HT6x.out).cut (k := q) (cap := c6) hqM hMc
   rw [if_neg hqc2, Hmqs.out] at h
   exact h)
  refine (rxor_any (some (ad.add q)) A5 (sz k) (c6 - q) c5 (fun i => ff (q + i)) (dbl (sz k) (dbl (sz k) y)) _ (by omega) (fun i hi => Hff.out _ (HqM.out i hi)) Hd2.out HXc.out HD6.out).mono ?_
  rintro e w7 ⟨v7, rfl, ho7, hB7⟩
  obtain ⟨A7, c7, rfl, hc7, hn7, -⟩ := ho7.slice'
  have HB7 := hid (HB6.out.trans (hB7.mono HB6.out.size))
  have H67 := hid (H66.out.below hB7 H66.out.lt)
  have H87 := hid (H86.out.below hB7 H86.out.lt)
  have HR7 := hid ((HR6.out.below hB7).more hB7.size)
  have HT7 := hid ((HT6.out.below hB7).more hB7.size)
  have hsz7 : w.heap.size + 2 ≤ w7.heap.size := Nat.le_trans hsz6 hB7.size
  have HU7 := hid ((HT6x.out.below hB7).more hB7.size)
  have HV7 := hid ho7.reads
  clear hB7 hsz6 HB6 H66 H86 HR6 HT6 ho7 HXc HD6 HT6x
  have hBe := (Below.refl w7.heap.size w7).alloc (Nat.le_refl _) (.cells #[] 5)
  have He := hid (Mem.Own.empty w7 w7.heap.size 5 (fun _ => 0) (Nat.le_refl _))
  have HRe := hid (((HU7.out.less (hqM)).below hBe).more hBe.size)
  go_wp2_with (first | (with_reducible refine wpl_val rfl _ (exec_cutHZ _ _ rfl ad M c6 q _ rfl rfl HqI.out hqc) ?_) | (at_builtin; (refine wpl_app_gen rfl _ _ 22 rfl w7.heap.size 5 (.int .u8 0) Tryz.underlying22 info_u8 rfl _ 0 _ rfl He.out (some ad) q c6 _ _ HRe.out (fun h => by cases h) rfl (by omega) (by simp) ?_)))
  intro v8 w8 ho8 hBn
  try rw [Nat.zero_add] at ho8
  have hB8 := hBe.trans hBn
  clear hBe He HRe hBn
  have Ho8 := hid ho8
  have HV8 := hid ((HV7.out.below hB8).more hB8.size)
  have hs12 : w7.heap.size ≤ w8.heap.size := hB8.size
  have HBx := hid hB8
  clear hB8 ho8 HV7 HU7
  go_wp2_with (at_builtin; (refine wpl_app_gen rfl _ _ 22 rfl w7.heap.size 5 (.int .u8 0) Tryz.underlying22 info_u8 rfl _ q _ rfl Ho8.out A7 (sz k) c7 _ _ HV8.out hn7 rfl hM2 hs12 ?_))
  intro v9 w9 ho9 hBn
  have hB9 := HBx.out.trans hBn
  rw [← HMQ.out] at ho9
  obtain ⟨A9, c9, rfl, hc9, hn9, -⟩ := ho9.slice'
  clear hBn HBx Ho8 HV8
  have HB9 := hid (HB7.out.trans (hB9.mono HB7.out.size))
  have H69 := hid (H67.out.below hB9 H67.out.lt)
  have H89 := hid (H87.out.below hB9 H87.out.lt)
  have HR9 := hid ((HR7.out.below hB9).more hB9.size)
  have HT9 := hid ((HT7.out.below hB9).more hB9.size)
  have hsz9 : w.heap.size + 2 ≤ w9.heap.size := Nat.le_trans hsz7 hB9.size
  have HT9x : Hid (Reads w9 w9.heap.size A9 M (mtF (sz k) L t (dbl (sz k) y))) := hid (by rw [HF.out]; exact ho9.reads)
  clear hB9 hsz7 HB7 H67 H87 HR7 HT7 ho9 hs12 HF Hff
  have hxb := hid (mtF_lt (n := sz k) Ht.out (k1 := dbl (sz k) y) Hdb.out)
  have hmn : mtN (sz k) L = M := by rw [mtN_eq, ← HMN.out]
  rw [hmn] at hxb
  clear hmn
  go_wp2_with fail
  apply suff9 (F := Pd p k Lk key (mtF (sz k) L t (dbl (sz k) y)) (mtB (sz k) L) ⟨R1, d1, Mc.zf, fun _ => 0⟩ w.heap.size w9)
  case h1 =>
   intro key9
   refine wp_region_held_drew (S := fun W => KeptS [w.heap.size] w9 W) (by kernel_rfl) (KeptS.of _ (Below.refl _ _).drew) (fun hS0 => ?_)
   have h6d : Blk w9.drew w.heap.size 63 _ := H69.out
   refine ztk (i := 0) (v := .int .i64 (k : Int)) rfl (fun _ _ => exec_move _ rfl _ rfl) hS0 ?_
   (try simp only [Act.put,zza,zzb,zzc,zzd,zze,zzf])
   refine ztk (i := 1) (v := .slice Ak Lk ck) rfl (fun _ _ => exec_move _ rfl _ rfl) hS0 ?_
   (try simp only [Act.put,zza,zzb,zzc,zzd,zze,zzf])
   refine ztk (i := 3) (v := .int .i64 (sz k : Int)) rfl (fun _ _ => exec_move _ rfl _ rfl) hS0 ?_
   (try simp only [Act.put,zza,zzb,zzc,zzd,zze,zzf])
   refine ztk (i := 5) (v := .slice A9 M c9) rfl (fun _ _ => exec_move _ rfl _ rfl) hS0 ?_
   (try simp only [Act.put,zza,zzb,zzc,zzd,zze,zzf])
   refine wpAnyH_ready (rs := [2, 4]) (by kernel_rfl) (by simp) ?_
   refine AllReadyH.cons rfl (fun K hK => ?_) (AllReadyH.cons rfl (fun K hK => ?_) AllReadyH.nil)
   (try simp only [Act.put,zza,zzb,zzc,zzd,zze,zzf])
   refine Eq.mpr (if_pos (by rfl)) ?_
   refine wp_valw2 _ (exec_loadSt 63 _ rfl ⟨w.heap.size, 0, none⟩ rfl 2 _ (cells2 h6d) _ Tryz.underlying63 iRB) ?_
   (try simp only [Act.put,zza,zzb,zzc,zzd,zze,zzf])
   refine hK.out _ _ hS0 (fun hS1 => ?_)
   (try simp only [Act.put,zza,zzb,zzc,zzd,zze,zzf])
   clear hK K
   refine wpAnyH_ready (rs := [4]) (by kernel_rfl) (by simp) (ready_one rfl rfl (fun K hK => ?_))
   (try simp only [Act.put,zza,zzb,zzc,zzd,zze,zzf])
   refine wp_valw2 _ (exec_mk _ _ rfl (sz k) (by omega) rfl rfl) ?_
   (try simp only [Act.put,zza,zzb,zzc,zzd,zze,zzf])
   refine hK.out _ _ (keptS_alloc hS1 _) (fun hS2 => ?_)
   (try simp only [Act.put,zza,zzb,zzc,zzd,zze,zzf])
   rotate_left
   (try simp only [Act.put,zza,zzb,zzc,zzd,zze,zzf])
   refine Eq.mpr (if_pos (by rfl)) ?_
   refine wp_valw2 _ (exec_mk _ _ rfl (sz k) (by omega) rfl rfl) ?_
   (try simp only [Act.put,zza,zzb,zzc,zzd,zze,zzf])
   refine hK.out _ _ (keptS_alloc hS0 _) (fun hS1 => ?_)
   (try simp only [Act.put,zza,zzb,zzc,zzd,zze,zzf])
   clear hK K
   refine wpAnyH_ready (rs := [2]) (by kernel_rfl) (by simp) (ready_one rfl rfl (fun K hK => ?_))
   (try simp only [Act.put,zza,zzb,zzc,zzd,zze,zzf])
   refine wp_valw2 _ (exec_loadSt 63 _ rfl ⟨w.heap.size, 0, none⟩ rfl 2 _ (cells2 (h6d.alloc _)) _ Tryz.underlying63 iRB) ?_
   (try simp only [Act.put,zza,zzb,zzc,zzd,zze,zzf])
   refine hK.out _ _ hS1 (fun hS2 => ?_)
   (try simp only [Act.put,zza,zzb,zzc,zzd,zze,zzf])
   rotate_left
   all_goals
    have hbc : Blk (w9.drew.alloc (.cells (row (sz k) (b8 Mc.zf)) 5)) w.heap.size 63 _ := h6d.alloc _
    have hBw : Below w9.heap.size w9 (w9.drew.alloc (.cells (row (sz k) (b8 Mc.zf)) 5)) := (Below.refl _ _).drew.alloc (Nat.le_refl _) _
    have hzc : Blk (w9.drew.alloc (.cells (row (sz k) (b8 Mc.zf)) 5)) w9.heap.size 5 (row (sz k) (b8 Mc.zf)) := Blk.fresh w9.drew 5 _
    generalize (w9.drew.alloc (.cells (row (sz k) (b8 Mc.zf)) 5)) = wc at hS2 hbc hzc hBw ⊢
    clear hK K hS0 hS1 h6d
    refine wpAnyH_ready (rs := [6]) (by kernel_rfl) (by simp) (AllReadyH.cons rfl (fun K hK => ?_) AllReadyH.nil)
    (try simp only [Act.put,zza,zzb,zzc,zzd,zze,zzf])
    refine Eq.mpr (if_pos (by rfl)) ?_
    go_simp
    refine (rmode_forth p k d1 Lk R1 Ar2 cr2 At2 ct2 Ak ck key (some ⟨w9.heap.size, 0, none⟩) (sz k) Mc.zf A9 M c9 (mtB (sz k) L) _ wc hf hDo HI1.out ((HR9.out.below hBw).more hBw.size) ((HT9.out.below hBw).more hBw.size) hct2 (by have := Hlen.out; omega) ((HK.out.below (HB9.out.trans (hBw.mono HB9.out.size))).more (HB9.out.trans (hBw.mono HB9.out.size)).size) Hkb.out HAr2.out HMN.out (by omega) hc9 hxb.out ((HT9x.out.below hBw).more hBw.size) (Mc.zf_lt _) (Blk.reads hzc)).mono ?_
    rintro e w3x hRM
    obtain ⟨hB3, bA, bn, bc, tA, tn, tc, v3x, z3, rfl, hp⟩ := pd_of hS2 hbc hRM
    refine hK.out _ _ (hS2.trans (KeptS.of _ hB3)) (fun hS3 => ?_)
    (try simp only [Act.put,zza,zzb,zzc,zzd,zze,zzf])
    clear hK K hRM
    refine ztk (i := 7) (v := .tuple #[.agg (row 2 (bookC (.slice bA bn bc) (.slice tA tn tc))), v3x, .int .i64 z3]) rfl (fun _ _ => exec_move _ rfl _ rfl) hS3 ?_
    (try simp only [Act.put,zza,zzb,zzc,zzd,zze,zzf])
    refine ztk (i := 8) (v := .agg (row 2 (bookC (.slice bA bn bc) (.slice tA tn tc)))) rfl (fun _ _ => exec_extract _ 0 rfl _ rfl _ rfl) hS3 ?_
    (try simp only [Act.put,zza,zzb,zzc,zzd,zze,zzf])
    refine ztk (i := 9) (v := v3x) rfl (fun _ _ => exec_extract _ 1 rfl _ rfl _ rfl) hS3 ?_
    (try simp only [Act.put,zza,zzb,zzc,zzd,zze,zzf])
    refine ztk (i := 10) (v := .int .i64 z3) rfl (fun _ _ => exec_extract _ 2 rfl _ rfl _ rfl) hS3 ?_
    (try simp only [Act.put,zza,zzb,zzc,zzd,zze,zzf])
    have hqb := hbc.below hB3 hbc.lt
    refine wpAnyH_ready (rs := [11]) (by kernel_rfl) (by simp) (ready_one rfl rfl (fun K hK => ?_))
    (try simp only [Act.put,zza,zzb,zzc,zzd,zze,zzf])
    with_reducible refine wp_store_blk 63 _ _ rfl w.heap.size (row 2 (bookC (.slice bA bn bc) (.slice tA tn tc))) rfl rfl 63 _ hqb (iRB' _) (by simp [row_size]) (one2 _ _ _ _ _ _) ?_
    (try simp only [Act.put,zza,zzb,zzc,zzd,zze,zzf])
    refine hK.out _ _ (keptS_row hS3 (by simp) _) (fun hSz => ?_)
    (try simp only [Act.put,zza,zzb,zzc,zzd,zze,zzf])
    refine ztk (i := 12) (v := v3x) rfl (fun _ _ => exec_assign _ rfl _ rfl) hSz ?_
    (try simp only [Act.put,zza,zzb,zzc,zzd,zze,zzf])
    refine ztk (i := 13) (v := .int .i64 z3) rfl (fun _ _ => exec_assign _ rfl _ rfl) hSz ?_
    (try simp only [Act.put,zza,zzb,zzc,zzd,zze,zzf])
    refine wpAnyH_done (by kernel_rfl) ?_ _
    clear hK hSz hS2 hS3 hbc hzc hqb hB3 hBw
    generalize w3x.setRow w.heap.size (row 2 (bookC (.slice bA bn bc) (.slice tA tn tc))) = wX at hp ⊢
    exact key9 wX _ _ _ _ _ _ _ _ hp
  intro wE bA bn bc tA tn tc vE zE ⟨hKS, hbE, hres⟩
  try dsimp only
  have HBE := hid (HB9.out.trans (hKS.below (B := w.heap.size) (by simp) (by omega)))
  have H6E := hid hbE
  have H8E := hid (hKS.blk H89.out (by simp))
  have hszE : w.heap.size + 2 ≤ wE.heap.size := Nat.le_trans hsz9 hKS.size
  clear hKS hbE H69 H89 HR9 HT9 HT9x hxb HB9
  rcases hres with ⟨s, hm, rfl, ho⟩ | ⟨hm, hz⟩
  ·rw [← HMN.out] at ho
   obtain ⟨gE, cE, rfl, hcE⟩ := own_at ho (by have := HMQ.out; omega)
   have HoE := hid ho.reads
   have hcE2 : sz k ≤ cE - q := by have := HMQ.out; omega
   have Hm := hid hm
   clear hm ho
   have hqN : q = (mtB (sz k) L - 1) * sz k := by
    have h1 := HMN.out
    have h2 := HMQ.out
    rw [Nat.sub_mul, Nat.one_mul, ← h1]
    omega
   have HrE : Hid (Reads wE wE.heap.size (some (Addr.add ⟨gE, 0, none⟩ q)) (sz k) s.last) := hid (by
    have h := HoE.out.cut (k := q) (cap := cE) hqM hcE
    rw [if_neg (by have := HMQ.out; omega), Hmqs.out] at h
    refine h.ext (fun i hi => ?_)
    rw [hqN]
    exact mAt_last _ mtB_pos Hm.out i hi)
   clear hqN HoE
   go_wp2_with fail
   refine wp_region_held_drew (S := fun W => KeptS [w.heap.size + 1] wE W) (by kernel_rfl) (KeptS.of _ (Below.refl _ _).drew) (fun hS0 => ?_)
   have h8b : Blk wE.drew (w.heap.size + 1) 63 _ := H8E.out
   refine ztk (i := 0) (v := .agg (row 2 (bookC (.slice bA bn bc) (.slice tA tn tc)))) rfl (fun W hW => exec_loadSt 63 _ rfl ⟨w.heap.size, 0, none⟩ rfl 2 _ (cells2 (hW.blk H6E.out (by simp))) _ Tryz.underlying63 iRB) hS0 ?_
   (try simp only [Act.put,zza,zzb,zzc,zzd,zze,zzf])
   refine ztk (i := 1) (v := .slice (some ⟨gE, 0, none⟩) M cE) rfl (fun _ _ => exec_move _ rfl _ rfl) hS0 ?_
   (try simp only [Act.put,zza,zzb,zzc,zzd,zze,zzf])
   refine ztk (i := 2) (v := .slice (some ⟨gE, 0, none⟩) M cE) rfl (fun _ _ => exec_move _ rfl _ rfl) hS0 ?_
   (try simp only [Act.put,zza,zzb,zzc,zzd,zze,zzf])
   refine ztk (i := 3) (v := .int .i64 (M : Int)) rfl (fun W _ => by go_simp) hS0 ?_
   (try simp only [Act.put,zza,zzb,zzc,zzd,zze,zzf])
   refine ztk (i := 4) (v := .int .i64 (sz k : Int)) rfl (fun _ _ => exec_move _ rfl _ rfl) hS0 ?_
   (try simp only [Act.put,zza,zzb,zzc,zzd,zze,zzf])
   refine ztk (i := 5) (v := .int .i64 (q : Int)) rfl (fun _ _ => exec_arith .sub (.inr (.inl rfl)) _ _ _ _ rfl ((M : Nat) : Int) ((sz k : Nat) : Int) rfl rfl (q : Int) HqI.out (by omega) (by omega)) hS0 ?_
   (try simp only [Act.put,zza,zzb,zzc,zzd,zze,zzf])
   refine ztk (i := 6) (v := .slice (some (Addr.add ⟨gE, 0, none⟩ q)) (sz k) (cE - q)) rfl (fun _ _ => exec_cutLZ _ _ rfl ⟨gE, 0, none⟩ M cE q (sz k) _ rfl rfl rfl HMQ.out hs1 hcE) hS0 ?_
   (try simp only [Act.put,zza,zzb,zzc,zzd,zze,zzf])
   refine wpAnyH_ready (rs := [7]) (by kernel_rfl) (by simp) (ready_one rfl rfl (fun K hK => ?_))
   (try simp only [Act.put,zza,zzb,zzc,zzd,zze,zzf])
   with_reducible refine wp_store_blk 63 _ _ rfl (w.heap.size + 1) (row 2 (bookC (.slice bA bn bc) (.slice tA tn tc))) rfl rfl 63 _ h8b (iRB' _) (by simp [row_size]) (one2 _ _ _ _ _ _) ?_
   (try simp only [Act.put,zza,zzb,zzc,zzd,zze,zzf])
   refine hK.out _ _ (keptS_row hS0 (by simp) _) (fun hSz => ?_)
   (try simp only [Act.put,zza,zzb,zzc,zzd,zze,zzf])
   refine ztk (i := 8) (v := .slice (some (Addr.add ⟨gE, 0, none⟩ q)) (sz k) (cE - q)) rfl (fun _ _ => exec_assign _ rfl _ rfl) hSz ?_
   (try simp only [Act.put,zza,zzb,zzc,zzd,zze,zzf])
   refine ztk (i := 9) (v := .bool true) rfl (fun _ _ => exec_assign _ rfl _ rfl) hSz ?_
   (try simp only [Act.put,zza,zzb,zzc,zzd,zze,zzf])
   refine wpAnyH_done (by kernel_rfl) ?_ _
   clear hK
   have hBf : Below w.heap.size w _ := HBE.out.trans (hSz.below (B := w.heap.size) (by simp) (by omega))
   have hrf := reads_book h8b (row 2 (bookC (.slice bA bn bc) (.slice tA tn tc))) (show Reads wE.drew wE.drew.heap.size _ _ _ from HrE.out)
   go_wp2_with fail
   refine ret_row3 Tryz.results31 rfl (w.heap.size + 1) rfl _ rfl _ rfl 63 2 _ (h8b.setRow _) _ Tryz.underlying63 iRB ⟨hBf, _, bkv _ _ _ _ _ _, .inl ⟨s.last, _, _, ?_, rfl, hcE2, hrf⟩⟩
   rw [Hcm.out]
   show (mAt p k Lk key false true (mtF (sz k) L t (dbl (sz k) y)) ⟨R1, d1, Mc.zf, fun _ => 0⟩ (mtB (sz k) L)).map MS.last = _
   rw [Hm.out]
   rfl
  have Hm := hid hm
  clear hm
  go_wp2_with (first | (with_reducible refine wpl_val rfl _ (exec_loadSt 63 _ rfl ⟨w.heap.size, 0, none⟩ rfl 2 _ (cells2 H6E.out) _ Tryz.underlying63 iRB) ?_) | (with_reducible refine wpl_store_blk rfl 63 _ _ rfl (w.heap.size + 1) (row 2 (bookC (.slice bA bn bc) (.slice tA tn tc))) rfl rfl 63 _ H8E.out (iRB' _) (by simp [row_size]) (one2 _ _ _ _ _ _) ?_))
  have hBf := below_setRow' HBE.out (Nat.le_succ w.heap.size) (row 2 (bookC (.slice bA bn bc) (.slice tA tn tc)))
  refine ret_row3 Tryz.results31 rfl (w.heap.size + 1) rfl _ rfl _ rfl 63 2 _ (H8E.out.setRow _) _ Tryz.underlying63 iRB ⟨hBf, _, bkv _ _ _ _ _ _, .inr ⟨?_, rfl⟩⟩
  rw [Hcm.out]
  show (mAt p k Lk key false true (mtF (sz k) L t (dbl (sz k) y)) ⟨R1, d1, Mc.zf, fun _ => 0⟩ (mtB (sz k) L)).map MS.last = _
  rw [Hm.out]
  rfl
 go_wp2_with (first | (with_reducible refine wpl_val rfl _ (exec_loadSt 63 _ rfl ⟨w.heap.size, 0, none⟩ rfl 2 _ (cells2 H62.out) _ Tryz.underlying63 iRB) ?_) | (with_reducible refine wpl_store_blk rfl 63 _ _ rfl (w.heap.size + 1) (row 2 (bookC (.slice Ar2 R1.length cr2) (.slice At2 (p.n - d1) ct2))) rfl rfl 63 _ H82.out (iRB' _) (by simp [row_size]) (one2 _ _ _ _ _ _) ?_))
 have hBf := below_setRow' HB2.out (Nat.le_succ w.heap.size) (row 2 (bookC (.slice Ar2 R1.length cr2) (.slice At2 (p.n - d1) ct2)))
 refine ret_row3 Tryz.results31 rfl (w.heap.size + 1) rfl _ rfl _ rfl 63 2 _ (H82.out.setRow _) _ Tryz.underlying63 iRB ⟨hBf, _, bkv _ _ _ _ _ _, .inr ⟨Hcm.out, rfl⟩⟩
end Go.Proofs.YteapfdnjbgonmaaGreatDoor.Rc
