/-
 PartMath Part1 Part2 Part3 Ref09 DesZero Law09
-/
import Derived.Test.YtaeleohjikheiaaGreatDoorModeX
import Derived.Test.YtaeleohjikheiaaGreatDoorMac3
import Derived.Test.YtaeleohjikheiaaGreatDoorRef03A
import Derived.Test.YtaeleohjikheiaaGreatDoorDesX
import Derived.Test.YtaeleohjikheiaaGreatDoorSame
import Derived.Test.YtaeleohjikheiaaGreatDoorAsX
/-
 Bytes' parity, and keys put together: the mathematics of layer 9.
-/
namespace Go.Proofs.YtaeleohjikheiaaGreatDoor.Pt
open Mem Md
/-- how many bits are 1, of a byte -/
def pc (b : Nat) : Nat := b % 2 + b / 2 % 2 + b / 4 % 2 + b / 8 % 2 + b / 16 % 2 + b / 32 % 2 + b / 64 % 2 + b / 128 % 2
/-- a byte made odd -/
def od (b : Nat) : Nat := if pc b % 2 = 0 then b ^^^ 1 else b
def odF (f : Nat → Nat) : Nat → Nat := fun i => od (f i)
theorem pc_le (b : Nat) : pc b ≤ 8 := by unfold pc; omega
theorem od_lt : ∀ b, b < 256 → od b < 256 := by decide +kernel
theorem od_odd : ∀ b, b < 256 → pc (od b) % 2 = 1 := by decide +kernel
theorem od_od : ∀ b, b < 256 → od (od b) = od b := by decide +kernel
theorem od_half : ∀ b, b < 256 → od b / 2 = b / 2 := by decide +kernel
theorem od_same : ∀ b, b < 256 → pc b % 2 = 1 → od b = b := fun b _ h => by unfold od; rw [if_neg (by omega)]
theorem od_up : ∀ b, b < 256 → pc b % 2 = 0 → (if b % 2 = 1 then b - 1 else b + 1) = od b := by decide +kernel
theorem half_od : ∀ b, b < 256 → od b = od (b / 2 * 2) := by decide +kernel
theorem od_eq {a b : Nat} (ha : a < 256) (hb : b < 256) : od a = od b ↔ a / 2 = b / 2 := by
 constructor
 ·intro h
  rw [← od_half a ha, ← od_half b hb, h]
 ·intro h
  rw [half_od a ha, half_od b hb, h]
theorem odF_lt {n : Nat} {f : Nat → Nat} (hf : ∀ i, i < n → f i < 256) : ∀ i, i < n → odF f i < 256 := fun i hi => od_lt _ (hf i hi)
/-- all of the first n bytes are odd -/
def AllOdd (n : Nat) (f : Nat → Nat) : Prop := ∀ i, i < n → pc (f i) % 2 = 1
/-- byte i is the first one that isn't -/
def EvenAt (n : Nat) (f : Nat → Nat) (i : Nat) : Prop := i < n ∧ pc (f i) % 2 = 0 ∧ ∀ j, j < i → pc (f j) % 2 = 1
theorem odd_or (f : Nat → Nat) : ∀ n, AllOdd n f ∨ ∃ i, EvenAt n f i
 | 0 => .inl fun i hi => by omega
 | n + 1 => by
  rcases odd_or f n with h | ⟨i, h1, h2, h3⟩
  ·by_cases he : pc (f n) % 2 = 0
   ·exact .inr ⟨n, by omega, he, h⟩
   ·refine .inl fun i hi => ?_
    by_cases hin : i = n
    ·subst hin; omega
    ·exact h i (by omega)
  ·exact .inr ⟨i, by omega, h2, h3⟩
theorem odF_all {n : Nat} {f : Nat → Nat} (hf : ∀ i, i < n → f i < 256) : AllOdd n (odF f) := fun i hi => od_odd _ (hf i hi)
theorem xr_half {a b c : Nat} (ha : a < 256) (hb : b < 256) (hc : c < 256) : od (a ^^^ b) = od (a ^^^ c) ↔ b / 2 = c / 2 := by
 rw [od_eq (Nat.xor_lt_two_pow (n := 8) ha hb) (Nat.xor_lt_two_pow (n := 8) ha hc)]
 have e : ∀ x y : Nat, (x ^^^ y) / 2 = x / 2 ^^^ y / 2 := fun x y => by
  have := Nat.shiftRight_xor_distrib (a := x) (b := y) (i := 1)
  simpa [Nat.shiftRight_eq_div_pow] using this
 rw [e, e]
 constructor
 ·intro h
  have := congrArg (fun z => a / 2 ^^^ z) h
  simpa [← Nat.xor_assoc] using this
 ·intro h; rw [h]
/-- a key's length may be -/
def fit9 (k n : Nat) : Prop := (k = 1 ∨ k = 2) ∧ (n = 16 ∨ n = 24 ∨ (k = 1 ∧ n = 32))
instance (k n : Nat) : Decidable (fit9 k n) := by unfold fit9; infer_instance
end Go.Proofs.YtaeleohjikheiaaGreatDoor.Pt

/-
 What package part's small functions return: isKind, sizeFits, refuse, isEven, Odd, Right.
-/
namespace Go.Proofs.YtaeleohjikheiaaGreatDoor.Pt
open Mem Bk Md Go.ChangeShapes Go.WideShapes Go.ChangeAt Go.RowKit
theorem iskind_yes (k : Nat) (hk : k = 1 ∨ k = 2) (w : World) : Calls Tryz.prog 67 #[.int .i64 (k : Int)] w fun e w' => e = .returned (.bool true) ∧ w' = w := by
 rcases hk with rfl | rfl
 ·go_enter Tryz.func67, Tryz.ntmps67
  go_wp2_with fail
  go_ret
  exact ⟨rfl, rfl⟩
 ·go_enter Tryz.func67, Tryz.ntmps67
  go_wp2_with fail
  go_ret
  exact ⟨rfl, rfl⟩
theorem iskind_no (z : Int) (h1 : z ≠ 1) (h2 : z ≠ 2) (w : World) : Calls Tryz.prog 67 #[.int .i64 z] w fun e w' => e = .returned (.bool false) ∧ w' = w := by
 have e1 : (z == 1) = false := by simp; exact h1
 have e2 : (z == 2) = false := by simp; exact h2
 go_enter Tryz.func67, Tryz.ntmps67
 go_wp2_with fail
 go_ret
 exact ⟨rfl, rfl⟩
theorem sfits_any (k : Nat) (hk : k = 1 ∨ k = 2) (n : Nat) (hn : n ≤ 100000) (w : World) : Calls Tryz.prog 85 #[.int .i64 (k : Int), .int .i64 (n : Int)] w fun e w' => e = .returned (.bool (decide (fit9 k n))) ∧ w' = w := by
 have hc : n = 16 ∨ n = 24 ∨ n = 32 ∨ (n ≠ 16 ∧ n ≠ 24 ∧ n ≠ 32) := by omega
 rcases hk with rfl | rfl
 ·rcases hc with rfl | rfl | rfl | ⟨h1, h2, h3⟩
  ·go_enter Tryz.func85, Tryz.ntmps85
   go_wp2_with fail
   go_ret
   exact ⟨rfl, rfl⟩
  ·go_enter Tryz.func85, Tryz.ntmps85
   go_wp2_with fail
   go_ret
   exact ⟨rfl, rfl⟩
  ·go_enter Tryz.func85, Tryz.ntmps85
   go_wp2_with fail
   go_ret
   exact ⟨rfl, rfl⟩
  ·have e1 : ((n : Int) == 16) = false := by simp; omega
   have e2 : ((n : Int) == 24) = false := by simp; omega
   have e3 : ((n : Int) == 32) = false := by simp; omega
   have e : decide (fit9 1 n) = false := by unfold fit9; simp; omega
   rw [e]
   clear e h1 h2 h3
   go_enter Tryz.func85, Tryz.ntmps85
   go_wp2_with fail
   go_ret
   exact ⟨rfl, rfl⟩
 ·rcases hc with rfl | rfl | rfl | ⟨h1, h2, h3⟩
  ·go_enter Tryz.func85, Tryz.ntmps85
   go_wp2_with fail
   go_ret
   exact ⟨rfl, rfl⟩
  ·go_enter Tryz.func85, Tryz.ntmps85
   go_wp2_with fail
   go_ret
   exact ⟨rfl, rfl⟩
  ·go_enter Tryz.func85, Tryz.ntmps85
   go_wp2_with fail
   go_ret
   exact ⟨rfl, rfl⟩
  ·have e1 : ((n : Int) == 16) = false := by simp; omega
   have e2 : ((n : Int) == 24) = false := by simp; omega
   have e : decide (fit9 2 n) = false := by unfold fit9; simp; omega
   rw [e]
   clear e h1 h2 h3
   go_enter Tryz.func85, Tryz.ntmps85
   go_wp2_with fail
   go_ret
   exact ⟨rfl, rfl⟩
theorem refuse_kind (z : Int) (h1 : z ≠ 1) (h2 : z ≠ 2) (A : Option Addr) (L c : Nat) (w : World) : Calls Tryz.prog 61 #[.int .i64 z, .slice A L c] w fun e w' => e = .returned (.iface 71 (.int .i64 1)) ∧ w' = w := by
 go_enter Tryz.func61, Tryz.ntmps61
 go_wp2_with (go_at_call 67; refine (iskind_no z h1 h2 _).mono ?_; rintro e w1 ⟨rfl, rfl⟩)
 go_ret
 exact ⟨rfl, rfl⟩
theorem refuse_size (k : Nat) (hk : k = 1 ∨ k = 2) (A : Option Addr) (L c : Nat) (hL : L ≤ 100000) (hf : ¬ fit9 k L) (w : World) : Calls Tryz.prog 61 #[.int .i64 (k : Int), .slice A L c] w fun e w' => e = .returned (.iface 71 (.int .i64 2)) ∧ w' = w := by
 have hd : decide (fit9 k L) = false := by simpa using hf
 have HS := hid (sfits_any k hk L hL)
 rw [hd] at HS
 clear hd hf
 go_enter Tryz.func61, Tryz.ntmps61
 go_wp2_with (first
  | (go_at_call 67; refine (iskind_yes k hk _).mono ?_; rintro e w1 ⟨rfl, rfl⟩)
  | (go_at_call 85; refine (HS.out _).mono ?_; rintro e w1 ⟨rfl, rfl⟩))
 go_ret
 exact ⟨rfl, rfl⟩
theorem refuse_ok (k : Nat) (A : Option Addr) (L c : Nat) (hL : L ≤ 100000) (hf : fit9 k L) (w : World) : Calls Tryz.prog 61 #[.int .i64 (k : Int), .slice A L c] w fun e w' => e = .returned .nilIface ∧ w' = w := by
 have hk := hf.1
 have hd : decide (fit9 k L) = true := by simpa using hf
 have HS := hid (sfits_any k hk L hL)
 rw [hd] at HS
 clear hd hf
 go_enter Tryz.func61, Tryz.ntmps61
 go_wp2_with (first
  | (go_at_call 67; refine (iskind_yes k hk _).mono ?_; rintro e w1 ⟨rfl, rfl⟩)
  | (go_at_call 85; refine (HS.out _).mono ?_; rintro e w1 ⟨rfl, rfl⟩))
 go_ret
 exact ⟨rfl, rfl⟩
def pops : ByteArray := { data := (([0, 1, 1, 2, 1, 2, 2, 3, 1, 2, 2, 3, 2, 3, 3, 4, 1, 2, 2, 3, 2, 3, 3, 4, 2, 3, 3, 4, 3, 4, 4, 5, 1, 2, 2, 3, 2, 3, 3, 4, 2, 3, 3, 4, 3, 4, 4, 5, 2, 3, 3, 4, 3, 4, 4, 5, 3, 4, 4, 5, 4, 5, 5, 6].append [1, 2, 2, 3, 2, 3, 3, 4, 2, 3, 3, 4, 3, 4, 4, 5, 2, 3, 3, 4, 3, 4, 4, 5, 3, 4, 4, 5, 4, 5, 5, 6, 2, 3, 3, 4, 3, 4, 4, 5, 3, 4, 4, 5, 4, 5, 5, 6, 3, 4, 4, 5, 4, 5, 5, 6, 4, 5, 5, 6, 5, 6, 6, 7]).append ([1, 2, 2, 3, 2, 3, 3, 4, 2, 3, 3, 4, 3, 4, 4, 5, 2, 3, 3, 4, 3, 4, 4, 5, 3, 4, 4, 5, 4, 5, 5, 6, 2, 3, 3, 4, 3, 4, 4, 5, 3, 4, 4, 5, 4, 5, 5, 6, 3, 4, 4, 5, 4, 5, 5, 6, 4, 5, 5, 6, 5, 6, 6, 7].append [2, 3, 3, 4, 3, 4, 4, 5, 3, 4, 4, 5, 4, 5, 5, 6, 3, 4, 4, 5, 4, 5, 5, 6, 4, 5, 5, 6, 5, 6, 6, 7, 3, 4, 4, 5, 4, 5, 5, 6, 4, 5, 5, 6, 5, 6, 6, 7, 4, 5, 5, 6, 5, 6, 6, 7, 5, 6, 6, 7, 6, 7, 7, 8])).toArray }
theorem pops_at : ∀ b, b < 256 → byteAt pops b = some (pc b) := by decide +kernel
theorem ones_any (b : Nat) (hb : b < 256) (w : World) : Calls Tryz.prog 86 #[.int .u8 (b : Int)] w fun e w' => e = .returned (.int .i64 ((pc b : Nat) : Int)) ∧ w' = w := by
 have hp := pops_at b hb
 have hle := pc_le b
 go_enter Tryz.func86, Tryz.ntmps86
 go_wp2_with (refine wpl_val rfl _ (exec_str 9 _ _ rfl pops rfl .u8 _ rfl b rfl Tryz.underlying9 _ hp) ?_)
 go_ret
 exact ⟨rfl, rfl⟩
theorem iseven_yes (b : Nat) (hb : b < 256) (h : pc b % 2 = 0) (w : World) : Calls Tryz.prog 63 #[.int .u8 (b : Int)] w fun e w' => e = .returned (.bool true) ∧ w' = w := by
 have hle := pc_le b
 have hm : (((pc b : Nat) : Int) % 2 == 0) = true := by simp; omega
 have HO := hid (ones_any b hb w)
 generalize pc b = z at *
 clear h
 go_enter Tryz.func63, Tryz.ntmps63
 go_wp2_with (go_at_call 86; refine HO.out.mono ?_; rintro e w1 ⟨rfl, rfl⟩)
 go_ret
 exact ⟨rfl, rfl⟩
theorem iseven_no (b : Nat) (hb : b < 256) (h : pc b % 2 = 1) (w : World) : Calls Tryz.prog 63 #[.int .u8 (b : Int)] w fun e w' => e = .returned (.bool false) ∧ w' = w := by
 have hle := pc_le b
 have hm : (((pc b : Nat) : Int) % 2 == 0) = false := by simp; omega
 have HO := hid (ones_any b hb w)
 generalize pc b = z at *
 clear h
 go_enter Tryz.func63, Tryz.ntmps63
 go_wp2_with (go_at_call 86; refine HO.out.mono ?_; rintro e w1 ⟨rfl, rfl⟩)
 go_ret
 exact ⟨rfl, rfl⟩
set_option maxRecDepth 100000 in
set_option maxHeartbeats 1000000 in
/-- Odd -/
theorem odd_any (A : Option Addr) (L c : Nat) (f : Nat → Nat) (w : World) (hL : L ≤ 1000) (hf : ∀ i, i < L → f i < 256) (hR : Reads w w.heap.size A L f) :
  Calls Tryz.prog 30 #[.slice A L c] w fun e w' => e = .returned (.slice (some ⟨w.heap.size, 0, none⟩) L L) ∧ Blk w' w.heap.size 5 (row L (b8 (odF f))) ∧ Below w.heap.size w w' := by
 have HR := hid hR
 have Hf := hid hf
 clear hR hf
 go_enter Tryz.func30, Tryz.ntmps30
 go_wp2_with (with_reducible refine wpl_make rfl 22 5 _ _ rfl Tryz.underlying22 info8 _ _ _ _ rfl rfl L rfl rfl (by omega) ?_)
 go_loopw [4, 5, 11] (fun _ _ i wr => ∃ (k : Nat) (m : Nat → Nat), k ≤ L ∧ i = .int .i64 k ∧ Hid (∀ j, m j = if j < k then odF f j else 0) ∧ Blk wr w.heap.size 5 (row L (b8 m)) ∧ Below w.heap.size w wr) (fun _ _ i _ => L - (intOf i).toNat)
 case atStart => exact ⟨0, fun _ => 0, by omega, rfl, hid (by simp), Blk.fresh _ _ _, (Below.refl _ _).alloc (Nat.le_refl _) _⟩
 case round =>
  obtain ⟨k, m, hk, rfl, HM, hb, hB⟩ := hrel
  by_cases hlt : k < L
  ·have hfk := Hf.out k hlt
   obtain ⟨ad, rfl, hbl, hcs⟩ := HR.out (by omega)
   have hc := (hB.cell (p := ad.add k) (by rw [add_block]; exact hbl)).trans (hcs k hlt)
   have hv1 := hb.val k hlt
   have hv2 := hb.free k
   clear hcs
   by_cases he : pc (f k) % 2 = 0
   ·have hod : Hid (odF f k = f k ^^^ 1) := hid (by unfold odF od; rw [if_pos he])
    have HE := hid (iseven_yes (f k) hfk he)
    clear he
    go_wp2_with (first
     | (with_reducible refine wpl_sl1 rfl 22 _ _ rfl ad L c rfl .i64 _ rfl k rfl 5 Tryz.underlying22 hlt i8q ?_)
     | (with_reducible refine wpl_slb rfl 22 _ _ rfl w.heap.size L L rfl .i64 _ rfl k rfl 5 Tryz.underlying22 hlt i8q ?_)
     | (with_reducible refine wpl_ld rfl 5 _ rfl _ rfl .u8 Tryz.underlying5 _ hc ?_)
     | (go_at_call 63; refine (HE.out _).mono ?_; rintro e w1 ⟨rfl, rfl⟩)
     | (with_reducible refine wpl_st rfl 5 _ _ rfl _ rfl .u8 _ rfl i8q _ hv1 hv2 ?_))
    go_round
    case rel =>
     rw [show (1 : Int) = ((1 : Nat) : Int) from rfl, u8_xor_nat _ 1 hfk (by omega), ← hod.out]
     exact ⟨k + 1, upd m k (odF f k), by omega, val_int (by omega), hid (fill_step (F := odF f) (f := fun _ => 0) HM.out), hb.put k _, hB.setCell (by simp) _⟩
    case measure => simp [intOf]; omega
   ·have hod : Hid (odF f k = f k) := hid (by unfold odF od; rw [if_neg he])
    have HE := hid (iseven_no (f k) hfk (by omega))
    clear he
    go_wp2_with (first
     | (with_reducible refine wpl_sl1 rfl 22 _ _ rfl ad L c rfl .i64 _ rfl k rfl 5 Tryz.underlying22 hlt i8q ?_)
     | (with_reducible refine wpl_slb rfl 22 _ _ rfl w.heap.size L L rfl .i64 _ rfl k rfl 5 Tryz.underlying22 hlt i8q ?_)
     | (with_reducible refine wpl_ld rfl 5 _ rfl _ rfl .u8 Tryz.underlying5 _ hc ?_)
     | (go_at_call 63; refine (HE.out _).mono ?_; rintro e w1 ⟨rfl, rfl⟩)
     | (with_reducible refine wpl_st rfl 5 _ _ rfl _ rfl .u8 _ rfl i8q _ hv1 hv2 ?_))
    go_round
    case rel =>
     rw [← hod.out]
     exact ⟨k + 1, upd m k (odF f k), by omega, val_int (by omega), hid (fill_step (F := odF f) (f := fun _ => 0) HM.out), hb.put k _, hB.setCell (by simp) _⟩
    case measure => simp [intOf]; omega
  ·go_wp2_with fail
   go_ret
   have hm : row L (b8 m) = row L (b8 (odF f)) := row_b8_ext (fill_end (f := fun _ => 0) HM.out (by omega))
   exact ⟨rfl, hm ▸ hb, hB⟩
set_option maxRecDepth 100000 in
set_option maxHeartbeats 1000000 in
/-- where the first even byte is -/
theorem index_at (A : Option Addr) (L c : Nat) (f : Nat → Nat) (i : Nat) (w : World) (hL : L ≤ 1000) (hf : ∀ i, i < L → f i < 256) (hR : Reads w w.heap.size A L f) (h : EvenAt L f i) :
  Calls Tryz.prog 62 #[.slice A L c, .func (.func 63) #[] #[]] w fun e w' => e = .returned (.int .i64 (i : Int)) ∧ w' = w := by
 have HR := hid hR
 have Hf := hid hf
 have H := hid h
 have hil := h.1
 clear hR hf h
 go_enter Tryz.func62, Tryz.ntmps62
 go_wp2_with fail
 go_loopw [5, 8] (fun _ y wr => ∃ k : Nat, k ≤ i ∧ y = .int .i64 (k : Int) ∧ wr = w) (fun _ y _ => L - (intOf y).toNat)
 case atStart => exact ⟨0, by omega, rfl, rfl⟩
 case round =>
  obtain ⟨k, hk, rfl, rfl⟩ := hrel
  have hlt : k < L := by omega
  have hfk := Hf.out k hlt
  obtain ⟨ad, rfl, hbl, hcs⟩ := HR.out (by omega)
  have hc := hcs k hlt
  clear hcs
  by_cases he : k = i
  ·subst he
   have HE := hid (iseven_yes (f k) hfk H.out.2.1)
   go_wp2_with (first
    | (with_reducible refine wpl_sl1 rfl 22 _ _ rfl ad L c rfl .i64 _ rfl k rfl 5 Tryz.underlying22 hlt i8q ?_)
    | (with_reducible refine wpl_ld rfl 5 _ rfl _ rfl .u8 Tryz.underlying5 _ hc ?_)
    | (go_at_call 63; refine (HE.out _).mono ?_; rintro e w1 ⟨rfl, rfl⟩))
   go_ret
   exact ⟨rfl, rfl⟩
  ·have HE := hid (iseven_no (f k) hfk (H.out.2.2 k (by omega)))
   have hk2 : k + 1 ≤ i := by omega
   clear he
   go_wp2_with (first
    | (with_reducible refine wpl_sl1 rfl 22 _ _ rfl ad L c rfl .i64 _ rfl k rfl 5 Tryz.underlying22 hlt i8q ?_)
    | (with_reducible refine wpl_ld rfl 5 _ rfl _ rfl .u8 Tryz.underlying5 _ hc ?_)
    | (go_at_call 63; refine (HE.out _).mono ?_; rintro e w1 ⟨rfl, rfl⟩))
   go_round
   case rel => exact ⟨k + 1, hk2, val_int (by omega), by first | rfl | trivial⟩
   case measure => simp [intOf]; omega
set_option maxRecDepth 100000 in
set_option maxHeartbeats 1000000 in
/-- no byte is even -/
theorem index_none (A : Option Addr) (L c : Nat) (f : Nat → Nat) (w : World) (hL : L ≤ 1000) (hf : ∀ i, i < L → f i < 256) (hR : Reads w w.heap.size A L f) (h : AllOdd L f) :
  Calls Tryz.prog 62 #[.slice A L c, .func (.func 63) #[] #[]] w fun e w' => e = .returned (.int .i64 (-1)) ∧ w' = w := by
 have HR := hid hR
 have Hf := hid hf
 have H := hid h
 clear hR hf h
 go_enter Tryz.func62, Tryz.ntmps62
 go_wp2_with fail
 go_loopw [5, 8] (fun _ y wr => ∃ k : Nat, k ≤ L ∧ y = .int .i64 (k : Int) ∧ wr = w) (fun _ y _ => L - (intOf y).toNat)
 case atStart => exact ⟨0, by omega, rfl, rfl⟩
 case round =>
  obtain ⟨k, hk, rfl, rfl⟩ := hrel
  by_cases hlt : k < L
  ·have hfk := Hf.out k hlt
   obtain ⟨ad, rfl, hbl, hcs⟩ := HR.out (by omega)
   have hc := hcs k hlt
   clear hcs
   have HE := hid (iseven_no (f k) hfk (H.out k hlt))
   go_wp2_with (first
    | (with_reducible refine wpl_sl1 rfl 22 _ _ rfl ad L c rfl .i64 _ rfl k rfl 5 Tryz.underlying22 hlt i8q ?_)
    | (with_reducible refine wpl_ld rfl 5 _ rfl _ rfl .u8 Tryz.underlying5 _ hc ?_)
    | (go_at_call 63; refine (HE.out _).mono ?_; rintro e w1 ⟨rfl, rfl⟩))
   go_round
   case rel => exact ⟨k + 1, by omega, val_int (by omega), by first | rfl | trivial⟩
   case measure => simp [intOf]; omega
  ·go_wp2_with fail
   go_ret
   exact ⟨rfl, rfl⟩
theorem right_kind (z : Int) (h1 : z ≠ 1) (h2 : z ≠ 2) (A : Option Addr) (L c : Nat) (w : World) : Calls Tryz.prog 29 #[.int .i64 z, .slice A L c] w fun e w' => e = .returned (.iface 71 (.int .i64 1)) ∧ w' = w := by
 go_enter Tryz.func29, Tryz.ntmps29
 go_wp2_with (go_at_call 61; refine (refuse_kind z h1 h2 A L c _).mono ?_; rintro e w1 ⟨rfl, rfl⟩)
 go_ret
 exact ⟨rfl, rfl⟩
theorem right_size (k : Nat) (hk : k = 1 ∨ k = 2) (A : Option Addr) (L c : Nat) (hL : L ≤ 100000) (hf : ¬ fit9 k L) (w : World) : Calls Tryz.prog 29 #[.int .i64 (k : Int), .slice A L c] w fun e w' => e = .returned (.iface 71 (.int .i64 2)) ∧ w' = w := by
 go_enter Tryz.func29, Tryz.ntmps29
 go_wp2_with (go_at_call 61; refine (refuse_size k hk A L c hL hf _).mono ?_; rintro e w1 ⟨rfl, rfl⟩)
 go_ret
 exact ⟨rfl, rfl⟩
theorem right_aes (A : Option Addr) (L c : Nat) (hL : L ≤ 100000) (hf : fit9 1 L) (w : World) : Calls Tryz.prog 29 #[.int .i64 1, .slice A L c] w fun e w' => e = .returned .nilIface ∧ w' = w := by
 go_enter Tryz.func29, Tryz.ntmps29
 go_wp2_with (go_at_call 61; refine (refuse_ok 1 A L c hL hf _).mono ?_; rintro e w1 ⟨rfl, rfl⟩)
 go_ret
 exact ⟨rfl, rfl⟩
set_option maxRecDepth 100000 in
theorem right_odd (A : Option Addr) (L c : Nat) (f : Nat → Nat) (hf : fit9 2 L) (w : World) (hb : ∀ i, i < L → f i < 256) (hR : Reads w w.heap.size A L f) (h : AllOdd L f) : Calls Tryz.prog 29 #[.int .i64 2, .slice A L c] w fun e w' => e = .returned .nilIface ∧ w' = w := by
 have hL : L ≤ 32 := by have := hf.2; omega
 have HI := hid (index_none A L c f w (by omega) hb hR h)
 have HF := hid (refuse_ok 2 A L c (by omega) hf)
 clear hf hb hR h
 go_enter Tryz.func29, Tryz.ntmps29
 go_wp2_with (first
  | (go_at_call 61; refine (HF.out _).mono ?_; rintro e w1 ⟨rfl, rfl⟩)
  | (go_at_call 62; refine HI.out.mono ?_; rintro e w1 ⟨rfl, rfl⟩))
 go_ret
 exact ⟨rfl, rfl⟩
set_option maxRecDepth 100000 in
theorem right_even (A : Option Addr) (L c : Nat) (f : Nat → Nat) (i : Nat) (hf : fit9 2 L) (w : World) (hb : ∀ i, i < L → f i < 256) (hR : Reads w w.heap.size A L f) (h : EvenAt L f i) : Calls Tryz.prog 29 #[.int .i64 2, .slice A L c] w fun e w' => e = .returned (.iface 81 (.pointer (some ⟨w.heap.size, 0, none⟩))) ∧ Blk w' w.heap.size 84 #[.int .i64 (i : Int), .iface 71 (.int .i64 3)] ∧ Below w.heap.size w w' := by
 have hL : L ≤ 32 := by have := hf.2; omega
 have HI := hid (index_at A L c f i w (by omega) hb hR h)
 have HF := hid (refuse_ok 2 A L c (by omega) hf)
 clear hf hb hR h
 go_enter Tryz.func29, Tryz.ntmps29
 go_wp2_with (first
  | (go_at_call 61; refine (HF.out _).mono ?_; rintro e w1 ⟨rfl, rfl⟩)
  | (go_at_call 62; refine HI.out.mono ?_; rintro e w1 ⟨rfl, rfl⟩))
 go_ret
 exact ⟨rfl, Blk.fresh _ _ _, (Below.refl _ _).alloc (Nat.le_refl _) _⟩
end Go.Proofs.YtaeleohjikheiaaGreatDoor.Pt

/-
 What part.Join returns.
-/
namespace Go.Proofs.YtaeleohjikheiaaGreatDoor.Pt
open Mem Bk Md Go.ChangeShapes Go.WideShapes Go.ChangeAt Go.RowKit
/-- a slice of byte slices: the i-th lies at a i, has l i bytes and reads as f i -/
def PartsAt (w : World) (P : Option Addr) (n : Nat) (a : Nat → Option Addr) (l c : Nat → Nat) (f : Nat → Nat → Nat) : Prop :=
 (0 < n → ∃ ad, P = some ad ∧ ad.block < w.heap.size ∧ ∀ i, i < n → w.cell? (ad.add i) = some (.slice (a i) (l i) (c i))) ∧ ∀ i, i < n → Reads w w.heap.size (a i) (l i) (f i)
theorem PartsAt.up {w w' : World} {P : Option Addr} {n : Nat} {a : Nat → Option Addr} {l c : Nat → Nat} {f : Nat → Nat → Nat} (h : PartsAt w P n a l c f) (hB : Below w.heap.size w w') : PartsAt w' P n a l c f :=
 ⟨fun hn => by
  obtain ⟨ad, h1, h2, h3⟩ := h.1 hn
  exact ⟨ad, h1, Nat.lt_of_lt_of_le h2 hB.size, fun i hi => (hB.cell (p := ad.add i) (by rw [add_block]; exact h2)).trans (h3 i hi)⟩, fun i hi => ((h.2 i hi).below hB).more hB.size⟩
/-- the first n parts, put together -/
def jn (f : Nat → Nat → Nat) : Nat → Nat → Nat
 | 0 => fun _ => 0
 | n + 1 => xr (jn f n) (f n)
theorem jn_lt {f : Nat → Nat → Nat} {L : Nat} : ∀ n, (∀ i, i < n → ∀ q, q < L → f i q < 256) → ∀ q, q < L → jn f n q < 256
 | 0, _, _, _ => by unfold jn; omega
 | n + 1, h, q, hq => xr_lt (jn_lt n (fun i hi => h i (by omega)) q hq) (h n (by omega) q hq)
/-- of TDES made odd -/
def jk (k : Nat) (g : Nat → Nat) : Nat → Nat := if k = 2 then odF g else g
theorem iSS : (Tryz.prog.info? 22).map (·.size) = some 1 := by kernel_rfl
theorem join_kind (z : Int) (h1 : z ≠ 1) (h2 : z ≠ 2) (P : Option Addr) (n c : Nat) (w : World) : Calls Tryz.prog 36 #[.int .i64 z, .slice P n c] w fun e w' => e = .returned (.tuple #[.slice none 0 0, .iface 71 (.int .i64 1)]) ∧ w' = w := by
 go_enter Tryz.func36, Tryz.ntmps36
 go_wp2_with (go_at_call 67; refine (iskind_no z h1 h2 _).mono ?_; rintro e w1 ⟨rfl, rfl⟩)
 go_ret2
 exact ⟨rfl, rfl⟩
theorem join_few (k : Nat) (hk : k = 1 ∨ k = 2) (P : Option Addr) (n c : Nat) (hn : n < 2 ∨ 3 < n) (w : World) : Calls Tryz.prog 36 #[.int .i64 (k : Int), .slice P n c] w fun e w' => e = .returned (.tuple #[.slice none 0 0, .iface 71 (.int .i64 1)]) ∧ w' = w := by
 rcases hn with h | h
 ·have hI : (n : Int) < 2 := by omega
  go_enter Tryz.func36, Tryz.ntmps36
  go_wp2_with (go_at_call 67; refine (iskind_yes k hk _).mono ?_; rintro e w1 ⟨rfl, rfl⟩)
  go_ret2
  exact ⟨rfl, rfl⟩
 ·have hI : ¬ (n : Int) < 2 := by omega
  have hJ : (n : Int) > 3 := by omega
  go_enter Tryz.func36, Tryz.ntmps36
  go_wp2_with (go_at_call 67; refine (iskind_yes k hk _).mono ?_; rintro e w1 ⟨rfl, rfl⟩)
  go_ret2
  exact ⟨rfl, rfl⟩
set_option maxRecDepth 100000 in
theorem join_first (k : Nat) (hk : k = 1 ∨ k = 2) (P : Option Addr) (n cp : Nat) (a : Nat → Option Addr) (l c : Nat → Nat) (f : Nat → Nat → Nat) (w : World) (hn : n = 2 ∨ n = 3) (h : PartsAt w P n a l c f) (hl : l 0 ≤ 100000) (hf : ¬ fit9 k (l 0)) :
  Calls Tryz.prog 36 #[.int .i64 (k : Int), .slice P n cp] w fun e w' => e = .returned (.tuple #[.slice none 0 0, .iface 81 (.pointer (some ⟨w.heap.size, 0, none⟩))]) ∧ Blk w' w.heap.size 84 #[.int .i64 0, .iface 71 (.int .i64 2)] ∧ Below w.heap.size w w' := by
 have hI : ¬ (n : Int) < 2 := by omega
 have hJ : ¬ (n : Int) > 3 := by omega
 have hn0 : 0 < n := by omega
 obtain ⟨ad, rfl, had, hcs⟩ := h.1 hn0
 have hc0 : w.cell? (ad.add 0) = some (.slice (a 0) (l 0) (c 0)) := hcs 0 hn0
 have HF := hid (refuse_size k hk (a 0) (l 0) (c 0) hl hf)
 generalize l 0 = l0 at *
 generalize a 0 = a0 at *
 generalize c 0 = c0 at *
 clear h hf hcs
 go_enter Tryz.func36, Tryz.ntmps36
 go_wp2_with (first
  | (go_at_call 67; refine (iskind_yes k hk _).mono ?_; rintro e w1 ⟨rfl, rfl⟩)
  | (with_reducible refine wpl_sl1 rfl 59 _ _ rfl ad n cp rfl .i64 _ rfl 0 rfl 22 Tryz.underlying59 hn0 iSS ?_)
  | (with_reducible refine wpl_val rfl _ (exec_lds 22 _ rfl (ad.add 0) rfl 5 Tryz.underlying22 _ hc0) ?_)
  | (go_at_call 61; refine (HF.out _).mono ?_; rintro e w1 ⟨rfl, rfl⟩))
 go_ret2
 exact ⟨rfl, Blk.fresh _ _ _, (Below.refl _ _).alloc (Nat.le_refl _) _⟩
set_option maxRecDepth 100000 in
set_option maxHeartbeats 1000000 in
/-- a right first part: put together, or where a part is of another length -/
theorem join_any (k : Nat) (P : Option Addr) (n cp : Nat) (a : Nat → Option Addr) (l c : Nat → Nat) (f : Nat → Nat → Nat) (L J : Nat) (w : World) (hn : n = 2 ∨ n = 3) (h : PartsAt w P n a l c f) (hL : fit9 k L) (hl : l 0 = L) (hJ : J ≤ n) (hJ0 : 0 < J) (hJl : ∀ i, i < J → l i = L) (hJn : J < n → l J ≠ L) (hb : ∀ i, i < J → ∀ q, q < L → f i q < 256) :
  Calls Tryz.prog 36 #[.int .i64 (k : Int), .slice P n cp] w fun e w' => Below w.heap.size w w' ∧ (if J = n then ∃ g, e = .returned (.tuple #[.slice (some ⟨g, 0, none⟩) L L, .nilIface]) ∧ Blk w' g 5 (row L (b8 (jk k (jn f n)))) ∧ w.heap.size ≤ g
   else ∃ g, e = .returned (.tuple #[.slice none 0 0, .iface 81 (.pointer (some ⟨g, 0, none⟩))]) ∧ Blk w' g 84 #[.int .i64 (J : Int), .iface 71 (.int .i64 2)]) := by
 have hk := hL.1
 have hL32 : L ≤ 32 := by have := hL.2; omega
 have hnI : ¬ (n : Int) < 2 := by omega
 have hnJ : ¬ (n : Int) > 3 := by omega
 have hn0 : 0 < n := by omega
 obtain ⟨ad, rfl, had, hcs⟩ := h.1 hn0
 have hc0 : w.cell? (ad.add 0) = some (.slice (a 0) L (c 0)) := by rw [← hl]; exact hcs 0 hn0
 have HF := hid (refuse_ok k (a 0) L (c 0) (by omega) hL)
 have HP := hid h
 have HC := hid hcs
 have HJl := hid hJl
 have HJn := hid hJn
 have Hb := hid hb
 have hs0 : Hid (a 0 = a 0) := hid rfl
 generalize ha0 : a 0 = a0 at hc0 HF
 generalize hc0' : c 0 = c0 at hc0 HF
 clear h hL hl hcs hJl hJn hb ha0 hc0' hs0
 go_enter Tryz.func36, Tryz.ntmps36
 go_wp2_with (first
  | (go_at_call 67; refine (iskind_yes k hk _).mono ?_; rintro e w1 ⟨rfl, rfl⟩)
  | (with_reducible refine wpl_sl1 rfl 59 _ _ rfl ad n cp rfl .i64 _ rfl 0 rfl 22 Tryz.underlying59 hn0 iSS ?_)
  | (with_reducible refine wpl_val rfl _ (exec_lds 22 _ rfl (ad.add 0) rfl 5 Tryz.underlying22 _ hc0) ?_)
  | (go_at_call 61; refine (HF.out _).mono ?_; rintro e w1 ⟨rfl, rfl⟩)
  | (with_reducible refine wpl_make rfl 22 5 _ _ rfl Tryz.underlying22 info8 _ _ _ _ rfl rfl L rfl rfl (by omega) ?_))
 generalize Value.bool (decide ((n : Int) < 2) || decide (3 < (n : Int))) = vb0 at *
 generalize Value.bool (decide ((n : Int) < 2)) = vb1 at *
 generalize Value.bool (decide (3 < (n : Int))) = vb2 at *
 have hB0 : Below w1.heap.size w1 (w1.alloc (.cells (row L (b8 fun _ => 0)) 5)) := (Below.refl _ _).alloc (Nat.le_refl _) _
 have hb0 := Blk.fresh w1 5 (row L (b8 fun _ => 0))
 go_loopw [7, 8, 9, 10, 11, 44] (fun jv _ _ _ _ iv wr => ∃ (i g : Nat), i ≤ J ∧ iv = .int .i64 (i : Int) ∧ jv = .slice (some ⟨g, 0, none⟩) L L ∧ w1.heap.size ≤ g ∧ Blk wr g 5 (row L (b8 (jn f i))) ∧ Below w1.heap.size w1 wr) (fun _ _ _ _ _ iv _ => n - (intOf iv).toNat)
 case atStart => exact ⟨0, w1.heap.size, by omega, rfl, rfl, Nat.le_refl _, hb0, hB0⟩
 case round =>
  clear hb0 hB0
  obtain ⟨i, g, hi, rfl, rfl, hg, hb, hB⟩ := hrel
  rename World => wo
  by_cases hlt : i < n
  ·have hci : wo.cell? (ad.add i) = some (.slice (a i) (l i) (c i)) := (hB.cell (p := ad.add i) (by rw [add_block]; exact had)).trans (HC.out i hlt)
   by_cases hiJ : i < J
   ·have hli : l i = L := HJl.out i hiJ
    rw [hli] at hci
    have HRi : Hid (Reads wo wo.heap.size (a i) L (f i)) := hid (by have := HP.out.2 i hlt; rw [hli] at this; exact (this.below hB).more hB.size)
    have Hbi := hid (Hb.out i hiJ)
    have Hjl := hid (jn_lt (L := L) i (fun q hq => Hb.out q (by omega)))
    have HXr := hid (xor_any (some ⟨g, 0, none⟩) (a i) L L (c i) (jn f i) (f i) wo (by omega) Hjl.out Hbi.out hb.reads HRi.out)
    have HB := hid hB
    generalize a i = ai at *
    generalize c i = ci at *
    clear hli hb hB
    go_wp2_with (first
     | (with_reducible refine wpl_sl1 rfl 59 _ _ rfl ad n cp rfl .i64 _ rfl i rfl 22 Tryz.underlying59 hlt iSS ?_)
     | (with_reducible refine wpl_val rfl _ (exec_lds 22 _ rfl (ad.add i) rfl 5 Tryz.underlying22 _ hci) ?_)
     | (go_at_call 68; refine HXr.out.mono ?_; rintro e w2 ⟨rfl, hx2, hB2⟩))
    go_round
    case rel => exact ⟨i + 1, wo.heap.size, by omega, val_int (by omega), rfl, HB.out.size, hx2, HB.out.trans (hB2.mono HB.out.size)⟩
    case measure => simp [intOf]; omega
   ·have hiJ' : i = J := by omega
    subst hiJ'
    have hne : L ≠ l i := fun h => HJn.out hlt h.symm
    have hin : ¬ i = n := by omega
    generalize l i = li at *
    generalize a i = ai at *
    generalize c i = ci at *
    have HB := hid hB
    clear HJn hb hB
    go_wp2_with (first
     | (with_reducible refine wpl_sl1 rfl 59 _ _ rfl ad n cp rfl .i64 _ rfl i rfl 22 Tryz.underlying59 hlt iSS ?_)
     | (with_reducible refine wpl_val rfl _ (exec_lds 22 _ rfl (ad.add i) rfl 5 Tryz.underlying22 _ hci) ?_)
     | (go_at_call 68; refine (xor_len _ _ _ _ _ _ _ hne).mono ?_; rintro e w2 ⟨rfl, rfl⟩))
    go_ret2
    refine ⟨HB.out.alloc HB.out.size _, ?_⟩
    exact ⟨_, rfl, Blk.fresh _ _ _⟩
  ·have hin : i = n := by omega
   have hJn : J = n := by omega
   subst hin
   subst hJn
   have Hjl := hid (jn_lt (L := L) J Hb.out)
   have HB := hid hB
   have Hbk := hid hb
   clear hb hB
   by_cases hk2 : k = 2
   rotate_left
   ·have hkI : ((k : Int) == 2) = false := by simp; omega
    have hkF : Hid (row L (b8 (jk k (jn f J))) = row L (b8 (jn f J))) := hid (by unfold jk; rw [if_neg hk2])
    clear hk2
    go_wp2_with fail
    go_ret2
    exact ⟨HB.out, g, rfl, by rw [hkF.out]; exact Hbk.out, hg⟩
   ·have hkI : ((k : Int) == 2) = true := by simp; omega
    have hkF : Hid (row L (b8 (jk k (jn f J))) = row L (b8 (odF (jn f J)))) := hid (by unfold jk; rw [if_pos hk2])
    clear hk2
    go_wp2_with fail
    refine (odd_any _ L L (jn f J) _ (by omega) Hjl.out Hbk.out.reads).mono ?_
    rintro e w2 ⟨rfl, hx2, hB2⟩
    go_wp2_with fail
    go_ret2
    exact ⟨HB.out.trans (hB2.mono HB.out.size), wo.heap.size, rfl, by rw [hkF.out]; exact hx2, HB.out.size⟩
end Go.Proofs.YtaeleohjikheiaaGreatDoor.Pt

/-
 What part.Value returns.
-/
namespace Go.Proofs.YtaeleohjikheiaaGreatDoor.Pt
open Mem Bk Md Mc Go.ChangeShapes Go.WideShapes Go.ChangeAt Go.RowKit
/-- a key's check value: more than its three bytes -/
def vlF (k L : Nat) (key : Nat → Nat) : Nat → Nat := if k = 1 then cmacF 1 L key 16 zf else tc 2 L key false zf
theorem fit_fits {k L : Nat} (h : fit9 k L) : fits k L := by
 unfold fit9 at h
 unfold fits Aes.IsKey Des.IsTKey
 omega
theorem value_kind (z : Int) (h1 : z ≠ 1) (h2 : z ≠ 2) (A : Option Addr) (L c : Nat) (w : World) : Calls Tryz.prog 34 #[.int .i64 z, .slice A L c] w fun e w' => e = .returned (.tuple #[.slice none 0 0, .iface 71 (.int .i64 1)]) ∧ w' = w := by
 go_enter Tryz.func34, Tryz.ntmps34
 go_wp2_with (go_at_call 61; refine (refuse_kind z h1 h2 A L c _).mono ?_; rintro e w1 ⟨rfl, rfl⟩)
 go_ret2
 exact ⟨rfl, rfl⟩
theorem value_size (k : Nat) (hk : k = 1 ∨ k = 2) (A : Option Addr) (L c : Nat) (hL : L ≤ 100000) (hf : ¬ fit9 k L) (w : World) : Calls Tryz.prog 34 #[.int .i64 (k : Int), .slice A L c] w fun e w' => e = .returned (.tuple #[.slice none 0 0, .iface 71 (.int .i64 2)]) ∧ w' = w := by
 go_enter Tryz.func34, Tryz.ntmps34
 go_wp2_with (go_at_call 61; refine (refuse_size k hk A L c hL hf _).mono ?_; rintro e w1 ⟨rfl, rfl⟩)
 go_ret2
 exact ⟨rfl, rfl⟩
theorem zero_row (n : Nat) : row n (b8 fun _ => 0) = row n (b8 zf) := rfl
set_option maxRecDepth 100000 in
set_option maxHeartbeats 1000000 in
theorem value_aes (A : Option Addr) (L c : Nat) (key : Nat → Nat) (w : World) (hf : fit9 1 L) (hk : ∀ i, i < L → key i < 256) (hR : Reads w w.heap.size A L key) :
  Calls Tryz.prog 34 #[.int .i64 1, .slice A L c] w fun e w' => ∃ v, e = .returned (.tuple #[v, .nilIface]) ∧ Mem.Own w' w.heap.size 5 1 v 3 (vlF 1 L key) ∧ Below w.heap.size w w' := by
 have hL : L ≤ 32 := by have := hf.2; omega
 have hL0 : 0 < L := by have := hf.2; omega
 have hA : A = none → L = 0 ∧ c = 0 := fun h => by obtain ⟨ad, h1, _⟩ := hR hL0; rw [h] at h1; cases h1
 have HF := hid (refuse_ok 1 A L c (by omega) hf)
 have HN := hid (new1 A L c key p0 none w hL hA hk hR (fit_fits hf))
 have hs1 : sz 1 = 16 := rfl
 clear hf hk hR hA
 go_enter Tryz.func34, Tryz.ntmps34
 go_wp2_with (first
  | (go_at_call 61; refine (HF.out _).mono ?_; rintro e w1 ⟨rfl, rfl⟩)
  | (go_at_call 24; refine HN.out.mono ?_; rintro e w1 ⟨gc, rfl, hci, hgc, hB1⟩; have Hc1 := hid hci; have HB1 := hid hB1; clear hci hB1)
  | (go_at_call 65; refine (size_any _ p0 1 gc _ _ _ Hc1.out).mono ?_; rintro e w2 ⟨rfl, rfl⟩; rw [hs1])
  | (with_reducible refine wpl_make rfl 22 5 _ _ rfl Tryz.underlying22 info8 _ _ _ _ rfl rfl 16 rfl rfl (by omega) ?_))
 have hB2 := (Below.refl w1.heap.size w1).alloc (Nat.le_refl _) (.cells (row 16 (b8 fun _ => 0)) 5)
 have HB2 := hid (HB1.out.trans (hB2.mono HB1.out.size))
 refine (cmac_any _ p0 1 gc _ L key (some ⟨w1.heap.size, 0, none⟩) 16 16 zf 3 (by omega) (Hc1.out.keep hB2) (by omega) (by omega) (by rw [hs1]; omega) (fun h => by cases h) (zf_lt _) (Blk.reads (Blk.fresh w1 5 (row 16 (b8 zf))))).mono ?_
 rintro e w3 ⟨v, rfl, ho, hB3⟩
 obtain ⟨A3, c3, rfl, hc3, -, -⟩ := ho.slice'
 have ho2 := own_base ho HB2.out.size
 have HB3 := hid (HB2.out.trans (hB3.mono HB2.out.size))
 have hv : vlF 1 L key = cmacF 1 L key 16 zf := by unfold vlF; rw [if_pos rfl]
 rw [← hv] at ho2
 clear ho hB3 hB2 hv
 go_wp2_with fail
 go_ret2
 exact ⟨_, rfl, ho2, HB3.out⟩
set_option maxRecDepth 100000 in
set_option maxHeartbeats 1000000 in
theorem value_tdes (A : Option Addr) (L c : Nat) (key : Nat → Nat) (w : World) (hf : fit9 2 L) (hk : ∀ i, i < L → key i < 256) (hR : Reads w w.heap.size A L key) :
  Calls Tryz.prog 34 #[.int .i64 2, .slice A L c] w fun e w' => ∃ v, e = .returned (.tuple #[v, .nilIface]) ∧ Mem.Own w' w.heap.size 5 1 v 3 (vlF 2 L key) ∧ Below w.heap.size w w' := by
 have hL : L ≤ 32 := by have := hf.2; omega
 have hL0 : 0 < L := by have := hf.2; omega
 have hA : A = none → L = 0 ∧ c = 0 := fun h => by obtain ⟨ad, h1, _⟩ := hR hL0; rw [h] at h1; cases h1
 have HF := hid (refuse_ok 2 A L c (by omega) hf)
 have HN := hid (new2 A L c key p0 none w hL hA hk hR (fit_fits hf))
 have hs2 : sz 2 = 8 := rfl
 clear hf hk hR hA
 go_enter Tryz.func34, Tryz.ntmps34
 go_wp2_with (first
  | (go_at_call 61; refine (HF.out _).mono ?_; rintro e w1 ⟨rfl, rfl⟩)
  | (go_at_call 24; refine HN.out.mono ?_; rintro e w1 ⟨gc, rfl, hci, hgc, hB1⟩; have Hc1 := hid hci; have HB1 := hid hB1; clear hci hB1)
  | (go_at_call 65; refine (size_any _ p0 2 gc _ _ _ Hc1.out).mono ?_; rintro e w2 ⟨rfl, rfl⟩; rw [hs2])
  | (with_reducible refine wpl_make rfl 22 5 _ _ rfl Tryz.underlying22 info8 _ _ _ _ rfl rfl 8 rfl rfl (by omega) ?_))
 have hB2 := (Below.refl w1.heap.size w1).alloc (Nat.le_refl _) (.cells (row 8 (b8 fun _ => 0)) 5)
 have HB2 := hid (HB1.out.trans (hB2.mono HB1.out.size))
 have hz := Blk.fresh w1 5 (row 8 (b8 zf))
 refine (do12 _ p0 2 gc _ L key ⟨w1.heap.size, 0, none⟩ 8 false zf (by omega) (Hc1.out.keep hB2) hz.lt (fun i hi => by rw [add_zero_off]; exact hz.val i hi) (zf_lt _)).mono ?_
 rintro e w3 ⟨g3, rfl, hb3, hg3, hB3⟩
 rw [hs2] at hb3
 have HX := hid (hb3.reads.less (show 3 ≤ 8 by omega))
 have HB3 := hid (HB2.out.trans (hB3.mono HB2.out.size))
 clear hB3 hB2 hz hb3
 go_wp2_with fail
 refine (clone_any (some ⟨g3, 0, none⟩) 3 8 _ _ (by omega) (fun h => by cases h) HX.out).mono ?_
 rintro e w5 ⟨v5, rfl, ho5, hB5⟩
 obtain ⟨A5, c5, rfl, hc5, -, -⟩ := ho5.slice'
 have ho6 := own_base ho5 HB3.out.size
 have HB5 := hid (HB3.out.trans (hB5.mono HB3.out.size))
 have hv : vlF 2 L key = tc 2 L key false zf := by unfold vlF; rw [if_neg (by omega)]
 rw [← hv] at ho6
 clear ho5 hB5 hv
 go_wp2_with fail
 go_ret2
 exact ⟨_, rfl, ho6, HB5.out⟩
end Go.Proofs.YtaeleohjikheiaaGreatDoor.Pt

/-
 What lockboxref09's Sized, Even, Odd and Join return.
-/
namespace Go.Proofs.YtaeleohjikheiaaGreatDoor.Pt
open Mem Bk Md Go.ChangeShapes Go.WideShapes Go.ChangeAt Go.RowKit
theorem rsized_kind (z : Int) (h1 : z ≠ 1) (h2 : z ≠ 2) (n : Nat) (w : World) : Calls Tryz.prog 32 #[.int .i64 z, .int .i64 (n : Int)] w fun e w' => e = .returned (.int .i64 1) ∧ w' = w := by
 have e1 : (z != 1) = true := by simp; exact h1
 have e2 : (z != 2) = true := by simp; exact h2
 go_enter Tryz.func32, Tryz.ntmps32
 go_wp2_with fail
 go_ret
 exact ⟨rfl, rfl⟩
theorem rsized_ok (k n : Nat) (h : fit9 k n) (w : World) : Calls Tryz.prog 32 #[.int .i64 (k : Int), .int .i64 (n : Int)] w fun e w' => e = .returned (.int .i64 0) ∧ w' = w := by
 have hc : (k = 1 ∧ n = 16) ∨ (k = 1 ∧ n = 24) ∨ (k = 1 ∧ n = 32) ∨ (k = 2 ∧ n = 16) ∨ (k = 2 ∧ n = 24) := by unfold fit9 at h; omega
 clear h
 rcases hc with ⟨rfl, rfl⟩ | ⟨rfl, rfl⟩ | ⟨rfl, rfl⟩ | ⟨rfl, rfl⟩ | ⟨rfl, rfl⟩
 all_goals
  go_enter Tryz.func32, Tryz.ntmps32
  go_wp2_with fail
  go_ret
  exact ⟨rfl, rfl⟩
theorem rsized_bad (k n : Nat) (hk : k = 1 ∨ k = 2) (h : ¬ fit9 k n) (w : World) : Calls Tryz.prog 32 #[.int .i64 (k : Int), .int .i64 (n : Int)] w fun e w' => e = .returned (.int .i64 2) ∧ w' = w := by
 rcases hk with rfl | rfl
 ·have h3 : n ≠ 16 ∧ n ≠ 24 ∧ n ≠ 32 := by unfold fit9 at h; omega
  have e1 : ((n : Int) == 16) = false := by simp; omega
  have e2 : ((n : Int) == 24) = false := by simp; omega
  have e3 : ((n : Int) == 32) = false := by simp; omega
  clear h h3
  go_enter Tryz.func32, Tryz.ntmps32
  go_wp2_with fail
  go_ret
  exact ⟨rfl, rfl⟩
 ·have h3 : n ≠ 16 ∧ n ≠ 24 := by unfold fit9 at h; omega
  have e1 : ((n : Int) == 16) = false := by simp; omega
  have e2 : ((n : Int) == 24) = false := by simp; omega
  clear h h3
  go_enter Tryz.func32, Tryz.ntmps32
  go_wp2_with fail
  go_ret
  exact ⟨rfl, rfl⟩
/-- the first bits' sum, from the highest on -/
def pcs (b : Nat) : Nat → Nat
 | 0 => 0
 | q + 1 => pcs b q + b / 2 ^ (7 - q) % 2
theorem pcs_le (b : Nat) : ∀ q, pcs b q ≤ q
 | 0 => Nat.le_refl _
 | q + 1 => by unfold pcs; have := pcs_le b q; omega
theorem pcs_all : ∀ b, b < 256 → pcs b 8 = pc b := by decide +kernel
/-- where the first even byte is, or -1 -/
def evI (J L : Nat) : Int := if J < L then (J : Int) else -1
set_option maxRecDepth 100000 in
set_option maxHeartbeats 2000000 in
theorem reven_any (A : Option Addr) (L c : Nat) (f : Nat → Nat) (J : Nat) (w : World) (hL : L ≤ 1000) (hc : L ≤ c) (hf : ∀ i, i < L → f i < 256) (hR : Reads w w.heap.size A L f) (hJ : J ≤ L) (hodd : ∀ i, i < J → pc (f i) % 2 = 1) (hJe : J < L → pc (f J) % 2 = 0) :
  Calls Tryz.prog 33 #[.slice A L c] w fun e w' => e = .returned (.int .i64 (evI J L)) ∧ Below w.heap.size w w' := by
 have HR := hid hR
 have Hf := hid hf
 have Ho := hid hodd
 have He := hid hJe
 clear hR hf hodd hJe
 go_enter Tryz.func33, Tryz.ntmps33
 go_wp2_with fail
 go_loopw [3] (fun y wr => ∃ k : Nat, k ≤ J ∧ y = .int .i64 (k : Int) ∧ Below w.heap.size w wr) (fun y _ => L - (intOf y).toNat)
 case atStart => exact ⟨0, by omega, rfl, Below.refl _ _⟩
 case round =>
  obtain ⟨k, hk, rfl, hB⟩ := hrel
  rename World => wo
  by_cases hlt : k < L
  ·have hfk := Hf.out k hlt
   obtain ⟨ad, rfl, hbl, hcs⟩ := HR.out (by omega)
   have hkc : ¬ c = k := by omega
   have hk1c : k + 1 ≤ c := by omega
   have hR1 : Reads wo wo.heap.size (some (ad.add k)) 1 (fun _ => f k) := fun _ => ⟨_, rfl, by rw [add_block]; exact Nat.lt_of_lt_of_le hbl hB.size, fun i hi => by
    obtain rfl : i = 0 := by omega
    rw [add_add]
    exact (hB.cell (p := ad.add (k + 0)) (by rw [add_block]; exact hbl)).trans (hcs _ hlt)⟩
   have HR1 := hid hR1
   have HB := hid hB
   clear hcs hR1 hB
   go_wp2_with (go_at_call 64; refine (Des.bits_any _ 1 _ (fun _ => f k) (by omega) (by omega) (fun _ _ => hfk) _ HR1.out).mono ?_; rintro e w2 ⟨A2, c2, rfl, hc2, hL2, hB2⟩)
   obtain ⟨ad2, rfl, hbl2⟩ := hL2.some
   have HC2 : Hid (∀ q, q < 8 → w2.cell? (ad2.add q) = some (.int .i64 ((f k / 2 ^ (7 - q) % 2 : Nat) : Int))) := hid (fun q hq => by
    rw [hL2.at q (by omega)]
    unfold iv Des.bitsF
    rw [show q / 8 = 0 by omega, show q % 8 = q by omega])
   have HB2 := hid (HB.out.trans (hB2.mono HB.out.size))
   clear hL2 hB2 HB HR1
   go_loopw [5, 6] (fun nv kv wr => ∃ q : Nat, q ≤ 8 ∧ kv = .int .i64 (q : Int) ∧ nv = .int .i64 ((pcs (f k) q : Nat) : Int) ∧ wr = w2) (fun _ kv _ => 8 - (intOf kv).toNat)
   case atStart => exact ⟨0, by omega, rfl, rfl, rfl⟩
   case round =>
    obtain ⟨q, hq, rfl, rfl, rfl⟩ := hrel
    have hple := pcs_le (f k) q
    by_cases hq8 : q < 8
    ·have hcq := HC2.out q hq8
     have hps : pcs (f k) (q + 1) = pcs (f k) q + f k / 2 ^ (7 - q) % 2 := rfl
     have hb1 : f k / 2 ^ (7 - q) % 2 < 2 := Nat.mod_lt _ (by omega)
     have Hps := hid hps
     clear hps
     generalize f k / 2 ^ (7 - q) % 2 = bq at *
     go_wp2_with (first
      | (with_reducible refine wpl_sl1 rfl 68 _ _ rfl ad2 8 c2 rfl .i64 _ rfl q rfl 3 Tryz.underlying68 hq8 Des.iI ?_)
      | (with_reducible refine wpl_ld rfl 3 _ rfl _ rfl .i64 Tryz.underlying3 _ hcq ?_))
     exact ⟨⟨q + 1, by omega, val_int (by omega), val_int (by rw [Hps.out]; omega), by first | rfl | trivial⟩, by simp [intOf]; omega⟩
    ·obtain rfl : q = 8 := by omega
     have hp8 := pcs_all (f k) hfk
     rw [hp8]
     rw [hp8] at hple
     by_cases hkJ : k < J
     ·have hodd := Ho.out k hkJ
      have hm : (((pc (f k) : Nat) : Int) % 2 == 0) = false := by simp; omega
      clear hp8
      generalize pc (f k) = z at *
      clear hodd
      go_wp2_with fail
      exact ⟨⟨k + 1, by omega, val_int (by omega), HB2.out⟩, by simp [intOf]; omega⟩
     ·obtain rfl : k = J := by omega
      have heven := He.out hlt
      have hm : (((pc (f k) : Nat) : Int) % 2 == 0) = true := by simp; omega
      have hev : evI k L = (k : Int) := by unfold evI; rw [if_pos hlt]
      clear hp8
      generalize pc (f k) = z at *
      clear heven
      go_wp2_with fail
      go_ret
      exact ⟨by rw [hev]; rfl, HB2.out⟩
  ·have hkI : ¬ (k : Int) < (L : Int) := by omega
   have hev : evI J L = -1 := by unfold evI; rw [if_neg (by omega)]
   go_wp2_with fail
   go_ret
   exact ⟨rfl, hB⟩
theorem one_blk (w : World) (b : Nat) : Reads (w.alloc (.cells #[.int .u8 (b : Int)] 5)) (w.heap.size + 1) (some ⟨w.heap.size, 0, none⟩) 1 (fun _ => b) := fun _ => ⟨_, rfl, Nat.lt_succ_self _, fun j hj => by
 have : j = 0 := by omega
 subst this
 exact (Blk.fresh w 5 #[.int .u8 (b : Int)]).cell 0⟩
theorem reven_one (A : Option Addr) (c b : Nat) (w : World) (hc : 1 ≤ c) (hb : b < 256) (hR : Reads w w.heap.size A 1 (fun _ => b)) :
  Calls Tryz.prog 33 #[.slice A 1 c] w fun e w' => e = .returned (.int .i64 (if pc b % 2 = 0 then 0 else -1)) ∧ Below w.heap.size w w' := by
 by_cases h : pc b % 2 = 0
 ·refine (reven_any A 1 c (fun _ => b) 0 w (by omega) hc (fun _ _ => hb) hR (by omega) (fun i hi => by omega) (fun _ => h)).mono ?_
  rintro e w' ⟨rfl, hB⟩
  rw [if_pos h]
  exact ⟨rfl, hB⟩
 ·refine (reven_any A 1 c (fun _ => b) 1 w (by omega) hc (fun _ _ => hb) hR (by omega) (fun i hi => by omega) (fun h => by omega)).mono ?_
  rintro e w' ⟨rfl, hB⟩
  rw [if_neg h]
  exact ⟨rfl, hB⟩
set_option maxRecDepth 100000 in
set_option maxHeartbeats 2000000 in
theorem rodd_any (A : Option Addr) (L c : Nat) (f : Nat → Nat) (w : World) (hL : L ≤ 1000) (hf : ∀ i, i < L → f i < 256) (hR : Reads w w.heap.size A L f) :
  Calls Tryz.prog 31 #[.slice A L c] w fun e w' => ∃ v, e = .returned v ∧ Mem.Own w' w.heap.size 5 1 v L (odF f) ∧ Below w.heap.size w w' := by
 have HR := hid hR
 have Hf := hid hf
 clear hR hf
 go_enter Tryz.func31, Tryz.ntmps31
 go_wp2_with fail
 go_loopw [3, 4] (fun v y wr => ∃ i : Nat, i ≤ L ∧ y = .int .i64 (i : Int) ∧ Mem.Own wr w.heap.size 5 1 v i (odF f) ∧ Below w.heap.size w wr) (fun _ y _ => L - (intOf y).toNat)
 case atStart => exact ⟨0, by omega, rfl, Mem.Own.nil _ _ _ _ _, Below.refl _ _⟩
 case round =>
  obtain ⟨i, hi, rfl, hov, hB⟩ := hrel
  obtain ⟨A', c', rfl, hc', -⟩ := hov.slice'
  have Hov := hid hov
  have HB := hid hB
  clear hov hB
  by_cases hlt : i < L
  ·have hfi := Hf.out i hlt
   obtain ⟨ad, rfl, had, hcs⟩ := HR.out (by omega)
   have hcx : wr.cell? (ad.add i) = some (.int .u8 ((f i : Nat) : Int)) := (HB.out.cell (p := ad.add i) (by rw [add_block]; exact had)).trans (hcs _ hlt)
   have hod : Hid (odF f i = od (f i)) := hid rfl
   clear hcs
   generalize f i = b at *
   have hBa : Below w.heap.size w (wr.alloc (.cells #[.int .u8 (b : Int)] 5)) := HB.out.alloc HB.out.size _
   have HE := hid (reven_one (some ⟨wr.heap.size, 0, none⟩) 1 b (wr.alloc (.cells #[.int .u8 (b : Int)] 5)) (by omega) hfi (by have := one_blk wr b; simpa using this))
   have Hov1 := hid (Hov.out.alloc (.cells #[.int .u8 (b : Int)] 5))
   have HBa := hid hBa
   clear hBa
   obtain ⟨x, hx⟩ : ∃ x, x = od b := ⟨_, rfl⟩
   rw [← hx] at hod
   by_cases he : pc b % 2 = 0
   ·have hup := od_up b hfi he
    rw [if_pos he] at HE
    rw [← hx] at hup
    clear he hx
    by_cases h2 : b % 2 = 1
    ·rw [if_pos h2] at hup
     have hb2 : (((b : Nat) : Int) % 2 == 1) = true := by simp; omega
     have hb1 : ((b : Int) - 1) = ((x : Nat) : Int) := by omega
     have hw8 : IntKind.u8.wrap ((b : Int) - 1) = ((x : Nat) : Int) := by rw [hb1]; simp [IntKind.wrap_u8]; omega
     clear h2 hb1 hup
     go_wp2_with (first
      | (with_reducible refine wpl_sl1 rfl 22 _ _ rfl ad L c rfl .i64 _ rfl i rfl 5 Tryz.underlying22 hlt i8q ?_)
      | (with_reducible refine wpl_ld rfl 5 _ rfl _ rfl .u8 Tryz.underlying5 _ hcx ?_)
      | (go_at_call 33; refine HE.out.mono ?_; rintro e w2 ⟨rfl, hB2⟩; have HB2 := hid (HBa.out.trans (hB2.mono HBa.out.size)); have HovA := hid ((Hov1.out.below hB2 (Nat.le_refl _)).alloc (.cells #[.int .u8 ((x : Nat) : Int)] 5)); have HRA := hid (one_blk w2 x); have HBA := hid (HB2.out.alloc HB2.out.size (.cells #[.int .u8 ((x : Nat) : Int)] 5)); have hsA := HBA.out.size; have hs2 : (w2.alloc (.cells #[.int .u8 ((x : Nat) : Int)] 5)).heap.size = w2.heap.size + 1 := (by simp); have hs3 : w.heap.size ≤ w2.heap.size + 1 := (by omega); clear hB2 hsA hs2)
      | (at_builtin; refine wpl_app_gen rfl _ _ 22 rfl w.heap.size 5 (.int .u8 0) Tryz.underlying22 info_u8 rfl _ i _ rfl HovA.out (some ⟨w2.heap.size, 0, none⟩) 1 1 _ _ HRA.out (fun h => by cases h) rfl (by omega) (by simpa using hs3) ?_))
     intro v3 w3 ho3 hB3
     obtain ⟨A3, c3, rfl, hc3, -⟩ := ho3.slice'
     go_wp2_with fail
     refine ⟨⟨i + 1, by omega, val_int (by omega), ho3.ext (fun q hq => ?_), HBA.out.trans hB3⟩, by simp [intOf]; omega⟩
     unfold cat
     by_cases hqi : q < i
     ·rw [if_pos hqi]
     ·obtain rfl : q = i := by omega
      rw [if_neg hqi, hod.out]
    ·rw [if_neg h2] at hup
     have hb2 : (((b : Nat) : Int) % 2 == 1) = false := by simp; omega
     have hb1 : ((b : Int) + 1) = ((x : Nat) : Int) := by omega
     have hw8 : IntKind.u8.wrap ((b : Int) + 1) = ((x : Nat) : Int) := by rw [hb1]; simp [IntKind.wrap_u8]; omega
     clear h2 hb1 hup
     go_wp2_with (first
      | (with_reducible refine wpl_sl1 rfl 22 _ _ rfl ad L c rfl .i64 _ rfl i rfl 5 Tryz.underlying22 hlt i8q ?_)
      | (with_reducible refine wpl_ld rfl 5 _ rfl _ rfl .u8 Tryz.underlying5 _ hcx ?_)
      | (go_at_call 33; refine HE.out.mono ?_; rintro e w2 ⟨rfl, hB2⟩; have HB2 := hid (HBa.out.trans (hB2.mono HBa.out.size)); have HovA := hid ((Hov1.out.below hB2 (Nat.le_refl _)).alloc (.cells #[.int .u8 ((x : Nat) : Int)] 5)); have HRA := hid (one_blk w2 x); have HBA := hid (HB2.out.alloc HB2.out.size (.cells #[.int .u8 ((x : Nat) : Int)] 5)); have hsA := HBA.out.size; have hs2 : (w2.alloc (.cells #[.int .u8 ((x : Nat) : Int)] 5)).heap.size = w2.heap.size + 1 := (by simp); have hs3 : w.heap.size ≤ w2.heap.size + 1 := (by omega); clear hB2 hsA hs2)
      | (at_builtin; refine wpl_app_gen rfl _ _ 22 rfl w.heap.size 5 (.int .u8 0) Tryz.underlying22 info_u8 rfl _ i _ rfl HovA.out (some ⟨w2.heap.size, 0, none⟩) 1 1 _ _ HRA.out (fun h => by cases h) rfl (by omega) (by simpa using hs3) ?_))
     intro v3 w3 ho3 hB3
     obtain ⟨A3, c3, rfl, hc3, -⟩ := ho3.slice'
     go_wp2_with fail
     refine ⟨⟨i + 1, by omega, val_int (by omega), ho3.ext (fun q hq => ?_), HBA.out.trans hB3⟩, by simp [intOf]; omega⟩
     unfold cat
     by_cases hqi : q < i
     ·rw [if_pos hqi]
     ·obtain rfl : q = i := by omega
      rw [if_neg hqi, hod.out]
   ·rw [if_neg he] at HE
    have hxb : x = b := by rw [hx]; exact od_same b hfi (by omega)
    subst hxb
    clear he hx
    go_wp2_with (first
     | (with_reducible refine wpl_sl1 rfl 22 _ _ rfl ad L c rfl .i64 _ rfl i rfl 5 Tryz.underlying22 hlt i8q ?_)
     | (with_reducible refine wpl_ld rfl 5 _ rfl _ rfl .u8 Tryz.underlying5 _ hcx ?_)
     | (go_at_call 33; refine HE.out.mono ?_; rintro e w2 ⟨rfl, hB2⟩; have HB2 := hid (HBa.out.trans (hB2.mono HBa.out.size)); have HovA := hid ((Hov1.out.below hB2 (Nat.le_refl _)).alloc (.cells #[.int .u8 ((x : Nat) : Int)] 5)); have HRA := hid (one_blk w2 x); have HBA := hid (HB2.out.alloc HB2.out.size (.cells #[.int .u8 ((x : Nat) : Int)] 5)); have hsA := HBA.out.size; have hs2 : (w2.alloc (.cells #[.int .u8 ((x : Nat) : Int)] 5)).heap.size = w2.heap.size + 1 := (by simp); have hs3 : w.heap.size ≤ w2.heap.size + 1 := (by omega); clear hB2 hsA hs2)
     | (at_builtin; refine wpl_app_gen rfl _ _ 22 rfl w.heap.size 5 (.int .u8 0) Tryz.underlying22 info_u8 rfl _ i _ rfl HovA.out (some ⟨w2.heap.size, 0, none⟩) 1 1 _ _ HRA.out (fun h => by cases h) rfl (by omega) (by simpa using hs3) ?_))
    intro v3 w3 ho3 hB3
    obtain ⟨A3, c3, rfl, hc3, -⟩ := ho3.slice'
    go_wp2_with fail
    refine ⟨⟨i + 1, by omega, val_int (by omega), ho3.ext (fun q hq => ?_), HBA.out.trans hB3⟩, by simp [intOf]; omega⟩
    unfold cat
    by_cases hqi : q < i
    ·rw [if_pos hqi]
    ·obtain rfl : q = i := by omega
     rw [if_neg hqi, hod.out]
  ·have hiL : i = L := by omega
   have hiI : ¬ (i : Int) < (L : Int) := by omega
   go_wp2_with fail
   go_ret
   subst hiL
   exact ⟨_, rfl, Hov.out, HB.out⟩
set_option maxRecDepth 100000 in
set_option maxHeartbeats 2000000 in
theorem rjoin_any (k : Nat) (_hk : k = 1 ∨ k = 2) (P : Option Addr) (n cp : Nat) (a : Nat → Option Addr) (l c : Nat → Nat) (f : Nat → Nat → Nat) (L : Nat) (w : World) (hn0 : 0 < n) (hn : n ≤ 100) (hL : L ≤ 1000) (h : PartsAt w P n a l c f) (hl : ∀ i, i < n → l i = L) (hb : ∀ i, i < n → ∀ q, q < L → f i q < 256) :
  Calls Tryz.prog 37 #[.int .i64 (k : Int), .slice P n cp] w fun e w' => ∃ v, e = .returned v ∧ Mem.Own w' w.heap.size 5 1 v L (jk k (jn f n)) ∧ Below w.heap.size w w' := by
 obtain ⟨ad, rfl, had, hcs⟩ := h.1 hn0
 have HC : Hid (∀ W, Below w.heap.size w W → ∀ i, i < n → W.cell? (ad.add i) = some (.slice (a i) L (c i))) := hid (fun W hW i hi => by
  rw [← hl i hi]
  exact (hW.cell (p := ad.add i) (by rw [add_block]; exact had)).trans (hcs i hi))
 have HR : Hid (∀ i, i < n → Reads w w.heap.size (a i) L (f i)) := hid (fun i hi => by have := h.2 i hi; rwa [hl i hi] at this)
 have Hb := hid hb
 have Hjl := hid (fun q => jn_lt (f := f) (L := L) q)
 clear h hl hb hcs
 go_enter Tryz.func37, Tryz.ntmps37
 go_wp2_with fail
 go_loopw [5, 6] (fun v y wr => ∃ i : Nat, i ≤ L ∧ y = .int .i64 (i : Int) ∧ Mem.Own wr w.heap.size 5 1 v i (jn f n) ∧ Below w.heap.size w wr) (fun _ y _ => L - (intOf y).toNat)
 case atStart => exact ⟨0, by omega, rfl, Mem.Own.nil _ _ _ _ _, Below.refl _ _⟩
 case round =>
  obtain ⟨i, hi, rfl, hov, hB⟩ := hrel
  rename World => wo
  obtain ⟨A', c', rfl, hc', -⟩ := hov.slice'
  have Hov := hid hov
  have HB := hid hB
  clear hov hB
  have hc0 : wo.cell? (ad.add 0) = some (.slice (a 0) L (c 0)) := HC.out wo HB.out 0 hn0
  by_cases hlt : i < L
  ·go_wp2_with (first
    | (with_reducible refine wpl_sl1 rfl 59 _ _ rfl ad n cp rfl .i64 _ rfl 0 rfl 22 Tryz.underlying59 hn0 iSS ?_)
    | (with_reducible refine wpl_val rfl _ (exec_lds 22 _ rfl (ad.add 0) rfl 5 Tryz.underlying22 _ hc0) ?_))
   go_loopw [7, 8] (fun xv kv wr => ∃ q : Nat, q ≤ n ∧ kv = .int .i64 (q : Int) ∧ xv = .int .u8 ((jn f q i : Nat) : Int) ∧ wr = wo) (fun _ kv _ => n - (intOf kv).toNat)
   case atStart => exact ⟨0, by omega, rfl, rfl, rfl⟩
   case round =>
    obtain ⟨q, hq, rfl, rfl, rfl⟩ := hrel
    by_cases hqn : q < n
    ·have hcq : wr.cell? (ad.add q) = some (.slice (a q) L (c q)) := HC.out wr HB.out q hqn
     obtain ⟨ad2, had2, hbl2, hcs2⟩ := HR.out q hqn (by omega)
     rw [had2] at hcq
     have hcx : wr.cell? (ad2.add i) = some (.int .u8 ((f q i : Nat) : Int)) := (HB.out.cell (p := ad2.add i) (by rw [add_block]; exact hbl2)).trans (hcs2 i hlt)
     have hjq : jn f q i < 256 := Hjl.out q (fun r hr => Hb.out r (by omega)) i hlt
     have hfq : f q i < 256 := Hb.out q hqn i hlt
     have Hjn : Hid (jn f (q + 1) i = jn f q i ^^^ f q i) := hid rfl
     generalize c q = cq at *
     generalize f q i = y at *
     clear hcs2 had2
     go_wp2_with (first
      | (with_reducible refine wpl_sl1 rfl 59 _ _ rfl ad n cp rfl .i64 _ rfl q rfl 22 Tryz.underlying59 hqn iSS ?_)
      | (with_reducible refine wpl_val rfl _ (exec_lds 22 _ rfl (ad.add q) rfl 5 Tryz.underlying22 _ hcq) ?_)
      | (with_reducible refine wpl_sl1 rfl 22 _ _ rfl ad2 L cq rfl .i64 _ rfl i rfl 5 Tryz.underlying22 hlt i8q ?_)
      | (with_reducible refine wpl_ld rfl 5 _ rfl _ rfl .u8 Tryz.underlying5 _ hcx ?_))
     rw [u8_xor_nat _ _ hjq hfq, ← Hjn.out]
     exact ⟨⟨q + 1, by omega, val_int (by omega), by first | rfl | trivial, by first | rfl | trivial⟩, by simp [intOf]; omega⟩
    ·obtain rfl : q = n := by omega
     have HovA := hid (Hov.out.alloc (.cells #[.int .u8 ((jn f q i : Nat) : Int)] 5))
     have HRA := hid (one_blk wr (jn f q i))
     have HBA := hid (HB.out.alloc HB.out.size (.cells #[.int .u8 ((jn f q i : Nat) : Int)] 5))
     have hsA := HB.out.size
     have hs3 : w.heap.size ≤ wr.heap.size + 1 := by omega
     clear hsA
     generalize hz : jn f q i = z at *
     go_wp2_with (at_builtin; refine wpl_app_gen rfl _ _ 22 rfl w.heap.size 5 (.int .u8 0) Tryz.underlying22 info_u8 rfl _ i _ rfl HovA.out (some ⟨wr.heap.size, 0, none⟩) 1 1 _ _ HRA.out (fun h => by cases h) rfl (by omega) (by simpa using hs3) ?_)
     intro v3 w3 ho3 hB3
     obtain ⟨A3, c3, rfl, hc3, -⟩ := ho3.slice'
     go_wp2_with fail
     refine ⟨⟨i + 1, by omega, val_int (by omega), ho3.ext (fun r hr => ?_), HBA.out.trans hB3⟩, by simp [intOf]; omega⟩
     unfold cat
     by_cases hri : r < i
     ·rw [if_pos hri]
     ·obtain rfl : r = i := by omega
      rw [if_neg hri, hz]
  ·have hiL : i = L := by omega
   have hiI : ¬ (i : Int) < (L : Int) := by omega
   rw [hiL] at Hov
   clear hiL
   by_cases hk2 : k = 2
   ·have hkI : ((k : Int) == 2) = true := by simp; omega
    have hj : jk k (jn f n) = odF (jn f n) := by unfold jk; rw [if_pos hk2]
    have Hj := hid hj
    clear hk2 hj
    have hil : i = L := by omega
    subst hil
    go_wp2_with (first
     | (with_reducible refine wpl_sl1 rfl 59 _ _ rfl ad n cp rfl .i64 _ rfl 0 rfl 22 Tryz.underlying59 hn0 iSS ?_)
     | (with_reducible refine wpl_val rfl _ (exec_lds 22 _ rfl (ad.add 0) rfl 5 Tryz.underlying22 _ hc0) ?_)
     | (go_at_call 31; refine (rodd_any A' i c' (jn f n) _ hL (Hjl.out n Hb.out) Hov.out.reads).mono ?_; rintro e w2 ⟨v2, rfl, ho2, hB2⟩; obtain ⟨A2, c2, rfl, hc2, -⟩ := ho2.slice'))
    go_ret
    exact ⟨_, rfl, by rw [Hj.out]; exact own_base ho2 HB.out.size, HB.out.trans (hB2.mono HB.out.size)⟩
   ·have hkI : ((k : Int) == 2) = false := by simp; omega
    have hj : jk k (jn f n) = jn f n := by unfold jk; rw [if_neg hk2]
    have Hj := hid hj
    clear hk2 hj
    have hil : i = L := by omega
    subst hil
    go_wp2_with (first
     | (with_reducible refine wpl_sl1 rfl 59 _ _ rfl ad n cp rfl .i64 _ rfl 0 rfl 22 Tryz.underlying59 hn0 iSS ?_)
     | (with_reducible refine wpl_val rfl _ (exec_lds 22 _ rfl (ad.add 0) rfl 5 Tryz.underlying22 _ hc0) ?_))
    go_ret
    exact ⟨_, rfl, by rw [Hj.out]; exact Hov.out, HB.out⟩
end Go.Proofs.YtaeleohjikheiaaGreatDoor.Pt

/-
 DES with a key of zeros, of a block of zeros, reckoned; TDES with sixteen zeros.
-/
namespace Go.Proofs.YtaeleohjikheiaaGreatDoor.Des
def z0 : Nat → Nat := fun _ => 0
def zC (i : Nat) : Nat := [140, 166, 77, 233, 193, 177, 35, 167].getD i 0
def zS3 : List (Nat × Nat) := [(0, 0), (0, 3638090684), (3638090684, 3879398735), (3879398735, 1543138214), (1543138214, 1581638231), (1581638231, 2333703136), (2333703136, 4259940682), (4259940682, 434047836), (434047836, 2423919600), (2423919600, 2283342928), (2283342928, 634474876), (634474876, 4092563838), (4092563838, 2531497746), (2531497746, 1516086090), (1516086090, 93105418), (93105418, 3152678338), (3152678338, 471894012)]
theorem zK_ok : ∀ r, r < 16 → rounds 0 r = 0 := by decide +kernel
theorem zn : num z0 8 = 0 := by decide +kernel
theorem zp : pk ip 64 0 64 = 0 := by decide +kernel
theorem zS3_ok : ∀ r, r < 16 → zS3.getD (r + 1) (0, 0) = ((zS3.getD r (0, 0)).2, (zS3.getD r (0, 0)).1 ^^^ ff (zS3.getD r (0, 0)).2 0) := by decide +kernel
theorem zF : ∀ r, r ≤ 16 → fe (fun _ => 0) 0 0 r = zS3.getD r (0, 0) := by
 intro r
 induction r with
 | zero => intro _; rfl
 | succ r ih => intro h; rw [fe, ih (by omega), zS3_ok r (by omega)]
theorem zE : ∀ i, i < 8 → byt (fin (zS3.getD 16 (0, 0))) i = zC i := by decide +kernel
theorem z_des (i : Nat) (hi : i < 8) : des z0 z0 false i = zC i := by
 have hk : ∀ j, j < 16 → kk z0 false j = (fun _ => 0) j := fun j hj => by
  show rounds (num z0 8) j = _
  rw [zn]; exact zK_ok j hj
 rw [← zE i hi, ← zF 16 (by omega)]
 show byt (blk (kk z0 false) (num z0 8)) i = _
 rw [zn, blk_ext _ hk]
 unfold blk
 rw [zp]
theorem z0_by : By8 z0 := fun _ _ => by unfold z0; omega
theorem z_tdes (i : Nat) (hi : i < 8) : tdes 16 z0 z0 false i = zC i := by
 rw [tdes_one (k := z0) (fun j _ i _ => by unfold tkey; rw [if_neg (by omega), if_pos rfl]; rfl) z0_by]
 exact z_des i hi
end Go.Proofs.YtaeleohjikheiaaGreatDoor.Des

/-
 Two and three parts put together; lockboxlaw09's awake returns true: the chapter's example.
-/
namespace Go.Proofs.YtaeleohjikheiaaGreatDoor.Pt
open Mem Bk Md Mc As Go.ChangeShapes Go.WideShapes Go.ChangeAt Go.RowKit
def sel {α : Type} (x y : α) : Nat → α := fun i => if i = 0 then x else y
def sel3 {α : Type} (x y z : α) : Nat → α := fun i => if i = 0 then x else if i = 1 then y else z
theorem parts2 {w : World} {L0 L1 : Nat} {A0 A1 : Option Addr} {c0 c1 : Nat} {f0 f1 : Nat → Nat} (h0 : Reads w w.heap.size A0 L0 f0) (h1 : Reads w w.heap.size A1 L1 f1) :
  PartsAt (w.alloc (.cells #[.slice A0 L0 c0, .slice A1 L1 c1] 22)) (some ⟨w.heap.size, 0, none⟩) 2 (sel A0 A1) (sel L0 L1) (sel c0 c1) (sel f0 f1) := by
 have hB := (Below.refl w.heap.size w).alloc (Nat.le_refl _) (.cells #[.slice A0 L0 c0, .slice A1 L1 c1] 22)
 have hb := Blk.fresh w 22 #[.slice A0 L0 c0, .slice A1 L1 c1]
 refine ⟨fun _ => ⟨_, rfl, hb.lt, fun i hi => ?_⟩, fun i hi => ?_⟩
 ·rw [add_zero_off, hb.cell]
  match i, hi with
  | 0, _ => rfl
  | 1, _ => rfl
 ·match i, hi with
  | 0, _ => exact (h0.below hB).more hB.size
  | 1, _ => exact (h1.below hB).more hB.size
theorem parts3 {w : World} {L0 L1 L2 : Nat} {A0 A1 A2 : Option Addr} {c0 c1 c2 : Nat} {f0 f1 f2 : Nat → Nat} (h0 : Reads w w.heap.size A0 L0 f0) (h1 : Reads w w.heap.size A1 L1 f1) (h2 : Reads w w.heap.size A2 L2 f2) :
  PartsAt (w.alloc (.cells #[.slice A0 L0 c0, .slice A1 L1 c1, .slice A2 L2 c2] 22)) (some ⟨w.heap.size, 0, none⟩) 3 (sel3 A0 A1 A2) (sel3 L0 L1 L2) (sel3 c0 c1 c2) (sel3 f0 f1 f2) := by
 have hB := (Below.refl w.heap.size w).alloc (Nat.le_refl _) (.cells #[.slice A0 L0 c0, .slice A1 L1 c1, .slice A2 L2 c2] 22)
 have hb := Blk.fresh w 22 #[.slice A0 L0 c0, .slice A1 L1 c1, .slice A2 L2 c2]
 refine ⟨fun _ => ⟨_, rfl, hb.lt, fun i hi => ?_⟩, fun i hi => ?_⟩
 ·rw [add_zero_off, hb.cell]
  match i, hi with
  | 0, _ => rfl
  | 1, _ => rfl
  | 2, _ => rfl
 ·match i, hi with
  | 0, _ => exact (h0.below hB).more hB.size
  | 1, _ => exact (h1.below hB).more hB.size
  | 2, _ => exact (h2.below hB).more hB.size
theorem join2 (k L : Nat) (A0 A1 : Option Addr) (c0 c1 : Nat) (f0 f1 : Nat → Nat) (w : World) (hL : fit9 k L) (h0 : Reads w w.heap.size A0 L f0) (h1 : Reads w w.heap.size A1 L f1) (b0 : ∀ i, i < L → f0 i < 256) (b1 : ∀ i, i < L → f1 i < 256) :
  Calls Tryz.prog 36 #[.int .i64 (k : Int), .slice (some ⟨w.heap.size, 0, none⟩) 2 2] (w.alloc (.cells #[.slice A0 L c0, .slice A1 L c1] 22)) fun e w' => ∃ g, e = .returned (.tuple #[.slice (some ⟨g, 0, none⟩) L L, .nilIface]) ∧ Blk w' g 5 (row L (b8 (jk k (xr (xr zf f0) f1)))) ∧ w.heap.size ≤ g ∧ Below w.heap.size w w' := by
 have hB := (Below.refl w.heap.size w).alloc (Nat.le_refl _) (.cells #[.slice A0 L c0, .slice A1 L c1] 22)
 refine (join_any k _ 2 2 _ _ _ _ L 2 _ (.inl rfl) (parts2 h0 h1) hL rfl (Nat.le_refl _) (by omega) (fun i hi => ?_) (fun h => by omega) (fun i hi => ?_)).mono ?_
 ·unfold sel; split <;> rfl
 ·unfold sel; split
  ·exact b0
  ·exact b1
 ·rintro e w' ⟨hB', h⟩
  rw [if_pos rfl] at h
  obtain ⟨g, he, hb, hg⟩ := h
  exact ⟨g, he, hb, Nat.le_trans hB.size hg, hB.trans (hB'.mono hB.size)⟩
theorem join3 (k L : Nat) (A0 A1 A2 : Option Addr) (c0 c1 c2 : Nat) (f0 f1 f2 : Nat → Nat) (w : World) (hL : fit9 k L) (h0 : Reads w w.heap.size A0 L f0) (h1 : Reads w w.heap.size A1 L f1) (h2 : Reads w w.heap.size A2 L f2) (b0 : ∀ i, i < L → f0 i < 256) (b1 : ∀ i, i < L → f1 i < 256) (b2 : ∀ i, i < L → f2 i < 256) :
  Calls Tryz.prog 36 #[.int .i64 (k : Int), .slice (some ⟨w.heap.size, 0, none⟩) 3 3] (w.alloc (.cells #[.slice A0 L c0, .slice A1 L c1, .slice A2 L c2] 22)) fun e w' => ∃ g, e = .returned (.tuple #[.slice (some ⟨g, 0, none⟩) L L, .nilIface]) ∧ Blk w' g 5 (row L (b8 (jk k (xr (xr (xr zf f0) f1) f2)))) ∧ w.heap.size ≤ g ∧ Below w.heap.size w w' := by
 have hB := (Below.refl w.heap.size w).alloc (Nat.le_refl _) (.cells #[.slice A0 L c0, .slice A1 L c1, .slice A2 L c2] 22)
 refine (join_any k _ 3 3 _ _ _ _ L 3 _ (.inr rfl) (parts3 h0 h1 h2) hL rfl (Nat.le_refl _) (by omega) (fun i hi => ?_) (fun h => by omega) (fun i hi => ?_)).mono ?_
 ·unfold sel3; split
  ·rfl
  ·split <;> rfl
 ·unfold sel3; split
  ·exact b0
  ·split
   ·exact b1
   ·exact b2
 ·rintro e w' ⟨hB', h⟩
  rw [if_pos rfl] at h
  obtain ⟨g, he, hb, hg⟩ := h
  exact ⟨g, he, hb, Nat.le_trans hB.size hg, hB.trans (hB'.mono hB.size)⟩
def wV : Nat → Nat := fun i => [140, 166, 77].getD i 0
theorem wV_row : #[Value.int .u8 140, .int .u8 166, .int .u8 77] = row 3 (b8 wV) := by kernel_rfl
theorem ex_val : eqB 3 (vlF 2 16 zf) wV = true := eqB_true fun i hi => by
 have h : vlF 2 16 zf i = Des.zC i := by
  unfold vlF
  rw [if_neg (by omega)]
  unfold tc
  rw [if_neg (by omega)]
  exact Des.z_tdes i (by omega)
 rw [h]
 revert i
 decide +kernel
theorem fit216 : fit9 2 16 := ⟨.inr rfl, .inl rfl⟩
theorem fit116 : fit9 1 16 := ⟨.inl rfl, .inl rfl⟩
theorem zf_even : EvenAt 16 zf 0 := ⟨by omega, by decide, fun j hj => by omega⟩
theorem odz : ∀ i, i < 16 → odF zf i = 1 := fun i _ => by unfold odF zf; decide
theorem ex_join : eqB 16 (jk 1 (xr (xr zf zf) (odF zf))) (odF zf) = true := eqB_true fun i hi => by
 unfold jk
 rw [if_neg (by omega)]
 unfold xr
 rw [odz i hi]
 show (0 ^^^ 0) ^^^ 1 = 1
 decide
set_option maxRecDepth 100000 in
set_option maxHeartbeats 1000000 in
theorem awake9_any (w : World) (hg : Laid w) : Calls Tryz.prog 28 #[] w fun e w' => e = .returned (.bool true) ∧ Below w.heap.size w w' := by
 have hB0 := (Below.refl w.heap.size w).alloc (Nat.le_refl _) (.cells (row 16 (b8 fun _ => 0)) 5)
 have HK : Hid (Reads (w.alloc (.cells (row 16 (b8 fun _ => 0)) 5)) (w.alloc (.cells (row 16 (b8 fun _ => 0)) 5)).heap.size (some ⟨w.heap.size, 0, none⟩) 16 zf) := hid (Blk.reads (Blk.fresh w 5 (row 16 (b8 zf))))
 have HB0 := hid hB0
 have HG := hid hg
 clear hB0 hg
 have hwr := wV_row
 go_enter Tryz.func28, Tryz.ntmps28
 go_wp2_with (with_reducible refine wpl_make rfl 22 5 _ _ rfl Tryz.underlying22 info8 _ _ _ _ rfl rfl 16 rfl rfl (by omega) ?_)
 generalize w.alloc (.cells (row 16 (b8 fun _ => 0)) 5) = w0 at *
 refine (odd_any (some ⟨w.heap.size, 0, none⟩) 16 16 zf _ (by omega) (zf_lt _) HK.out).mono ?_
 rintro e w1 ⟨rfl, hb1, hB1⟩
 have HK1 := hid ((HK.out.below hB1).more hB1.size)
 have HO1 := hid hb1
 have HB1 := hid (HB0.out.trans (hB1.mono HB0.out.size))
 clear hb1 hB1 HK HB0
 go_wp2_with fail
 refine (value_tdes (some ⟨w.heap.size, 0, none⟩) 16 16 zf _ fit216 (zf_lt _) HK1.out).mono ?_
 rintro e w2 ⟨v2, rfl, ho2, hB2⟩
 obtain ⟨A2, c2, rfl, hc2, -, -⟩ := ho2.slice'
 have HV2 := hid ho2.reads
 have HK2 := hid ((HK1.out.below hB2).more hB2.size)
 have HO2 := hid (HO1.out.below hB2 HO1.out.lt)
 have HB2 := hid (HB1.out.trans (hB2.mono HB1.out.size))
 clear ho2 hB2 HK1 HO1 HB1
 go_wp2_with fail
 refine (join2 1 16 (some ⟨w.heap.size, 0, none⟩) (some ⟨w0.heap.size, 0, none⟩) 16 16 zf (odF zf) _ fit116 HK2.out HO2.out.reads (zf_lt _) (odF_lt (zf_lt _))).mono ?_
 rintro e w3 ⟨g3, rfl, hb3, hg3, hB3⟩
 have HJ3 := hid hb3.reads
 have HV3 := hid ((HV2.out.below hB3).more hB3.size)
 have HK3 := hid ((HK2.out.below hB3).more hB3.size)
 have HO3 := hid (HO2.out.below hB3 HO2.out.lt)
 have HB3 := hid (HB2.out.trans (hB3.mono HB2.out.size))
 clear hb3 hB3 HV2 HK2 HO2 HB2
 have hBw := (Below.refl w3.heap.size w3).alloc (Nat.le_refl _) (.cells (row 3 (b8 wV)) 5)
 have HW := hid (Blk.reads (Blk.fresh w3 5 (row 3 (b8 wV))))
 have HJw := hid ((HJ3.out.below hBw).more hBw.size)
 have HVw := hid ((HV3.out.below hBw).more hBw.size)
 have HKw := hid ((HK3.out.below hBw).more hBw.size)
 have HOw := hid (HO3.out.below hBw HO3.out.lt)
 have HBw := hid (HB3.out.trans (hBw.mono HB3.out.size))
 have h1 := odz 3 (by omega)
 have hc1 : w3.cell? ⟨w0.heap.size, 3, none⟩ = some (.int .u8 1) := by
  have := HO3.out.val 3 (by omega)
  rw [h1] at this
  exact this
 clear hBw HJ3 HV3 HK3 HO3 HB3 h1
 go_wp2_with fail
 clear hwr hc1
 refine (same_any A2 _ 3 c2 3 (vlF 2 16 zf) wV _ (by omega) HVw.out HW.out).mono ?_
 rintro e w4 ⟨rfl, hB4⟩
 rw [ex_val]
 have HJ4 := hid ((HJw.out.below hB4).more hB4.size)
 have HK4 := hid ((HKw.out.below hB4).more hB4.size)
 have HO4 := hid (HOw.out.below hB4 HOw.out.lt)
 have HB4 := hid (HBw.out.trans (hB4.mono HBw.out.size))
 clear hB4 HJw HVw HKw HOw HBw HW
 go_wp2_with fail
 refine (same_any _ _ 16 16 16 (jk 1 (xr (xr zf zf) (odF zf))) (odF zf) _ (by omega) HJ4.out HO4.out.reads).mono ?_
 rintro e w5 ⟨rfl, hB5⟩
 rw [ex_join]
 have HK5 := hid ((HK4.out.below hB5).more hB5.size)
 have HO5 := hid (HO4.out.below hB5 HO4.out.lt)
 have HB5 := hid (HB4.out.trans (hB5.mono HB4.out.size))
 clear hB5 HJ4 HK4 HO4 HB4
 go_wp2_with fail
 refine (right_even _ 16 16 zf 0 fit216 _ (zf_lt _) HK5.out zf_even).mono ?_
 rintro e w6 ⟨rfl, hb6, hB6⟩
 have HF6 := hid hb6
 have HO6 := hid (HO5.out.below hB6 HO5.out.lt)
 have HB6 := hid (HB5.out.trans (hB6.mono HB5.out.size))
 clear hb6 hB6 HK5 HO5 HB5
 go_wp2_with fail
 refine (code_fault 3 _ _ (HG.out.below HB6.out) (HF6.out.cell 1)).mono ?_
 rintro e w7 ⟨rfl, hB7⟩
 have HO7 := hid (HO6.out.below hB7 HO6.out.lt)
 have HB7 := hid (HB6.out.trans (hB7.mono HB6.out.size))
 clear hB7 HF6 HO6 HB6
 go_wp2_with fail
 refine (right_odd _ 16 16 (odF zf) fit216 _ (odF_lt (zf_lt _)) HO7.out.reads (odF_all (zf_lt _))).mono ?_
 rintro e w8 ⟨rfl, rfl⟩
 go_wp2_with fail
 go_ret
 exact ⟨rfl, HB7.out⟩
end Go.Proofs.YtaeleohjikheiaaGreatDoor.Pt
