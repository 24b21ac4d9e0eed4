/-
 What lengthOf and refuse of package head return.
-/
import Derived.Test.YtklgngdcihkfjaaDoorHd4
import Derived.Test.YtklgngdcihkfjaaDoorAsX
namespace Go.Proofs.YtklgngdcihkfjaaDoor.Hd
open Mem As Go.ChangeShapes Go.WideShapes Go.ChangeAt Go.RowKit
def lenF (f : Nat → Nat) : Nat → Nat
 | 0 => 0
 | k + 1 => 10 * lenF f k + (f k - 48)
def lenZ (f : Nat → Nat) : Int := if dgB (f 0) && dgB (f 1) && dgB (f 2) && dgB (f 3) then (lenF f 4 : Int) else -1
theorem dgB_iff {c : Nat} : dgB c = true ↔ 48 ≤ c ∧ c ≤ 57 := by simp [dgB]
theorem lenF_lt {f : Nat → Nat} : ∀ k, (∀ i, i < k → dgB (f i) = true) → lenF f k < 10 ^ k
 | 0, _ => by simp [lenF]
 | k + 1, h => by
  have h1 := lenF_lt k (fun i hi => h i (by omega))
  have h2 := dgB_iff.1 (h k (by omega))
  simp only [lenF, Nat.pow_succ]
  omega
theorem pow4 {k : Nat} (h : k < 4) : 10 ^ k ≤ 10000 := by
 have h : k = 0 ∨ k = 1 ∨ k = 2 ∨ k = 3 := by omega
 rcases h with rfl | rfl | rfl | rfl <;> decide
theorem lenZ_bad {f : Nat → Nat} {k : Nat} (hk : k < 4) (h : dgB (f k) = false) : lenZ f = -1 := by
 unfold lenZ
 have : k = 0 ∨ k = 1 ∨ k = 2 ∨ k = 3 := by omega
 rcases this with rfl | rfl | rfl | rfl <;> simp [h]
theorem lenZ_ok {f : Nat → Nat} (h : ∀ i, i < 4 → dgB (f i) = true) : lenZ f = (lenF f 4 : Int) := by
 unfold lenZ
 rw [h 0 (by omega), h 1 (by omega), h 2 (by omega), h 3 (by omega)]
 rfl
set_option maxRecDepth 100000 in
theorem lenOf_any (f : Nat → Nat) (hf : ∀ i, f i < 256) (w : World) : Calls Tryd.prog 26 #[.string (strF 4 f)] w fun e w' => e = .returned (.int .i64 (lenZ f)) ∧ w' = w := by
 have hsz := strF_size 4 f
 go_enter Tryd.func26, Tryd.ntmps26
 go_wp2_with fail
 go_loopw [3, 4, 7] (fun s _ y wr => ∃ k : Nat, k ≤ 4 ∧ s = .int .i64 ((lenF f k : Nat) : Int) ∧ y = .int .i64 (k : Int) ∧ Hid (∀ i, i < k → dgB (f i) = true) ∧ wr = w) (fun _ _ y _ => 4 - (intOf y).toNat)
 case atStart => exact ⟨0, by omega, rfl, rfl, hid (fun i hi => by omega), rfl⟩
 case round =>
  obtain ⟨k, hk, rfl, rfl, HD, rfl⟩ := hrel
  by_cases hlt : k < 4
  ·have hb := byteAt_strF hlt (hf k)
   have HM := hid (may1 (f k))
   have hL := lenF_lt k HD.out
   have hL2 : lenF f k < 10000 := Nat.lt_of_lt_of_le hL (pow4 hlt)
   clear hL
   cases hd : dgB (f k)
   ·have Hd := hid hd
    clear hd
    go_wp2_with (first
     | (with_reducible refine wpl_str rfl 9 _ _ rfl (strF 4 f) rfl .i64 _ rfl k rfl Tryd.underlying9 (f k) hb ?_)
     | (go_at_call 19; refine (HM.out _).mono ?_; rintro e w' ⟨rfl, rfl⟩; rw [Hd.out]))
    go_ret
    exact ⟨by rw [lenZ_bad hlt Hd.out]; rfl, rfl⟩
   have h4 := dgB_iff.1 hd
   have Hd := hid hd
   clear hd
   go_wp2_with (first
    | (with_reducible refine wpl_str rfl 9 _ _ rfl (strF 4 f) rfl .i64 _ rfl k rfl Tryd.underlying9 (f k) hb ?_)
    | (go_at_call 19; refine (HM.out _).mono ?_; rintro e w' ⟨rfl, rfl⟩; rw [Hd.out]))
   go_round
   case rel => exact ⟨k + 1, by omega, val_int (by simp only [lenF]; omega), val_int (by omega), hid (fun i hi => by
     by_cases h : i < k
     ·exact HD.out i h
     obtain rfl : i = k := by omega
     exact Hd.out), by first | rfl | trivial⟩
   case measure => simp [intOf]; omega
  obtain rfl : k = 4 := by omega
  have hZ := hid (lenZ_ok HD.out)
  go_wp2_with fail
  go_ret
  exact ⟨by rw [hZ.out]; rfl, rfl⟩
theorem as_box (n : Addr) (w : World) (hg : Laid w) : Calls Tryd.prog 24 #[.iface 53 (.pointer (some n)), .iface 54 (.pointer (some ⟨w.heap.size, 0, none⟩))] (w.alloc (.cells #[.pointer none] 53)) fun e w' => e = .returned (.bool true) ∧ Below w.heap.size w w' ∧ w'.cell? ⟨w.heap.size, 0, none⟩ = some (.pointer (some n)) := by
 have hgA : Laid (w.alloc (.cells #[.pointer none] 53)) := hg.below ((Below.refl _ _).alloc (Nat.le_refl _) _)
 refine (as_hitF n _ (.pointer none) _ hgA (by simp) (by simp)).mono fun e w' ⟨h1, hw'⟩ => ⟨h1, ?_, ?_⟩
 ·rw [hw']
  exact (((((Below.refl w.heap.size w).alloc (Nat.le_refl _) _).alloc (by simp) _).alloc (by simp; omega) _).alloc (by simp; omega) _).alloc (by simp; omega) _ |>.setCell (by simp) _
 rw [hw']
 exact (Blk.cell (Blk.setCell (((((Blk.fresh w 53 #[.pointer none]).alloc _).alloc _).alloc _).alloc _) 0 _) 0).trans (by simp)
def zeroB (f : Nat → Nat) : Bool := sameS 4 f 4 (fun _ => 48)
def refZ (z len : Int) (f : Nat → Nat) : Int := if z = 0 then 0 else if len < 16 then 1 else if 0 ≤ z then z else if zeroB f = false then 12 else -1
theorem exec_nesZ {P : Program} {o : Oper} {a : Act} {w : World} (t : TypeId) (x y : Operand) (rt : TypeId) (ho : o.op = .binOp .neq t x y rt) (f : Nat → Nat) (hx : a.eval x = .string (strF 4 f)) (hy : a.eval y = .string ⟨#[48, 48, 48, 48]⟩) (hf : ∀ i, f i < 256) (b : Bool) (hb : (!zeroB f) = b) :
  (execOp a.eval o).run P w = .ok (.value (.bool b)) w :=
 exec_nesB t x y rt ho 4 4 f (fun _ => 48) hx (hy.trans rfl) (fun i _ => hf i) (fun _ _ => by omega) b hb
theorem wrong_lo (h : Hd) : wrong h = -1 ∨ 0 ≤ wrong h := by
 unfold wrong
 repeat' split
 all_goals omega
set_option maxRecDepth 100000 in
set_option maxHeartbeats 400000 in
theorem refuse_any (h : Hd) (ok : h.Ok) (len : Int) (e4 : Nat → Nat) (he : ∀ i, e4 i < 256) (w : World) (hg : Laid w) : Calls Tryd.prog 27 #[.agg (hdC h), .int .i64 len, .string (strF 4 e4)] w (RightOut (refZ (wrong h) len e4) w) := by
 have HR := hid (right_any h ok)
 have hlo := wrong_lo h
 obtain ⟨z, hz⟩ : ∃ z, z = refZ (wrong h) len e4 := ⟨_, rfl⟩
 rw [← hz]
 have Hz := hid hz
 clear hz
 generalize wrong h = q at *
 obtain ⟨v, nn, f, a, k, m, g, x⟩ := h
 have hB0 : Below w.heap.size w (w.alloc (.cells (hdC ⟨v, nn, f, a, k, m, g, x⟩) 23)) := (Below.refl _ _).alloc (Nat.le_refl _) _
 have hs0 := hB0.size
 have hg0 := hg.below hB0
 unfold hdC at hB0 hg0 hs0 HR ⊢
 simp only at hB0 hg0 hs0 HR ⊢
 have HB0 := hid hB0
 have Hg0 := hid hg0
 have Hs0 := hid hs0
 clear hB0 ok hg hg0 hs0
 go_enter Tryd.func27, Tryd.ntmps27
 go_wp2_with fail
 refine (HR.out _).mono ?_
 rintro e w1 ⟨hB1, v1, rfl, ho⟩
 have HB1 := hid (HB0.out.trans (hB1.mono HB0.out.size))
 have Hg1 := hid (Hg0.out.below hB1)
 have hB2 : ∀ cs t, Below w1.heap.size w1 (w1.alloc (.cells cs t)) := fun cs t => (Below.refl _ _).alloc (Nat.le_refl _) _
 have HB2 := hid hB2
 clear hB2
 rcases ho with ⟨hq, rfl⟩ | ⟨hq, g1, hg1, rfl, hb⟩
 ·subst hq
  clear hB1 HR Hg0 hlo
  by_cases hl : len < 16
  ·have hz : z = 1 := by rw [Hz.out]; simp [refZ, hl]
   go_wp2_with fail
   refine (as_nil _ _).mono ?_
   rintro e w2 ⟨rfl, rfl⟩
   go_wp2_with fail
   refine (unf_any 1 _).mono ?_
   rintro e w3 ⟨rfl, hb, hB⟩
   have hO := right_bad (w := w) (g := w1.heap.size + 1) (by omega) (HB1.out.trans ((HB2.out _ _).mono HB1.out.size)) (by simp) hb hB
   rw [← hz] at hO
   go_wp2_with fail
   go_ret
   exact hO
  cases hzb : zeroB e4
  ·have hz : z = 12 := by rw [Hz.out]; simp [refZ, hl, hzb]
   have hzb' : (!zeroB e4) = true := by rw [hzb]; rfl
   go_wp2_with fail
   refine (as_nil _ _).mono ?_
   rintro e w2 ⟨rfl, rfl⟩
   go_wp2_with (with_reducible refine wpl_valw rfl _ (exec_nesZ 9 _ _ _ rfl e4 rfl rfl he _ hzb') ?_)
   refine (unf_any 12 _).mono ?_
   rintro e w3 ⟨rfl, hb, hB⟩
   have hO := right_bad (w := w) (g := w1.heap.size + 1) (by omega) (HB1.out.trans ((HB2.out _ _).mono HB1.out.size)) (by simp) hb hB
   rw [← hz] at hO
   go_wp2_with fail
   go_ret
   exact hO
  have hz : z = -1 := by rw [Hz.out]; simp [refZ, hl, hzb]
  have hzb' : (!zeroB e4) = false := by rw [hzb]; rfl
  go_wp2_with fail
  refine (as_nil _ _).mono ?_
  rintro e w2 ⟨rfl, rfl⟩
  go_wp2_with (with_reducible refine wpl_valw rfl _ (exec_nesZ 9 _ _ _ rfl e4 rfl rfl he _ hzb') ?_)
  go_ret
  exact ⟨HB1.out.trans ((HB2.out _ _).mono HB1.out.size), _, rfl, .inl ⟨hz, rfl⟩⟩
 have hg2 : w.heap.size ≤ g1 := Nat.le_trans Hs0.out hg1
 have hgl := hb.lt
 have Hb := hid hb
 clear hB1 HR Hg0 hlo hb hg1
 go_wp2_with fail
 refine (as_box _ _ Hg1.out).mono ?_
 rintro e w2 ⟨rfl, hB, c2⟩
 have hb2 := Hb.out.below hB hgl
 have c3 : w2.cell? ⟨g1, 0, none⟩ = some (.int .i64 q) := hb2.cell 0
 have Hb2 := hid hb2
 have HB3 := hid (HB1.out.trans (hB.mono HB1.out.size))
 clear hB hb2
 by_cases hq0 : q = 0
 ·have hz : z = 0 := by rw [Hz.out]; simp [refZ, hq0]
  subst hq0
  go_wp2_with fail
  go_ret
  exact ⟨HB3.out, _, rfl, .inr ⟨by omega, _, hg2, rfl, by rw [hz]; exact Hb2.out⟩⟩
 have hqI : ¬ q < 1 := by omega
 by_cases hl : len < 16
 ·have hz : z = 1 := by rw [Hz.out]; simp [refZ, hl, hq0]
  go_wp2_with fail
  refine (unf_any 1 _).mono ?_
  rintro e w3 ⟨rfl, hb, hB⟩
  have hO := right_bad (w := w) (by omega) HB3.out rfl hb hB
  rw [← hz] at hO
  go_wp2_with fail
  go_ret
  exact hO
 have hz : z = q := by rw [Hz.out]; simp [refZ, hl, hq0, hq]
 go_wp2_with fail
 go_ret
 exact ⟨HB3.out, _, rfl, .inr ⟨by omega, _, hg2, rfl, by rw [hz]; exact Hb2.out⟩⟩
end Go.Proofs.YtklgngdcihkfjaaDoor.Hd
