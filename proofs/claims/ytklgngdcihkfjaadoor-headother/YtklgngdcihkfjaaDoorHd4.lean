/-
 What Fits of package head returns; lockboxref10's Print.
-/
import Derived.Test.YtklgngdcihkfjaaDoorHd3
namespace Go.Proofs.YtklgngdcihkfjaaDoor.Hd
open Mem Go.ChangeShapes Go.WideShapes Go.ChangeAt Go.RowKit
def FitsOut (z : Int) (w : World) (e : Ending) (w' : World) : Prop := Below w.heap.size w w' ∧
 ((z = -1 ∧ e = .returned .nilIface) ∨ (0 ≤ z ∧ ∃ g, w.heap.size ≤ g ∧ e = .returned (.iface 53 (.pointer (some ⟨g, 0, none⟩))) ∧ Blk w' g 56 #[.int .i64 z, .iface 44 (.int .i64 5)]))
def sameS (n : Nat) (f : Nat → Nat) (m : Nat) (g : Nat → Nat) : Bool := decide (n = m) && eqB n f g
theorem exec_nesB {P : Program} {o : Oper} {a : Act} {w : World} (t : TypeId) (x y : Operand) (rt : TypeId) (ho : o.op = .binOp .neq t x y rt) (n m : Nat) (f g : Nat → Nat) (hx : a.eval x = .string (strF n f)) (hy : a.eval y = .string (strF m g)) (hf : ∀ i, i < n → f i < 256) (hg : ∀ i, i < m → g i < 256) (b : Bool) (hb : (!sameS n f m g) = b) :
  (execOp a.eval o).run P w = .ok (.value (.bool b)) w := by
 subst hb
 exact exec_nes t x y rt ho n m f g hx hy hf hg
theorem exec_eqsB {P : Program} {o : Oper} {a : Act} {w : World} (t : TypeId) (x y : Operand) (rt : TypeId) (ho : o.op = .binOp .eql t x y rt) (n m : Nat) (f g : Nat → Nat) (hx : a.eval x = .string (strF n f)) (hy : a.eval y = .string (strF m g)) (hf : ∀ i, i < n → f i < 256) (hg : ∀ i, i < m → g i < 256) (b : Bool) (hb : sameS n f m g = b) :
  (execOp a.eval o).run P w = .ok (.value (.bool b)) w := by
 subst hb
 exact exec_eqs t x y rt ho n m f g hx hy hf hg
def fitsZ (h : Hd) (n : Nat) (f : Nat → Nat) (c : Nat) : Int := if sameS h.n h.f n f = false then 5 else if h.k ≠ c ∧ h.k ≠ 78 then 8 else -1
set_option maxRecDepth 100000 in
theorem fits_any (h : Hd) (ok : h.Ok) (n : Nat) (u : Nat → Nat) (hu : ∀ i, u i < 256) (c : Nat) (w : World) : Calls Tryd.prog 17 #[.agg (hdC h), .string (strF n u), .int .u8 (c : Int)] w (FitsOut (fitsZ h n u c) w) := by
 obtain ⟨v, nn, f, a, k, m, g, x⟩ := h
 obtain ⟨hv, hf, ha, hk, hg, hx⟩ := ok
 simp only at hv hf ha hk hg hx
 have hB0 : ∀ cs, Below w.heap.size w (w.alloc (.cells cs 23)) := fun cs => (Below.refl _ _).alloc (Nat.le_refl _) _
 have hB1 : ∀ c0 cs, Below w.heap.size w ((w.alloc (.cells c0 23)).alloc (.cells cs 56)) := fun c0 cs => (hB0 c0).alloc (by simp) _
 have hK1 : ∀ c0 cs, Blk ((w.alloc (.cells c0 23)).alloc (.cells cs 56)) (w.heap.size + 1) 56 cs := fun c0 cs => by
  have := Blk.fresh (w.alloc (.cells c0 23)) 56 cs
  simpa using this
 obtain ⟨z, hz⟩ : ∃ z, z = fitsZ ⟨v, nn, f, a, k, m, g, x⟩ n u c := ⟨_, rfl⟩
 rw [← hz]
 have Hz := hid hz
 unfold hdC
 simp only
 have HB0 := hid hB0
 have HB1 := hid hB1
 have HK1 := hid hK1
 clear hB0 hB1 hK1 hz
 cases hs : sameS nn f n u
 ·have hz : z = 5 := by rw [Hz.out]; simp [fitsZ, hs]
  have hs' : (!sameS nn f n u) = true := by rw [hs]; rfl
  clear hs
  go_enter Tryd.func17, Tryd.ntmps17
  go_wp2_with (with_reducible refine wpl_valw rfl _ (exec_nesB 9 _ _ _ rfl nn n f u rfl rfl (fun i _ => hf i) (fun i _ => hu i) _ hs') ?_)
  go_ret
  exact ⟨HB1.out _ _, .inr ⟨by omega, _, Nat.le_succ _, rfl, by rw [hz]; exact HK1.out _ _⟩⟩
 have hs' : (!sameS nn f n u) = false := by rw [hs]; rfl
 by_cases hc : k = c
 ·have hz : z = -1 := by rw [Hz.out]; simp [fitsZ, hs, hc]
  have hI : ((k : Int) != (c : Int)) = false := by simp [hc]
  clear hs
  go_enter Tryd.func17, Tryd.ntmps17
  go_wp2_with (with_reducible refine wpl_valw rfl _ (exec_nesB 9 _ _ _ rfl nn n f u rfl rfl (fun i _ => hf i) (fun i _ => hu i) _ hs') ?_)
  go_ret
  exact ⟨HB0.out _, .inl ⟨hz, rfl⟩⟩
 have hI : ((k : Int) != (c : Int)) = true := by simp; omega
 by_cases h78 : k = 78
 ·have hz : z = -1 := by rw [Hz.out]; simp [fitsZ, hs, h78]
  have hJ : ((k : Int) != 78) = false := by simp; omega
  clear hs
  go_enter Tryd.func17, Tryd.ntmps17
  go_wp2_with (with_reducible refine wpl_valw rfl _ (exec_nesB 9 _ _ _ rfl nn n f u rfl rfl (fun i _ => hf i) (fun i _ => hu i) _ hs') ?_)
  go_ret
  exact ⟨HB0.out _, .inl ⟨hz, rfl⟩⟩
 have hz : z = 8 := by rw [Hz.out]; simp [fitsZ, hs, hc, h78]
 have hJ : ((k : Int) != 78) = true := by simp; omega
 clear hs
 go_enter Tryd.func17, Tryd.ntmps17
 go_wp2_with (with_reducible refine wpl_valw rfl _ (exec_nesB 9 _ _ _ rfl nn n f u rfl rfl (fun i _ => hf i) (fun i _ => hu i) _ hs') ?_)
 go_ret
 exact ⟨HB1.out _ _, .inr ⟨by omega, _, Nat.le_succ _, rfl, by rw [hz]; exact HK1.out _ _⟩⟩
end Go.Proofs.YtklgngdcihkfjaaDoor.Hd
