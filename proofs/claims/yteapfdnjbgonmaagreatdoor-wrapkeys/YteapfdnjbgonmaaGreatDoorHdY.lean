/-
 Hd5 Hd9 Law10 HdBackMath
-/
import Derived.Test.YteapfdnjbgonmaaGreatDoorHdX
namespace Go.Proofs.YteapfdnjbgonmaaGreatDoor.Hd
open Mem Go.ChangeShapes Go.WideShapes Go.ChangeAt Go.RowKit
def h5 (v n : Nat) : Nat → Nat := fun i => if i = 0 then v else dgF n (i - 1)
def h7 (f : Nat → Nat) (a k : Nat) (g : Nat → Nat) (x : Nat) : Nat → Nat := fun i => if i = 0 then f 0 else if i = 1 then f 1 else if i = 2 then a else if i = 3 then k else if i = 4 then g 0 else if i = 5 then g 1 else x
end Go.Proofs.YteapfdnjbgonmaaGreatDoor.Hd
namespace Go.Proofs.YteapfdnjbgonmaaGreatDoor.Hd
open Mem As Go.ChangeShapes Go.WideShapes Go.ChangeAt Go.RowKit
theorem zero_ok {f : Nat → Nat} (h : ∀ i, i < 4 → f i = 48) : zeroB f = true := by
 unfold zeroB sameS
 rw [eqB_true (fun i hi => h i hi)]
 rfl
theorem zero_bad {f : Nat → Nat} {i : Nat} (hi : i < 4) (h : f i ≠ 48) : zeroB f = false := by
 cases hz : zeroB f
 ·rfl
 unfold zeroB sameS at hz
 simp only [Bool.and_eq_true] at hz
 exact absurd (eqB_iff.1 hz.2 i hi) h
end Go.Proofs.YteapfdnjbgonmaaGreatDoor.Hd
namespace Go.Proofs.YteapfdnjbgonmaaGreatDoor.Hd
open Mem As Go.ChangeShapes Go.WideShapes Go.ChangeAt Go.RowKit
def hdEq (a b : Hd) : Bool := a.v == b.v && (sameS a.n a.f b.n b.f && (a.a == b.a && (a.k == b.k && (sameS a.m a.g b.m b.g && a.x == b.x))))
theorem natInt_beq (a b : Nat) : ((a : Int) == (b : Int)) = (a == b) := by
 rw [Bool.eq_iff_iff]
 simp only [beq_iff_eq]
 omega
set_option linter.unusedSimpArgs false in
set_option maxRecDepth 100000 in
theorem run_eqH (a b : Hd) (oka : a.Ok) (okb : b.Ok) (w : World) : (Op.equalIn 10000 32 (.agg (hdC a)) (.agg (hdC b))).run Tryz.prog w = .ok (hdEq a b) w := by
 rw [run_equalIn_agg w 9999 32 _ _ (by kernel_rfl) (by kernel_rfl)]
 have hf : ∀ (d : Nat) (x y : Array Value), Op.eqFields d x y (Tryz.prog.fieldsOf 32).toList = Op.eqFields d x y (Tryz.prog.fieldsOf 32).toList := fun _ _ _ => rfl
 have e1 := natInt_beq a.v b.v
 have e2 := natInt_beq a.a b.a
 have e3 := natInt_beq a.k b.k
 have e4 := natInt_beq a.x b.x
 have e5 := strF_eq (n := a.n) (m := b.n) (f := a.f) (g := b.f) (fun i _ => oka.f i) (fun i _ => okb.f i)
 have e6 := strF_eq (n := a.m) (m := b.m) (f := a.g) (g := b.g) (fun i _ => oka.g i) (fun i _ => okb.g i)
 unfold hdC hdEq sameS
 go_simp
 clear e1 e2 e3 e4 e5 e6 hf
 by_cases h1 : a.v = b.v
 ·by_cases h2 : a.n = b.n
  ·cases h3 : eqB a.n a.f b.f
   ·simp [h1, h2, h3]
   by_cases h4 : a.a = b.a
   ·by_cases h5 : a.k = b.k
    ·by_cases h6 : a.m = b.m
     ·cases h7 : eqB a.m a.g b.g
      ·simp [h1, h2, h4, h5, h6, h7]
      by_cases h8 : a.x = b.x <;> simp_all
     simp [h1, h2, h3, h4, h5, h6]
    simp [h1, h2, h3, h4, h5]
   simp [h1, h2, h3, h4]
  simp [h1, h2]
 simp [h1]
theorem eqGuardH : Tryz.prog.eqGuardType Tryz.prog.depth 32 = false := by kernel_rfl
section
variable {o : Oper} {a : Act} {w : World}
theorem exec_eqH (x y : Operand) (rt : TypeId) (ho : o.op = .binOp .eql 32 x y rt) (h k : Hd) (hx : a.eval x = .agg (hdC h)) (hy : a.eval y = .agg (hdC k)) (okh : h.Ok) (okk : k.Ok) (b : Bool) (hb : hdEq h k = b) : (execOp a.eval o).run Tryz.prog w = .ok (.value (.bool b)) w := by
 subst hb
 unfold execOp
 simp only [ho, hx, hy, Sem.run_bind, run_eqGuard_agg w .eql 32 x y _ _ eqGuardH, run_eql_struct, run_eqH h k okh okk, Sem.run_pure, Result.andThen_ok]
end
end Go.Proofs.YteapfdnjbgonmaaGreatDoor.Hd
namespace Go.Proofs.YteapfdnjbgonmaaGreatDoor.Hd
open Mem As Go.ChangeShapes Go.WideShapes Go.ChangeAt Go.RowKit
theorem dg_sum {n : Nat} (hn : n ≤ 9999) : lenF (dgF n) 4 = n := by
 simp only [lenF, dgF]
 simp
 omega
theorem dg_dgB (n i : Nat) : dgB (dgF n i) = true := by
 unfold dgF dgB
 repeat' split
 all_goals simp
 all_goals omega
theorem lenF_ext {f g : Nat → Nat} : ∀ k, (∀ i, i < k → f i = g i) → lenF f k = lenF g k
 | 0, _ => rfl
 | k + 1, h => by
  simp only [lenF]
  rw [lenF_ext k (fun i hi => h i (by omega)), h k (by omega)]
theorem prB_ext {f g : Nat → Nat} (h0 : f 0 = g 0) (h1 : f 1 = g 1) : prB 2 f = prB 2 g := by unfold prB; rw [h0, h1]
structure Prt (h : Hd) (n : Nat) (F : Nat → Nat) : Prop where
 v : F 0 = h.v
 l : ∀ i, i < 4 → F (1 + i) = dgF n i
 f : ∀ i, i < 2 → F (5 + i) = h.f i
 a : F 7 = h.a
 k : F 8 = h.k
 g : ∀ i, i < 2 → F (9 + i) = h.g i
 x : F 11 = h.x
 z : ∀ i, i < 4 → F (12 + i) = 48
theorem prt_of (h : Hd) (n : Nat) (f : Nat → Nat) : Prt h n (cat 16 (prF h n) f) := by
 have hc : ∀ i, i < 16 → cat 16 (prF h n) f i = prF h n i := fun i hi => by unfold cat; rw [if_pos hi]
 refine ⟨hc 0 (by omega), fun i hi => ?_, fun i hi => ?_, hc 7 (by omega), hc 8 (by omega), fun i hi => ?_, hc 11 (by omega), fun i hi => ?_⟩
 ·rw [hc _ (by omega)]
  unfold prF
  rw [if_neg (by omega), if_pos (by omega), show 1 + i - 1 = i by omega]
 ·rw [hc _ (by omega)]
  unfold prF
  rw [if_neg (by omega), if_neg (by omega), if_pos (by omega), show 5 + i - 5 = i by omega]
 ·rw [hc _ (by omega)]
  unfold prF
  rw [if_neg (by omega), if_neg (by omega), if_neg (by omega), if_neg (by omega), if_neg (by omega), if_pos (by omega), show 9 + i - 9 = i by omega]
 rw [hc _ (by omega)]
 unfold prF
 rw [if_neg (by omega), if_neg (by omega), if_neg (by omega), if_neg (by omega), if_neg (by omega), if_neg (by omega), if_neg (by omega)]
theorem Prt.wrong {h : Hd} {n : Nat} {F : Nat → Nat} (p : Prt h n F) (hn : h.n = 2) (hm : h.m = 2) : Hd.wrong (cutH F) = Hd.wrong h := by
 have e1 : prB 2 (fun i => F (5 + i)) = prB h.n h.f := by rw [hn]; exact prB_ext (p.f 0 (by omega)) (p.f 1 (by omega))
 have e2 : prB 2 (fun i => F (9 + i)) = prB h.m h.g := by rw [hm]; exact prB_ext (p.g 0 (by omega)) (p.g 1 (by omega))
 unfold Hd.wrong cutH
 simp only [e1, e2, p.v, p.a, p.k, p.x]
theorem Prt.eq {h : Hd} {n : Nat} {F : Nat → Nat} (p : Prt h n F) (hn : h.n = 2) (hm : h.m = 2) : hdEq (cutH F) h = true := by
 unfold hdEq cutH sameS
 simp only [p.v, p.a, p.k, p.x, hn, hm]
 rw [eqB_true (fun i hi => p.f i hi), eqB_true (fun i hi => p.g i hi)]
 simp
theorem Prt.len {h : Hd} {n : Nat} {F : Nat → Nat} (p : Prt h n F) (hn : n ≤ 9999) : (lenZ fun i => F (1 + i)) = (n : Int) := by
 rw [lenZ_ok (f := fun i => F (1 + i)) (fun i hi => by rw [p.l i hi]; exact dg_dgB n i), lenF_ext (g := dgF n) 4 (fun i hi => p.l i hi), dg_sum hn]
theorem Prt.par {h : Hd} {n : Nat} {F : Nat → Nat} (p : Prt h n F) (hn : h.n = 2) (hm : h.m = 2) (hw : Hd.wrong h = -1) (h1 : 16 ≤ n) (h2 : n ≤ 9999) : parZ F = -1 := by
 unfold parZ refZ
 rw [p.wrong hn hm, hw, p.len h2, if_neg (by omega), if_neg (by omega), if_neg (by omega), if_neg (by rw [zero_ok (f := fun i => F (12 + i)) p.z]; decide)]
theorem par_inv {f : Nat → Nat} (h : parZ f = -1) : Hd.wrong (cutH f) = -1 ∧ ∃ n : Nat, 16 ≤ n ∧ n ≤ 9999 ∧ (lenZ fun i => f (1 + i)) = (n : Int) ∧ Prt (cutH f) n f := by
 unfold parZ refZ at h
 split at h
 ·omega
 split at h
 ·omega
 rename_i hl
 split at h
 ·omega
 rename_i hw
 split at h
 ·omega
 rename_i hz
 have hwr : Hd.wrong (cutH f) = -1 := by have := wrong_lo (cutH f); omega
 have hd : ∀ i, i < 4 → dgB (f (1 + i)) = true := fun i hi => by
  cases hdi : dgB (f (1 + i))
  ·have := lenZ_bad (f := fun i => f (1 + i)) hi hdi
   omega
  rfl
 have hlz := lenZ_ok (f := fun i => f (1 + i)) hd
 have hlt : lenF (fun i => f (1 + i)) 4 < 10000 := lenF_lt 4 hd
 have hzz : ∀ i, i < 4 → f (12 + i) = 48 := fun i hi => Classical.byContradiction fun hne => hz (zero_bad (f := fun i => f (12 + i)) hi hne)
 refine ⟨hwr, lenF (fun i => f (1 + i)) 4, by omega, by omega, hlz, ⟨rfl, fun i hi => ?_, fun _ _ => rfl, rfl, rfl, fun _ _ => rfl, rfl, hzz⟩⟩
 have h0 := dgB_iff.1 (hd 0 (by omega))
 have h1 := dgB_iff.1 (hd 1 (by omega))
 have h2 := dgB_iff.1 (hd 2 (by omega))
 have h3 := dgB_iff.1 (hd 3 (by omega))
 have hi4 : i = 0 ∨ i = 1 ∨ i = 2 ∨ i = 3 := by omega
 simp only [lenF]
 rcases hi4 with rfl | rfl | rfl | rfl
 ·show f (1 + 0) = 48 + _ / 1000 % 10
  omega
 ·show f (1 + 1) = 48 + _ / 100 % 10
  omega
 ·show f (1 + 2) = 48 + _ / 10 % 10
  omega
 show f (1 + 3) = 48 + _ % 10
 omega
theorem Prt.same {f : Nat → Nat} {n : Nat} (p : Prt (cutH f) n f) : sameS 16 (prF (cutH f) n) 16 f = true := by
 unfold sameS
 rw [eqB_true (fun i hi => ?_)]
 ·rfl
 unfold prF
 by_cases h0 : i = 0
 ·subst h0; rfl
 rw [if_neg h0]
 by_cases h1 : i < 5
 ·rw [if_pos h1]
  have := p.l (i - 1) (by omega)
  rw [← this, show 1 + (i - 1) = i by omega]
 rw [if_neg h1]
 by_cases h2 : i < 7
 ·rw [if_pos h2]
  show f (5 + (i - 5)) = f i
  rw [show 5 + (i - 5) = i by omega]
 rw [if_neg h2]
 by_cases h3 : i = 7
 ·subst h3; rfl
 rw [if_neg h3]
 by_cases h4 : i = 8
 ·subst h4; rfl
 rw [if_neg h4]
 by_cases h5 : i < 11
 ·rw [if_pos h5]
  show f (9 + (i - 9)) = f i
  rw [show 9 + (i - 9) = i by omega]
 rw [if_neg h5]
 by_cases h6 : i = 11
 ·subst h6; rfl
 rw [if_neg h6]
 have := p.z (i - 12) (by omega)
 rw [show 12 + (i - 12) = i by omega] at this
 exact this.symm
end Go.Proofs.YteapfdnjbgonmaaGreatDoor.Hd
