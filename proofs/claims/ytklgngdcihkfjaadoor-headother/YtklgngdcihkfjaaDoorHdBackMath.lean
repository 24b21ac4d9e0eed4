/-
 What is printed is read as it was; what is read is printed as it stood.
-/
import Derived.Test.YtklgngdcihkfjaaDoorHeadPrintsWalk
import Derived.Test.YtklgngdcihkfjaaDoorHeadReadsWalk
namespace Go.Proofs.YtklgngdcihkfjaaDoor.Hd
open Mem As Go.ChangeShapes Go.WideShapes Go.ChangeAt Go.RowKit
theorem dg_sum {n : Nat} (hn : n ≤ 9999) : lenF (dgF n) 4 = n := by
 simp only [lenF, dgF]
 simp
 omega
theorem dg_dgB (n i : Nat) : dgB (dgF n i) = true := by
 unfold dgF dgB
 repeat' split
 all_goals simp
 all_goals omega
theorem lenF_ext {f g : Nat → Nat} : ∀ k, (∀ i, i < k → f i = g i) → lenF f k = lenF g k
 | 0, _ => rfl
 | k + 1, h => by
  simp only [lenF]
  rw [lenF_ext k (fun i hi => h i (by omega)), h k (by omega)]
theorem prB_ext {f g : Nat → Nat} (h0 : f 0 = g 0) (h1 : f 1 = g 1) : prB 2 f = prB 2 g := by unfold prB; rw [h0, h1]
structure Prt (h : Hd) (n : Nat) (F : Nat → Nat) : Prop where
 v : F 0 = h.v
 l : ∀ i, i < 4 → F (1 + i) = dgF n i
 f : ∀ i, i < 2 → F (5 + i) = h.f i
 a : F 7 = h.a
 k : F 8 = h.k
 g : ∀ i, i < 2 → F (9 + i) = h.g i
 x : F 11 = h.x
 z : ∀ i, i < 4 → F (12 + i) = 48
theorem prt_of (h : Hd) (n : Nat) (f : Nat → Nat) : Prt h n (cat 16 (prF h n) f) := by
 have hc : ∀ i, i < 16 → cat 16 (prF h n) f i = prF h n i := fun i hi => by unfold cat; rw [if_pos hi]
 refine ⟨hc 0 (by omega), fun i hi => ?_, fun i hi => ?_, hc 7 (by omega), hc 8 (by omega), fun i hi => ?_, hc 11 (by omega), fun i hi => ?_⟩
 ·rw [hc _ (by omega)]
  unfold prF
  rw [if_neg (by omega), if_pos (by omega), show 1 + i - 1 = i by omega]
 ·rw [hc _ (by omega)]
  unfold prF
  rw [if_neg (by omega), if_neg (by omega), if_pos (by omega), show 5 + i - 5 = i by omega]
 ·rw [hc _ (by omega)]
  unfold prF
  rw [if_neg (by omega), if_neg (by omega), if_neg (by omega), if_neg (by omega), if_neg (by omega), if_pos (by omega), show 9 + i - 9 = i by omega]
 rw [hc _ (by omega)]
 unfold prF
 rw [if_neg (by omega), if_neg (by omega), if_neg (by omega), if_neg (by omega), if_neg (by omega), if_neg (by omega), if_neg (by omega)]
theorem Prt.wrong {h : Hd} {n : Nat} {F : Nat → Nat} (p : Prt h n F) (hn : h.n = 2) (hm : h.m = 2) : Hd.wrong (cutH F) = Hd.wrong h := by
 have e1 : prB 2 (fun i => F (5 + i)) = prB h.n h.f := by rw [hn]; exact prB_ext (p.f 0 (by omega)) (p.f 1 (by omega))
 have e2 : prB 2 (fun i => F (9 + i)) = prB h.m h.g := by rw [hm]; exact prB_ext (p.g 0 (by omega)) (p.g 1 (by omega))
 unfold Hd.wrong cutH
 simp only [e1, e2, p.v, p.a, p.k, p.x]
theorem Prt.eq {h : Hd} {n : Nat} {F : Nat → Nat} (p : Prt h n F) (hn : h.n = 2) (hm : h.m = 2) : hdEq (cutH F) h = true := by
 unfold hdEq cutH sameS
 simp only [p.v, p.a, p.k, p.x, hn, hm]
 rw [eqB_true (fun i hi => p.f i hi), eqB_true (fun i hi => p.g i hi)]
 simp
theorem Prt.len {h : Hd} {n : Nat} {F : Nat → Nat} (p : Prt h n F) (hn : n ≤ 9999) : (lenZ fun i => F (1 + i)) = (n : Int) := by
 rw [lenZ_ok (f := fun i => F (1 + i)) (fun i hi => by rw [p.l i hi]; exact dg_dgB n i), lenF_ext (g := dgF n) 4 (fun i hi => p.l i hi), dg_sum hn]
theorem Prt.par {h : Hd} {n : Nat} {F : Nat → Nat} (p : Prt h n F) (hn : h.n = 2) (hm : h.m = 2) (hw : Hd.wrong h = -1) (h1 : 16 ≤ n) (h2 : n ≤ 9999) : parZ F = -1 := by
 unfold parZ refZ
 rw [p.wrong hn hm, hw, p.len h2, if_neg (by omega), if_neg (by omega), if_neg (by omega), if_neg (by rw [zero_ok (f := fun i => F (12 + i)) p.z]; decide)]
theorem par_inv {f : Nat → Nat} (h : parZ f = -1) : Hd.wrong (cutH f) = -1 ∧ ∃ n : Nat, 16 ≤ n ∧ n ≤ 9999 ∧ (lenZ fun i => f (1 + i)) = (n : Int) ∧ Prt (cutH f) n f := by
 unfold parZ refZ at h
 split at h
 ·omega
 split at h
 ·omega
 rename_i hl
 split at h
 ·omega
 rename_i hw
 split at h
 ·omega
 rename_i hz
 have hwr : Hd.wrong (cutH f) = -1 := by have := wrong_lo (cutH f); omega
 have hd : ∀ i, i < 4 → dgB (f (1 + i)) = true := fun i hi => by
  cases hdi : dgB (f (1 + i))
  ·have := lenZ_bad (f := fun i => f (1 + i)) hi hdi
   omega
  rfl
 have hlz := lenZ_ok (f := fun i => f (1 + i)) hd
 have hlt : lenF (fun i => f (1 + i)) 4 < 10000 := lenF_lt 4 hd
 have hzz : ∀ i, i < 4 → f (12 + i) = 48 := fun i hi => Classical.byContradiction fun hne => hz (zero_bad (f := fun i => f (12 + i)) hi hne)
 refine ⟨hwr, lenF (fun i => f (1 + i)) 4, by omega, by omega, hlz, ⟨rfl, fun i hi => ?_, fun _ _ => rfl, rfl, rfl, fun _ _ => rfl, rfl, hzz⟩⟩
 have h0 := dgB_iff.1 (hd 0 (by omega))
 have h1 := dgB_iff.1 (hd 1 (by omega))
 have h2 := dgB_iff.1 (hd 2 (by omega))
 have h3 := dgB_iff.1 (hd 3 (by omega))
 have hi4 : i = 0 ∨ i = 1 ∨ i = 2 ∨ i = 3 := by omega
 simp only [lenF]
 rcases hi4 with rfl | rfl | rfl | rfl
 ·show f (1 + 0) = 48 + _ / 1000 % 10
  omega
 ·show f (1 + 1) = 48 + _ / 100 % 10
  omega
 ·show f (1 + 2) = 48 + _ / 10 % 10
  omega
 show f (1 + 3) = 48 + _ % 10
 omega
theorem Prt.same {f : Nat → Nat} {n : Nat} (p : Prt (cutH f) n f) : sameS 16 (prF (cutH f) n) 16 f = true := by
 unfold sameS
 rw [eqB_true (fun i hi => ?_)]
 ·rfl
 unfold prF
 by_cases h0 : i = 0
 ·subst h0; rfl
 rw [if_neg h0]
 by_cases h1 : i < 5
 ·rw [if_pos h1]
  have := p.l (i - 1) (by omega)
  rw [← this, show 1 + (i - 1) = i by omega]
 rw [if_neg h1]
 by_cases h2 : i < 7
 ·rw [if_pos h2]
  show f (5 + (i - 5)) = f i
  rw [show 5 + (i - 5) = i by omega]
 rw [if_neg h2]
 by_cases h3 : i = 7
 ·subst h3; rfl
 rw [if_neg h3]
 by_cases h4 : i = 8
 ·subst h4; rfl
 rw [if_neg h4]
 by_cases h5 : i < 11
 ·rw [if_pos h5]
  show f (9 + (i - 9)) = f i
  rw [show 9 + (i - 9) = i by omega]
 rw [if_neg h5]
 by_cases h6 : i = 11
 ·subst h6; rfl
 rw [if_neg h6]
 have := p.z (i - 12) (by omega)
 rw [show 12 + (i - 12) = i by omega] at this
 exact this.symm
theorem pr_alike {a b : Hd} {x y : Nat} (ha : Hd.wrong a = -1) (hb : Hd.wrong b = -1) (hx : x ≤ 9999) (hy : y ≤ 9999) : sameS 16 (prF a x) 16 (prF b y) = (hdEq a b && decide (x = y)) := by
 have han := prB_two (wrong_n ha)
 have ham := prB_two (wrong_m ha)
 have hbn := prB_two (wrong_n hb)
 have hbm := prB_two (wrong_m hb)
 apply Bool.eq_iff_iff.2
 constructor
 ·intro h
  have he : ∀ i, i < 16 → prF a x i = prF b y i := by
   unfold sameS at h
   simp only [Bool.and_eq_true] at h
   exact eqB_iff.1 h.2
  have pb : Prt b y (cat 16 (prF a x) (fun _ => 0)) := by
   have e : cat 16 (prF a x) (fun _ => 0) = cat 16 (prF b y) (fun _ => 0) := by
    funext i
    unfold cat
    by_cases hi : i < 16
    ·rw [if_pos hi, if_pos hi, he i hi]
    rw [if_neg hi, if_neg hi]
   rw [e]
   exact prt_of b y _
  have pa := prt_of a x (fun _ => 0)
  have hxy : (x : Int) = (y : Int) := (pa.len hx).symm.trans (pb.len hy)
  have e1 : hdEq a b = true := by
   unfold hdEq sameS
   rw [han, ham, hbn, hbm, ← pa.v, ← pb.v, ← pa.a, ← pb.a, ← pa.k, ← pb.k, ← pa.x, ← pb.x, eqB_true (fun i hi => (pa.f i hi).symm.trans (pb.f i hi)), eqB_true (fun i hi => (pa.g i hi).symm.trans (pb.g i hi))]
   simp
  simp [e1, show x = y by omega]
 intro h
 simp only [Bool.and_eq_true, decide_eq_true_eq] at h
 obtain ⟨h, rfl⟩ := h
 unfold hdEq sameS at h
 simp only [Bool.and_eq_true, beq_iff_eq, decide_eq_true_eq, han, ham, hbn, hbm] at h
 obtain ⟨h1, ⟨-, h2⟩, h3, h4, ⟨-, h5⟩, h6⟩ := h
 have e2 := eqB_iff.1 h2
 have e5 := eqB_iff.1 h5
 unfold sameS
 rw [eqB_true (fun i hi => ?_)]
 ·rfl
 unfold prF
 rw [h1, h3, h4, h6]
 repeat' split
 all_goals first | rfl | exact e2 _ (by omega) | exact e5 _ (by omega)
end Go.Proofs.YtklgngdcihkfjaaDoor.Hd
