/-
 What the document's own Cmac and Do return of AES and TDES, and its Kind, Fill, Fits and Keys of layer 11.
-/
import Derived.Test.YteapfdnjbgonmaaGreatDoorWrY
import Derived.Test.YteapfdnjbgonmaaGreatDoorRefY
import Derived.Test.YteapfdnjbgonmaaGreatDoorRef06b
import Derived.Test.YteapfdnjbgonmaaGreatDoorRefDoX
namespace Go.Proofs.YteapfdnjbgonmaaGreatDoor.Wr
open Mem Bk Md Mc R6 Rc Dg Go.ChangeShapes Go.WideShapes Go.ChangeAt Go.RowKit
theorem doW (p : Pl) (k Lk : Nat) (Ak : Option Addr) (ck : Nat) (key : Nat → Nat) (bk : Bool) (hk : k = 1 ∨ k = 2) (hf : fits k Lk) (hck : Lk ≤ ck) (hkb : ∀ i, i < Lk → key i < 256) : DoC p k Lk Ak ck key bk := fun d R Ar cr At ct Ax cx x w B0 hB0 hR hT hct _ _ _ hkey hx hxb hAr o R' d' ht => by
 rcases hk with rfl | rfl
 ·have hL : Aes.IsKey Lk := by
   rcases hf with ⟨-, h⟩ | ⟨h, -⟩ | ⟨h, -⟩
   ·exact h
   ·cases h
   cases h
  rw [Bk.turn1] at ht
  injection ht with h1 h2
  injection h2 with h2 h3
  subst h1 h2 h3
  have fin : ∀ e w', (∃ g, e = .returned (.tuple #[.agg #[.slice Ar R.length cr, .slice At (p.n - d) ct], .slice (some ⟨g, 0, none⟩) 16 16, .bool true]) ∧ Blk w' g 137 (row 16 (b8 (if bk then Aes.dec (Aes.words Lk key) (Aes.rnd Lk) x else Aes.enc (Aes.words Lk key) (Aes.rnd Lk) x))) ∧ w.heap.size ≤ g ∧ Below w.heap.size w w') → RDoL p.F p.n 1 Lk B0 (some (if bk then Aes.dec (Aes.words Lk key) (Aes.rnd Lk) x else Aes.enc (Aes.words Lk key) (Aes.rnd Lk) x)) R d w e w' := by
   rintro e w' ⟨g, rfl, hb, hg, hB⟩
   have hm : ∀ g, B0 g → LocP B0 w w' g := fun g h => ⟨Nat.lt_of_lt_of_le (hB0 g h) hB.size, .inl h⟩
   refine ⟨hB, Ar, cr, At, ct, _, true, rfl, (hR.keep (fun g h => hB.block g (hB0 g h))).moreP hm, (hT.keep (fun g h => hB.block g (hB0 g h))).moreP hm, hct, hAr, .inl ⟨_, some ⟨g, 0, none⟩, 16, rfl, rfl, rfl, ?_⟩⟩
   exact fun _ => ⟨_, rfl, ⟨hb.lt, .inr hg⟩, fun i hi => by rw [add_zero_off]; exact hb.val i hi⟩
  cases bk
  ·exact (rdo_forth Ar R.length cr At (p.n - d) ct Ak Lk ck key Ax cx x w hL hkey hkb hx hxb _ rfl).mono fin
  exact (rdo_back Ar R.length cr At (p.n - d) ct Ak Lk ck key Ax cx x w hL hkey hkb hx hxb _ rfl).mono fin
 have hL : Des.IsTKey Lk := by
  rcases hf with ⟨h, -⟩ | ⟨-, h⟩ | ⟨h, -⟩
  ·cases h
  ·exact h
  cases h
 rw [Bk.turn2] at ht
 injection ht with h1 h2
 injection h2 with h2 h3
 subst h1 h2 h3
 refine (rdo_tdes Ar R.length cr At (p.n - d) ct Ak Lk ck key Ax cx x bk w hL hck hkey hkb hx hxb _ rfl).mono ?_
 rintro e w' ⟨A, c, rfl, hl, hB, hg⟩
 have hm : ∀ g, B0 g → LocP B0 w w' g := fun g h => ⟨Nat.lt_of_lt_of_le (hB0 g h) hB.size, .inl h⟩
 refine ⟨hB, Ar, cr, At, ct, _, true, rfl, (hR.keep (fun g h => hB.block g (hB0 g h))).moreP hm, (hT.keep (fun g h => hB.block g (hB0 g h))).moreP hm, hct, hAr, .inl ⟨_, A, c, rfl, rfl, rfl, ?_⟩⟩
 intro hn
 obtain ⟨ad, h1, h2, h3⟩ := Bk.Lst.readsU8 hl hn
 exact ⟨ad, h1, ⟨h2, .inr (hg ad h1)⟩, h3⟩
theorem inv0 : Inv pz.F pz.n [] 0 := Inv.start (by show 0 ≤ _; omega) (fun i hi => by cases hi)
theorem turnW (p : Pl) {k Lk : Nat} {key : Nat → Nat} (hk : k = 1 ∨ k = 2) (R : List Rw) (d : Nat) (bk : Bool) (x : Nat → Nat) : turnC k Lk key p R d bk x = (some (tc k Lk key bk x), R, d) := by
 rcases hk with rfl | rfl
 ·unfold turnC tc
  rw [if_pos rfl, if_pos rfl]
 unfold turnC tc
 rw [if_neg (by omega), if_pos rfl, if_neg (by omega)]
theorem mAtW (p : Pl) {k Lk : Nat} {key : Nat → Nat} (hk : k = 1 ∨ k = 2) (bk : Bool) (x s : Nat → Nat) (R : List Rw) (d : Nat) : ∀ N, mAt p k Lk key bk true x ⟨R, d, s, fun _ => 0⟩ N = some ⟨R, d, (run (stC k Lk key bk) (sz k) (bl k x) s (List.range N)).1, (run (stC k Lk key bk) (sz k) (bl k x) s (List.range N)).2.1⟩
 | 0 => rfl
 | N + 1 => by
  refine mAt_next (mAtW p hk bk x s R d N) ((mNext_some (turnW p hk R d bk _)).trans ?_)
  rw [List.range_succ, run_snoc, run_len, List.length_range]
  cases bk
  ·simp [ask6, stC, stF]
   exact ⟨rfl, rfl⟩
  simp [ask6, stC, stB]
  first | exact ⟨rfl, rfl⟩ | rfl
theorem cmRW (p : Pl) {k Lk : Nat} {key : Nat → Nat} (hk : k = 1 ∨ k = 2) (L : Nat) (t : Nat → Nat) (R : List Rw) (d : Nat) : cmR p k Lk key L t R d = some (cmacF k Lk key L t) := by
 unfold cmR
 rw [turnW p hk R d false Mc.zf]
 show (mAt p k Lk key false true (mtF (sz k) L t (dbl (sz k) (tc k Lk key false Mc.zf))) ⟨R, d, Mc.zf, fun _ => 0⟩ (mtB (sz k) L)).map MS.last = _
 rw [mAtW p hk false _ _ R d]
 rfl
def bk0 : Value := .agg #[.slice none 0 0, .slice none 0 0]
theorem rcmac12 (k Lk : Nat) (hk : k = 1 ∨ k = 2) (hf : fits k Lk) (Ak : Option Addr) (ck : Nat) (key : Nat → Nat) (hck : Lk ≤ ck) (hkb : ∀ i, i < Lk → key i < 256) (A : Option Addr) (L c : Nat) (t : Nat → Nat) (w : World) (hkey : Reads w w.heap.size Ak Lk key) (hL : L ≤ 500) (hA : A = none → L = 0 ∧ c = 0) (ht : ∀ i, i < L → t i < 256) (hR : Reads w w.heap.size A L t) :
  Calls Tryz.prog 31 #[.int .i64 (k : Int), .slice Ak Lk ck, bk0, .slice A L c] w fun e w' => ∃ bA bn bc tA tn tc A' c', e = .returned (.tuple #[.agg (row 2 (bookC (.slice bA bn bc) (.slice tA tn tc))), .slice A' (sz k) c', .bool true]) ∧ sz k ≤ c' ∧ Reads w' w'.heap.size A' (sz k) (cmacF k Lk key L t) ∧ Below w.heap.size w w' := by
 have hmt : mtB (sz k) L ≤ L + 1 := by
  unfold mtB
  have := Nat.div_le_self L (sz k)
  split <;> omega
 have h := rcmac_any pz k 0 Lk [] none 0 none 0 Ak ck key A L c t w hf (doW pz k Lk Ak ck key false hk hf hck hkb) inv0 (fun i hi => by cases hi) (fun h => by cases h) (by show 0 ≤ _; omega) (by show 0 + 1 + mtB (sz k) L ≤ 1000; omega) hkey hkb (fun _ => ⟨rfl, rfl⟩) (by omega) hA ht hR
 rw [row2] at h
 refine h.mono ?_
 rintro e w' ⟨hB, bv, ⟨bA, bn, bc, tA, tn, tc, rfl⟩, ⟨y, A2, c2, hy, rfl, hc2, hR2⟩ | ⟨hy, rfl⟩⟩
 ·rw [cmRW pz hk] at hy
  injection hy with hy
  subst hy
  exact ⟨bA, bn, bc, tA, tn, tc, A2, c2, rfl, hc2, hR2, hB⟩
 rw [cmRW pz hk] at hy
 cases hy
end Go.Proofs.YteapfdnjbgonmaaGreatDoor.Wr
