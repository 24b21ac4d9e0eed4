/-
 AesExample AesCmac Law07 Awake07
-/
import Derived.Test.YtlmnoapoofmmnaaGreatDoorAesX
import Derived.Test.YtlmnoapoofmmnaaGreatDoorMac3
namespace Go.Proofs.YtlmnoapoofmmnaaGreatDoor.Aes
open Gf
def tab (l : List Nat) : Nat → Nat := fun i => l.getD i 0
theorem nw_ext {L : Nat} {f g : Nat → Nat} {t k : Nat} (hk : k < 4) (hL : 4 ≤ L) (h : ∀ i, i < L + 4 * t → f i = g i) : nw L f t k = nw L g t k := by
 unfold nw
 rw [h (L + 4 * t - 4 + (k + 1) % 4) (by omega), h (L + 4 * t - 4 + k) (by omega)]
theorem words_tab (L : Nat) (hL : 4 ≤ L) (key T : Nat → Nat) (M : Nat) (h0 : ∀ i, i < L → T i = key i) (hs : ∀ t, t < M → ∀ k, k < 4 → T (L + 4 * t + k) = T (4 * t + k) ^^^ nw L T t k) :
  ∀ t, t ≤ M → ∀ i, i < L + 4 * t → ex L key t i = T i := by
 intro t
 induction t with
 | zero => intro _ i hi; show (if i < L then key i else 0) = _; rw [if_pos (by omega), h0 i (by omega)]
 | succ t ih =>
  intro ht i hi
  have ih := ih (by omega)
  show (if L + 4 * t ≤ i ∧ i < L + 4 * t + 4 then ex L key t (i - L) ^^^ nw L (ex L key t) t (i - (L + 4 * t)) else ex L key t i) = _
  by_cases h : L + 4 * t ≤ i
  ·rw [if_pos ⟨h, by omega⟩, ih _ (by omega), nw_ext (by omega) hL ih]
   have := hs t (by omega) (i - (L + 4 * t)) (by omega)
   rw [show L + 4 * t + (i - (L + 4 * t)) = i by omega, show 4 * t + (i - (L + 4 * t)) = i - L by omega] at this
   exact this.symm
  rw [if_neg (fun h' => h h'.1), ih i (by omega)]
theorem enc_tab (ws : Nat → Nat) (N : Nat) (b : Nat → Nat) (S B : Nat → Nat → Nat) (h0 : ∀ i, i < 16 → S 0 i = b i ^^^ ws (16 * 0 + i)) (hB : ∀ r, r < N → ∀ i, i < 16 → B r i = box (S r i))
  (hS : ∀ r, r < N → ∀ i, i < 16 → S (r + 1) i = rk ws (r + 1) (if r + 1 < N then mix fE (rows (B r)) else rows (B r)) i) : ∀ r, r ≤ N → Eq16 (encTo ws N b r) (S r) := by
 intro r
 induction r with
 | zero => intro _ i hi; exact (h0 i hi).symm
 | succ r ih =>
  intro hr i hi
  have e : Eq16 (rows (each box (encTo ws N b r))) (rows (B r)) := rows_ext fun j hj => by
   show box (encTo ws N b r j) = B r j
   rw [ih (by omega) j hj, hB r (by omega) j hj]
  rw [hS r (by omega) i hi]
  show (if r + 1 < N then mix fE (rows (each box (encTo ws N b r))) else rows (each box (encTo ws N b r))) i ^^^ ws (16 * (r + 1) + i) = (if r + 1 < N then mix fE (rows (B r)) else rows (B r)) i ^^^ ws (16 * (r + 1) + i)
  by_cases h : r + 1 < N
  ·rw [if_pos h, if_pos h, mix_ext fE e i hi]
  rw [if_neg h, if_neg h, e i hi]
def tab2 (l : List (List Nat)) : Nat → Nat → Nat := fun r i => (l.getD r []).getD i 0
end Go.Proofs.YtlmnoapoofmmnaaGreatDoor.Aes
namespace Go.Proofs.YtlmnoapoofmmnaaGreatDoor.Aes
open Gf
end Go.Proofs.YtlmnoapoofmmnaaGreatDoor.Aes
namespace Go.Proofs.YtlmnoapoofmmnaaGreatDoor.Bk
open Mem Go.ChangeShapes Go.WideShapes Go.ChangeAt Go.RowKit
end Go.Proofs.YtlmnoapoofmmnaaGreatDoor.Bk
namespace Go.Proofs.YtlmnoapoofmmnaaGreatDoor.Mc
open Mem Bk Md Go.ChangeShapes Go.WideShapes Go.ChangeAt Go.RowKit
theorem fits16 : fits 1 16 := .inl ⟨rfl, .inl rfl⟩
theorem sz1 : sz 1 = 16 := rfl
end Go.Proofs.YtlmnoapoofmmnaaGreatDoor.Mc
