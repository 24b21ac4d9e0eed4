/-
  The chapter's example, reckoned: tables of its words and of its rounds, each checked against the one ahead.
-/
import Derived.Test.YtmmgimpokpgnaaaGreatDoorAesX
namespace Go.Proofs.YtmmgimpokpgnaaaGreatDoor.Aes
open Gf
def tab (l : List Nat) : Nat → Nat := fun i => l.getD i 0
theorem nw_ext {L : Nat} {f g : Nat → Nat} {t k : Nat} (hk : k < 4) (hL : 4 ≤ L) (h : ∀ i, i < L + 4 * t → f i = g i) : nw L f t k = nw L g t k := by
  unfold nw
  rw [h (L + 4 * t - 4 + (k + 1) % 4) (by omega), h (L + 4 * t - 4 + k) (by omega)]
theorem words_tab (L : Nat) (hL : 4 ≤ L) (key T : Nat → Nat) (M : Nat) (h0 : ∀ i, i < L → T i = key i) (hs : ∀ t, t < M → ∀ k, k < 4 → T (L + 4 * t + k) = T (4 * t + k) ^^^ nw L T t k) :
    ∀ t, t ≤ M → ∀ i, i < L + 4 * t → ex L key t i = T i := by
  intro t
  induction t with
  | zero => intro _ i hi; show (if i < L then key i else 0) = _; rw [if_pos (by omega), h0 i (by omega)]
  | succ t ih =>
    intro ht i hi
    have ih := ih (by omega)
    show (if L + 4 * t ≤ i ∧ i < L + 4 * t + 4 then ex L key t (i - L) ^^^ nw L (ex L key t) t (i - (L + 4 * t)) else ex L key t i) = _
    by_cases h : L + 4 * t ≤ i
    · rw [if_pos ⟨h, by omega⟩, ih _ (by omega), nw_ext (by omega) hL ih]
      have := hs t (by omega) (i - (L + 4 * t)) (by omega)
      rw [show L + 4 * t + (i - (L + 4 * t)) = i by omega, show 4 * t + (i - (L + 4 * t)) = i - L by omega] at this
      exact this.symm
    · rw [if_neg (fun h' => h h'.1), ih i (by omega)]
theorem enc_tab (ws : Nat → Nat) (N : Nat) (b : Nat → Nat) (S B : Nat → Nat → Nat) (h0 : ∀ i, i < 16 → S 0 i = b i ^^^ ws (16 * 0 + i)) (hB : ∀ r, r < N → ∀ i, i < 16 → B r i = box (S r i))
    (hS : ∀ r, r < N → ∀ i, i < 16 → S (r + 1) i = rk ws (r + 1) (if r + 1 < N then mix fE (rows (B r)) else rows (B r)) i) : ∀ r, r ≤ N → Eq16 (encTo ws N b r) (S r) := by
  intro r
  induction r with
  | zero => intro _ i hi; exact (h0 i hi).symm
  | succ r ih =>
    intro hr i hi
    have e : Eq16 (rows (each box (encTo ws N b r))) (rows (B r)) := rows_ext fun j hj => by
      show box (encTo ws N b r j) = B r j
      rw [ih (by omega) j hj, hB r (by omega) j hj]
    rw [hS r (by omega) i hi]
    show (if r + 1 < N then mix fE (rows (each box (encTo ws N b r))) else rows (each box (encTo ws N b r))) i ^^^ ws (16 * (r + 1) + i) = (if r + 1 < N then mix fE (rows (B r)) else rows (B r)) i ^^^ ws (16 * (r + 1) + i)
    by_cases h : r + 1 < N
    · rw [if_pos h, if_pos h, mix_ext fE e i hi]
    · rw [if_neg h, if_neg h, e i hi]
def exT : List Nat := [0, 1, 2, 3, 4, 5, 6, 7, 8, 9, 10, 11, 12, 13, 14, 15, 214, 170, 116, 253, 210, 175, 114, 250, 218, 166, 120, 241, 214, 171, 118, 254, 182, 146, 207, 11, 100, 61, 189, 241, 190, 155, 197, 0, 104, 48, 179, 254, 182, 255, 116, 78, 210, 194, 201, 191, 108, 89, 12, 191, 4, 105, 191, 65, 71, 247, 247, 188, 149, 53, 62, 3, 249, 108, 50, 188, 253, 5, 141, 253, 60, 170, 163, 232, 169, 159, 157, 235, 80, 243, 175, 87, 173, 246, 34, 170, 94, 57, 15, 125, 247, 166, 146, 150, 167, 85, 61, 193, 10, 163, 31, 107, 20, 249, 112, 26, 227, 95, 226, 140, 68, 10, 223, 77, 78, 169, 192, 38, 71, 67, 135, 53, 164, 28, 101, 185, 224, 22, 186, 244, 174, 191, 122, 210, 84, 153, 50, 209, 240, 133, 87, 104, 16, 147, 237, 156, 190, 44, 151, 78, 19, 17, 29, 127, 227, 148, 74, 23, 243, 7, 167, 139, 77, 43, 48, 197]
def exS : List (List Nat) := [[0, 16, 32, 48, 64, 80, 96, 112, 128, 144, 160, 176, 192, 208, 224, 240], [137, 216, 16, 232, 133, 90, 206, 104, 45, 24, 67, 216, 203, 18, 143, 228], [73, 21, 89, 143, 85, 229, 215, 160, 218, 202, 148, 250, 31, 10, 99, 247], [250, 99, 106, 40, 37, 179, 57, 201, 64, 102, 138, 49, 87, 36, 77, 23], [36, 114, 64, 35, 105, 102, 179, 250, 110, 210, 117, 50, 136, 66, 91, 108], [200, 22, 119, 188, 155, 122, 201, 59, 37, 2, 121, 146, 176, 38, 25, 150], [198, 47, 225, 9, 247, 94, 237, 195, 204, 121, 57, 93, 132, 249, 207, 93], [209, 135, 108, 15, 121, 196, 48, 10, 180, 85, 148, 173, 214, 111, 244, 31], [253, 227, 186, 210, 5, 229, 208, 215, 53, 71, 150, 78, 241, 254, 55, 241], [189, 110, 124, 61, 242, 181, 119, 158, 11, 97, 33, 110, 139, 16, 182, 137], [105, 196, 224, 216, 106, 123, 4, 48, 216, 205, 183, 128, 112, 180, 197, 90]]
def exB : List (List Nat) := [[99, 202, 183, 4, 9, 83, 208, 81, 205, 96, 224, 231, 186, 112, 225, 140], [167, 97, 202, 155, 151, 190, 139, 69, 216, 173, 26, 97, 31, 201, 115, 105], [59, 89, 203, 115, 252, 217, 14, 224, 87, 116, 34, 45, 192, 103, 251, 104], [45, 251, 2, 52, 63, 109, 18, 221, 9, 51, 126, 199, 91, 54, 227, 240], [54, 64, 9, 38, 249, 51, 109, 45, 159, 181, 157, 35, 196, 44, 57, 80], [232, 71, 245, 101, 20, 218, 221, 226, 63, 119, 182, 79, 231, 247, 212, 144], [180, 21, 248, 1, 104, 88, 85, 46, 75, 182, 18, 76, 95, 153, 138, 76], [62, 23, 80, 118, 182, 28, 4, 103, 141, 252, 34, 149, 246, 168, 191, 192], [84, 17, 244, 181, 107, 217, 112, 14, 150, 160, 144, 47, 161, 187, 154, 161], [122, 159, 16, 39, 137, 213, 245, 11, 43, 239, 253, 159, 61, 202, 78, 167]]
def tab2 (l : List (List Nat)) : Nat → Nat → Nat := fun r i => (l.getD r []).getD i 0
theorem exT0 : ∀ i, i < 16 → tab exT i = i := by decide +kernel
theorem exT1 : ∀ t, t < 40 → ∀ k, k < 4 → tab exT (16 + 4 * t + k) = tab exT (4 * t + k) ^^^ nw 16 (tab exT) t k := by decide +kernel
theorem exT_words (i : Nat) (hi : i < 176) : words 16 (fun i => i) i = tab exT i := words_tab 16 (by omega) _ _ 40 exT0 exT1 40 (by omega) i (by omega)
theorem exS0 : ∀ i, i < 16 → tab2 exS 0 i = 17 * i ^^^ tab exT (16 * 0 + i) := by decide +kernel
theorem exS1 : ∀ r, r < 10 → ∀ i, i < 16 → tab2 exB r i = box (tab2 exS r i) := by decide +kernel
theorem exS2 : ∀ r, r < 10 → ∀ i, i < 16 → tab2 exS (r + 1) i = rk (tab exT) (r + 1) (if r + 1 < 10 then mix fE (rows (tab2 exB r)) else rows (tab2 exB r)) i := by decide +kernel
theorem ex_enc (i : Nat) (hi : i < 16) : enc (words 16 fun i => i) (rnd 16) (fun i => 17 * i) i = tab2 exS 10 i :=
  (encTo_ext (N := 10) (n := 176) exT_words (by omega) (Eq16.refl _) 10 (by omega) i hi).trans (enc_tab (tab exT) 10 _ _ _ exS0 exS1 exS2 10 (by omega) i hi)
theorem ex_c0 : enc (words 16 fun i => i) (rnd 16) (fun i => 17 * i) 0 = 105 := (ex_enc 0 (by omega)).trans (by decide)
theorem ex_c1 : enc (words 16 fun i => i) (rnd 16) (fun i => 17 * i) 1 = 196 := (ex_enc 1 (by omega)).trans (by decide)
theorem ex_c15 : enc (words 16 fun i => i) (rnd 16) (fun i => 17 * i) 15 = 90 := (ex_enc 15 (by omega)).trans (by decide)
end Go.Proofs.YtmmgimpokpgnaaaGreatDoor.Aes
