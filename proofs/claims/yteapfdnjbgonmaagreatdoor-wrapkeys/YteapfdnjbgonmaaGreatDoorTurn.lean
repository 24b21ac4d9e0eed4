/-
 Ciphers of whatever kind, without memory: back undoes forth, the same is answered again, unlike blocks are unlike.
-/
import Derived.Test.YteapfdnjbgonmaaGreatDoorCiX
import Derived.Test.YteapfdnjbgonmaaGreatDoorAesY
namespace Go.Proofs.YteapfdnjbgonmaaGreatDoor.Bk
open Mem
section
variable {k L : Nat} {key : Nat → Nat} {p : Pl} {R R' : List Rw} {d d' : Nat} {bk : Bool} {x y : Nat → Nat} {o : Option (Nat → Nat)}
theorem ws_lt (L : Nat) (hk : ∀ i, i < L → key i < 256) : ∀ i, i < Aes.wsz L → Aes.words L key i < 256 := fun i _ => Aes.ex_lt L key (Aes.more L) hk i
theorem ws_le (L : Nat) : 16 * Aes.rnd L + 16 ≤ Aes.wsz L := by rw [Aes.wsz_eq]; omega
theorem turn1 : turnC 1 L key p R d bk x = (some (if bk then Aes.dec (Aes.words L key) (Aes.rnd L) x else Aes.enc (Aes.words L key) (Aes.rnd L) x), R, d) := by unfold turnC; rw [if_pos rfl]
theorem turn2 : turnC 2 L key p R d bk x = (some (Des.tdes L key x bk), R, d) := by unfold turnC; rw [if_neg (by omega), if_pos rfl]
theorem turn3 : turnC 3 L key p R d bk x = askL p.F p.n (strF L key) R d bk x := by unfold turnC; rw [if_neg (by omega), if_neg (by omega)]
theorem str_le (hf : fits 3 L) : (strF L key).size ≤ 32 := by
 rw [strF_size]
 rcases hf with ⟨h, _⟩ | ⟨h, _⟩ | ⟨_, h⟩
 ·omega
 ·omega
 exact h.2
theorem turn_inv (hf : fits k L) (hk : ∀ i, i < L → key i < 256) (hI : Inv p.F p.n R d) (hx : ∀ i, i < sz k → x i < 256) (ht : turnC k L key p R d bk x = (o, R', d')) :
  Inv p.F p.n R' d' ∧ (∀ y, o = some y → ∀ i, i < sz k → y i < 256) ∧ (o = none → k = 3 ∧ R' = R) ∧ (R' = R ∨ R'.length = R.length + 1) := by
 have hf0 := hf
 rcases hf with ⟨rfl, hL⟩ | ⟨rfl, hL⟩ | ⟨rfl, hL⟩
 ·rw [turn1] at ht
  cases ht
  refine ⟨hI, fun y hy => ?_, fun h => (by cases h), .inl rfl⟩
  cases hy
  cases bk
  ·exact Aes.enc_by (ws_lt L hk) (ws_le L) hx
  exact Aes.dec_by (ws_lt L hk) (ws_le L) hx
 ·rw [turn2] at ht
  cases ht
  exact ⟨hI, fun y hy => (by cases hy; exact Des.tdes_by _ _ _ _), fun h => (by cases h), .inl rfl⟩
 rw [turn3] at ht
 obtain ⟨h1, h2, h3, h4⟩ := askL_inv hI (str_le hf0) hx ht
 exact ⟨h1, h2, fun h => ⟨rfl, h3 h⟩, h4⟩
theorem tdes_ext {b b' : Nat → Nat} (h : ∀ i, i < 8 → b i = b' i) (bk : Bool) : Des.tdes L key b bk = Des.tdes L key b' bk := by
 unfold Des.tdes
 rw [Des.des_ext (fun _ _ => rfl) h]
end
end Go.Proofs.YteapfdnjbgonmaaGreatDoor.Bk
