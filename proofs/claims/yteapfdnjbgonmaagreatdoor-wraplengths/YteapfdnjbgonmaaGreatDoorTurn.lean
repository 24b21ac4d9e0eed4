/-
 Ciphers of whatever kind, without memory: back undoes forth, the same is answered again, unlike blocks are unlike.
-/
import Derived.Test.YteapfdnjbgonmaaGreatDoorCiX
import Derived.Test.YteapfdnjbgonmaaGreatDoorAesY
namespace Go.Proofs.YteapfdnjbgonmaaGreatDoor.Bk
open Mem
section
variable {k L : Nat} {key : Nat → Nat} {p : Pl} {R R' : List Rw} {d d' : Nat} {bk : Bool} {x y : Nat → Nat} {o : Option (Nat → Nat)}
theorem ws_lt (L : Nat) (hk : ∀ i, i < L → key i < 256) : ∀ i, i < Aes.wsz L → Aes.words L key i < 256 := fun i _ => Aes.ex_lt L key (Aes.more L) hk i
theorem ws_le (L : Nat) : 16 * Aes.rnd L + 16 ≤ Aes.wsz L := by rw [Aes.wsz_eq]; omega
theorem turn1 : turnC 1 L key p R d bk x = (some (if bk then Aes.dec (Aes.words L key) (Aes.rnd L) x else Aes.enc (Aes.words L key) (Aes.rnd L) x), R, d) := by unfold turnC; rw [if_pos rfl]
theorem turn2 : turnC 2 L key p R d bk x = (some (Des.tdes L key x bk), R, d) := by unfold turnC; rw [if_neg (by omega), if_pos rfl]
theorem turn3 : turnC 3 L key p R d bk x = askL p.F p.n (strF L key) R d bk x := by unfold turnC; rw [if_neg (by omega), if_neg (by omega)]
theorem str_le (hf : fits 3 L) : (strF L key).size ≤ 32 := by
 rw [strF_size]
 rcases hf with ⟨h, _⟩ | ⟨h, _⟩ | ⟨_, h⟩
 ·omega
 ·omega
 exact h.2
theorem turn_inv (hf : fits k L) (hk : ∀ i, i < L → key i < 256) (hI : Inv p.F p.n R d) (hx : ∀ i, i < sz k → x i < 256) (ht : turnC k L key p R d bk x = (o, R', d')) :
  Inv p.F p.n R' d' ∧ (∀ y, o = some y → ∀ i, i < sz k → y i < 256) ∧ (o = none → k = 3 ∧ R' = R) ∧ (R' = R ∨ R'.length = R.length + 1) := by
 have hf0 := hf
 rcases hf with ⟨rfl, hL⟩ | ⟨rfl, hL⟩ | ⟨rfl, hL⟩
 ·rw [turn1] at ht
  cases ht
  refine ⟨hI, fun y hy => ?_, fun h => (by cases h), .inl rfl⟩
  cases hy
  cases bk
  ·exact Aes.enc_by (ws_lt L hk) (ws_le L) hx
  exact Aes.dec_by (ws_lt L hk) (ws_le L) hx
 ·rw [turn2] at ht
  cases ht
  exact ⟨hI, fun y hy => (by cases hy; exact Des.tdes_by _ _ _ _), fun h => (by cases h), .inl rfl⟩
 rw [turn3] at ht
 obtain ⟨h1, h2, h3, h4⟩ := askL_inv hI (str_le hf0) hx ht
 exact ⟨h1, h2, fun h => ⟨rfl, h3 h⟩, h4⟩
theorem turn_again (hf : fits k L) (hI : Inv p.F p.n R d) (hx : ∀ i, i < sz k → x i < 256) (ht : turnC k L key p R d bk x = (some y, R', d')) : turnC k L key p R' d' bk x = (some y, R', d') := by
 have hf0 := hf
 rcases hf with ⟨rfl, hL⟩ | ⟨rfl, hL⟩ | ⟨rfl, hL⟩
 ·rw [turn1] at ht ⊢
  cases ht
  rfl
 ·rw [turn2] at ht ⊢
  cases ht
  rfl
 rw [turn3] at ht ⊢
 exact askL_again hI (str_le hf0) hx ht (eqB_refl _ _)
theorem turn_back (hf : fits k L) (hk : ∀ i, i < L → key i < 256) (hI : Inv p.F p.n R d) (hx : ∀ i, i < sz k → x i < 256) (ht : turnC k L key p R d bk x = (some y, R', d')) : ∃ z, turnC k L key p R' d' (!bk) y = (some z, R', d') ∧ eqB (sz k) z x = true := by
 have hf0 := hf
 rcases hf with ⟨rfl, hL⟩ | ⟨rfl, hL⟩ | ⟨rfl, hL⟩
 ·rw [turn1] at ht
  cases ht
  refine ⟨_, turn1, ?_⟩
  cases bk
  ·exact eqB_true (Aes.dec_enc (ws_lt L hk) (ws_le L) hx)
  exact eqB_true (Aes.enc_dec (ws_lt L hk) (ws_le L) hx)
 ·rw [turn2] at ht
  cases ht
  exact ⟨_, turn2, eqB_true (fun i hi => Des.tdes_back L key x hx bk i hi)⟩
 rw [turn3] at ht
 obtain ⟨z, h1, h2⟩ := askL_back hI (str_le hf0) hx ht (eqB_refl _ _)
 exact ⟨z, by rw [turn3]; exact h1, h2⟩
theorem tdes_ext {b b' : Nat → Nat} (h : ∀ i, i < 8 → b i = b' i) (bk : Bool) : Des.tdes L key b bk = Des.tdes L key b' bk := by
 unfold Des.tdes
 rw [Des.des_ext (fun _ _ => rfl) h]
theorem turn_one {u v z : Nat → Nat} {R1 R2 : List Rw} {d1 d2 : Nat} (hf : fits k L) (hk : ∀ i, i < L → key i < 256) (hI : Inv p.F p.n R d) (hx : ∀ i, i < sz k → x i < 256) (hz : ∀ i, i < sz k → z i < 256) (h1 : turnC k L key p R d bk x = (some u, R1, d1)) (h2 : turnC k L key p R1 d1 bk z = (some v, R2, d2)) :
  eqB (sz k) u v = eqB (sz k) x z := by
 have hf0 := hf
 rcases hf with ⟨rfl, hL⟩ | ⟨rfl, hL⟩ | ⟨rfl, hL⟩
 ·rw [turn1] at h1 h2
  cases h1
  cases h2
  cases bk
  ·exact Aes.enc_eqB (ws_lt L hk) (ws_le L) hx hz
  exact Aes.dec_eqB (ws_lt L hk) (ws_le L) hx hz
 ·rw [turn2] at h1 h2
  cases h1
  cases h2
  show eqB 8 _ _ = eqB 8 _ _
  apply eqB_bool
  constructor
  ·intro h
   refine eqB_true fun i hi => ?_
   rw [← Des.tdes_back L key x hx bk i hi, tdes_ext (eqB_iff.1 h), Des.tdes_back L key z hz bk i hi]
  intro h
  rw [tdes_ext (eqB_iff.1 h)]
  exact eqB_refl _ _
 rw [turn3] at h1 h2
 exact askL_one hI (str_le hf0) hx hz h1 h2
theorem turn_first (hf : fits k L) (ht : turnC k L key p [] 0 bk x = (none, R', d')) : k = 3 ∧ p.n < 16 := by
 rcases hf with ⟨rfl, hL⟩ | ⟨rfl, hL⟩ | ⟨rfl, hL⟩
 ·rw [turn1] at ht; cases ht
 ·rw [turn2] at ht; cases ht
 rw [turn3] at ht
 exact ⟨rfl, askL_first (by omega) (by rw [ht])⟩
end
end Go.Proofs.YteapfdnjbgonmaaGreatDoor.Bk
