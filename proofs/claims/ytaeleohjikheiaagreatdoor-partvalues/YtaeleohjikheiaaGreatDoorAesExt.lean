/-
  AES, without memory: unlike blocks are enciphered and deciphered to unlike ones.
-/
import Derived.Test.YtaeleohjikheiaaGreatDoorAesCipher
import Derived.Test.YtaeleohjikheiaaGreatDoorMemX
namespace Go.Proofs.YtaeleohjikheiaaGreatDoor.Aes
open Go.ChangeShapes Go.WideShapes Go.ChangeAt Go.RowKit Mem
theorem decTo_ext {ws : Nat → Nat} {N : Nat} {b b' : Nat → Nat} (hb : Eq16 b b') (j : Nat) : Eq16 (decTo ws N b j) (decTo ws N b' j) := by
  induction j with
  | zero => exact hb
  | succ j ih =>
    refine each_ext Gf.unbox (rowsB_ext ?_)
    by_cases h : N - j < N
    · rw [if_pos h, if_pos h]; exact mix_ext fD (rk_ext ws _ ih)
    · rw [if_neg h, if_neg h]; exact rk_ext ws _ ih
theorem dec_ext {ws : Nat → Nat} {N : Nat} {b b' : Nat → Nat} (hb : Eq16 b b') : Eq16 (dec ws N b) (dec ws N b') := rk_ext ws 0 (decTo_ext hb N)
theorem enc_eqB {ws : Nat → Nat} {N n : Nat} (hw : ∀ i, i < n → ws i < 256) (hn : 16 * N + 16 ≤ n) {a b : Nat → Nat} (ha : By16 a) (hb : By16 b) : eqB 16 (enc ws N a) (enc ws N b) = eqB 16 a b := by
  rw [Bool.eq_iff_iff, eqB_iff, eqB_iff]
  constructor
  · intro h
    have h1 := (dec_enc hw hn ha).symm.trans ((dec_ext (show Eq16 (enc ws N a) (enc ws N b) from h)).trans (dec_enc hw hn hb))
    exact h1
  · intro h
    exact encTo_ext (n := n) (fun _ _ => rfl) hn h N (Nat.le_refl _)
theorem dec_eqB {ws : Nat → Nat} {N n : Nat} (hw : ∀ i, i < n → ws i < 256) (hn : 16 * N + 16 ≤ n) {a b : Nat → Nat} (ha : By16 a) (hb : By16 b) : eqB 16 (dec ws N a) (dec ws N b) = eqB 16 a b := by
  rw [Bool.eq_iff_iff, eqB_iff, eqB_iff]
  constructor
  · intro h
    have h2 : Eq16 (enc ws N (dec ws N a)) (enc ws N (dec ws N b)) := encTo_ext (n := n) (fun _ _ => rfl) hn h N (Nat.le_refl _)
    exact (enc_dec hw hn ha).symm.trans (h2.trans (enc_dec hw hn hb))
  · intro h
    exact dec_ext h
end Go.Proofs.YtaeleohjikheiaaGreatDoor.Aes
