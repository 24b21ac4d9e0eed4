/-
 AES, without memory: unlike blocks are enciphered and deciphered to unlike ones.
-/
import Derived.Test.YtlmnoapoofmmnaaGreatDoorAesCipher
import Derived.Test.YtlmnoapoofmmnaaGreatDoorMemX
namespace Go.Proofs.YtlmnoapoofmmnaaGreatDoor.Aes
open Go.ChangeShapes Go.WideShapes Go.ChangeAt Go.RowKit Mem
theorem decTo_ext {ws : Nat → Nat} {N : Nat} {b b' : Nat → Nat} (hb : Eq16 b b') (j : Nat) : Eq16 (decTo ws N b j) (decTo ws N b' j) := by
 induction j with
 | zero => exact hb
 | succ j ih =>
  refine each_ext Gf.unbox (rowsB_ext ?_)
  by_cases h : N - j < N
  ·rw [if_pos h, if_pos h]; exact mix_ext fD (rk_ext ws _ ih)
  rw [if_neg h, if_neg h]; exact rk_ext ws _ ih
theorem dec_ext {ws : Nat → Nat} {N : Nat} {b b' : Nat → Nat} (hb : Eq16 b b') : Eq16 (dec ws N b) (dec ws N b') := rk_ext ws 0 (decTo_ext hb N)
end Go.Proofs.YtlmnoapoofmmnaaGreatDoor.Aes
