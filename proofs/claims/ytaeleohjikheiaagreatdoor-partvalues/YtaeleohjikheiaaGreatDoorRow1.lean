/-
  Bytes that are appended one by one: what all such texts share.
-/
import Derived.Test.YtaeleohjikheiaaGreatDoorAesCipher
import Derived.Test.YtaeleohjikheiaaGreatDoorMemX
namespace Go.Proofs.YtaeleohjikheiaaGreatDoor.Aes
open Go.ChangeShapes Go.WideShapes Go.ChangeAt Go.RowKit Mem
/-- a new slice of n bytes, f -/
def NewBytes (n : Nat) (f : Nat → Nat) (w : World) (e : Ending) (w' : World) : Prop := ∃ A c, e = .returned (.slice A n c) ∧ n ≤ c ∧ Reads w' w'.heap.size A n f ∧ Below w.heap.size w w'
theorem short_step (L : Nat) (f : Nat → Nat) (k : Nat) (b : Nat → Nat) (hb : b 0 = f (k % L)) : ∀ i, i < (k + 1) * 1 → cat (k * 1) (fun i => f (i % L)) b i = f (i % L) := by
  intro i hi
  unfold cat
  by_cases h : i < k * 1
  · rw [if_pos h]
  · rw [if_neg h, show i - k * 1 = 0 by omega, hb, show i = k by omega]
theorem row1 (f : Nat → Nat) (a : Int) (h : a = (f 0 : Nat)) : #[Value.int .u8 a] = row (1 * 1) (b8 f) := by
  subst h
  apply row_of (by rfl)
  intro i hi
  match i, hi with
  | 0, _ => rfl
  | n + 1, h => omega
end Go.Proofs.YtaeleohjikheiaaGreatDoor.Aes
