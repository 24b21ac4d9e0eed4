/-
 What lockboxref02.Words returns: the three lengths.
-/
import Derived.Test.YtlmacfmfmjhidaaGreatDoorRef02W16
import Derived.Test.YtlmacfmfmjhidaaGreatDoorRef02W24
import Derived.Test.YtlmacfmfmjhidaaGreatDoorRef02W32
namespace Go.Proofs.YtlmacfmfmjhidaaGreatDoor.Aes
open Go.ChangeShapes Go.WideShapes Go.ChangeAt Go.RowKit Mem
theorem rwords_any (A:Option Addr) (L c:Nat) (hL:IsKey L) (key:Nat→Nat) (w:World) (hk: ∀i,i<L→key i<256) (hR:Reads w w.heap.size A L key):
  Calls Tryz.prog 117 #[.slice A L c] w (NewBytes (wsz L) (words L key) w):=by
 rcases hL with rfl | rfl | rfl
 ·exact rwords16 A c key w hk hR
 ·exact rwords24 A c key w hk hR
 exact rwords32 A c key w hk hR
theorem xl {a b:Nat} (ha:a<256) (hb:b<256):a ^^^ b<256:=Nat.xor_lt_two_pow (n:=8) ha hb
end Go.Proofs.YtlmacfmfmjhidaaGreatDoor.Aes
