/-
 What a card asks of the world: the library's tables of bits, and errors.errorType.
-/
import Derived.Test.YtinejbjndpdcmaaDoorOpenL
import Derived.Test.YtinejbjndpdcmaaDoorAsX
namespace Go.Proofs.YtinejbjndpdcmaaDoor.CardM
open Go.ChangeShapes Go.WideShapes Go.RowKit
theorem own : ownKnob Tryd.prog.godebug = none := by kernel_rfl
theorem laidOut : laidOutB Tryd.prog = true := by kernel_rfl
def laid : List (String × DataW Unit) := [("math/bits.deBruijn32tab", Rows.laid_math_bits_deBruijn32tab), ("math/bits.deBruijn64tab", Rows.laid_math_bits_deBruijn64tab), ("errors.errorType", Rows.laid_errors_errorType)]
theorem of_laid {W : World} (h : laidMetH Tryd.prog laid W) : Lad.Tab W := by
 have h' : laidMet Tryd.prog CardL.laid W ∧ handlesMet Tryd.prog Card.laid W := h
 exact CardL.of_data h'.1
noncomputable def laidWorld (os : Os) : World :=
 let w0 := World.holding Tryd.prog os ⟨#[], #[], []⟩
 let put (h : Array Obj) (i : Nat) (cs : Array Value) : Array Obj := h.modify i fun
   | .cells _ t frozen => .cells cs t frozen
   | o => o
 let t32 : List Int := [0, 1, 28, 2, 29, 14, 24, 3, 30, 22, 20, 15, 25, 17, 4, 8, 31, 27, 13, 23, 21, 19, 16, 7, 26, 12, 18, 6, 11, 5, 10, 9]
 let h0 := put w0.heap 0 #[.iface 88 (.agg #[.pointer (some ⟨3, 33, none⟩)])]
 let h3 := put h0 1 (t32.map fun z => Value.int .u8 z).toArray
 let h4 := put h3 2 (Lad.t64.map fun z => Value.int .u8 z).toArray
 { w0 with heap := h4 }
theorem laidWorld_met (os : Os) (args : Array Value) : laidMetH Tryd.prog laid ((laidWorld os).forCall (fun _ _ => 0) ⟨#[], args, []⟩).memory :=
 laidMetH_of_parts ((LaidIn.of_run [1, 2] 8 (by kernel_rfl) (by kernel_rfl) (by kernel_rfl) (by kernel_rfl)).met) (by kernel_rfl)
end Go.Proofs.YtinejbjndpdcmaaDoor.CardM
