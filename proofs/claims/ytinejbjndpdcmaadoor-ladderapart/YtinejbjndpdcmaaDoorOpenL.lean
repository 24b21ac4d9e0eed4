/-
 What a card asks of the world: the library's tables of bits.
-/
import Derived.Test.YtinejbjndpdcmaaDoorMemX
import Derived.Test.YtinejbjndpdcmaaDoorLad1
import Derived.Lib.SmallJoins
import Derived.Lib.LaidIn
namespace Go.Proofs.YtinejbjndpdcmaaDoor.CardL
open Go.ChangeShapes Go.WideShapes Go.RowKit
theorem own : ownKnob Tryd.prog.godebug = none := by kernel_rfl
theorem laidOut : laidOutB Tryd.prog = true := by kernel_rfl
def laid : List (String × DataW Unit) := [("math/bits.deBruijn32tab", Rows.laid_math_bits_deBruijn32tab), ("math/bits.deBruijn64tab", Rows.laid_math_bits_deBruijn64tab)]
theorem tabIs_at {P : Program} {W : World} {name : String} {k : IntKind} {zs : List Int} {rest : List (String × DataW Unit)} {g : Nat} {t e : TypeId} {n : Nat} {ps : List MemPlace}
  (hg : P.globalNamed name = some g) (hty : (P.globals[g]?).map (·.type) = some t) (ht : P.underlying t = some (.array n e)) (he : P.underlying e = some (.int k)) (hce : P.cellsOf e = 1) (hct : P.cellsOf t = n)
  (h : DataW.LaidVars P W ((name, Lib.tabData k zs) :: rest) ps) : Lib.TabIs P W name k zs := by
 obtain ⟨g', t', cs, fuel, p, q, hg', ht', hvar, hd, _, _⟩ := h
 obtain rfl := Option.some.inj (hg.symm.trans hg')
 obtain rfl := Option.some.inj (hty.symm.trans ht')
 unfold Lib.TabIs
 rw [hvar, ← Lib.cells_of_tab ht he hce hct hd]
theorem of_data {W : World} (h : laidMet Tryd.prog laid W) : Lad.Tab W := by
 obtain ⟨ps, h1, _⟩ := h
 obtain ⟨_, _, _, _, _, q1, _, _, _, _, h2, _⟩ := h1
 exact tabIs_at (g := 2) (t := 84) (e := 5) (n := 64) (by kernel_rfl) (by kernel_rfl) Tryd.underlying84 Tryd.underlying5 (by kernel_rfl) (by kernel_rfl) h2
theorem of_laid {W : World} (h : laidMetH Tryd.prog laid W) : Lad.Tab W := by
 have h' : laidMet Tryd.prog laid W := h
 exact of_data h'
noncomputable def laidWorld (os : Os) : World :=
 let w0 := World.holding Tryd.prog os ⟨#[], #[], []⟩
 let put (h : Array Obj) (i : Nat) (cs : Array Value) : Array Obj := h.modify i fun
   | .cells _ t frozen => .cells cs t frozen
   | o => o
 let t32 : List Int := [0, 1, 28, 2, 29, 14, 24, 3, 30, 22, 20, 15, 25, 17, 4, 8, 31, 27, 13, 23, 21, 19, 16, 7, 26, 12, 18, 6, 11, 5, 10, 9]
 let h3 := put w0.heap 1 (t32.map fun z => Value.int .u8 z).toArray
 let h4 := put h3 2 (Lad.t64.map fun z => Value.int .u8 z).toArray
 { w0 with heap := h4 }
theorem laidWorld_met (os : Os) (args : Array Value) : laidMetH Tryd.prog laid ((laidWorld os).forCall (fun _ _ => 0) ⟨#[], args, []⟩).memory :=
 laidMetH_of_parts ((LaidIn.of_run [1, 2] 8 (by kernel_rfl) (by kernel_rfl) (by kernel_rfl) (by kernel_rfl)).met) (by kernel_rfl)
end Go.Proofs.YtinejbjndpdcmaaDoor.CardL
