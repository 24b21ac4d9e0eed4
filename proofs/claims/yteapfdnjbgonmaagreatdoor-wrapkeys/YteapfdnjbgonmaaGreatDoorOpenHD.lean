/-
 A head that came in; what a card asks of the world: the library's tables and errors.errorType.
-/
import Derived.Test.YteapfdnjbgonmaaGreatDoorHdX
import Derived.Test.YteapfdnjbgonmaaGreatDoorAsX
import Derived.Lib.SmallJoins
import Derived.Lib.LaidIn
namespace Go.Proofs.YteapfdnjbgonmaaGreatDoor.Hd
open Mem Go.ChangeShapes Go.WideShapes Go.ChangeAt Go.RowKit
end Go.Proofs.YteapfdnjbgonmaaGreatDoor.Hd
namespace Go.Proofs.YteapfdnjbgonmaaGreatDoor.CardT
open Go.ChangeShapes Go.WideShapes Go.RowKit
theorem own : ownKnob Tryz.prog.godebug = none := by kernel_rfl
theorem laidOut : laidOutB Tryz.prog = true := by kernel_rfl
def laid : List (String × DataW Unit) := [("math/bits.deBruijn32tab", Rows.laid_math_bits_deBruijn32tab), ("math/bits.deBruijn64tab", Rows.laid_math_bits_deBruijn64tab), ("internal/strconv.uint64pow10", Rows.laid_internal_strconv_uint64pow10), ("errors.errorType", Rows.laid_errors_errorType)]
def data : List (String × DataW Unit) := [("math/bits.deBruijn32tab", Rows.laid_math_bits_deBruijn32tab), ("math/bits.deBruijn64tab", Rows.laid_math_bits_deBruijn64tab), ("internal/strconv.uint64pow10", Rows.laid_internal_strconv_uint64pow10)]
theorem tabIs_at {P : Program} {W : World} {name : String} {k : IntKind} {zs : List Int} {rest : List (String × DataW Unit)} {g : Nat} {t e : TypeId} {n : Nat} {ps : List MemPlace}
  (hg : P.globalNamed name = some g) (hty : (P.globals[g]?).map (·.type) = some t) (ht : P.underlying t = some (.array n e)) (he : P.underlying e = some (.int k)) (hce : P.cellsOf e = 1) (hct : P.cellsOf t = n)
  (h : DataW.LaidVars P W ((name, Lib.tabData k zs) :: rest) ps) : Lib.TabIs P W name k zs := by
 obtain ⟨g', t', cs, fuel, p, q, hg', ht', hvar, hd, _, _⟩ := h
 obtain rfl := Option.some.inj (hg.symm.trans hg')
 obtain rfl := Option.some.inj (hty.symm.trans ht')
 unfold Lib.TabIs
 rw [hvar, ← Lib.cells_of_tab ht he hce hct hd]
theorem of_laid {W : World} (h : laidMetH Tryz.prog laid W) : As.Laid W ∧ Hd.Tab W := by
 have h' : laidMet Tryz.prog data W ∧ handlesMet Tryz.prog Card.laid W := h
 refine ⟨Card.handle_of_laid (show laidMet Tryz.prog [] W ∧ handlesMet Tryz.prog Card.laid W from ⟨laidMet_nil _ _, h'.2⟩), ?_⟩
 obtain ⟨ps, h1, _⟩ := h'.1
 obtain ⟨_, _, _, _, _, q1, _, _, _, _, h2, _⟩ := h1
 obtain ⟨_, _, _, _, _, q2, _, _, _, _, h3, _⟩ := h2
 exact tabIs_at (g := 1) (t := 219) (e := 193) (n := 20) (by kernel_rfl) (by kernel_rfl) Tryz.underlying219 Tryz.underlying193 (by kernel_rfl) (by kernel_rfl) h3
noncomputable def laidWorld (os : Os) : World :=
 let w0 := World.holding Tryz.prog os ⟨#[], #[], []⟩
 let put (h : Array Obj) (i : Nat) (cs : Array Value) : Array Obj := h.modify i fun
   | .cells _ t frozen => .cells cs t frozen
   | o => o
 let t32 : List Int := [0, 1, 28, 2, 29, 14, 24, 3, 30, 22, 20, 15, 25, 17, 4, 8, 31, 27, 13, 23, 21, 19, 16, 7, 26, 12, 18, 6, 11, 5, 10, 9]
 let t64 : List Int := [0, 1, 56, 2, 57, 49, 28, 3, 61, 58, 42, 50, 38, 29, 17, 4, 62, 47, 59, 36, 45, 43, 51, 22, 53, 39, 33, 30, 24, 18, 12, 5, 63, 55, 48, 27, 60, 41, 37, 16, 46, 35, 44, 21, 52, 32, 23, 11, 54, 26, 40, 15, 34, 20, 31, 10, 25, 14, 19, 9, 13, 8, 7, 6]
 let h0 := put w0.heap 0 #[.iface 142 (.agg #[.pointer (some ⟨5, 25, none⟩)])]
 let h1 := put h0 1 (Lib.pow10Tab.map fun z => Value.int .u64 z).toArray
 let h3 := put h1 3 (t32.map fun z => Value.int .u8 z).toArray
 let h4 := put h3 4 (t64.map fun z => Value.int .u8 z).toArray
 { w0 with heap := h4 }
theorem laidWorld_met (os : Os) (args : Array Value) : laidMetH Tryz.prog laid ((laidWorld os).forCall (fun _ _ => 0) ⟨#[], args, []⟩).memory :=
 laidMetH_of_parts ((LaidIn.of_run [3, 4, 1] 8 (by kernel_rfl) (by kernel_rfl) (by kernel_rfl) (by kernel_rfl)).met) (by kernel_rfl)
end Go.Proofs.YteapfdnjbgonmaaGreatDoor.CardT
