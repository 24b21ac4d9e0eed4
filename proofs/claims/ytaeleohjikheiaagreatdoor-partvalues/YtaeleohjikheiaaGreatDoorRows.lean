/-
  NARROWER THAN 'FOR EVERY INPUT', by the rows' own cells (each row's printed sentence says how): ModeDoes: laid · MacCmacs: laid · PartRights: laid · PartValues: laid · PartJoins: laid · PartJoin: laid · PartKeeps: laid · PartOdd: laid.
  DERIVED. THE GIVEN ROWS OF THIS SEAT. 8 by the template 'for every input the law returns true; each argument reads behind the call as it read before'; 0 by the template 'total and deterministic' (their statements: YtaeleohjikheiaaGreatDoorTotals.lean).
  GIVEN WITH THE SEED: the statements are not yours to turn. If you find one false, say at which input.
  Laid BY PROGRAM, IN A SANDBOX (cutbox-rows.mjs): the forced cells as the released guide's own fill.sh prints them over the translation 640fe96b59cf21ee… (all of the seat's roots in one cut). By AI agents, Wed Nov 11 2026. No macro, syntax, notation, axiom, sorry.
-/
import Derived.Test.YtaeleohjikheiaaGreatDoorChecked
import GoSem.Claim
import GoSem.ClaimJoined
import GoSem.ClaimMapViews
import Derived.JoinedTies
import Derived.KernelRfl
namespace Go.Proofs.YtaeleohjikheiaaGreatDoor
/- THE CELL 'sum', in the pinned program and in every row, IS THE sha256 OF THE DUMP (.gsa) THAT YtaeleohjikheiaaGreatDoorProg.lean LOADS. Nothing in Lean hashes anything: it is a label: what it is worth is what the hold of that sum in a sandbox is worth. -/
noncomputable def Tryz.pinned : Pinned := { name := "ytaeleohjikheiaagreatdoor", sum := "640fe96b59cf21ee47d5161857139530529b76fe521d97ebe0a0ba9781b7a480", checked := Tryz.checked }
namespace Rows
def none {H : Type} : Left H := { results := [], args := [] }

/- WHAT THE LISTED PACKAGE-LEVEL VARIABLES READ AS WHEN THE CALL BEGINS. Each datum BY PROGRAM (the guide's laid-datum.mjs) off the statement by which the dump's own 'gosem.cut.vars' lays the variable. In a bare row this is a premise. The card (YtaeleohjikheiaaGreatDoorCards.lean) ties it to the program's text. -/
def laid_errors_errorType {H : Type} : DataW H := .iface "internal/reflectlite.rtype" (.agg [.ptr (.lit (.string [101, 114, 114, 111, 114]))])

/-- 'lockboxlaw06.ModeDoes': WHATEVER THE INPUT: true; the input reads as it did. -/
def modeDoesSpec : ChangeSpec := { name := "modeDoes", fn := fun _ => fun
  | [d1, d2, d3, d4, d5, d6] => { results := [.lit (.bool true)], args := [d1, d2, d3, d4, d5, d6] }
  | _ => none }
def modeDoesRow : OpenClaim := { program := "ytaeleohjikheiaagreatdoor", sum := "640fe96b59cf21ee47d5161857139530529b76fe521d97ebe0a0ba9781b7a480", func := "lockbox/lockboxlaw06.ModeDoes", spec := "modeDoes", inPlace := ["internal/reflectlite.ValueOf", "(internal/reflectlite.Value).Type", "(internal/reflectlite.Value).IsNil", "internal/reflectlite.TypeOf", "(internal/reflectlite.Value).Elem", "(internal/reflectlite.Value).Set"], unfollowed := true, recurses := true, named := ["errors.errorType"], plainKeys := false, apart := false, laid := [("errors.errorType", laid_errors_errorType)] }
def ModeDoesSaid : Prop := modeDoesRow.holds Tryz.pinned (OpenSpec.ofChange modeDoesSpec)

/-- ITS FALSE NEIGHBOUR: 'it returns false'. Refute it at one input. -/
def modeDoesWrong : ChangeSpec := { name := "modeDoes", fn := fun _ => fun
  | [d1, d2, d3, d4, d5, d6] => { results := [.lit (.bool false)], args := [d1, d2, d3, d4, d5, d6] }
  | _ => none }
def ModeDoesWrongFalsely : Prop := modeDoesRow.holds Tryz.pinned (OpenSpec.ofChange modeDoesWrong)

/-- 'lockboxlaw07.MacCmacs': WHATEVER THE INPUT: true; the input reads as it did. -/
def macCmacsSpec : ChangeSpec := { name := "macCmacs", fn := fun _ => fun
  | [d1, d2, d3, d4, d5] => { results := [.lit (.bool true)], args := [d1, d2, d3, d4, d5] }
  | _ => none }
def macCmacsRow : OpenClaim := { program := "ytaeleohjikheiaagreatdoor", sum := "640fe96b59cf21ee47d5161857139530529b76fe521d97ebe0a0ba9781b7a480", func := "lockbox/lockboxlaw07.MacCmacs", spec := "macCmacs", inPlace := ["internal/reflectlite.ValueOf", "(internal/reflectlite.Value).Type", "(internal/reflectlite.Value).IsNil", "internal/reflectlite.TypeOf", "(internal/reflectlite.Value).Elem", "(internal/reflectlite.Value).Set"], unfollowed := true, recurses := true, named := ["errors.errorType"], plainKeys := false, apart := false, laid := [("errors.errorType", laid_errors_errorType)] }
def MacCmacsSaid : Prop := macCmacsRow.holds Tryz.pinned (OpenSpec.ofChange macCmacsSpec)

/-- ITS FALSE NEIGHBOUR: 'it returns false'. Refute it at one input. -/
def macCmacsWrong : ChangeSpec := { name := "macCmacs", fn := fun _ => fun
  | [d1, d2, d3, d4, d5] => { results := [.lit (.bool false)], args := [d1, d2, d3, d4, d5] }
  | _ => none }
def MacCmacsWrongFalsely : Prop := macCmacsRow.holds Tryz.pinned (OpenSpec.ofChange macCmacsWrong)

/-- 'lockboxlaw09.PartRights': WHATEVER THE INPUT: true; the input reads as it did. -/
def partRightsSpec : ChangeSpec := { name := "partRights", fn := fun _ => fun
  | [d1, d2] => { results := [.lit (.bool true)], args := [d1, d2] }
  | _ => none }
def partRightsRow : OpenClaim := { program := "ytaeleohjikheiaagreatdoor", sum := "640fe96b59cf21ee47d5161857139530529b76fe521d97ebe0a0ba9781b7a480", func := "lockbox/lockboxlaw09.PartRights", spec := "partRights", inPlace := ["internal/reflectlite.ValueOf", "(internal/reflectlite.Value).Type", "(internal/reflectlite.Value).IsNil", "internal/reflectlite.TypeOf", "(internal/reflectlite.Value).Elem", "(internal/reflectlite.Value).Set"], unfollowed := true, recurses := true, named := ["errors.errorType"], plainKeys := false, apart := false, laid := [("errors.errorType", laid_errors_errorType)] }
def PartRightsSaid : Prop := partRightsRow.holds Tryz.pinned (OpenSpec.ofChange partRightsSpec)

/-- ITS FALSE NEIGHBOUR: 'it returns false'. Refute it at one input. -/
def partRightsWrong : ChangeSpec := { name := "partRights", fn := fun _ => fun
  | [d1, d2] => { results := [.lit (.bool false)], args := [d1, d2] }
  | _ => none }
def PartRightsWrongFalsely : Prop := partRightsRow.holds Tryz.pinned (OpenSpec.ofChange partRightsWrong)

/-- 'lockboxlaw09.PartValues': WHATEVER THE INPUT: true; the input reads as it did. -/
def partValuesSpec : ChangeSpec := { name := "partValues", fn := fun _ => fun
  | [d1, d2] => { results := [.lit (.bool true)], args := [d1, d2] }
  | _ => none }
def partValuesRow : OpenClaim := { program := "ytaeleohjikheiaagreatdoor", sum := "640fe96b59cf21ee47d5161857139530529b76fe521d97ebe0a0ba9781b7a480", func := "lockbox/lockboxlaw09.PartValues", spec := "partValues", inPlace := ["internal/reflectlite.ValueOf", "(internal/reflectlite.Value).Type", "(internal/reflectlite.Value).IsNil", "internal/reflectlite.TypeOf", "(internal/reflectlite.Value).Elem", "(internal/reflectlite.Value).Set"], unfollowed := true, recurses := true, named := ["errors.errorType"], plainKeys := false, apart := false, laid := [("errors.errorType", laid_errors_errorType)] }
def PartValuesSaid : Prop := partValuesRow.holds Tryz.pinned (OpenSpec.ofChange partValuesSpec)

/-- ITS FALSE NEIGHBOUR: 'it returns false'. Refute it at one input. -/
def partValuesWrong : ChangeSpec := { name := "partValues", fn := fun _ => fun
  | [d1, d2] => { results := [.lit (.bool false)], args := [d1, d2] }
  | _ => none }
def PartValuesWrongFalsely : Prop := partValuesRow.holds Tryz.pinned (OpenSpec.ofChange partValuesWrong)

/-- 'lockboxlaw09.PartJoins': WHATEVER THE INPUT: true; the input reads as it did. -/
def partJoinsSpec : ChangeSpec := { name := "partJoins", fn := fun _ => fun
  | [d1, d2] => { results := [.lit (.bool true)], args := [d1, d2] }
  | _ => none }
def partJoinsRow : OpenClaim := { program := "ytaeleohjikheiaagreatdoor", sum := "640fe96b59cf21ee47d5161857139530529b76fe521d97ebe0a0ba9781b7a480", func := "lockbox/lockboxlaw09.PartJoins", spec := "partJoins", inPlace := ["internal/reflectlite.ValueOf", "(internal/reflectlite.Value).Type", "(internal/reflectlite.Value).IsNil", "internal/reflectlite.TypeOf", "(internal/reflectlite.Value).Elem", "(internal/reflectlite.Value).Set"], unfollowed := true, recurses := true, named := ["errors.errorType"], plainKeys := false, apart := false, laid := [("errors.errorType", laid_errors_errorType)] }
def PartJoinsSaid : Prop := partJoinsRow.holds Tryz.pinned (OpenSpec.ofChange partJoinsSpec)

/-- ITS FALSE NEIGHBOUR: 'it returns false'. Refute it at one input. -/
def partJoinsWrong : ChangeSpec := { name := "partJoins", fn := fun _ => fun
  | [d1, d2] => { results := [.lit (.bool false)], args := [d1, d2] }
  | _ => none }
def PartJoinsWrongFalsely : Prop := partJoinsRow.holds Tryz.pinned (OpenSpec.ofChange partJoinsWrong)

/-- 'lockboxlaw09.PartJoin': WHATEVER THE INPUT: true; the input reads as it did. -/
def partJoinSpec : ChangeSpec := { name := "partJoin", fn := fun _ => fun
  | [d1, d2, d3, d4] => { results := [.lit (.bool true)], args := [d1, d2, d3, d4] }
  | _ => none }
def partJoinRow : OpenClaim := { program := "ytaeleohjikheiaagreatdoor", sum := "640fe96b59cf21ee47d5161857139530529b76fe521d97ebe0a0ba9781b7a480", func := "lockbox/lockboxlaw09.PartJoin", spec := "partJoin", inPlace := ["internal/reflectlite.ValueOf", "(internal/reflectlite.Value).Type", "(internal/reflectlite.Value).IsNil", "internal/reflectlite.TypeOf", "(internal/reflectlite.Value).Elem", "(internal/reflectlite.Value).Set"], unfollowed := true, recurses := true, named := ["errors.errorType"], plainKeys := false, apart := false, laid := [("errors.errorType", laid_errors_errorType)] }
def PartJoinSaid : Prop := partJoinRow.holds Tryz.pinned (OpenSpec.ofChange partJoinSpec)

/-- ITS FALSE NEIGHBOUR: 'it returns false'. Refute it at one input. -/
def partJoinWrong : ChangeSpec := { name := "partJoin", fn := fun _ => fun
  | [d1, d2, d3, d4] => { results := [.lit (.bool false)], args := [d1, d2, d3, d4] }
  | _ => none }
def PartJoinWrongFalsely : Prop := partJoinRow.holds Tryz.pinned (OpenSpec.ofChange partJoinWrong)

/-- 'lockboxlaw09.PartKeeps': WHATEVER THE INPUT: true; the input reads as it did. -/
def partKeepsSpec : ChangeSpec := { name := "partKeeps", fn := fun _ => fun
  | [d1, d2] => { results := [.lit (.bool true)], args := [d1, d2] }
  | _ => none }
def partKeepsRow : OpenClaim := { program := "ytaeleohjikheiaagreatdoor", sum := "640fe96b59cf21ee47d5161857139530529b76fe521d97ebe0a0ba9781b7a480", func := "lockbox/lockboxlaw09.PartKeeps", spec := "partKeeps", inPlace := ["internal/reflectlite.ValueOf", "(internal/reflectlite.Value).Type", "(internal/reflectlite.Value).IsNil", "internal/reflectlite.TypeOf", "(internal/reflectlite.Value).Elem", "(internal/reflectlite.Value).Set"], unfollowed := true, recurses := true, named := ["errors.errorType"], plainKeys := false, apart := false, laid := [("errors.errorType", laid_errors_errorType)] }
def PartKeepsSaid : Prop := partKeepsRow.holds Tryz.pinned (OpenSpec.ofChange partKeepsSpec)

/-- ITS FALSE NEIGHBOUR: 'it returns false'. Refute it at one input. -/
def partKeepsWrong : ChangeSpec := { name := "partKeeps", fn := fun _ => fun
  | [d1, d2] => { results := [.lit (.bool false)], args := [d1, d2] }
  | _ => none }
def PartKeepsWrongFalsely : Prop := partKeepsRow.holds Tryz.pinned (OpenSpec.ofChange partKeepsWrong)

/-- 'lockboxlaw09.PartOdd': WHATEVER THE INPUT: true; the input reads as it did. -/
def partOddSpec : ChangeSpec := { name := "partOdd", fn := fun _ => fun
  | [d] => { results := [.lit (.bool true)], args := [d] }
  | _ => none }
def partOddRow : OpenClaim := { program := "ytaeleohjikheiaagreatdoor", sum := "640fe96b59cf21ee47d5161857139530529b76fe521d97ebe0a0ba9781b7a480", func := "lockbox/lockboxlaw09.PartOdd", spec := "partOdd", inPlace := ["internal/reflectlite.ValueOf", "(internal/reflectlite.Value).Type", "(internal/reflectlite.Value).IsNil", "internal/reflectlite.TypeOf", "(internal/reflectlite.Value).Elem", "(internal/reflectlite.Value).Set"], unfollowed := true, recurses := true, named := ["errors.errorType"], plainKeys := false, apart := false, laid := [("errors.errorType", laid_errors_errorType)] }
def PartOddSaid : Prop := partOddRow.holds Tryz.pinned (OpenSpec.ofChange partOddSpec)

/-- ITS FALSE NEIGHBOUR: 'it returns false'. Refute it at one input. -/
def partOddWrong : ChangeSpec := { name := "partOdd", fn := fun _ => fun
  | [d] => { results := [.lit (.bool false)], args := [d] }
  | _ => none }
def PartOddWrongFalsely : Prop := partOddRow.holds Tryz.pinned (OpenSpec.ofChange partOddWrong)

/- THE SECOND FORM. 'bulk': how many values and letters a reading holds, each counted each time it is reached (what is shared counts as often as it is met; a slice's spare places count too). A statement '..UptoSaid' is the law's where the arguments, and the package variables that the reading takes, are together of bulk at most 1048576: NARROWER than '..Said'. Prove '..Said' where nothing that the law and all that it calls make is longer than what came in: it says more and counts as full. Else prove '..UptoSaid'. A law counts once. -/
mutual
def uptoBulk {H : Type} : DataW H → Nat
  | .lit (.string bytes) => bytes.length + 1
  | .lit _ => 1
  | .nil => 1
  | .ptr d => uptoBulk d + 1
  | .slice elems spare => uptoBulkAll elems + uptoBulkAll spare + 1
  | .agg parts => uptoBulkAll parts + 1
  | .iface _ d => uptoBulk d + 1
  | .map entries => uptoBulkEntries entries + 1
  | .held _ => 1
def uptoBulkAll {H : Type} : List (DataW H) → Nat
  | [] => 0
  | d :: r => uptoBulk d + uptoBulkAll r
def uptoBulkEntries {H : Type} : List (Lit × DataW H) → Nat
  | [] => 0
  | x :: r => uptoBulkEntry x + uptoBulkEntries r
def uptoBulkEntry {H : Type} : Lit × DataW H → Nat
  | (.string bytes, d) => bytes.length + uptoBulk d + 1
  | (_, d) => uptoBulk d + 1
 end
def uptoSmall : (H : Type) → List (DataW H) → Bool := fun _ ds => decide (uptoBulkAll ds ≤ 1048576)
def OpenSpec.upto (s : _root_.Go.ChangeSpec) : _root_.Go.OpenSpec := { _root_.Go.OpenSpec.ofChange s with cond := some uptoSmall }

/-- 'lockboxlaw06.ModeDoes', WHERE WHAT IT READS IS OF BULK AT MOST 1048576: true; the input reads as it did. -/
def modeDoesUptoRow : OpenClaim := { program := "ytaeleohjikheiaagreatdoor", sum := "640fe96b59cf21ee47d5161857139530529b76fe521d97ebe0a0ba9781b7a480", func := "lockbox/lockboxlaw06.ModeDoes", spec := "modeDoes", inPlace := ["internal/reflectlite.ValueOf", "(internal/reflectlite.Value).Type", "(internal/reflectlite.Value).IsNil", "internal/reflectlite.TypeOf", "(internal/reflectlite.Value).Elem", "(internal/reflectlite.Value).Set"], unfollowed := true, recurses := true, named := ["errors.errorType"], plainKeys := false, apart := false, laid := [("errors.errorType", laid_errors_errorType)], narrowed := true }
def ModeDoesUptoSaid : Prop := modeDoesUptoRow.holds Tryz.pinned (OpenSpec.upto modeDoesSpec)

/-- 'lockboxlaw07.MacCmacs', WHERE WHAT IT READS IS OF BULK AT MOST 1048576: true; the input reads as it did. -/
def macCmacsUptoRow : OpenClaim := { program := "ytaeleohjikheiaagreatdoor", sum := "640fe96b59cf21ee47d5161857139530529b76fe521d97ebe0a0ba9781b7a480", func := "lockbox/lockboxlaw07.MacCmacs", spec := "macCmacs", inPlace := ["internal/reflectlite.ValueOf", "(internal/reflectlite.Value).Type", "(internal/reflectlite.Value).IsNil", "internal/reflectlite.TypeOf", "(internal/reflectlite.Value).Elem", "(internal/reflectlite.Value).Set"], unfollowed := true, recurses := true, named := ["errors.errorType"], plainKeys := false, apart := false, laid := [("errors.errorType", laid_errors_errorType)], narrowed := true }
def MacCmacsUptoSaid : Prop := macCmacsUptoRow.holds Tryz.pinned (OpenSpec.upto macCmacsSpec)

/-- 'lockboxlaw09.PartRights', WHERE WHAT IT READS IS OF BULK AT MOST 1048576: true; the input reads as it did. -/
def partRightsUptoRow : OpenClaim := { program := "ytaeleohjikheiaagreatdoor", sum := "640fe96b59cf21ee47d5161857139530529b76fe521d97ebe0a0ba9781b7a480", func := "lockbox/lockboxlaw09.PartRights", spec := "partRights", inPlace := ["internal/reflectlite.ValueOf", "(internal/reflectlite.Value).Type", "(internal/reflectlite.Value).IsNil", "internal/reflectlite.TypeOf", "(internal/reflectlite.Value).Elem", "(internal/reflectlite.Value).Set"], unfollowed := true, recurses := true, named := ["errors.errorType"], plainKeys := false, apart := false, laid := [("errors.errorType", laid_errors_errorType)], narrowed := true }
def PartRightsUptoSaid : Prop := partRightsUptoRow.holds Tryz.pinned (OpenSpec.upto partRightsSpec)

/-- 'lockboxlaw09.PartValues', WHERE WHAT IT READS IS OF BULK AT MOST 1048576: true; the input reads as it did. -/
def partValuesUptoRow : OpenClaim := { program := "ytaeleohjikheiaagreatdoor", sum := "640fe96b59cf21ee47d5161857139530529b76fe521d97ebe0a0ba9781b7a480", func := "lockbox/lockboxlaw09.PartValues", spec := "partValues", inPlace := ["internal/reflectlite.ValueOf", "(internal/reflectlite.Value).Type", "(internal/reflectlite.Value).IsNil", "internal/reflectlite.TypeOf", "(internal/reflectlite.Value).Elem", "(internal/reflectlite.Value).Set"], unfollowed := true, recurses := true, named := ["errors.errorType"], plainKeys := false, apart := false, laid := [("errors.errorType", laid_errors_errorType)], narrowed := true }
def PartValuesUptoSaid : Prop := partValuesUptoRow.holds Tryz.pinned (OpenSpec.upto partValuesSpec)

/-- 'lockboxlaw09.PartJoins', WHERE WHAT IT READS IS OF BULK AT MOST 1048576: true; the input reads as it did. -/
def partJoinsUptoRow : OpenClaim := { program := "ytaeleohjikheiaagreatdoor", sum := "640fe96b59cf21ee47d5161857139530529b76fe521d97ebe0a0ba9781b7a480", func := "lockbox/lockboxlaw09.PartJoins", spec := "partJoins", inPlace := ["internal/reflectlite.ValueOf", "(internal/reflectlite.Value).Type", "(internal/reflectlite.Value).IsNil", "internal/reflectlite.TypeOf", "(internal/reflectlite.Value).Elem", "(internal/reflectlite.Value).Set"], unfollowed := true, recurses := true, named := ["errors.errorType"], plainKeys := false, apart := false, laid := [("errors.errorType", laid_errors_errorType)], narrowed := true }
def PartJoinsUptoSaid : Prop := partJoinsUptoRow.holds Tryz.pinned (OpenSpec.upto partJoinsSpec)

/-- 'lockboxlaw09.PartJoin', WHERE WHAT IT READS IS OF BULK AT MOST 1048576: true; the input reads as it did. -/
def partJoinUptoRow : OpenClaim := { program := "ytaeleohjikheiaagreatdoor", sum := "640fe96b59cf21ee47d5161857139530529b76fe521d97ebe0a0ba9781b7a480", func := "lockbox/lockboxlaw09.PartJoin", spec := "partJoin", inPlace := ["internal/reflectlite.ValueOf", "(internal/reflectlite.Value).Type", "(internal/reflectlite.Value).IsNil", "internal/reflectlite.TypeOf", "(internal/reflectlite.Value).Elem", "(internal/reflectlite.Value).Set"], unfollowed := true, recurses := true, named := ["errors.errorType"], plainKeys := false, apart := false, laid := [("errors.errorType", laid_errors_errorType)], narrowed := true }
def PartJoinUptoSaid : Prop := partJoinUptoRow.holds Tryz.pinned (OpenSpec.upto partJoinSpec)

/-- 'lockboxlaw09.PartKeeps', WHERE WHAT IT READS IS OF BULK AT MOST 1048576: true; the input reads as it did. -/
def partKeepsUptoRow : OpenClaim := { program := "ytaeleohjikheiaagreatdoor", sum := "640fe96b59cf21ee47d5161857139530529b76fe521d97ebe0a0ba9781b7a480", func := "lockbox/lockboxlaw09.PartKeeps", spec := "partKeeps", inPlace := ["internal/reflectlite.ValueOf", "(internal/reflectlite.Value).Type", "(internal/reflectlite.Value).IsNil", "internal/reflectlite.TypeOf", "(internal/reflectlite.Value).Elem", "(internal/reflectlite.Value).Set"], unfollowed := true, recurses := true, named := ["errors.errorType"], plainKeys := false, apart := false, laid := [("errors.errorType", laid_errors_errorType)], narrowed := true }
def PartKeepsUptoSaid : Prop := partKeepsUptoRow.holds Tryz.pinned (OpenSpec.upto partKeepsSpec)

/-- 'lockboxlaw09.PartOdd', WHERE WHAT IT READS IS OF BULK AT MOST 1048576: true; the input reads as it did. -/
def partOddUptoRow : OpenClaim := { program := "ytaeleohjikheiaagreatdoor", sum := "640fe96b59cf21ee47d5161857139530529b76fe521d97ebe0a0ba9781b7a480", func := "lockbox/lockboxlaw09.PartOdd", spec := "partOdd", inPlace := ["internal/reflectlite.ValueOf", "(internal/reflectlite.Value).Type", "(internal/reflectlite.Value).IsNil", "internal/reflectlite.TypeOf", "(internal/reflectlite.Value).Elem", "(internal/reflectlite.Value).Set"], unfollowed := true, recurses := true, named := ["errors.errorType"], plainKeys := false, apart := false, laid := [("errors.errorType", laid_errors_errorType)], narrowed := true }
def PartOddUptoSaid : Prop := partOddUptoRow.holds Tryz.pinned (OpenSpec.upto partOddSpec)

end Rows
end Go.Proofs.YtaeleohjikheiaaGreatDoor
