/-
 What lockboxref06.Do returns: alone, forth and back; chained, back.
-/
import Derived.Test.YteapfdnjbgonmaaGreatDoorRefY
namespace Go.Proofs.YteapfdnjbgonmaaGreatDoor.R6
open Mem Bk Md Go.ChangeShapes Go.WideShapes Go.ChangeAt Go.RowKit
end Go.Proofs.YteapfdnjbgonmaaGreatDoor.R6
