/-
 What mac.Retail returns, and mac.Cmac of a length that can't be.
-/
import Derived.Test.YtlmnoapoofmmnaaGreatDoorMacX
namespace Go.Proofs.YtlmnoapoofmmnaaGreatDoor.Mc
open Mem Bk Md Go.ChangeShapes Go.WideShapes Go.ChangeAt Go.RowKit
end Go.Proofs.YtlmnoapoofmmnaaGreatDoor.Mc
