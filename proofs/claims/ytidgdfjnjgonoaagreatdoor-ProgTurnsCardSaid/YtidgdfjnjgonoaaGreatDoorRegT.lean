/-
  A region of a function's text, by its number.
-/
import Derived.Test.YtidgdfjnjgonoaaGreatDoorLib0
import Derived.Deep.RegionHeld3
import Derived.Deep.DrawnRows
namespace Go.Proofs.YtidgdfjnjgonoaaGreatDoor
open Go Go.RowKit

def regOf (n : Nat) : Code → Option Code
  | .region k ops b => if k = n then some (.region k ops b) else none
  | .loop c => regOf n c
  | .seq a b => match regOf n a with
    | some c => some c
    | none => regOf n b
  | .block _ c => regOf n c
  | .scope c => regOf n c
  | .cond _ a b => match regOf n a with
    | some c => some c
    | none => regOf n b
  | _ => none
end Go.Proofs.YtidgdfjnjgonoaaGreatDoor
