/-
 'p = append(p, q...)', p of steps and the call's own.
-/
import Derived.Test.YtbmcngoeinginaaGreatDoorKLibs
import Derived.Test.YtbmcngoeinginaaGreatDoorCPro
import Derived.Maps.AppendAt
import Derived.Maps.OwnIn
namespace Go.Proofs.YtbmcngoeinginaaGreatDoor
open Go Go.RowKit
theorem ty_steps : StepsTy 67 := Tryz.underlying67
end Go.Proofs.YtbmcngoeinginaaGreatDoor
