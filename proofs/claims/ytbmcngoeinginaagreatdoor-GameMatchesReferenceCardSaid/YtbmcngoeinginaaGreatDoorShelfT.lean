/-
 The shelf holds the layings of strings.TrimRight already.
-/
import Derived.Test.YtbmcngoeinginaaGreatDoorShelf
namespace Go.Proofs
end Go.Proofs
