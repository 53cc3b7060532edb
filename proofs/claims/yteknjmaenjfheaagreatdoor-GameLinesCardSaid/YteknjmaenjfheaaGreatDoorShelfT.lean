/-
  The shelf holds the layings of strings.TrimRight already.
-/
import Derived.Test.YteknjmaenjfheaaGreatDoorShelf
namespace Go.Proofs
end Go.Proofs
