/-
  Own contracts: the wide contracts that the interval's proofs use (all of them stand in Widb).
-/
import Derived.Test.YtfmijkbmedfcfaaWidb
namespace Go.Proofs.Ytfmijkbmedfcfaa
end Go.Proofs.Ytfmijkbmedfcfaa
