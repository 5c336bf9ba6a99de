/-
  Own contracts: the wide contracts that the interval's proofs use (all of them stand in Widb).
-/
import Derived.Test.YtinpmooihjdbgaaWidb
namespace Go.Proofs.Ytinpmooihjdbgaa
end Go.Proofs.Ytinpmooihjdbgaa
