/-
  Layers 4 and 5: bytes of the call's own that are changed one by one; slices of uint16, and of bytes with their bound, that came in. Own work.
-/
import Derived.Test.YtnnmpaenainogaaGreatPrnAD
import Derived.ProofKit
import Derived.OpenShut
import Derived.ShutString
import Derived.ChangeOld
import Derived.SizedLaws
import Derived.Laws.BitsAllLaws

set_option linter.unusedVariables false
set_option linter.unusedSimpArgs false
namespace Go.Proofs.YtnnmpaenainogaaGreat
open Go.RowKit Go.ChangeShapes Go.WideShapes Go.ChangeAt
end Go.Proofs.YtnnmpaenainogaaGreat
