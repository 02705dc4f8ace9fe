/-
  What the closing texts of json's laws share. Own work.
-/
import Derived.Test.YticnfmfmgdfdeaaGreatDoorJsnBE
import Derived.Test.YticnfmfmgdfdeaaGreatDoorJsnBG

set_option linter.unusedVariables false
set_option linter.unusedSimpArgs false
namespace Go.Proofs.YticnfmfmgdfdeaaGreatDoor
end Go.Proofs.YticnfmfmgdfdeaaGreatDoor
