/-
  The library's tables as the rows list them: what the premise gives, and that the program's own start meets it. Own work.
-/
import Derived.Test.YtpjepdnkolbdhaaDoorNuJ
import Derived.LaidMore
import Derived.OpenShut
import Derived.Stop.Joined
import Derived.Stop.LaidErr
import Derived.Lib.LaidTab
set_option linter.unusedVariables false
set_option linter.unusedSimpArgs false
namespace Go.Proofs.YtpjepdnkolbdhaaDoor
open Go.ChangeShapes Go.WideShapes Go.ChangeAt Go.RowKit

def laidL : List (String × DataW Unit) := Rows.numBackRow.laid
theorem gPow : Tryd.prog.globalNamed "internal/strconv.uint64pow10" = some 0 := by kernel_rfl
theorem tPow : (Tryd.prog.globals[0]?).map (·.type) = some 92 := by kernel_rfl
theorem cU64 : Tryd.prog.cellsOf 77 = 1 := by kernel_rfl
theorem cPow : Tryd.prog.cellsOf 92 = 20 := by kernel_rfl
theorem ownKnobN : ownKnob Tryd.prog.godebug = none := by kernel_rfl
theorem tab_of_laid {W : World} (h : laidMetH Tryd.prog laidL W) : Lib.TabIs Tryd.prog W "internal/strconv.uint64pow10" .u64 Lib.pow10Tab := by
  rw [MakeChecks.laidMetH_plain _ _ _ (by kernel_rfl)] at h
  exact Lib.tabIs_of_head gPow tPow Tryd.underlying92 Tryd.underlying77 cU64 cPow (laidMet.tail (laidMet.tail h))
theorem tb_of_laid {W : World} (h : laidMetH Tryd.prog laidL W) : TB W := Lib.tabBelow_of_tabIs (tab_of_laid h)
/-- The start of the witness: what the program's own initialisers lay, and Go's own table of first bytes, which stands in the program as text alone. -/
noncomputable def startN (os : Os) : World :=
  { World.doorLaid Tryd.prog 60 os with heap := (World.doorLaid Tryd.prog 60 os).heap.modify 1 fun o => match o with | .cells _ e f => .cells (Pinned.utf8FirstZ.map fun z => Value.int .u8 (Int.ofNat z)).toArray e f | o => o }
theorem door_met (os : Os) (args : Array Value) : laidMetH Tryd.prog laidL ((startN os).forCall (fun _ _ => 0) ⟨#[], args, []⟩).memory :=
  laidMetH_of_parts3 (fuel := 8) (laidMet_of_run' 8 (by kernel_rfl) (by kernel_rfl)) (by kernel_rfl) (by kernel_rfl)

end Go.Proofs.YtpjepdnkolbdhaaDoor
