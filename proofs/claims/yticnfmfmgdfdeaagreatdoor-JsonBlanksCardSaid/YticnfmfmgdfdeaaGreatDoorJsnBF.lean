/-
  The library's tables and errors as json's rows list them: what the premise gives, and that the program's own start meets it. Own work.
-/
import Derived.Test.YticnfmfmgdfdeaaGreatDoorJsnBB
import Derived.LaidMore
import Derived.OpenShut
import Derived.Stop.Joined
import Derived.Stop.LaidErr
import Derived.Lib.LaidTab

set_option linter.unusedVariables false
set_option linter.unusedSimpArgs false
namespace Go.Proofs.YticnfmfmgdfdeaaGreatDoor
open Go.ChangeShapes Go.WideShapes Go.ChangeAt Go.RowKit

def laidL : List (String × DataW Unit) := Rows.jsonBackRow.laid
theorem gPow : Tryz.prog.globalNamed "internal/strconv.uint64pow10" = some 3 := by kernel_rfl
theorem tPow : (Tryz.prog.globals[3]?).map (·.type) = some 223 := by kernel_rfl
theorem cU64 : Tryz.prog.cellsOf 87 = 1 := by kernel_rfl
theorem cPow : Tryz.prog.cellsOf 223 = 20 := by kernel_rfl
theorem ownKnobN : ownKnob Tryz.prog.godebug = none := by kernel_rfl
theorem plain_of {W : World} (h : laidMetH Tryz.prog laidL W) : laidMet Tryz.prog laidL W := by
  rw [MakeChecks.laidMetH_plain _ _ _ (by kernel_rfl)] at h
  exact h
theorem tb_of_laid {W : World} (h : laidMetH Tryz.prog laidL W) : TB W :=
  Lib.tabBelow_of_tabIs (Lib.tabIs_of_head gPow tPow Tryz.underlying223 Tryz.underlying87 cU64 cPow (laidMet.tail (laidMet.tail (plain_of h))))
theorem gSyn : Tryz.prog.globalNamed "strconv.ErrSyntax" = some 6 := by kernel_rfl
theorem tSyn : (Tryz.prog.globals[6]?).map (·.type) = some 216 := by kernel_rfl
theorem starErr : "*" ++ "errors.errorString" = "*errors.errorString" := by decide
theorem rowErr : ∀ u, Tryz.prog.typeName? 3 u = some "*errors.errorString" → u = 238 := fun u h => typeName_ptr_named (nm := "errors.errorString") (by rw [starErr]; kernel_rfl) (by kernel_rfl) (by decide) u (by rw [starErr]; exact h)
theorem cErr : Tryz.prog.cellsOf 240 = 1 := by kernel_rfl
theorem cStr1 : Tryz.prog.cellsOf 9 = 1 := by kernel_rfl
theorem es_of_laid {W : World} (h : laidMetH Tryz.prog laidL W) : ES W := by
  obtain ⟨a, s, hv, -⟩ := laid_sentinel (laidMet.tail (laidMet.tail (laidMet.tail (laidMet.tail (laidMet.tail (plain_of h)))))) gSyn tSyn Tryz.underlying216 rowErr Tryz.underlying238 Tryz.underlying240 rfl rfl Tryz.underlying9 cErr cStr1
  exact ⟨_, _, by simpa using World.var?_cell gSyn hv 0⟩
/-- The start of the witness: what the program's own initialisers lay, and Go's own table of first bytes, which stands in the program as text alone. -/
noncomputable def startN (os : Os) : World :=
  { World.doorLaid Tryz.prog 200 os with heap := (World.doorLaid Tryz.prog 200 os).heap.modify 0 fun o => match o with | .cells _ e f => .cells (Pinned.utf8FirstZ.map fun z => Value.int .u8 (Int.ofNat z)).toArray e f | o => o }
theorem door_met (os : Os) (args : Array Value) : laidMetH Tryz.prog laidL ((startN os).forCall (fun _ _ => 0) ⟨#[], args, []⟩).memory :=
  laidMetH_of_parts3 (fuel := 8) (laidMet_of_run' 8 (by kernel_rfl) (by kernel_rfl)) (by kernel_rfl) (by kernel_rfl)

end Go.Proofs.YticnfmfmgdfdeaaGreatDoor
