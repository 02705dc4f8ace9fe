/-
  A text that came in. Own work.
-/
import Derived.Test.YticnfmfmgdfdeaaGreatDoorJsnBF
import Derived.Lib.SmallJoins
import Derived.ProofKit
import Derived.ShutString
import Derived.ChangeOld
import Derived.ChangeMaps5
import Derived.JoinedOf

set_option linter.unusedVariables false
set_option linter.unusedSimpArgs false
namespace Go.Proofs.YticnfmfmgdfdeaaGreatDoor
open Go.ChangeShapes Go.WideShapes Go.ChangeAt Go.RowKit

theorem maxLen_le : maxLen ≤ 9223372036854775807 := of_decide_eq_true (by kernel_rfl)
theorem len_le {s : ByteArray} (ws : s.size ≤ maxLen) : s.data.toList.length ≤ 9223372036854775807 := by
  have h1 := Lib.size_eq s
  have h2 := maxLen_le
  generalize maxLen = m at *
  omega
set_option maxRecDepth 100000
theorem open_txt {H : Type} {enc : TypeId × Value → H} {W : World} {base : Nat} {v : Value} {d : DataW H} {p : List MemPlace} (hv : Value.okWide Tryz.prog W .any base 9 v)
    (h : DataW.Trod enc Tryz.prog W 0 (fun _ => true) true 9 v d p) : ∃ A : Bs, v = .string (Sx A) ∧ A.length ≤ 9223372036854775807 := by
  obtain ⟨s, rfl, _, _, ws⟩ := ChangeMaps.open_string Tryz.underlying9 hv h
  exact ⟨s.data.toList, rfl, len_le ws⟩
theorem laidOutN : laidOutB Tryz.prog = true := by kernel_rfl

end Go.Proofs.YticnfmfmgdfdeaaGreatDoor
