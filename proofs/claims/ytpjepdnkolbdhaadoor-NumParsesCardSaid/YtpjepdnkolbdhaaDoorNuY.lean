/-
  A number, a text that came in. Own work.
-/
import Derived.Test.YtpjepdnkolbdhaaDoorNuZ
import Derived.Lib.SmallJoins
import Derived.ProofKit
import Derived.ShutString
import Derived.ChangeOld
import Derived.ChangeMaps5
import Derived.JoinedOf
set_option linter.unusedVariables false
set_option linter.unusedSimpArgs false
namespace Go.Proofs.YtpjepdnkolbdhaaDoor
open Go.ChangeShapes Go.WideShapes Go.ChangeAt Go.RowKit

theorem maxLen_le : maxLen ≤ 9223372036854775807 := of_decide_eq_true (by kernel_rfl)
theorem len_le {s : ByteArray} (ws : s.size ≤ maxLen) : s.data.toList.length ≤ 9223372036854775807 := by
  have h1 := Lib.size_eq s
  have h2 := maxLen_le
  generalize maxLen = m at *
  omega
theorem cellsNum : Tryd.prog.cellsOf 24 = 3 := by kernel_rfl
set_option maxRecDepth 100000
theorem open_num {H : Type} {enc : TypeId × Value → H} {W : World} {base : Nat} {v : Value} {d : DataW H} {p : List MemPlace} (hv : Value.okWide Tryd.prog W .any base 24 v)
    (h : DataW.Trod enc Tryd.prog W 0 (fun _ => true) true 24 v d p) : ∃ (b : Bool) (A : Bs) (e : Int), v = .agg #[.bool b, .string (Sx A), .int .i64 e] ∧ A.length ≤ 9223372036854775807 ∧ -9223372036854775808 ≤ e ∧ e ≤ 9223372036854775807 := by
  obtain ⟨c0, c1, c2, y0, y1, y2, n, rfl, _, _, h0, h1, h2⟩ := Go.Joins.open_agg3 Tryd.underlying24 (by kernel_rfl) cellsNum hv h
  obtain ⟨b, e0, _⟩ := DataW.trod_bool Tryd.underlying4 h0
  obtain ⟨s, e1, _, ws⟩ := DataW.trod_string Tryd.underlying9 h1
  obtain ⟨x, e2, _, wx⟩ := DataW.trod_int Tryd.underlying3 h2
  simp at e0 e1 e2
  subst e0 e1 e2
  have b2 := bounds_i64 wx
  exact ⟨b, s.data.toList, x, rfl, len_le ws, b2.1, b2.2⟩
theorem open_txt {H : Type} {enc : TypeId × Value → H} {W : World} {base : Nat} {v : Value} {d : DataW H} {p : List MemPlace} (hv : Value.okWide Tryd.prog W .any base 9 v)
    (h : DataW.Trod enc Tryd.prog W 0 (fun _ => true) true 9 v d p) : ∃ A : Bs, v = .string (Sx A) ∧ A.length ≤ 9223372036854775807 := by
  obtain ⟨s, rfl, _, _, ws⟩ := ChangeMaps.open_string Tryd.underlying9 hv h
  exact ⟨s.data.toList, rfl, len_le ws⟩
theorem laidOutN : laidOutB Tryd.prog = true := by kernel_rfl

end Go.Proofs.YtpjepdnkolbdhaaDoor
