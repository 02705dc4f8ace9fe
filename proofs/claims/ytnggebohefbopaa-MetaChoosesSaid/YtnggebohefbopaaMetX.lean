/-
  Layer 7: a raw meta that came in. Own work.
-/
import Derived.Test.YtnggebohefbopaaMetW
import Derived.Lib.SmallJoins
import Derived.ProofKit
import Derived.OpenShut
import Derived.ShutString
import Derived.ChangeOld
namespace Go.Proofs.Ytnggebohefbopaa
open Go.RowKit Go.ChangeShapes Go.WideShapes Go.ChangeAt

theorem cellsRaw7 : Try.prog.cellsOf 25 = 4 := by kernel_rfl
theorem open_raw7 {H : Type} {enc : TypeId × Value → H} {W : World} {base : Nat} {v : Value} {d : DataW H} {p : List MemPlace} (hv : Value.okWide Try.prog W .any base 25 v)
    (h : DataW.Trod enc Try.prog W 0 (fun _ => true) true 25 v d p) : ∃ M, MtOk M ∧ v = .agg (mtC M) := by
  obtain ⟨c0, c1, c2, c3, y0, y1, y2, y3, n, rfl, _, _, h0, h1, h2, h3⟩ := Go.Joins.open_agg4 Try.underlying25 (by kernel_rfl) cellsRaw7 hv h
  obtain ⟨x0, e0, _, w0⟩ := DataW.trod_int Try.underlying22 h0
  obtain ⟨x1, e1, _, w1⟩ := DataW.trod_int Try.underlying23 h1
  obtain ⟨x2, e2, _, w2⟩ := DataW.trod_int Try.underlying23 h2
  obtain ⟨x3, e3, _, w3⟩ := DataW.trod_int Try.underlying23 h3
  simp at e0 e1 e2 e3
  subst e0 e1 e2 e3
  have b0 := bounds_u64 w0
  have b1 := bounds_u32 w1
  have b2 := bounds_u32 w2
  have b3 := bounds_u32 w3
  obtain ⟨t, rfl⟩ := Int.eq_ofNat_of_zero_le b0.1
  obtain ⟨e, rfl⟩ := Int.eq_ofNat_of_zero_le b1.1
  obtain ⟨m, rfl⟩ := Int.eq_ofNat_of_zero_le b2.1
  obtain ⟨f, rfl⟩ := Int.eq_ofNat_of_zero_le b3.1
  exact ⟨⟨t, e, m, f⟩, ⟨by show t < _; omega, by show e < _; omega, by show m < _; omega, by show f < _; omega⟩, rfl⟩

/-- The laws' beginning: both metas lie in blocks of their own. -/
theorem gput_or (w : World) (M : Mt) (hM : MtOk M) (size : Int) :
    (¬ (mright M = true ∧ 512 ≤ size ∧ size ≤ 4096)) ∨ ∃ S : Nat, size = (S : Int) ∧ Good M S := by
  by_cases h : mright M = true ∧ 512 ≤ size ∧ size ≤ 4096
  · obtain ⟨S, hS⟩ := Int.eq_ofNat_of_zero_le (show 0 ≤ size by omega)
    exact .inr ⟨S, hS, hM, h.1, by omega, by omega⟩
  · exact .inl h

end Go.Proofs.Ytnggebohefbopaa
