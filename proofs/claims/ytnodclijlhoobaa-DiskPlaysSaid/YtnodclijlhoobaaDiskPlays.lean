/-
  'DiskPlays' returns true for every input: the disk answers as the document's does, whatever is asked of it, in whatever order. No condition. Own work.
-/
import Derived.Test.YtnodclijlhoobaaDskEE
import Derived.ProofKit
import Derived.OpenShut
import Derived.ShutString
import Derived.ChangeOld
import Derived.Deep.QuietTactic
import Derived.BigQuiet
import Derived.Laws.BitsAllLaws
namespace Go.Proofs.Ytnodclijlhoobaa
open Go.RowKit

theorem plays_any (W : World) (s l : Int) (a2 : Option Addr) (len2 cap2 : Nat) (z2 : List Int) (a3 : Option Addr) (len3 cap3 : Nat) (_ : -9223372036854775808 ≤ s) (_ : s ≤ 9223372036854775807) (_ : -9223372036854775808 ≤ l) (_ : l ≤ 9223372036854775807)
    (hz : Seq W.heap.size W (.slice a2 len2 cap2) z2) (_ : Byt z2) (hw : Acts W (.slice a3 len3 cap3) len3) (h9 : len3 ≤ 9223372036854775807) :
    Calls Try.prog 3 #[.int .i64 s, .int .i64 l, .slice a2 len2 cap2, .slice a3 len3 cap3] W fun r w' => r = .returned (.bool true) ∧ Below W.heap.size W w' := by
  have hlen : len2 = z2.length ∧ len2 ≤ maxLen := by
    obtain ⟨_, _, hv, g1, g2, _⟩ := hz
    cases hv
    exact ⟨rfl, Nat.le_trans g1 g2⟩
  by_cases hn : len2 ≤ 9000
  · by_cases h : May s l
    · have h' := h
      obtain ⟨h1, h2, h3, h4, h5⟩ := h
      obtain ⟨a, rfl⟩ : ∃ a : Nat, s = (a : Int) := ⟨s.toNat, by omega⟩
      obtain ⟨b, rfl⟩ : ∃ b : Nat, l = (b : Int) := ⟨l.toNat, by omega⟩
      by_cases hk : len2 % a = 0 ∧ len2 / a ≤ b
      · exact plays_main W a b (len2 / a) a2 a3 len2 cap2 len3 cap3 z2 hz hn hw h9 h' (Nat.div_mul_cancel (Nat.dvd_of_mod_eq_zero hk.1)).symm hk.2
      · have hk' : len2 % a ≠ 0 ∨ b < len2 / a := by
          by_cases h0 : len2 % a = 0
          · exact .inr (Nat.lt_of_not_le fun e => hk ⟨h0, e⟩)
          · exact .inl h0
        exact plays_none W a b a2 a3 len2 cap2 len3 cap3 z2 hz hn (fun w => from_len w a2 len2 cap2 a b h' hlen.2 hk') (fun w => rfrom_len w (strOfNums z2) a b h' (by rw [str_sz, ← hlen.1]; exact hlen.2) (by rw [str_sz, ← hlen.1]; exact hk'))
    · exact plays_none W s l a2 a3 len2 cap2 len3 cap3 z2 hz hn (fun w => (from_bad w _ s l h).mono fun r w' e => ⟨e.1, by rw [← e.2]; exact ⟨rfl, rfl, rfl, Nat.le_refl _, fun _ _ _ => rfl⟩⟩) (fun w => rfrom_bad w _ s l h)
  · exact plays_long W s l a2 a3 len2 cap2 len3 cap3 (by omega) hlen.2

open Go.ChangeShapes Go.WideShapes Go.ChangeAt
set_option linter.unusedVariables false
set_option maxRecDepth 100000 in
theorem plays_lifted (os : Os) (started : os.Started) (H : Type) (enc : TypeId × Value → H) :
    ReturnsInHanded {} Try.checked os 3 .any (Rows.diskPlaysSpec.pre6 enc Try.prog Try.f3 Rows.diskPlaysRow.domain false) (Rows.diskPlaysSpec.post enc Try.prog Try.f3 false true false false) := by
  refine returnsInHanded_of_change (C := Try.checked) ownKnob0 started (by kernel_rfl) Try.func3
    (ChangeSpec.witness6 (enc := enc) (C := Try.checked) false ⟨#[], #[.int .i64 0, .int .i64 0, .slice none 0 0, .slice none 0 0], []⟩ 8 (by kernel_rfl) (by kernel_rfl) (by kernel_rfl) (by kernel_rfl)) ?_
  intro W base args ds gs before hval0 hW hcnd _
  have hval : ∀ (j : Nat) t v, Try.f3.params[j]? = some t → args[j]? = some v → Value.okWide Try.prog W .any base t v := hval0
  have hW' := hW
  obtain ⟨p, q, hA0, hV, rfl, hfz, hnd⟩ := hW
  have hA : DataW.TrodAll enc Try.prog W 0 (fun _ => true) true Try.f3.params.toList args.toList ds p := hA0
  rw [Try.params3] at hA hval
  obtain ⟨v0, vs0, d0, ds0, p0, q0, hargs, rfl, rfl, h0, r0⟩ := trodAll_cons hA
  obtain ⟨v1, vs1, d1, ds1, p1, q1, rfl, rfl, rfl, h1, r1⟩ := trodAll_cons r0
  obtain ⟨v2, vs2, d2, ds2, p2, q2, rfl, rfl, rfl, h2, r2⟩ := trodAll_cons r1
  obtain ⟨v3, vs3, d3, ds3, p3, q3, rfl, rfl, rfl, h3, r3⟩ := trodAll_cons r2
  obtain ⟨rfl, rfl, rfl⟩ := trodAll_nil r3
  obtain rfl : args = #[v0, v1, v2, v3] := by cases args; simp_all
  obtain ⟨rfl, rfl⟩ := trodVars_none hV
  obtain ⟨a0, rfl, rfl, rfl, w0⟩ := open_int Try.underlying3 (hval 0 3 v0 rfl rfl) h0
  have b0 := bounds_i64 w0
  obtain ⟨a1, rfl, rfl, rfl, w1⟩ := open_int Try.underlying3 (hval 1 3 v1 rfl rfl) h1
  have b1 := bounds_i64 w1
  obtain ⟨a2, len2, cap2, rfl⟩ := okWide_slice Try.underlying22 (hval 2 22 v2 rfl rfl)
  have lt2 : ∀ x ∈ p2, x.block < W.heap.size := by obtain ⟨m, hm⟩ := h2; exact DataW.trod_lt m _ _ _ hm
  obtain ⟨z2, w2, y2⟩ := open_bytes h2
  obtain ⟨a3, len3, cap3, rfl⟩ := okWide_slice Try.underlying23 (hval 3 23 v3 rfl rfl)
  have lt3 : ∀ x ∈ p3, x.block < W.heap.size := by obtain ⟨m, hm⟩ := h3; exact DataW.trod_lt m _ _ _ hm
  obtain ⟨w3, y3⟩ := open_acts h3
  clear hA0 hval0
  refine (plays_any W a0 a1 a2 len2 cap2 z2 a3 len3 cap3 b0.1 b0.2 b1.1 b1.2 w2 y2 w3 y3).mono fun e W' ⟨he, bel⟩ => ?_
  subst he
  exact ⟨_, rfl, _, _, _, [], _, [], hW', trodAll_mk1 (shut_bool Try.underlying4 _), (trodAll_cons_mk (shut_int Try.underlying3 w0) (trodAll_cons_mk (shut_int Try.underlying3 w1) (trodAll_cons_mk (Below.trod laidOut0 (by kernel_rfl) (of_decide_eq_true (by kernel_rfl)) h2 bel lt2) (trodAll_cons_mk (Below.trod laidOut0 (by kernel_rfl) (of_decide_eq_true (by kernel_rfl)) h3 bel lt3) trodAll_mk0)))), rfl, bel.frame _, fun h => by cases h⟩

/-- DiskPlays, for every input. -/
theorem diskPlays_holds : Rows.DiskPlaysSaid :=
  OpenClaim.holds_of_wide 3 Try.f3 rfl rfl rfl rfl rfl rfl rfl ⟨rfl, rfl, rfl, rfl, rfl⟩ rfl rfl rfl rfl rfl (by kernel_rfl) Try.func3 (by kernel_rfl)
    (of_decide_eq_true (by kernel_rfl)) (by unfold Func.isWrapper; first | (rw [if_pos (by decide +kernel)]; kernel_rfl) | (rw [if_neg (by decide +kernel)]; exact ⟨rfl, rfl⟩))
    (fun os started H enc _ => plays_lifted os started H enc)
#print axioms diskPlays_holds

end Go.Proofs.Ytnodclijlhoobaa
