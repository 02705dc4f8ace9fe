/-
  Layer 4: the contract of the law's same. Own work.
-/
import Derived.Test.YtfencmidjolgfaaLawL
import Derived.Deep.QuietTactic
import Derived.BigQuiet
namespace Go.Proofs.Ytfencmidjolgfaa
open Go.RowKit

set_option maxRecDepth 100000 in
set_option maxHeartbeats 4000000 in
theorem same_any (w : World) (B : Nat) (la ra : Option Addr) (n c m d : Nat) (X : List En) (h : Ents B w (.slice la n c) X) (hB : B ≤ w.heap.size) (hr : RRow w (.slice ra m d) X) :
    Calls Try.prog 26 #[.slice la n c, .slice ra m d] w fun r w' => r = .returned (.bool true) ∧ w.grownBy w' none := by
  have hn : n = X.length := h.len
  have hm : m = X.length := hr.len.1
  obtain rfl : n = m := by omega
  have hn9 : n ≤ 100000 := hr.len.2
  have HN := Lib.hid hn
  have H := Lib.hid h
  have HR := Lib.hid hr
  clear hn hm h hr
  go_enter Try.func26, Try.ntmps26
  go_wp2
  go_loopw [5] (fun i wr => ∃ k : Nat, k ≤ n ∧ i = .int .i64 k ∧ w.grownBy wr none) (fun i _ => n - (intOf i).toNat)
  case atStart => exact ⟨0, Nat.zero_le _, rfl, grefl _ _⟩
  case round =>
    obtain ⟨k, hk, rfl, hg⟩ := hrel
    have HG := Lib.hid hg
    by_cases hlt : k < n
    · obtain ⟨x, hx⟩ : ∃ x, X[k]? = some x := ⟨_, List.getElem?_eq_getElem (by have := HN.out; omega)⟩
      obtain ⟨b, o, rfl, hb, a1, c1, a2, c2, h1, h2, h3, q0, q1, q2, q3⟩ := (H.out.grown hg hB).at k x hx
      obtain ⟨b2, o2, rfl, hb2, r0, r1, r2, r3⟩ := (HR.out.grown hg).at k x hx
      have v1 : ∀ j, (convert 29 9 (.slice a1 x.key.length c1)).run Try.prog (wr.drewN j) = .ok (.string (strOfNums x.key)) (wr.drewN j) := fun j => seq_string (h1.below (w' := wr.drewN j) (fun _ _ => rfl))
      have v2 : ∀ j, (convert 29 9 (.slice a2 x.val.length c2)).run Try.prog (wr.drewN j) = .ok (.string (strOfNums x.val)) (wr.drewN j) := fun j => seq_string (h2.below (w' := wr.drewN j) (fun _ _ => rfl))
      have hki : (k : Int) < (n : Int) := by omega
      obtain ⟨s1, hs1⟩ : ∃ s, s = strOfNums x.key := ⟨_, rfl⟩
      obtain ⟨s2, hs2⟩ : ∃ s, s = strOfNums x.val := ⟨_, rfl⟩
      rw [← hs1] at v1 r0
      rw [← hs2] at v2 r1
      clear h1 h2 h3 hx hs1 hs2 hg
      go_wp2
      go_quiet (fail)
      go_wp2
      go_roundw
      case rel => exact ⟨k + 1, by omega, by go_num, gtrans HG.out ⟨rfl, rfl, rfl, Nat.le_refl _, fun _ _ _ => rfl⟩⟩
      case measure => simp [intOf]; omega
    · obtain rfl : k = n := by omega
      go_wp2
      go_ret
      exact ⟨rfl, HG.out⟩

end Go.Proofs.Ytfencmidjolgfaa
