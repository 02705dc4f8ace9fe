/-
  The contracts of octet's Clone, NewReader, take, next, Raw, End, Out. Own work.
-/
import Derived.Test.YtpgpilalhbdidaaOctA
namespace Go.Proofs.Ytpgpilalhbdidaa
open Go.RowKit

set_option maxHeartbeats 400000 in
theorem clone_any (w : World) (B : Nat) (v : Value) (bs : List Int) (hs : Seq B w v bs) (_hB : B ≤ w.heap.size) (hl : bs.length ≤ 140737488355328) :
    Calls Try.prog 58 #[v] w fun r w' => ∃ ao c, r = .returned (.slice ao bs.length c) ∧ w'.ownsRow w.heap.size 5 1 (.slice ao bs.length c) bs.length (bs.map (Value.int .u8)) ∧ w.grownBy w' none := by
  obtain ⟨i0, hi, hz0, hz1, hz2⟩ := info_parts infoU8
  have hs' := hs
  obtain ⟨ao, c, rfl, h1, h2, h3, h4⟩ := hs
  cases ao with
  | none =>
    have hn : bs = [] := by
      cases bs with
      | nil => rfl
      | cons x xs => have := h3 rfl; simp at h1; omega
    subst hn
    have hc0 := h3 rfl
    subst hc0
    clear hs' h4 h3
    have heq : ∀ w : World, (binOp .eql 49 (.slice none 0 0) (.slice none 0 0)).run Try.prog w = .ok (.bool true) w := fun w => Lib.run_eql_slice_nil w _ _ _ _ _ _ _ Try.underlying49
    go_enter Try.func58, Try.ntmps58
    go_wp2
    go_ret
    exact ⟨_, _, rfl, World.ownsRow_nil _ _ _ _, grefl _ _⟩
  | some a =>
    obtain ⟨_, hc⟩ := hs'.cells
    clear hs' h4 h3
    have heq : ∀ w : World, (binOp .eql 49 (.slice (some a) bs.length c) (.slice none 0 0)).run Try.prog w = .ok (.bool false) w := fun w => Lib.run_eql_slice_nil w _ _ _ _ _ _ _ Try.underlying49
    go_enter Try.func58, Try.ntmps58
    go_wp2_with (at_builtin; refine wpList_append_own _ rfl _ _ 49 rfl w.heap.size 5 i0 (.int .u8 0) 1 1 Try.underlying49 hi hz0 hz1 hz2 rfl (by decide) _ _ _ rfl (World.ownsRow_lit w #[] 0 (Nat.le_refl _) (by simp [maxLen]) rfl) a bs.length c (bs.map (Value.int .u8)) rfl (by simp) ?c1 bcell1 ?c3 ?c4 ?c5 ?_)
    case c1 =>
      intro j u hu
      exact cell_alloc (hc j u hu)
    case c3 => unfold maxLen; omega
    · intro v' w1 hown hgrow _
      obtain ⟨ao, c', rfl⟩ := own_shape hown
      go_wp2
      go_ret
      exact ⟨_, _, rfl, hown, gof (((Below.refl w.heap.size w).alloc (Nat.le_refl _) _).grown hgrow (by simp) (fun k h => by simp [Value.ownBlock] at h; omega)) _⟩

end Go.Proofs.Ytpgpilalhbdidaa
