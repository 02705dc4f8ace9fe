/-
  The contract of octet's Writer.Raw. Own work.
-/
import Derived.Test.YtpgpilalhbdidaaOctE
namespace Go.Proofs.Ytpgpilalhbdidaa
open Go.RowKit

set_option maxHeartbeats 400000 in
theorem wraw_any (w : World) (g B : Nat) (bs xs : List Int) (v : Value) (h : WrAt w g bs) (hs : Seq B w v xs) (hl : bs.length + xs.length ≤ 140737488355328) :
    Calls Try.prog 43 #[.pointer (some ⟨g, 0, none⟩), v] w fun r w' => r = .returned (.tuple #[]) ∧ WrAt w' g (bs ++ xs) ∧ Fw g w w' := by
  obtain ⟨i0, hi, hz0, hz1, hz2⟩ := info_parts infoU8
  have hlt := h.lt
  obtain ⟨u, hown, hv⟩ := h
  have hrow := own_row hown (Nat.lt_succ_self g)
  have hrow2 := hown.lt
  obtain ⟨ao, c, rfl⟩ := own_shape hown
  have hc0 := cell_of_one hv
  have hs' := hs
  obtain ⟨bo, d, rfl, h1, h2, h3, h4⟩ := hs
  cases bo with
  | none =>
    have hn : xs = [] := by
      cases xs with
      | nil => rfl
      | cons x xs => have := h3 rfl; simp at h1; omega
    subst hn
    have hd := h3 rfl
    subst hd
    have hf0 := free_of_one hv
    clear hs' h4 h3
    go_enter Try.func43, Try.ntmps43
    go_wp2_with (at_builtin; (refine wpList_append_own_none rfl _ _ 49 rfl (g + 1) 5 i0 1 Try.underlying49 hi _ _ _ rfl hown rfl ?_))
    go_end0
    have R := wr_put (xs := []) (w1 := w) hown hv (grefl _ _) (by simpa using hown) (grefl _ _) (Or.inl rfl) rfl
    exact ⟨rfl, R.1, R.2⟩
  | some a =>
    obtain ⟨_, hc⟩ := hs'.cells
    clear hs' h4 h3
    go_enter Try.func43, Try.ntmps43
    go_wp2_with (at_builtin; refine wpList_append_own2 _ rfl _ _ 49 rfl (g + 1) 5 i0 (.int .u8 0) 1 1 Try.underlying49 hi hz0 hz1 hz2 rfl (by decide) _ _ _ rfl hown a xs.length d (xs.map (Value.int .u8)) rfl (by simp) ?c1 bcell1 ?c3 ?c4 ?c5 ?_)
    case c1 => exact hc
    case c3 => unfold maxLen; omega
    case c5 => omega
    · intro v' w1 hown' hgrow hfr
      have R := Lib.hid (wr_put hown hv (grefl _ _) hown' hgrow hfr rfl)
      have hv1 := wr_still hv hgrow hrow
      obtain ⟨ao', c', rfl⟩ := own_shape hown'
      have k0 := cell_of_one hv1
      have e0 := free_of_one hv1
      clear hgrow hfr hv hown hown'
      go_wp2
      go_end0
      exact ⟨rfl, R.out.1, R.out.2⟩

set_option maxHeartbeats 400000 in
theorem wraw_nil (w : World) (v : Value) :
    Calls Try.prog 43 #[.pointer none, v] w fun r w' => r = .returned (.tuple #[]) ∧ w = w' := by
  go_enter Try.func43, Try.ntmps43
  go_wp2
  exact bodyPost_ret (results_none rfl _ _ _) rfl ⟨rfl, rfl⟩

end Go.Proofs.Ytpgpilalhbdidaa
