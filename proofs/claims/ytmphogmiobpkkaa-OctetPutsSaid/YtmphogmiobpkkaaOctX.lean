/-
  Plain: what is put as short as can be is read; longer, or cut, it is not. Own work; of no program.
-/
import Derived.Test.YtmphogmiobpkkaaOctW
namespace Go.Proofs.Ytmphogmiobpkkaa
open Go.RowKit

theorem getD_append_left {l m : List Int} {j : Nat} (h : j < l.length) : (l ++ m).getD j 0 = l.getD j 0 := by
  simp [List.getD_eq_getElem?_getD, List.getElem?_append_left h]
theorem getD_mem {l : List Int} {j : Nat} (h : j < l.length) : l.getD j 0 ∈ l := by
  rw [List.getD_eq_getElem?_getD, List.getElem?_eq_getElem h]; exact List.getElem_mem h

/-- High bytes, then a low one: the low one is found. -/
theorem vEnd_high {l m : List Int} {c : Int} (hl : ∀ x ∈ l, 128 ≤ x) (hc : c < 128) (hn : l.length < 10) : vEnd (l ++ c :: m) = (l.length + 1, 0) := by
  refine vEnd_yes hn (by simp) (fun j hj => ?_) ?_
  · rw [getD_append_left hj]; exact hl _ (getD_mem hj)
  · simp [List.getD_eq_getElem?_getD]; exact hc
theorem vEnd_only {l : List Int} (hl : ∀ x ∈ l, 128 ≤ x) : vEnd l = (0, if l.length < 10 then 10 else 11) :=
  vEnd_no fun j _ hj => hl _ (getD_mem hj)

theorem vStep_some {x c y : Int} (h : x < 144115188075855872) (e : x * 128 + c % 128 = y) : vStep (some x) c = some y := by
  simp only [vStep, Option.bind_some]
  rw [if_pos h, e]
theorem vPart_hiB (x : Nat) (h : x < 18446744073709551616) : vPart (hiB x) = some ((x / 128 : Nat) : Int) := by
  induction x using Nat.strongRecOn with
  | ind x ih =>
    rcases Nat.lt_or_ge x 128 with k | k
    · rw [hiB_small k, show x / 128 = 0 by omega]; rfl
    · rw [hiB_big k, vPart_snoc, ih (x / 128) (by omega) (by omega)]
      exact vStep_some (by omega) (by omega)
theorem vPart_varB (x : Nat) (h : x < 18446744073709551616) : vPart (varB x) = some (x : Int) := by
  rw [varB, vPart_snoc, vPart_hiB x h]
  exact vStep_some (by omega) (by omega)
theorem varB_head (x : Nat) : (varB x).getD 0 0 ≠ 128 := by
  induction x using Nat.strongRecOn with
  | ind x ih =>
    rcases Nat.lt_or_ge x 128 with k | k
    · rw [varB, hiB_small k]; simp; omega
    · rcases Nat.lt_or_ge x 16384 with k2 | k2
      · rw [varB, hiB_big k, hiB_small (show x / 128 < 128 by omega)]; simp; omega
      · have h := ih (x / 128) (by omega)
        have hp : 0 < (hiB (x / 128)).length := by have := hiB_len (x / 128); have := vlen_big (show 128 ≤ x / 128 by omega); have := vlen_pos (x / 128 / 128); omega
        rw [varB, getD_append_left hp] at h
        rw [varB, hiB_big k, List.append_assoc, getD_append_left hp]
        exact h
theorem vOf_varB (x : Nat) (h : x < 18446744073709551616) : vOf (varB x) = some (x : Int) := by
  rw [vOf, if_neg (varB_head x), vPart_varB x h]

theorem hiB_short (x : Nat) (h : x < 18446744073709551616) : (hiB x).length < 10 := by
  have := hiB_len x; have := vlen_le x (by omega); omega

/-- What is put is read. -/
theorem vx_varB (x : Nat) (h : x < 18446744073709551616) (m : List Int) : vx (varB x ++ m) 0 = (m, 0, (x : Int)) := by
  have e : varB x ++ m = hiB x ++ ((x % 128 : Nat) : Int) :: m := by simp [varB]
  have hv : vEnd (varB x ++ m) = ((varB x).length, 0) := by
    rw [e, vEnd_high (fun c hc => (hiB_high x c hc).1) (by omega) (hiB_short x h)]
    simp [varB]
  unfold vx
  rw [hv]
  simp [vOf_varB x h]

/-- One byte less. -/
theorem vx_cut (x : Nat) (h : x < 18446744073709551616) : vx (hiB x) 0 = (hiB x, 10, 0) := by
  have hv := vEnd_only (fun c hc => (hiB_high x c hc).1)
  rw [if_pos (hiB_short x h)] at hv
  unfold vx
  rw [hv]
  simp

/-- With bytes ahead that tell nothing. -/
theorem vx_longer (x M : Nat) (h : x < 18446744073709551616) (hM : 1 ≤ M) : vx (List.replicate M 128 ++ varB x) 0 = (List.replicate M 128 ++ varB x, 11, 0) := by
  have e : List.replicate M (128 : Int) ++ varB x = (List.replicate M 128 ++ hiB x) ++ ((x % 128 : Nat) : Int) :: [] := by simp [varB]
  have hh : ∀ c ∈ List.replicate M (128 : Int) ++ hiB x, 128 ≤ c := by
    intro c hc
    rcases List.mem_append.1 hc with hc | hc
    · have := List.eq_of_mem_replicate hc; omega
    · exact (hiB_high x c hc).1
  have h0 : ∀ k, (List.replicate M (128 : Int) ++ varB x).take (k + 1) = 128 :: ((List.replicate (M - 1) (128 : Int) ++ varB x).take k) := by
    intro k
    obtain ⟨n, rfl⟩ : ∃ n, M = n + 1 := ⟨M - 1, by omega⟩
    simp [List.replicate_succ]
  rcases Nat.lt_or_ge (List.replicate M (128 : Int) ++ hiB x).length 10 with hl | hl
  · have hv : vEnd (List.replicate M (128 : Int) ++ varB x) = ((List.replicate M (128 : Int) ++ hiB x).length + 1, 0) := by
      rw [e]; exact vEnd_high hh (by omega) hl
    unfold vx
    rw [hv]
    simp only [ne_eq, not_true_eq_false, if_false, h0]
    simp [vOf]
  · have hv : vEnd (List.replicate M (128 : Int) ++ varB x) = (0, 11) := by
      have := vEnd_no (bs := List.replicate M (128 : Int) ++ varB x) (fun j hj _ => by
        rw [e, getD_append_left (by omega)]
        exact hh _ (getD_mem (by omega)))
      rw [if_neg (by rw [e, List.length_append]; simp at hl ⊢; omega)] at this
      exact this
    unfold vx
    rw [hv]
    simp

theorem varB_pred (x : Nat) : (varB x).take (vlen x - 1) = hiB x := by
  have := hiB_len x
  rw [varB, show vlen x - 1 = (hiB x).length by omega, List.take_left]

end Go.Proofs.Ytmphogmiobpkkaa
