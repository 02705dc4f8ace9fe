/-
  Layer 4: a page as it is read, in plain lists. Own work.
-/
import Derived.Test.YtnodclijlhoobaaLefH
namespace Go.Proofs.Ytnodclijlhoobaa
open Go.RowKit

/-- The bytes b are laid as a page of the entries l. -/
structure Laid (b : List Int) (l : List En) : Prop where
  got : ∀ x ∈ l, EnGot x
  few : l.length ≤ 65535
  small : b.length ≤ 65535
  fill : fillL l ≤ b.length
  page : b = pageB l b.length

/-- The places alone. -/
def plB (l : List En) (size : Nat) : Nat → List Int
  | 0 => []
  | k + 1 => plB l size k ++ numB ((size - cs l (k + 1) : Nat) : Int) 2 2
theorem plB_len (l : List En) (size : Nat) : ∀ k, (plB l size k).length = 2 * k
  | 0 => rfl
  | k + 1 => by rw [plB, List.length_append, plB_len l size k, numB_len]; omega
theorem hdB_pl (l : List En) (size : Nat) : ∀ k, hdB l size k = ([1, 0] ++ numB l.length 2 2) ++ plB l size k
  | 0 => by rw [hdB, plB, List.append_nil, numB1, numB1]; rfl
  | k + 1 => by rw [hdB, hdB_pl l size k, plB, List.append_assoc]

theorem tlB_drop {l : List En} : ∀ {n k : Nat}, k ≤ n → (tlB l n).drop (cs l n - cs l k) = tlB l k
  | 0, k, h => by rw [show k = 0 by omega]; rfl
  | n + 1, k, h => by
    by_cases e : k = n + 1
    · rw [e, Nat.sub_self]; rfl
    · have ih := tlB_drop (l := l) (n := n) (k := k) (by omega)
      have hm := cs_mono l (show k ≤ n by omega)
      rcases hx : l[n]? with _ | x
      · have h1 : tlB l (n + 1) = tlB l n := by rw [tlB, hx]; rfl
        have h2 : cs l (n + 1) = cs l n := by rw [cs, hx]; rfl
        rw [h1, h2]; exact ih
      · have h2 := cs_snoc hx
        have h3 := cellB_len x
        rw [tlB_snoc hx, List.drop_append, List.drop_eq_nil_of_le (by omega), List.nil_append, show cs l (n + 1) - cs l k - (cellB x).length = cs l n - cs l k by omega]
        exact ih
/-- A page's end, from where the first k cells begin. -/
theorem page_drop {l : List En} {b : List Int} (h : Laid b l) {k : Nat} (hk : k ≤ l.length) : b.drop (b.length - cs l k) = tlB l k := by
  have hf := h.fill
  have hm := cs_mono l hk
  unfold fillL fillK at hf
  have hp := h.page
  generalize hS : b.length = S at *
  subst hp
  have h1 : (hdB l S l.length).length = 4 + 2 * l.length := hdB_len _ _ _
  rw [pageB, List.drop_append, List.drop_eq_nil_of_le (by omega), List.nil_append, List.drop_append, List.drop_eq_nil_of_le (by simp; omega), List.nil_append]
  rw [show S - cs l k - (hdB l S l.length).length - (List.replicate (S - cs l l.length - (4 + 2 * l.length)) (0 : Int)).length = cs l l.length - cs l k by rw [h1]; simp; omega]
  exact tlB_drop hk
/-- The cell of the k-th entry. -/
theorem page_cell {l : List En} {b : List Int} (h : Laid b l) {k : Nat} {x : En} (hx : l[k]? = some x) : (b.drop (b.length - cs l (k + 1))).take (cl x) = cellB x := by
  have hk : k < l.length := (List.getElem?_eq_some_iff.1 hx).1
  rw [page_drop h (by omega), tlB_snoc hx, List.take_append_of_le_length (by rw [cellB_len]; exact Nat.le_refl _), List.take_of_length_le (by rw [cellB_len]; exact Nat.le_refl _)]
/-- The head of a page. -/
theorem page_head {l : List En} {b : List Int} (h : Laid b l) : ∃ r, b = ([1, 0] ++ numB l.length 2 2) ++ (plB l b.length l.length ++ r) ∧ r = List.replicate (b.length - cs l l.length - (4 + 2 * l.length)) 0 ++ tlB l l.length := by
  refine ⟨_, ?_, rfl⟩
  have hp := h.page
  rw [pageB, hdB_pl, List.append_assoc] at hp
  exact hp
theorem plB_split {l : List En} {size : Nat} : ∀ {n k : Nat}, k < n → ∃ r, plB l size n = plB l size k ++ (numB ((size - cs l (k + 1) : Nat) : Int) 2 2 ++ r)
  | 0, k, h => by omega
  | n + 1, k, h => by
    by_cases e : k = n
    · subst e; exact ⟨[], by rw [plB, List.append_nil]⟩
    · obtain ⟨r, hr⟩ := plB_split (l := l) (size := size) (n := n) (k := k) (by omega)
      exact ⟨r ++ numB ((size - cs l (n + 1) : Nat) : Int) 2 2, by rw [plB, hr]; simp⟩

end Go.Proofs.Ytnodclijlhoobaa
