/-
  Layer 8: a space that is filled up to its limit: what is so of the model; numbers that came in. Own work.
-/
import Derived.Test.YtdljclifjbnbjaaSpcV
import Derived.Test.YtdljclifjbnbjaaSpcW
namespace Go.Proofs.Ytdljclifjbnbjaa
open Go.RowKit Go.ChangeShapes Go.WideShapes Go.ChangeAt

theorem open_u32l {H : Type} {enc : TypeId × Value → H} {W : World} {d : DataW H} {p : List MemPlace} {a : Option Addr} {len cap : Nat}
    (h : ∃ fuel, DataW.trod enc Try.prog W 0 (fun _ => true) true fuel 45 [.slice a len cap] = some (d, p)) :
    ∃ zs, PSq (fun b => b < W.heap.size) W (.slice a len cap) zs := by
  obtain ⟨fuel, hf⟩ := h
  obtain ⟨a', l', c', zs, hv, hps, _⟩ := open_u32s hf
  cases hv
  exact ⟨zs, hps⟩

/-! ### the pages that law full lays free -/
def hitB (zs : List Nat) (q : Nat) : Bool := (zs.take 20).any (fun z => z % 30 == q)
def fullL (zs : List Nat) (n : Nat) : List Nat := (List.range' 2 (n - 2)).filter (hitB zs)
theorem fullL_yes {zs : List Nat} {q : Nat} (h2 : 2 ≤ q) (h : hitB zs q = true) : fullL zs (q + 1) = fullL zs q ++ [q] := by
  unfold fullL
  rw [show q + 1 - 2 = (q - 2) + 1 by omega, List.range'_concat, List.filter_append]
  rw [show 2 + 1 * (q - 2) = q by omega]
  simp [h]
theorem fullL_no {zs : List Nat} {q : Nat} (h2 : 2 ≤ q) (h : hitB zs q = false) : fullL zs (q + 1) = fullL zs q := by
  unfold fullL
  rw [show q + 1 - 2 = (q - 2) + 1 by omega, List.range'_concat, List.filter_append]
  rw [show 2 + 1 * (q - 2) = q by omega]
  simp [h]
theorem fullL_srt (zs : List Nat) (n : Nat) : Srt (fullL zs n) := (List.pairwise_lt_range' ..).filter _
theorem fullL_range {zs : List Nat} {n x : Nat} (h : x ∈ fullL zs n) : 2 ≤ x ∧ x < n := by
  have := (List.mem_filter.1 h).1
  rw [List.mem_range'_1] at this
  omega
theorem fullL_len (zs : List Nat) (n : Nat) : (fullL zs n).length ≤ n - 2 := by
  unfold fullL
  refine Nat.le_trans (List.length_filter_le _ _) ?_
  rw [List.length_range']
  exact Nat.le_refl _
theorem hit_yes {zs : List Nat} {q i : Nat} (h1 : i < zs.length) (h2 : i < 20) (h : zs.getD i 0 % 30 = q) : hitB zs q = true := by
  unfold hitB
  rw [List.any_eq_true]
  refine ⟨zs[i], List.mem_iff_getElem?.2 ⟨i, ?_⟩, ?_⟩
  · rw [List.getElem?_take_of_lt h2, List.getElem?_eq_getElem h1]
  · rw [List.getD_eq_getElem?_getD, List.getElem?_eq_getElem h1] at h
    simpa using h
theorem hit_no {zs : List Nat} {q i : Nat} (hi : ¬ i < zs.length ∨ ¬ i < 20) (h : ∀ j, j < i → zs.getD j 0 % 30 ≠ q) : hitB zs q = false := by
  unfold hitB
  rw [List.any_eq_false]
  intro x hx
  obtain ⟨j, hj⟩ := List.mem_iff_getElem?.1 hx
  have hjl : j < 20 ∧ zs[j]? = some x := by
    rw [List.getElem?_take] at hj
    split at hj
    · exact ⟨by assumption, hj⟩
    · cases hj
  have hjz := (List.getElem?_eq_some_iff.1 hjl.2).1
  have := h j (by omega)
  rw [List.getD_eq_getElem?_getD, hjl.2] at this
  simpa using this

theorem insAll_self {L : List Nat} (h : Srt L) : insAll L [] = L := srt_ext (srt_insAll List.Pairwise.nil) h (fun x => by simp [mem_insAll])
def fullR (L : List Nat) : List Rc := if L = [] then [] else [(1, L)]
theorem fullR_right {L : List Nat} {n : Nat} (h : Srt L) (hr : ∀ x ∈ L, 2 ≤ x ∧ x < n) : right (fullR L) n = true := by
  unfold fullR
  split
  · rfl
  · rename_i hne
    exact right_iff.2 ⟨List.pairwise_singleton _ _, fun r hr' => by
      obtain rfl : r = (1, L) := (by simpa using hr')
      exact ⟨h, hr, hne⟩, List.pairwise_singleton _ _⟩
theorem fullR_sp {L : List Nat} {n lim : Nat} (h : Srt L) : spOf n lim 1 (fullR L) = { en := n, lim := lim, low := 2, us := L, fr := [], go := [], wa := [], ws := [] } := by
  unfold fullR
  split
  · rename_i e
    subst e
    rfl
  · have e1 : oldRecs 1 [((1, L) : Rc)] = [(1, L)] := rfl
    have e2 : newRecs 1 [((1, L) : Rc)] = [] := rfl
    unfold spOf
    rw [e1, e2]
    have e3 : allOf [((1, L) : Rc)] = L := by simp [allOf]
    rw [e3, insAll_self h]
    rfl

structure FullInv (n mo : Nat) (L : List Nat) (k : Nat) (M : Sp) (last : Nat) : Prop where
  lim : M.lim = n + mo
  en : M.en = n + (k - L.length)
  us : M.us = L.drop k
  low : ∀ x ∈ M.us, M.low ≤ x
  go : M.go = []
  ws : M.ws = []
  up : ∀ x ∈ M.us, last < x
  top : last < M.en
  was : last ≠ 0 → last ∈ M.fr
theorem full_start {n mo : Nat} {L : List Nat} (hr : ∀ x ∈ L, 2 ≤ x ∧ x < n) (hn : 2 ≤ n) : FullInv n mo L 0 { en := n, lim := n + mo, low := 2, us := L, fr := [], go := [], wa := [], ws := [] } 0 :=
  ⟨rfl, (by show n = _; omega), (by simp), fun x hx => (hr x hx).1, rfl, rfl, fun x hx => by have := (hr x hx).1; omega, (by show 0 < n; omega), fun h => absurd rfl h⟩
theorem full_step {n mo : Nat} {L : List Nat} {k : Nat} {M : Sp} {last : Nat} (h : FullInv n mo L k M last) (hs : Srt L) (hr : ∀ x ∈ L, 2 ≤ x ∧ x < n) (hk : k < L.length + mo) :
    ∃ M' p, takeM M = (M', p, 0) ∧ last < p ∧ (k < L.length → L.getD k 0 = p) ∧ FullInv n mo L (k + 1) M' p := by
  by_cases hl : k < L.length
  · have hu : M.us = L[k] :: L.drop (k + 1) := by rw [h.us, List.drop_eq_getElem_cons hl]
    have hs2 : Srt (L[k] :: L.drop (k + 1)) := by rw [← hu, h.us]; exact hs.drop
    refine ⟨{ M with low := L[k], us := L.drop (k + 1), fr := ins L[k] M.fr }, L[k], ?_, h.up _ (by rw [hu]; exact List.mem_cons_self), fun _ => ?_, ⟨h.lim, ?_, rfl, fun x hx => ?_, h.go, h.ws, fun x hx => (List.pairwise_cons.1 hs2).1 x hx, ?_, fun _ => mem_ins.2 (.inl rfl)⟩⟩
    · unfold takeM; rw [hu]
    · rw [List.getD_eq_getElem?_getD, List.getElem?_eq_getElem hl]; rfl
    · show M.en = _
      rw [h.en]; omega
    · have := (List.pairwise_cons.1 hs2).1 x hx
      exact Nat.le_of_lt this
    · show L[k] < M.en
      rw [h.en]
      have := (hr L[k] (List.getElem_mem _)).2
      omega
  · have hu : M.us = [] := by rw [h.us]; exact List.drop_eq_nil_of_le (by omega)
    have hne : ¬ M.en = M.lim := by rw [h.en, h.lim]; omega
    refine ⟨{ M with en := M.en + 1, fr := ins M.en M.fr }, M.en, ?_, h.top, fun k => absurd k hl, ⟨h.lim, ?_, ?_, fun x hx => h.low x hx, h.go, h.ws, fun x hx => ?_, Nat.lt_succ_self _, fun _ => mem_ins.2 (.inl rfl)⟩⟩
    · unfold takeM; rw [hu]; simp only; rw [if_neg hne]
    · show M.en + 1 = _
      rw [h.en]; omega
    · show M.us = _
      rw [hu, List.drop_eq_nil_of_le (by omega)]
    · have hx' : x ∈ M.us := hx
      rw [hu] at hx'; cases hx'
theorem full_end {n mo : Nat} {L : List Nat} {k : Nat} {M : Sp} {last : Nat} (h : FullInv n mo L k M last) (hk : k = L.length + mo) : takeM M = (M, 0, 21) ∧ M.en = n + mo := by
  have hu : M.us = [] := by rw [h.us]; exact List.drop_eq_nil_of_le (by omega)
  have he : M.en = n + mo := by rw [h.en]; omega
  refine ⟨?_, he⟩
  unfold takeM
  rw [hu]
  simp only
  rw [if_pos (by rw [he, h.lim])]
theorem full_again {n mo : Nat} {L : List Nat} {k : Nat} {M : Sp} {last : Nat} (h : FullInv n mo L k M last) (hk : k = L.length + mo) (hl : last ≠ 0) :
    ∃ M1 M2, giveM M last = (M1, 0) ∧ (∀ x ∈ M1.us, M1.low ≤ x) ∧ M1.en = n + mo ∧ M1.lim = n + mo ∧ takeM M1 = (M2, last, 0) ∧ M2.us = [] ∧ M2.go = [] ∧ M2.ws = [] ∧ recsM M2 9 = [] := by
  have hu : M.us = [] := by rw [h.us]; exact List.drop_eq_nil_of_le (by omega)
  refine ⟨{ M with fr := del last M.fr, us := ins last M.us, low := min M.low last }, { M with low := last, us := [], fr := ins last (del last M.fr) }, by unfold giveM; rw [if_pos (h.was hl)], fun x hx => ?_, (full_end h hk).2, h.lim, ?_, rfl, h.go, h.ws, ?_⟩
  · have hx' : x ∈ ins last M.us := hx
    rw [hu] at hx'
    rcases mem_ins.1 hx' with e | e
    · subst e; exact Nat.min_le_right _ _
    · cases e
  · unfold takeM
    have : ins last M.us = [last] := by rw [hu]; rfl
    simp only [this]
  · unfold recsM
    simp only [h.go, h.ws]
    rfl

end Go.Proofs.Ytdljclifjbnbjaa
