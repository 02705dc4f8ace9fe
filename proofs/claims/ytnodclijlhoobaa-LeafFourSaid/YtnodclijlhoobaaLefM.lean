/-
  Layer 4: what a page of entries is, in plain lists: keys' order, cells, what may be. Own work.
-/
import Derived.Test.YtnodclijlhoobaaOctE
namespace Go.Proofs.Ytnodclijlhoobaa
open Go.RowKit

/-- An entry. -/
structure En where
  key : List Int
  val : List Int
  long : Int
  first : Int

structure EnOk (x : En) : Prop where
  k : Byt x.key
  v : Byt x.val
  kl : x.key.length ≤ 100000
  vl : x.val.length ≤ 100000
  l0 : -9223372036854775808 ≤ x.long
  l1 : x.long ≤ 9223372036854775807
  f0 : 0 ≤ x.first
  f1 : x.first ≤ 4294967295

/-- How two keys stand. -/
def cmpL : List Int → List Int → Int
  | [], [] => 0
  | [], _ :: _ => -1
  | _ :: _, [] => 1
  | a :: s, b :: bs => if a < b then -1 else if b < a then 1 else cmpL s bs
def cmpI (a b : Int) : Int := if a < b then -1 else if b < a then 1 else 0

theorem cmpL_nil : ∀ l : List Int, cmpL [] l = if l.length = 0 then 0 else -1
  | [] => rfl
  | _ :: _ => rfl
theorem cmpL_drop {a b : List Int} {k : Nat} (ha : k < a.length) (hb : k < b.length) :
    cmpL (a.drop k) (b.drop k) = if cmpI (a.getD k 0) (b.getD k 0) = 0 then cmpL (a.drop (k + 1)) (b.drop (k + 1)) else cmpI (a.getD k 0) (b.getD k 0) := by
  rw [List.drop_eq_getElem_cons ha, List.drop_eq_getElem_cons hb, cmpL]
  simp only [List.getD_eq_getElem?_getD, List.getElem?_eq_getElem ha, List.getElem?_eq_getElem hb, Option.getD_some, cmpI]
  split
  · simp
  · split <;> simp
theorem cmpL_end {a b : List Int} {k : Nat} (ha : a.length ≤ k) (hb : k ≤ b.length) : cmpL (a.drop k) (b.drop k) = if b.length = k then 0 else -1 := by
  rw [List.drop_eq_nil_of_le ha, cmpL_nil, List.length_drop]
  by_cases h : b.length = k
  · rw [if_pos h, if_pos (by omega)]
  · rw [if_neg h, if_neg (by omega)]
theorem cmpL_over {a b : List Int} {k : Nat} (ha : k < a.length) (hb : b.length ≤ k) : cmpL (a.drop k) (b.drop k) = 1 := by
  rw [List.drop_eq_nil_of_le hb, List.drop_eq_getElem_cons ha]; rfl
theorem cmpL_range : ∀ a b : List Int, cmpL a b = -1 ∨ cmpL a b = 0 ∨ cmpL a b = 1
  | [], [] => by simp [cmpL]
  | [], _ :: _ => by simp [cmpL]
  | _ :: _, [] => by simp [cmpL]
  | a :: s, b :: bs => by
    rw [cmpL]
    split
    · simp
    · split
      · simp
      · exact cmpL_range s bs
theorem cmpL_refl : ∀ a : List Int, cmpL a a = 0
  | [] => rfl
  | a :: s => by simp [cmpL, cmpL_refl s]
theorem cmpL_eq : ∀ a b : List Int, cmpL a b = 0 → a = b
  | [], [], _ => rfl
  | [], _ :: _, h => by simp [cmpL] at h
  | _ :: _, [], h => by simp [cmpL] at h
  | a :: s, b :: bs, h => by
    rw [cmpL] at h
    split at h
    · simp at h
    · split at h
      · simp at h
      · rw [cmpL_eq s bs h, show a = b by omega]
theorem cmpL_trans : ∀ a b c : List Int, cmpL a b < 0 → cmpL b c < 0 → cmpL a c < 0
  | [], _, [], h, k => by
    rename_i b
    cases b with
    | nil => simp [cmpL] at h
    | cons x xs => simp [cmpL] at k
  | [], _, _ :: _, _, _ => by simp [cmpL]
  | _ :: _, [], _, h, _ => by simp [cmpL] at h
  | _ :: _, _ :: _, [], _, k => by simp [cmpL] at k
  | a :: s, b :: bs, c :: cs, h, k => by
    rw [cmpL] at h k ⊢
    by_cases h1 : a < b
    · by_cases h2 : b < c
      · rw [if_pos (by omega)]; decide
      · rw [if_neg h2] at k
        by_cases h3 : c < b
        · rw [if_pos h3] at k; omega
        · rw [if_pos (by omega)]; decide
    · rw [if_neg h1] at h
      by_cases h2 : b < a
      · rw [if_pos h2] at h; omega
      · rw [if_neg h2] at h
        by_cases h3 : b < c
        · rw [if_pos (by omega)]; decide
        · rw [if_neg h3] at k
          by_cases h4 : c < b
          · rw [if_pos h4] at k; omega
          · rw [if_neg h4] at k
            rw [if_neg (by omega), if_neg (by omega)]
            exact cmpL_trans s bs cs h k
theorem cmpL_anti : ∀ a b : List Int, cmpL a b = - cmpL b a
  | [], [] => rfl
  | [], _ :: _ => rfl
  | _ :: _, [] => rfl
  | a :: s, b :: bs => by
    rw [cmpL, cmpL]
    by_cases h1 : a < b
    · rw [if_pos h1, if_neg (by omega), if_pos h1]
    · by_cases h2 : b < a
      · rw [if_neg h1, if_pos h2, if_pos h2]; rfl
      · rw [if_neg h1, if_neg h2, if_neg h2, if_neg h1]
        exact cmpL_anti s bs

/-- How many bytes a cell has. -/
def cl (x : En) : Nat := if 0 < x.first then 10 + x.key.length else 4 + x.key.length + x.val.length
theorem cl_far {x : En} (h : 0 < x.first) : cl x = 10 + x.key.length := if_pos h
theorem cl_here {x : En} (h : ¬ 0 < x.first) : cl x = 4 + x.key.length + x.val.length := if_neg h
theorem cl_le {x : En} (h : EnOk x) : cl x ≤ 200004 := by
  have := h.kl; have := h.vl
  unfold cl; split <;> omega
theorem cl_pos (x : En) : 4 ≤ cl x := by unfold cl; split <;> omega
/-- An entry's cell. -/
def cellB (x : En) : List Int :=
  if 0 < x.first then ((((numB x.key.length 1 1 ++ x.key) ++ numB 1 1 1) ++ numB x.long 4 4) ++ numB x.first 4 4)
  else ((((numB x.key.length 1 1 ++ x.key) ++ numB 0 1 1) ++ numB x.val.length 2 2) ++ x.val)
theorem numB_len (x : Int) (n k : Nat) : (numB x n k).length = k := by simp [numB]
theorem cellB_len (x : En) : (cellB x).length = cl x := by
  unfold cellB cl
  split <;> simp [numB_len] <;> omega

/-- May a value be? -/
def rvB (x : En) : Bool := if 0 < x.first then decide (x.val.length = 0) && decide (1 ≤ x.long) && decide (x.long ≤ 32768) else decide (x.long = 0)
/-- May an entry be, by itself? -/
def OkOne (most : Int) (x : En) : Prop := 1 ≤ x.key.length ∧ x.key.length ≤ 96 ∧ rvB x = true ∧ (cl x : Int) ≤ most
def RightTo (l : List En) (most : Int) (k : Nat) : Prop :=
  ∀ j x, j < k → l[j]? = some x → OkOne most x ∧ ∀ i y, i + 1 = j → l[i]? = some y → cmpL y.key x.key < 0
def mostI (size : Int) : Int := size / 4 - 3
def RightP (l : List En) (size : Int) : Prop := 512 ≤ size ∧ size ≤ 4096 ∧ RightTo l (mostI size) l.length
theorem RightTo.zero (l : List En) (m : Int) : RightTo l m 0 := fun j _ h => by omega
theorem RightTo.snoc {l : List En} {m : Int} {k : Nat} (h : RightTo l m k) {x : En} (hx : l[k]? = some x) (ho : OkOne m x) (hr : ∀ i y, i + 1 = k → l[i]? = some y → cmpL y.key x.key < 0) : RightTo l m (k + 1) := by
  intro j y hj hy
  by_cases e : j = k
  · subst e
    rw [hx] at hy; cases hy
    exact ⟨ho, hr⟩
  · exact h j y (by omega) hy
theorem RightTo.mono {l : List En} {m : Int} {k n : Nat} (h : RightTo l m n) (hk : k ≤ n) : RightTo l m k := fun j x hj hx => h j x (by omega) hx

/-- How many bytes the first k cells have. -/
def cs (l : List En) : Nat → Nat
  | 0 => 0
  | k + 1 => cs l k + (match l[k]? with | some x => cl x | none => 0)
theorem cs_snoc {l : List En} {k : Nat} {x : En} (h : l[k]? = some x) : cs l (k + 1) = cs l k + cl x := by rw [cs, h]
theorem cs_mono (l : List En) : ∀ {a b : Nat}, a ≤ b → cs l a ≤ cs l b
  | a, 0, h => by rw [show a = 0 by omega]; exact Nat.le_refl _
  | a, b + 1, h => by
    by_cases e : a = b + 1
    · rw [e]; exact Nat.le_refl _
    · exact Nat.le_trans (cs_mono l (show a ≤ b by omega)) (by rw [cs]; omega)
/-- How many bytes the first k entries fill. -/
def fillK (l : List En) (k : Nat) : Nat := 4 + 2 * k + cs l k
def fillL (l : List En) : Nat := fillK l l.length
theorem fillK_snoc {l : List En} {k : Nat} {x : En} (h : l[k]? = some x) : fillK l (k + 1) = fillK l k + (2 + cl x) := by
  unfold fillK; rw [cs_snoc h]; omega
theorem fillK_mono (l : List En) {a b : Nat} (h : a ≤ b) : fillK l a ≤ fillK l b := by
  have := cs_mono l h
  unfold fillK; omega

end Go.Proofs.Ytnodclijlhoobaa
