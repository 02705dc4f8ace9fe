/-
  Plain: how a number as short as can be is read. Own work; of no program.
-/
import Derived.Test.YtmphogmiobpkkaaOctV
namespace Go.Proofs.Ytmphogmiobpkkaa
open Go.RowKit

/-- Where the first byte below 128 stands, among so many. -/
def vFirst : Nat → List Int → Option Nat
  | 0, _ => none
  | _ + 1, [] => none
  | f + 1, c :: l => if c < 128 then some 0 else (vFirst f l).map (· + 1)

theorem vFirst_some : ∀ (f k : Nat) (l : List Int), k < f → k < l.length → (∀ j, j < k → 128 ≤ l.getD j 0) → l.getD k 0 < 128 → vFirst f l = some k
  | 0, k, l, h, _, _, _ => by omega
  | f + 1, k, [], _, h, _, _ => by simp at h
  | f + 1, 0, c :: l, _, _, _, h => by simp at h; simp [vFirst, h]
  | f + 1, k + 1, c :: l, h1, h2, h3, h4 => by
    have h0 := h3 0 (by omega)
    simp at h0
    have := vFirst_some f k l (by omega) (by simpa using h2) (fun j hj => by have := h3 (j + 1) (by omega); simpa using this) (by simpa using h4)
    simp [vFirst, this, show ¬ c < 128 by omega]
theorem vFirst_none : ∀ (f : Nat) (l : List Int), (∀ j, j < f → j < l.length → 128 ≤ l.getD j 0) → vFirst f l = none
  | 0, l, _ => rfl
  | f + 1, [], _ => rfl
  | f + 1, c :: l, h => by
    have h0 := h 0 (by omega) (by simp)
    simp at h0
    have := vFirst_none f l (fun j h1 h2 => by have := h (j + 1) (by omega) (by simpa using h2); simpa using this)
    simp [vFirst, this, show ¬ c < 128 by omega]
theorem vFirst_lt : ∀ (f : Nat) (l : List Int) (k : Nat), vFirst f l = some k → k < f ∧ k < l.length
  | 0, l, k, h => by simp [vFirst] at h
  | f + 1, [], k, h => by simp [vFirst] at h
  | f + 1, c :: l, k, h => by
    unfold vFirst at h
    split at h
    · injection h with h; subst h; simp
    · cases hh : vFirst f l with
      | none => rw [hh] at h; simp at h
      | some j => rw [hh] at h; simp at h; have := vFirst_lt f l j hh; simp; omega

/-- What varEnd tells: how many bytes, the error. -/
def vEnd (bs : List Int) : Nat × Int :=
  match vFirst 10 bs with
  | some k => (k + 1, 0)
  | none => (0, if bs.length < 10 then 10 else 11)

theorem vEnd_yes {bs : List Int} {k : Nat} (h1 : k < 10) (h2 : k < bs.length) (h3 : ∀ j, j < k → 128 ≤ bs.getD j 0) (h4 : bs.getD k 0 < 128) : vEnd bs = (k + 1, 0) := by
  unfold vEnd; rw [vFirst_some 10 k bs h1 h2 h3 h4]
theorem vEnd_no {bs : List Int} (h : ∀ j, j < 10 → j < bs.length → 128 ≤ bs.getD j 0) : vEnd bs = (0, if bs.length < 10 then 10 else 11) := by
  unfold vEnd; rw [vFirst_none 10 bs h]
theorem vEnd_cases (bs : List Int) : (∃ k, k < 10 ∧ k < bs.length ∧ vEnd bs = (k + 1, 0)) ∨ (vEnd bs = (0, 10) ∨ vEnd bs = (0, 11)) := by
  unfold vEnd
  cases h : vFirst 10 bs with
  | some k => have := vFirst_lt 10 bs k h; exact .inl ⟨k, this.1, this.2, rfl⟩
  | none =>
    by_cases hl : bs.length < 10
    · exact .inr (.inl (by simp [hl]))
    · exact .inr (.inr (by simp [hl]))

def vStep (o : Option Int) (c : Int) : Option Int := o.bind fun x => if x < 144115188075855872 then some (x * 128 + c % 128) else none
def vPart (l : List Int) : Option Int := l.foldl vStep (some 0)
theorem vPart_snoc (l : List Int) (c : Int) : vPart (l ++ [c]) = vStep (vPart l) c := by simp [vPart]
theorem vStep_none : ∀ l : List Int, l.foldl vStep none = none
  | [] => rfl
  | _ :: l => vStep_none l
theorem vPart_cut (l m : List Int) (h : vPart l = none) : vPart (l ++ m) = none := by
  have h' : l.foldl vStep (some 0) = none := h
  rw [vPart, List.foldl_append, h', vStep_none]
theorem vPart_bound (l : List Int) : ∀ x, vPart l = some x → 0 ≤ x ∧ x ≤ 18446744073709551615 := by
  have H : ∀ (l : List Int) (o : Option Int), (∀ x, o = some x → 0 ≤ x ∧ x ≤ 18446744073709551615) → ∀ x, l.foldl vStep o = some x → 0 ≤ x ∧ x ≤ 18446744073709551615 := by
    intro l
    induction l with
    | nil => intro o h x hx; exact h x hx
    | cons c l ih =>
      intro o h x hx
      refine ih (vStep o c) (fun y hy => ?_) x hx
      cases o with
      | none => simp [vStep] at hy
      | some z =>
        have hz := h z rfl
        simp only [vStep, Option.bind_some] at hy
        split at hy
        · injection hy with hy; subst hy; omega
        · cases hy
  intro x hx
  exact H l (some 0) (fun y hy => by injection hy with hy; subst hy; omega) x hx

/-- The number that bytes are, if they are one, as short as can be. -/
def vOf (l : List Int) : Option Int := if l.getD 0 0 = 128 then none else vPart l

/-- What Var tells: the rest, the error, the number. -/
def vx (bs : List Int) (e : Int) : List Int × Int × Int :=
  if e ≠ 0 then (bs, e, 0)
  else if (vEnd bs).2 ≠ 0 then (bs, (vEnd bs).2, 0)
  else match vOf (bs.take (vEnd bs).1) with
    | none => (bs, 11, 0)
    | some x => (bs.drop (vEnd bs).1, 0, x)

/-- What Bytes tells: the rest, the error, the bytes. -/
def bx (bs : List Int) (e most : Int) : List Int × Int × List Int :=
  if (vx bs e).2.1 ≠ 0 then ((vx bs e).1, (vx bs e).2.1, [])
  else if most < 0 ∨ most < (vx bs e).2.2 then ((vx bs e).1, 13, [])
  else nx (vx bs e).1 0 (vx bs e).2.2 true

theorem vx_rest (bs : List Int) (e : Int) : (vx bs e).1.length ≤ bs.length := by
  unfold vx; split
  · simp
  · split
    · simp
    · split
      · simp
      · simp
theorem vx_byt {bs : List Int} (h : Byt bs) (e : Int) : Byt (vx bs e).1 := by
  unfold vx; split
  · exact h
  · split
    · exact h
    · split
      · exact h
      · exact h.drop _
theorem vx_num (bs : List Int) (e : Int) : 0 ≤ (vx bs e).2.2 ∧ (vx bs e).2.2 ≤ 18446744073709551615 := by
  unfold vx; split
  · simp
  · split
    · simp
    · split
      · simp
      · rename_i x hx
        simp only [vOf] at hx
        split at hx
        · cases hx
        · exact vPart_bound _ _ hx

theorem bitLen_low (x : Int) (h0 : 0 ≤ x) (h : x < 144115188075855872) : Lib.bitLen x.toNat ≤ 57 := Lib.bitLen_le _ 57 (by omega) (by omega)
theorem bitLen_high (x : Int) (h : 144115188075855872 ≤ x) (h1 : x ≤ 18446744073709551615) : 58 ≤ Lib.bitLen x.toNat := by
  have := bitLen_bounds x.toNat (by omega) (by omega)
  rcases Nat.lt_or_ge (Lib.bitLen x.toNat) 58 with k | k
  · have h2 : 2 ^ Lib.bitLen x.toNat ≤ 2 ^ 57 := Nat.pow_le_pow_right (by omega) (by omega)
    omega
  · exact k

end Go.Proofs.Ytmphogmiobpkkaa
