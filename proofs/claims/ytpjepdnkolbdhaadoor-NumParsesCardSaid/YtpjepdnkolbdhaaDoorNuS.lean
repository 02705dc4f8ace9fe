/-
  The document's grammar of numbers: where a text's parts stand. Own work.
-/
import Derived.Test.YtpjepdnkolbdhaaDoorNuR
set_option linter.unusedVariables false
set_option linter.unusedSimpArgs false
namespace Go.Proofs.YtpjepdnkolbdhaaDoor
open Go.RowKit

/-- From a place on a text reads so. -/
def Suf (s : Bs) (p : Nat) (R : Bs) : Prop := p + R.length = s.length ∧ s.drop p = R
theorem suf_nil (s : Bs) : Suf s 0 s := ⟨by omega, rfl⟩
theorem Suf.app {s A R : Bs} {p : Nat} (h : Suf s p (A ++ R)) : Suf s (p + A.length) R := by
  refine ⟨by have := h.1; rw [List.length_append] at this; omega, ?_⟩
  rw [← List.drop_drop, h.2, List.drop_left]
theorem Suf.tail {s R : Bs} {b : UInt8} {p : Nat} (h : Suf s p (b :: R)) : Suf s (p + 1) R := Suf.app (A := [b]) h
theorem Suf.get {s R : Bs} {p : Nat} (h : Suf s p R) (k : Nat) : s[p + k]? = R[k]? := by rw [← h.2, List.getElem?_drop]
def dH : Bs → Bool
  | b :: _ => dig b
  | [] => false
theorem Suf.one {s R : Bs} {p : Nat} (h : Suf s p R) : digAt s p = dH R := by
  have := h.get 0
  unfold digAt
  rw [Nat.add_zero] at this; rw [this]
  cases R <;> rfl
theorem Suf.digs {s A R : Bs} {p : Nat} (h : Suf s p (A ++ R)) (hA : A.all dig = true) (j : Nat) (h1 : p ≤ j) (h2 : j < p + A.length) : digAt s j = true := by
  obtain ⟨k, rfl⟩ : ∃ k, j = p + k := ⟨j - p, by omega⟩
  have hk : k < A.length := by omega
  have := h.get k
  unfold digAt
  rw [this, List.getElem?_append_left hk, List.getElem?_eq_getElem hk]
  exact List.all_eq_true.1 hA _ (List.getElem_mem hk)
theorem Suf.head {s R : Bs} {p : Nat} (h : Suf s p R) : (s.length ≤ p ∧ R = []) ∨ ∃ hp : p < (Sx s).size, p < s.length ∧ ∀ c : UInt8, ((((Sx s)[p]'hp).toNat : Int) == (c.toNat : Int)) = isH c R := by
  cases R with
  | nil => exact .inl ⟨by have := h.1; simp at this; omega, rfl⟩
  | cons b T =>
    have h1 := h.1
    simp only [List.length_cons] at h1
    have hp : p < (Sx s).size := by rw [Sx_size]; omega
    refine .inr ⟨hp, by omega, fun c => ?_⟩
    have := h.get 0
    rw [Nat.add_zero, List.getElem?_eq_getElem (by omega)] at this
    simp only [List.getElem?_cons_zero, Option.some.injEq] at this
    rw [Sx_at, this]
    unfold isH
    rw [Bool.eq_iff_iff, beq_iff_eq, beq_iff_eq, ← UInt8.toNat_inj]; omega

def dz (s : Bs) (z : Int) : Bool := digAt s z.toNat
theorem dz_nat (s : Bs) (p : Nat) : dz s p = digAt s p := by unfold dz; rw [Int.toNat_natCast]
theorem digit_z (s : Bs) (z : Int) (w : World) (hl : s.length ≤ 1000000) (h0 : 0 ≤ z) (h1 : z ≤ 1000000) :
    Calls Tryd.prog 26 #[.string (Sx s), .int .i64 z] w fun r w' => r = .returned (.bool (dz s z)) ∧ w = w' := by
  obtain ⟨n, rfl⟩ : ∃ n : Nat, z = n := ⟨z.toNat, by omega⟩
  rw [dz_nat]
  exact digit_any s n w hl (by omega)

theorem dH_dw : ∀ l : Bs, dH (l.dropWhile dig) = false
  | [] => rfl
  | b :: l => by
    by_cases h : dig b = true
    · rw [List.dropWhile_cons_of_pos h]; exact dH_dw l
    · rw [List.dropWhile_cons_of_neg h]; simpa [dH] using h
theorem dH_app {A : Bs} (hA : A.all dig = true) {R : Bs} (hR : dH R = false) : dH (A ++ R) = !A.isEmpty := by
  cases A with
  | nil => exact hR
  | cons b T => simp only [List.all_cons, Bool.and_eq_true] at hA; simp [dH, hA.1]

/-- What the walk asks of a text, part by part. -/
structure Parts (s : Bs) (p0 P E : Nat) : Prop where
  a0 : (dn s = false ∧ p0 = 0) ∨ (dn s = true ∧ p0 = 1)
  r0 : Suf s p0 (ah s ++ s2 s)
  aA : (ah s).all dig = true
  d2 : dH (s2 s) = false
  rP : Suf s P (s2 s)
  lP : P = p0 + (ah s).length
  ePt : pt s = true → s2 s = 46 :: (bh s ++ s3 s) ∧ E = P + 1 + (bh s).length
  eNo : pt s = false → s3 s = s2 s ∧ E = P
  aB : (bh s).all dig = true
  d3 : dH (s3 s) = false
  rE : Suf s E (s3 s)
theorem parts (s : Bs) : Parts s (if dn s then 1 else 0) (ptI s) (exI s) := by
  have r0 : Suf s (if dn s then 1 else 0) (s1 s) := by
    rw [s1]
    by_cases h : dn s = true
    · simp only [h, if_true]
      have := suf_nil s
      rw [isH_eq h] at this
      have t := this.tail
      rw [← isH_eq h] at t
      exact t
    · simp only [h]; exact suf_nil s
  have e1 : s1 s = ah s ++ s2 s := (List.takeWhile_append_dropWhile ..).symm
  rw [e1] at r0
  have rP := r0.app
  have hP : ptI s = (if dn s then 1 else 0) + (ah s).length := by have := rP.1; unfold ptI; omega
  rw [← hP] at rP
  have d2 : dH (s2 s) = false := dH_dw _
  have ePt : pt s = true → s2 s = 46 :: (bh s ++ s3 s) ∧ exI s = ptI s + 1 + (bh s).length := fun h => by
    refine ⟨?_, (ptI_exI s).2 h⟩
    have := s2_eq s
    rw [pn, h] at this; exact this
  have eNo : pt s = false → s3 s = s2 s ∧ exI s = ptI s := fun h => ⟨by rw [s3, h]; rfl, ((ptI_exI s).1 h).symm⟩
  refine ⟨?_, r0, ah_all s, d2, rP, hP, ePt, eNo, bh_all s, ?_, ?_⟩
  · cases dn s <;> simp
  · cases h : pt s with
    | false => rw [(eNo h).1]; exact d2
    | true => rw [s3, h]; exact dH_dw _
  · cases h : pt s with
    | false => rw [(eNo h).1, (eNo h).2]; exact rP
    | true =>
      obtain ⟨e2, eE⟩ := ePt h
      rw [e2] at rP
      have := rP.tail.app
      rw [← eE] at this; exact this
/-- A text's exponent has a sign. -/
def exSg (s : Bs) : Bool := isH 43 (s4 s) || isH 45 (s4 s)
theorem parts_ex {s : Bs} {E : Nat} (h : ex s = true) (hr : Suf s E (s3 s)) : Suf s (E + 1) (s4 s) ∧ Suf s (E + 1 + (if exSg s then 1 else 0)) (pw s ++ s6 s) ∧ (pw s).all dig = true ∧ dH (s6 s) = false := by
  have e5 : s5 s = pw s ++ s6 s := by rw [pw, s6, h]; exact (List.takeWhile_append_dropWhile ..).symm
  have d6 : dH (s6 s) = false := by rw [s6, h]; exact dH_dw _
  have he : ∃ e, s3 s = e :: s4 s := by
    rw [ex, Bool.or_eq_true] at h
    rcases h with h | h
    · exact ⟨101, isH_eq h⟩
    · exact ⟨69, isH_eq h⟩
  obtain ⟨e, he⟩ := he
  rw [he] at hr
  have r4 := hr.tail
  refine ⟨r4, ?_, pw_all s, d6⟩
  rw [← e5, s5, Bool.or_comm]
  change Suf s _ (if exSg s then _ else _)
  cases hg : exSg s with
  | false => exact r4
  | true =>
    rw [exSg, Bool.or_eq_true] at hg
    have : ∃ c, s4 s = c :: (s4 s).tail := by
      rcases hg with g | g
      · exact ⟨_, isH_eq g⟩
      · exact ⟨_, isH_eq g⟩
    obtain ⟨c, hc⟩ := this
    rw [hc] at r4
    exact r4.tail
end Go.Proofs.YtpjepdnkolbdhaaDoor
