/-
  Layer 6: a page of a long value in plain lists. Own work.
-/
import Derived.Test.YtpgpilalhbdidabLayM
namespace Go.Proofs.Ytpgpilalhbdidab
open Go.RowKit

/-- May a part of n bytes be that of a page of S bytes? -/
def RightC (n S : Int) : Prop := 512 ≤ S ∧ S ≤ 4096 ∧ 1 ≤ n ∧ n ≤ S - 8
instance (n S : Int) : Decidable (RightC n S) := by unfold RightC; infer_instance
/-- A page's head. -/
def hd8 (n : Nat) (x : Int) : List Int := (((([] ++ numB 3 1 1) ++ numB 0 1 1) ++ numB (n : Int) 2 2) ++ numB x 4 4)
theorem hd8_is (n : Nat) (x : Int) : hd8 n x = (((([] ++ numB 3 1 1) ++ numB 0 1 1) ++ numB (n : Int) 2 2) ++ numB x 4 4) := rfl
theorem hd8_len (n : Nat) (x : Int) : (hd8 n x).length = 8 := by simp [hd8, numB_len]
theorem hd8_byt (n : Nat) (x : Int) : Byt (hd8 n x) := by
  unfold hd8
  intro y hy
  simp only [List.mem_append, List.nil_append] at hy
  rcases hy with ((h | h) | h) | h <;> exact numB_byt _ _ _ y h
/-- A page. -/
def chB (p : List Int) (x : Int) (S : Nat) : List Int := hd8 p.length x ++ (p ++ List.replicate (S - 8 - p.length) 0)
theorem chB_len {p : List Int} {x : Int} {S : Nat} (h : 8 + p.length ≤ S) : (chB p x S).length = S := by
  simp [chB, hd8_len]; omega
theorem chB_byt {p : List Int} {x : Int} {S : Nat} (h : Byt p) : Byt (chB p x S) := by
  intro y hy
  simp only [chB, List.mem_append] at hy
  rcases hy with h1 | h1 | h1
  · exact hd8_byt _ _ y h1
  · exact h y h1
  · have := List.eq_of_mem_replicate h1; omega
/-- The head laid into noughts, then the part behind it. -/
theorem chB_first {n : Nat} {x : Int} {S : Nat} (h : 8 ≤ S) : (List.replicate S (0 : Int)).take 0 ++ hd8 n x ++ (List.replicate S (0 : Int)).drop (0 + 8) = hd8 n x ++ List.replicate (S - 8) 0 := by
  rw [List.take_zero, List.nil_append, List.drop_replicate]
theorem chB_second {p : List Int} {x : Int} {S : Nat} (h : 8 + p.length ≤ S) : (hd8 p.length x ++ List.replicate (S - 8) (0 : Int)).take 8 ++ p ++ (hd8 p.length x ++ List.replicate (S - 8) (0 : Int)).drop (8 + p.length) = chB p x S := by
  have e := hd8_len p.length x
  rw [List.take_append_of_le_length (by omega), List.take_of_length_le (by omega), List.drop_append, List.drop_eq_nil_of_le (by omega), List.nil_append, List.drop_replicate, chB, List.append_assoc, e, show S - 8 - (8 + p.length - 8) = S - 8 - p.length by omega]
/-- What a page begins with, told as it is read. -/
theorem chB_read {p : List Int} {x : Int} {S : Nat} : chB p x S = [3] ++ ([0] ++ (numB (p.length : Int) 2 2 ++ (numB x 4 4 ++ (p ++ List.replicate (S - 8 - p.length) 0)))) := by
  rw [chB, hd8, numB1, numB1]
  simp
theorem chB_inj {p q : List Int} {x y : Int} {S : Nat} (hp : p.length ≤ 65535) (hq : q.length ≤ 65535) (hx0 : 0 ≤ x) (hx1 : x ≤ 4294967295) (hy0 : 0 ≤ y) (hy1 : y ≤ 4294967295) (h : chB p x S = chB q y S) : p = q ∧ x = y := by
  rw [chB_read, chB_read] at h
  have h1 : numB (p.length : Int) 2 2 ++ (numB x 4 4 ++ (p ++ List.replicate (S - 8 - p.length) 0)) = numB (q.length : Int) 2 2 ++ (numB y 4 4 ++ (q ++ List.replicate (S - 8 - q.length) 0)) := by simpa using h
  obtain ⟨e1, h2⟩ := List.append_inj h1 (by rw [numB_len, numB_len])
  obtain ⟨e2, h3⟩ := List.append_inj h2 (by rw [numB_len, numB_len])
  have l1 : p.length = q.length := by
    have := congrArg beVal e1
    rw [be2 (by omega) (by omega), be2 (by omega) (by omega)] at this
    omega
  have l2 := congrArg beVal e2
  rw [be4 (by omega) (by omega), be4 (by omega) (by omega)] at l2
  exact ⟨(List.append_inj h3 l1).1, l2⟩

end Go.Proofs.Ytpgpilalhbdidab
