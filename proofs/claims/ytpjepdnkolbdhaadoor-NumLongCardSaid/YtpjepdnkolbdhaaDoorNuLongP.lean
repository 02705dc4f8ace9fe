/-
  As many digits as may be, plain. Own work.
-/
import Derived.Test.YtpjepdnkolbdhaaDoorNmP
set_option linter.unusedVariables false
set_option linter.unusedSimpArgs false
namespace Go.Proofs.YtpjepdnkolbdhaaDoor
open Go.RowKit

/-- Digits whose first one and whose last one aren't noughts. -/
structure DOk (D : Bs) (n : Nat) : Prop where
  len : D.length = n
  all : D.all dig = true
  head : isH 49 D = true
  last : rtrim0 D = D
theorem DOk.ne {D : Bs} {n : Nat} (h : DOk D n) : D ≠ [] := fun e => by have := h.head; rw [e] at this; simp [isH] at this
theorem DOk.h48 {D : Bs} {n : Nat} (h : DOk D n) : isH 48 D = false := by
  have := isH_eq h.head
  rw [this]; rfl
theorem DOk.trim {D : Bs} {n : Nat} (h : DOk D n) : trim0 D = D := by
  have := isH_eq h.head
  rw [this]; rfl
theorem DOk.snoc {D : Bs} {n : Nat} (h : DOk D n) : DOk (D ++ [55]) (n + 1) :=
  ⟨by simp [h.len], by rw [List.all_append, h.all]; rfl, by rw [isH_app 49 h.ne]; exact h.head, by rw [rtrim_last _ (by simp), List.getLast_concat]; decide⟩
theorem all_take {l : Bs} (h : l.all dig = true) (k : Nat) : (l.take k).all dig = true := List.all_eq_true.2 fun b hb => List.all_eq_true.1 h b (List.mem_of_mem_take hb)
theorem all_drop {l : Bs} (h : l.all dig = true) (k : Nat) : (l.drop k).all dig = true := List.all_eq_true.2 fun b hb => List.all_eq_true.1 h b (List.mem_of_mem_drop hb)

theorem long_mk {D : Bs} {n : Nat} (h : DOk D n) (A B : Bs) (P : Option Bs) (hAB : A ++ B = D) (hA : A ≠ []) (hP : P = none ∧ B = [] ∨ P = some B ∧ B ≠ []) (R : Bs) (u : Bool) (p : Bs)
    (hR : R = [] ∧ u = false ∧ p = [] ∨ (∃ sg, R = 101 :: (sg ++ p) ∧ (sg = [] ∨ sg = [45]) ∧ u = decide (sg = [45]) ∧ p ≠ [] ∧ p.all dig = true)) (E : Int) (hE : (if u then -(powV 1099511627776 p : Int) else (powV 1099511627776 p : Int)) - B.length = E) :
    parseM (A ++ pnB P ++ R) = if n ≤ 40 ∧ -999 ≤ E ∧ E ≤ 999 then (⟨false, D, E⟩, 0) else (Nm.zero, 13) := by
  have hall := h.all
  rw [← hAB, List.all_append, Bool.and_eq_true] at hall
  have h48 := h.h48
  rw [← hAB, isH_app 48 hA] at h48
  rw [parse_mk A B P R u p hall.1 hA h48 hP hall.2 hR, num5_full D A B u p hAB h.ne h.trim h.last, hE, right_iff h.ne h.all h.last h.trim]
  simp only [h.len]
  by_cases c : n ≤ 40 ∧ -999 ≤ E ∧ E ≤ 999
  · rw [if_pos c, if_pos (by simp [c])]
  · rw [if_neg c, if_neg]
    intro hc
    simp only [Bool.and_eq_true, decide_eq_true_eq] at hc
    exact c ⟨hc.1.1, hc.1.2, hc.2⟩

section
variable {D : Bs} (h : DOk D 40)
include h
theorem long0 : parseM D = (⟨false, D, 0⟩, 0) := by
  have := long_mk h D [] none (by simp) h.ne (.inl ⟨rfl, rfl⟩) [] false [] (.inl ⟨rfl, rfl, rfl⟩) 0 rfl
  simpa [pnB] using this
theorem take_ne {k : Nat} (h1 : 1 ≤ k) : D.take k ≠ [] := fun e => by
  have := congrArg List.length e
  rw [List.length_take, h.len] at this; simp at this; omega
theorem drop_ne {k : Nat} (h2 : k ≤ 39) : D.drop k ≠ [] := fun e => by
  have := congrArg List.length e
  rw [List.length_drop, h.len] at this; simp at this; omega
theorem long1 (k : Nat) (h1 : 1 ≤ k) (h2 : k ≤ 39) : parseM (D.take k ++ [46] ++ D.drop k) = (⟨false, D, (k : Int) - 40⟩, 0) := by
  have := long_mk h (D.take k) (D.drop k) (some (D.drop k)) (List.take_append_drop k D) (take_ne h h1) (.inr ⟨rfl, drop_ne h h2⟩) [] false [] (.inl ⟨rfl, rfl, rfl⟩) ((k : Int) - 40) (by
    rw [List.length_drop, h.len, show powV 1099511627776 [] = 0 from rfl]; simp only [Bool.false_eq_true, if_false]; omega)
  rw [if_pos (by omega)] at this
  simpa [pnB] using this
theorem long2 : parseM (D ++ [55]) = (Nm.zero, 13) := by
  have := long_mk h.snoc (D ++ [55]) [] none (by simp) h.snoc.ne (.inl ⟨rfl, rfl⟩) [] false [] (.inl ⟨rfl, rfl, rfl⟩) 0 rfl
  rw [if_neg (by omega)] at this
  simpa [pnB] using this
theorem long3 (k : Nat) (h1 : 1 ≤ k) (h2 : k ≤ 39) : parseM (D.take k ++ [46] ++ D.drop k ++ [55]) = (Nm.zero, 13) := by
  have := long_mk h.snoc (D.take k) (D.drop k ++ [55]) (some (D.drop k ++ [55])) (by rw [← List.append_assoc, List.take_append_drop]) (take_ne h h1) (.inr ⟨rfl, by simp⟩) [] false [] (.inl ⟨rfl, rfl, rfl⟩) _ rfl
  rw [if_neg (by omega)] at this
  simpa [pnB] using this
theorem longE (sg p : Bs) (E : Int) (hs : sg = [] ∨ sg = [45]) (hp : p ≠ []) (hd : p.all dig = true) (hE : (if decide (sg = [45]) = true then -(powV 1099511627776 p : Int) else (powV 1099511627776 p : Int)) = E) :
    parseM (D ++ 101 :: (sg ++ p)) = if -999 ≤ E ∧ E ≤ 999 then (⟨false, D, E⟩, 0) else (Nm.zero, 13) := by
  have := long_mk h D [] none (by simp) h.ne (.inl ⟨rfl, rfl⟩) (101 :: (sg ++ p)) (decide (sg = [45])) p (.inr ⟨sg, rfl, hs, rfl, hp, hd⟩) E (by rw [hE]; simp)
  simpa [pnB] using this
theorem long4 : parseM (D ++ [101, 57, 57, 57]) = (⟨false, D, 999⟩, 0) := longE h [] [57, 57, 57] 999 (.inl rfl) (by simp) (by decide) (by decide)
theorem long5 : parseM (D ++ [101, 49, 48, 48, 48]) = (Nm.zero, 13) := longE h [] [49, 48, 48, 48] 1000 (.inl rfl) (by simp) (by decide) (by decide)
theorem long6 : parseM (D ++ [101, 45, 57, 57, 57]) = (⟨false, D, -999⟩, 0) := (longE h [45] [57, 57, 57] (-999) (.inr rfl) (by simp) (by decide) (by decide)).trans (by rw [if_pos (by omega)])
theorem long7 : parseM (D ++ [101, 45, 49, 48, 48, 48]) = (Nm.zero, 13) := (longE h [45] [49, 48, 48, 48] (-1000) (.inr rfl) (by simp) (by decide) (by decide)).trans (by rw [if_neg (by omega)])
end

/-- The digits of the loop, so far. -/
structure DPre (D : Bs) (i : Nat) : Prop where
  len : D.length = i + 1
  all : D.all dig = true
  head : isH 49 D = true
  last : i = 39 → rtrim0 D = D
theorem DPre.first : DPre [49] 0 := ⟨rfl, by decide, rfl, fun h => by omega⟩
theorem DPre.next {D : Bs} {i : Nat} (h : DPre D i) (x : UInt8) (hx : dig x = true) (hl : i = 38 → x ≠ 48) : DPre (D ++ [x]) (i + 1) :=
  ⟨by simp [h.len], by rw [List.all_append, h.all]; simp [hx], by rw [isH_app 49 (fun e => by have := h.head; rw [e] at this; simp [isH] at this)]; exact h.head,
   fun e => by rw [rtrim_last _ (by simp), List.getLast_concat]; exact hl (by omega)⟩
theorem DPre.done {D : Bs} (h : DPre D 39) : DOk D 40 := ⟨h.len, h.all, h.head, h.last rfl⟩

end Go.Proofs.YtpjepdnkolbdhaaDoor
