/-
  The library's small functions that numbers use: a prefix cut off, comparisons, a text copied. Own work.
-/
import Derived.Test.YticnfmfmgdfdeaaGreatDoorJsnAF
import Derived.Test.YticnfmfmgdfdeaaGreatDoorJsnAB
import Derived.Lib.Bytes
import Derived.Laws.IdiomStrings

set_option linter.unusedVariables false
set_option linter.unusedSimpArgs false
namespace Go.Proofs.YticnfmfmgdfdeaaGreatDoor
open Go.RowKit

theorem gdrewN (w : World) (n : Nat) : w.grownBy (w.drewN n) none := ⟨rfl, rfl, rfl, Nat.le_refl _, fun _ _ _ => rfl⟩
/-- What has come in is kept; new blocks alone. -/
abbrev Gr (w w' : World) : Prop := w.grownBy w' none
theorem cells2 {W : World} {q : Nat} {a b : Value} {t : TypeId} (h : W.heap[q]? = some (.cells #[a, b] t (0, 0))) : W.cell? ⟨q, 0, none⟩ = some a ∧ W.cell? ⟨q, 1, none⟩ = some b ∧ W.frozen? ⟨q, 0, none⟩ = false ∧ W.frozen? ⟨q, 1, none⟩ = false := by
  refine ⟨?_, ?_, ?_, ?_⟩ <;> simp [World.cell?, World.frozen?, h]
theorem cells3 {W : World} {q : Nat} {a b c : Value} {t : TypeId} (h : W.heap[q]? = some (.cells #[a, b, c] t (0, 0))) : W.cell? ⟨q, 0, none⟩ = some a ∧ W.cell? ⟨q, 1, none⟩ = some b ∧ W.cell? ⟨q, 2, none⟩ = some c ∧ W.frozen? ⟨q, 0, none⟩ = false ∧ W.frozen? ⟨q, 1, none⟩ = false ∧ W.frozen? ⟨q, 2, none⟩ = false := by
  refine ⟨?_, ?_, ?_, ?_, ?_, ?_⟩ <;> simp [World.cell?, World.frozen?, h]
theorem set_cell {V : World} {q : Nat} {cs : Array Value} {t : TypeId} (h : V.heap[q]? = some (.cells cs t (0, 0))) (o : Nat) (v : Value) : (V.setCell ⟨q, o, none⟩ v).heap[q]? = some (.cells (cs.setIfInBounds o v) t (0, 0)) := by
  have hlt := lt_of_block h
  have h' : V.heap[q] = .cells cs t (0, 0) := by simpa [Array.getElem?_eq_getElem hlt] using h
  show (V.heap.modify q _)[q]? = _
  rw [Array.getElem?_eq_getElem (by simpa using hlt), Array.getElem_modify_self, h']; rfl
theorem set_other {V : World} {p q : Nat} (hne : p ≠ q) (o : Nat) (v : Value) : (V.setCell ⟨p, o, none⟩ v).heap[q]? = V.heap[q]? := Below.heap_setCell _ _ _ _ (by simpa using hne.symm)
theorem set3 {W : World} {q : Nat} {a b c x y z : Value} {t : TypeId} (h : W.heap[q]? = some (.cells #[a, b, c] t (0, 0))) :
    (((W.setCell ⟨q, 0, none⟩ x).setCell ⟨q, 1, none⟩ y).setCell ⟨q, 2, none⟩ z).heap[q]? = some (.cells #[x, y, z] t (0, 0)) := by
  have h3 := set_cell (set_cell (set_cell h 0 x) 1 y) 2 z
  simpa using h3
theorem gr_set {w V : World} {q : Nat} (h : w.grownBy V none) (hq : w.heap.size ≤ q) (o : Nat) (v : Value) : w.grownBy (V.setCell ⟨q, o, none⟩ v) none :=
  gof ((gbelow h).setCell (p := ⟨q, o, none⟩) hq v) none
/-- A number stands in block q. -/
def NB (q : Nat) (d : Bool) (A : Bs) (e : Int) (w : World) : Prop := w.heap[q]? = some (.cells #[.bool d, .string (Sx A), .int .i64 e] 24 (0, 0))
theorem NB.gr {q : Nat} {d : Bool} {A : Bs} {e : Int} {w w' : World} (h : NB q d A e w) (g : Gr w w') : NB q d A e w' := (g.block q (lt_of_block h) (by simp)).trans h
/-- Its cells. -/
def NC (q : Nat) (d : Bool) (A : Bs) (e : Int) (w : World) : Prop := w.cell? ⟨q, 0, none⟩ = some (.bool d) ∧ w.cell? ⟨q, 1, none⟩ = some (.string (Sx A)) ∧ w.cell? ⟨q, 2, none⟩ = some (.int .i64 e)
theorem NB.nc {q : Nat} {d : Bool} {A : Bs} {e : Int} {w : World} (h : NB q d A e w) : NC q d A e w := by
  obtain ⟨a, b, c, -⟩ := cells3 h; exact ⟨a, b, c⟩
theorem ext_drop (l : Bs) (n : Nat) : (Sx l).extract n l.length = Sx (l.drop n) := by
  apply ByteArray.ext; apply Array.ext'
  simp [Sx, ByteArray.data_extract, List.take_of_length_le]
theorem ext_take (l : Bs) (n : Nat) : (Sx l).extract 0 n = Sx (l.take n) := by
  apply ByteArray.ext; apply Array.ext'
  simp [Sx, ByteArray.data_extract]

theorem lcut_any (c : UInt8) (l : Bs) (w : World) (hl : l.length ≤ 140737488355328) :
    Calls Tryz.prog 172 #[.string (Sx l), .string ⟨#[c]⟩] w fun r w' => r = .returned (.tuple #[.string (Sx (if isH c l then l.tail else l)), .bool (isH c l)]) ∧ w' = w := by
  have K := Tryz.lHasPrefix (Sx l) ⟨#[c]⟩ w
  rw [show (Sx l).data.toList = l from rfl, show (⟨#[c]⟩ : ByteArray).data.toList = [c] from rfl, isH_prefix] at K
  have hsz := Sx_size l
  have hd := ext_drop l 1
  have ht : l.drop 1 = l.tail := by cases l <;> rfl
  rw [ht] at hd
  obtain ⟨n, hn⟩ : ∃ n, n = l.length := ⟨_, rfl⟩
  have h1 : isH c l = true → 1 ≤ n := by intro h; rw [hn]; cases l with
    | nil => simp [isH] at h
    | cons _ _ => simp
  rw [← hn] at hsz hd hl
  obtain ⟨b, hb⟩ : ∃ b, b = isH c l := ⟨_, rfl⟩
  rw [← hb] at K h1 ⊢
  obtain ⟨T, hT⟩ : ∃ T, T = Sx l.tail := ⟨_, rfl⟩
  have hT2 : Sx (if b then l.tail else l) = if b then T else Sx l := by rw [hT]; split <;> rfl
  rw [← hT] at hd
  rw [hT2]
  generalize Sx l = B at *
  clear hT hT2 ht hb hn
  cases b
  · go_enter Tryz.func172, Tryz.ntmps172
    go_wp2_with (go_at_call 198; ((with_reducible refine K.mono ?_); rintro r w3 ⟨rfl, rfl⟩))
    exact bodyPost_ret (results_tmp2 rfl _ _ _) rfl ⟨rfl, rfl⟩
  · have h1 := h1 rfl
    go_enter Tryz.func172, Tryz.ntmps172
    go_wp2_with (go_at_call 198; ((with_reducible refine K.mono ?_); rintro r w3 ⟨rfl, rfl⟩))
    exact bodyPost_ret (results_tmp2 rfl _ _ _) rfl ⟨rfl, rfl⟩

theorem cut_any (c : UInt8) (l : Bs) (w : World) (hl : l.length ≤ 140737488355328) :
    Calls Tryz.prog 144 #[.string (Sx l), .string ⟨#[c]⟩] w fun r w' => r = .returned (.tuple #[.string (Sx (if isH c l then l.tail else l)), .bool (isH c l)]) ∧ w' = w := by
  have K := lcut_any c l w hl
  generalize Sx (if isH c l then l.tail else l) = B at *
  generalize isH c l = b at *
  go_enter Tryz.func144, Tryz.ntmps144
  go_wp2_with (go_at_call 172; ((with_reducible refine K.mono ?_); rintro r w3 ⟨rfl, rfl⟩))
  exact bodyPost_ret (results_tmp2 rfl _ _ _) rfl ⟨rfl, rfl⟩

theorem cmpI_any (x y : Int) (w : World) :
    Calls Tryz.prog 40 #[.int .i64 x, .int .i64 y] w fun r w' => r = .returned (.int .i64 (cmpI x y)) ∧ w' = w := by
  unfold cmpI
  by_cases h1 : x < y
  · rw [if_pos h1]
    go_enter Tryz.func40, Tryz.ntmps40
    go_wp2
    go_ret
    exact ⟨rfl, rfl⟩
  · rw [if_neg h1]
    by_cases h2 : y < x
    · rw [if_pos h2]
      go_enter Tryz.func40, Tryz.ntmps40
      go_wp2
      go_ret
      exact ⟨rfl, rfl⟩
    · rw [if_neg h2]
      obtain rfl : x = y := by omega
      go_enter Tryz.func40, Tryz.ntmps40
      go_wp2
      go_ret
      exact ⟨rfl, rfl⟩

theorem cmpS_any (a b : Bs) (w : World) :
    Calls Tryz.prog 43 #[.string (Sx a), .string (Sx b)] w fun r w' => r = .returned (.int .i64 (cmpB a b)) ∧ w' = w := by
  have e1 := Sx_toList a
  have e2 := Sx_toList b
  have l1 := less_cmpB a b
  have ha := cmpB_refl a
  rcases cmpB_range a b with h | h | h
  · rw [h] at l1 ⊢
    have l1 : Op.bytesLess a b = true := l1.trans rfl
    clear ha
    go_enter Tryz.func43, Tryz.ntmps43
    go_wp2
    go_ret
    exact ⟨rfl, rfl⟩
  · obtain rfl := cmpB_eq a b h
    rw [h] at l1 ⊢
    have l1 : Op.bytesLess a a = false := l1.trans rfl
    clear ha
    go_enter Tryz.func43, Tryz.ntmps43
    go_wp2
    go_ret
    exact ⟨rfl, rfl⟩
  · rw [h] at l1 ⊢
    have l1 : Op.bytesLess a b = false := l1.trans rfl
    have l2 : (a == b) = false := beq_eq_false_iff_ne.2 fun e => by rw [e, cmpB_refl] at h; omega
    clear ha
    go_enter Tryz.func43, Tryz.ntmps43
    go_wp2
    go_ret
    exact ⟨rfl, rfl⟩

end Go.Proofs.YticnfmfmgdfdeaaGreatDoor
