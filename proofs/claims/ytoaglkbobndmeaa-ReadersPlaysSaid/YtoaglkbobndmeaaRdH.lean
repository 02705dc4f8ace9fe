/-
  Layer 9: the lists of ReadersSlots. Own work.
-/
import Derived.Test.YtoaglkbobndmeaaRdG
namespace Go.Proofs.Ytoaglkbobndmeaa
open Go.RowKit

/-- Some have gone; those below i of them have come again. -/
def lastL (F : List Bool) (i : Nat) : List Sl := F.mapIdx fun j f => if f then (if j < i then ⟨1, 2, 6⟩ else ⟨0, 1, 0⟩) else ⟨1, 1, 5⟩
theorem lastL_len (F : List Bool) (i : Nat) : (lastL F i).length = F.length := by simp [lastL]
theorem lastL_at {F : List Bool} {i j : Nat} {f : Bool} (h : F[j]? = some f) : (lastL F i)[j]? = some (if f then (if j < i then ⟨1, 2, 6⟩ else ⟨0, 1, 0⟩) else ⟨1, 1, 5⟩) := by
  unfold lastL; rw [List.getElem?_mapIdx, h]; rfl
theorem lastL_gone {F : List Bool} {k : Nat} (h : F[k]? = some false) : (lastL F 0).set k ⟨0, 1, 0⟩ = lastL (F.set k true) 0 := by
  apply List.ext_getElem?
  intro j
  have hk := (List.getElem?_eq_some_iff.1 h).1
  rw [List.getElem?_set, lastL_len]
  by_cases e : k = j
  · subst e
    rw [if_pos rfl, if_pos hk, lastL_at (F := F.set k true) (f := true) (List.getElem?_set_self hk)]
    simp
  · rw [if_neg e]
    unfold lastL
    rw [List.getElem?_mapIdx, List.getElem?_mapIdx, List.getElem?_set_ne e]
theorem set_same_b {F : List Bool} {k : Nat} {f : Bool} (h : F[k]? = some f) : F.set k f = F := by
  obtain ⟨hk, he⟩ := List.getElem?_eq_some_iff.1 h
  exact he ▸ List.set_getElem_self hk
theorem lastL_more {F : List Bool} {i : Nat} (h : F[i]? = some true) : (lastL F i).set i ⟨1, 2, 6⟩ = lastL F (i + 1) := by
  apply List.ext_getElem?
  intro j
  have hk := (List.getElem?_eq_some_iff.1 h).1
  rw [List.getElem?_set, lastL_len]
  by_cases e : i = j
  · subst e
    rw [if_pos rfl, if_pos hk, lastL_at h]
    simp
  · rw [if_neg e]
    unfold lastL
    rw [List.getElem?_mapIdx, List.getElem?_mapIdx]
    congr 1
    funext f
    cases f
    · rfl
    · by_cases h1 : j < i
      · simp [h1, show j < i + 1 by omega]
      · simp [h1, show ¬ j < i + 1 by omega]
theorem lastL_skip {F : List Bool} {i : Nat} (h : F[i]? = some false) : lastL F (i + 1) = lastL F i := by
  apply List.ext_getElem?
  intro j
  unfold lastL
  rw [List.getElem?_mapIdx, List.getElem?_mapIdx]
  by_cases e : i = j
  · subst e
    rw [h]; rfl
  · congr 1
    funext f
    cases f
    · rfl
    · by_cases h1 : j < i
      · simp [h1, show j < i + 1 by omega]
      · simp [h1, show ¬ j < i + 1 by omega]
theorem lastL_start (n : Nat) : lastL (List.replicate n false) 0 = freshL (fun _ => 5) n n := by
  apply List.ext_getElem?
  intro j
  by_cases h : j < n
  · rw [lastL_at (f := false) (by rw [List.getElem?_replicate, if_pos h]), freshL_at _ _ _ h]
    simp [h]
  · rw [List.getElem?_eq_none (by rw [lastL_len]; simp; omega), List.getElem?_eq_none (by rw [freshL_len]; omega)]
theorem live_all {l : List Sl} (h : ∀ s ∈ l, s.st ≠ 0) : liveN l = l.length := by
  unfold liveN
  rw [List.countP_eq_length]
  intro s hs
  simpa using h s hs
theorem lastL_live (F : List Bool) : liveN (lastL F F.length) = F.length := by
  rw [live_all, lastL_len]
  intro s hs
  obtain ⟨j, hj⟩ := List.mem_iff_getElem?.1 hs
  have hl := (List.getElem?_eq_some_iff.1 hj).1
  rw [lastL_len] at hl
  obtain ⟨f, hf⟩ : ∃ f, F[j]? = some f := ⟨F[j], List.getElem?_eq_getElem hl⟩
  rw [lastL_at hf] at hj
  cases hj
  cases f <;> simp [hl]
theorem good_at {L : List Sl} {k t : Nat} {s : Sl} (h : L[k]? = some s) (h0 : s.st ≠ 0) (ht : s.turn = t) : goodM L (k : Int) t = some s := by
  unfold goodM
  rw [taken_k h, if_neg h0]
  simp [Option.filter, ht]
theorem good_free {L : List Sl} {k t : Nat} {s : Sl} (h : L[k]? = some s) (h0 : s.st = 0) : goodM L (k : Int) t = none := by
  unfold goodM
  rw [taken_k h, if_pos h0]; rfl
theorem good_old {L : List Sl} {k t : Nat} {s : Sl} (h : L[k]? = some s) (ht : s.turn ≠ t) : goodM L (k : Int) t = none := by
  unfold goodM
  rw [taken_k h]
  by_cases z : s.st = 0 <;> simp [z, Option.filter, ht]
theorem last_end (w : World) (b k : Nat) (F : List Bool) (h : TabAt b w (lastL F 0)) (hk : F[k]? = some false) :
    Calls Try.prog 13 #[.pointer (some ⟨b, 0, none⟩), .agg #[.int .i64 (k : Int), .int .u64 1]] w fun r w' => r = .returned (.int .i64 0) ∧ TabTo b w w' (lastL (F.set k true) 0) := by
  have hs : (lastL F 0)[k]? = some ⟨1, 1, 5⟩ := lastL_at (i := 0) hk
  have := end_yes w b _ (k : Int) 1 ⟨1, 1, 5⟩ h (good_at hs (by decide) rfl)
  rw [show ((k : Int)).toNat = k by omega] at this
  rw [show (lastL F 0).set k (send ⟨1, 1, 5⟩) = lastL (F.set k true) 0 from lastL_gone hk] at this
  exact this
theorem last_end_no (w : World) (b k : Nat) (F : List Bool) (h : TabAt b w (lastL F 0)) (hk : F[k]? = some true) :
    Calls Try.prog 13 #[.pointer (some ⟨b, 0, none⟩), .agg #[.int .i64 (k : Int), .int .u64 1]] w fun r w' => r = .returned (.int .i64 25) ∧ w.grownBy w' none :=
  end_no w b _ (k : Int) 1 h (good_free (lastL_at (i := 0) hk) (by simp))
theorem last_begin (w : World) (b i : Nat) (F : List Bool) (h : TabAt b w (lastL F i)) (hi : F[i]? = some true) :
    Calls Try.prog 11 #[.pointer (some ⟨b, 0, none⟩), .int .u64 6] w fun r w' => r = .returned (.tuple #[.agg #[.int .i64 (i : Int), .int .u64 2], .int .i64 0]) ∧ TabTo b w w' (lastL F (i + 1)) := by
  have hl := (List.getElem?_eq_some_iff.1 hi).1
  have := begin_at w b (lastL F i) 6 i ⟨0, 1, 0⟩ h (fun j hj s hs => by
    obtain ⟨f, hf⟩ : ∃ f, F[j]? = some f := ⟨F[j], List.getElem?_eq_getElem (by omega)⟩
    rw [lastL_at hf] at hs
    cases hs
    cases f <;> simp [hj]) (by rw [lastL_at hi]; simp) rfl (by decide)
  rw [show (lastL F i).set i (sbeg ⟨0, 1, 0⟩ 6) = lastL F (i + 1) from lastL_more hi] at this
  exact this

end Go.Proofs.Ytoaglkbobndmeaa
