/-
  Layer 9: the lists of ReadersOldest and ReadersDying. Own work.
-/
import Derived.Test.YtoaglkbobndmeaaRdI
namespace Go.Proofs.Ytoaglkbobndmeaa
open Go.RowKit

theorem u8_one (x r : Nat) (h : x < 256) (hr : r = x % 2) : bits BinOp.and IntKind.u8 (x : Int) 1 = (r : Int) := by
  rw [show (1 : Int) = ((1 : Nat) : Int) from rfl, u8_and_nat x 1 h (by decide), Nat.and_one_is_mod, hr]
theorem fold_stop {α : Type} (F H : α → Nat → α) (m : Nat) (h1 : ∀ a j, j < m → F a j = H a j) (h2 : ∀ a j, m ≤ j → F a j = a) (x : α) : ∀ k, (List.range k).foldl F x = (List.range (min k m)).foldl H x
  | 0 => by simp
  | k + 1 => by
    rw [List.range_succ, List.foldl_append, fold_stop F H m h1 h2 x k]
    by_cases h : k < m
    · rw [Nat.min_eq_left (Nat.le_of_lt h), Nat.min_eq_left h, List.range_succ, List.foldl_append]
      simp [h1 _ _ h]
    · rw [Nat.min_eq_right (Nat.le_of_not_lt h), Nat.min_eq_right (by omega)]
      simp [h2 _ _ (Nat.le_of_not_lt h)]
theorem count_stop (P Q : Nat → Bool) (m : Nat) (h1 : ∀ j, j < m → P j = Q j) (h2 : ∀ j, m ≤ j → P j = false) : ∀ k, (List.range k).countP P = (List.range (min k m)).countP Q
  | 0 => by simp
  | k + 1 => by
    rw [List.range_succ, List.countP_append, count_stop P Q m h1 h2 k]
    by_cases h : k < m
    · rw [Nat.min_eq_left (Nat.le_of_lt h), Nat.min_eq_left h, List.range_succ, List.countP_append]
      simp [h1 _ h]
    · rw [Nat.min_eq_right (Nat.le_of_not_lt h), Nat.min_eq_right (by omega)]
      simp [h2 _ (Nat.le_of_not_lt h)]

/-- A table of n slots whose first m have had a reader each. -/
def genL (g : Nat → Sl) (m n : Nat) : List Sl := (List.range n).map fun j => if j < m then g j else slz
theorem genL_len (g : Nat → Sl) (m n : Nat) : (genL g m n).length = n := by simp [genL]
theorem genL_at {g : Nat → Sl} {m n j : Nat} (h : j < n) : (genL g m n)[j]? = some (if j < m then g j else slz) := by
  unfold genL; rw [List.getElem?_map, List.getElem?_range h]; rfl
theorem genL_ext {g g' : Nat → Sl} {m n : Nat} (h : ∀ j, j < m → g j = g' j) : genL g m n = genL g' m n := by
  unfold genL
  apply List.map_congr_left
  intro j _
  by_cases e : j < m
  · simp [e, h j e]
  · simp [e]
theorem genL_set {g : Nat → Sl} {m n i : Nat} (s : Sl) (h : i < m) (hm : m ≤ n) : (genL g m n).set i s = genL (fun j => if j = i then s else g j) m n := by
  apply List.ext_getElem?
  intro j
  rw [List.getElem?_set, genL_len]
  by_cases hj : j < n
  · rw [genL_at hj, genL_at hj]
    by_cases e : i = j
    · subst e; simp [h, hj]
    · have e' : ¬ j = i := fun q => e q.symm
      simp [e, e']
  · rw [if_neg (by omega), List.getElem?_eq_none (by rw [genL_len]; omega), List.getElem?_eq_none (by rw [genL_len]; omega)]
theorem genL_old (g : Nat → Sl) (m n x : Nat) (h : m ≤ n) : oldM (genL g m n) x = (List.range m).foldl (fun a j => if (g j).st = 0 then a else min a (g j).rd) x := by
  unfold oldM genL
  rw [List.foldl_map, fold_stop _ (fun a j => if (g j).st = 0 then a else min a (g j).rd) m _ _ x n, Nat.min_eq_right h]
  · intro a j hj; simp [hj]
  · intro a j hj; simp [Nat.not_lt.2 hj, slz]
theorem genL_live (g : Nat → Sl) (m n : Nat) (h : m ≤ n) : liveN (genL g m n) = (List.range m).countP (fun j => (g j).st != 0) := by
  unfold liveN genL
  rw [List.countP_map, count_stop _ (fun j => (g j).st != 0) m _ _ n, Nat.min_eq_right h]
  · intro j hj; simp [hj]
  · intro j hj; simp [Nat.not_lt.2 hj, slz]
theorem genL_dead (g : Nat → Sl) (m n : Nat) (h : m ≤ n) : deadN (genL g m n) = (List.range m).countP (fun j => (g j).st == 2) := by
  unfold deadN genL
  rw [List.countP_map, count_stop _ (fun j => (g j).st == 2) m _ _ n, Nat.min_eq_right h]
  · intro j hj; simp [hj]
  · intro j hj; simp [Nat.not_lt.2 hj, slz]
theorem genL_clear (g : Nat → Sl) (m n : Nat) : (genL g m n).map clrM = genL (fun j => clrM (g j)) m n := by
  unfold genL
  rw [List.map_map]
  apply List.map_congr_left
  intro j _
  by_cases e : j < m
  · simp [e]
  · simp [e, clrM, slz]

/-! ### ReadersOldest -/
/-- Those below i that p tells have gone. -/
def leftG (f : Nat → Nat) (p : Nat → Bool) (i : Nat) : Nat → Sl := fun j => if j < i && p j then ⟨0, 1, 0⟩ else ⟨1, 1, f j⟩
def wantM (f : Nat → Nat) (p : Nat → Bool) (i x : Nat) : Nat := (List.range i).foldl (fun a j => if p j then a else min a (f j)) x
def manyM (p : Nat → Bool) (i : Nat) : Nat := (List.range i).countP (fun j => !p j)
theorem wantM_more (f : Nat → Nat) (p : Nat → Bool) (i x : Nat) : wantM f p (i + 1) x = if p i then wantM f p i x else min (wantM f p i x) (f i) := by
  unfold wantM; rw [List.range_succ, List.foldl_append]; rfl
theorem manyM_more (p : Nat → Bool) (i : Nat) : manyM p (i + 1) = if p i then manyM p i else manyM p i + 1 := by
  unfold manyM; rw [List.range_succ, List.countP_append]; cases h : p i <;> simp [h]
theorem manyM_le (p : Nat → Bool) (i : Nat) : manyM p i ≤ i := by
  unfold manyM; have := List.countP_le_length (p := fun j => !p j) (l := List.range i); simpa using this
theorem leftG_zero (f : Nat → Nat) (p : Nat → Bool) (m n : Nat) : genL (leftG f p 0) m n = freshL f m n := genL_ext fun j _ => by simp [leftG]
theorem leftG_skip {f : Nat → Nat} {p : Nat → Bool} {i : Nat} (h : p i = false) (m n : Nat) : genL (leftG f p (i + 1)) m n = genL (leftG f p i) m n := genL_ext fun j _ => by
  unfold leftG
  by_cases e : j = i
  · subst e; simp [h]
  · by_cases e1 : j < i
    · simp [e1, show j < i + 1 by omega]
    · simp [e1, show ¬ j < i + 1 by omega]
theorem leftG_gone {f : Nat → Nat} {p : Nat → Bool} {i m n : Nat} (h : p i = true) (hi : i < m) (hm : m ≤ n) : (genL (leftG f p i) m n).set i ⟨0, 1, 0⟩ = genL (leftG f p (i + 1)) m n := by
  rw [genL_set _ hi hm]
  refine genL_ext fun j _ => ?_
  unfold leftG
  by_cases e : j = i
  · subst e; simp [h]
  · by_cases e1 : j < i
    · simp [e, e1, show j < i + 1 by omega]
    · simp [e, e1, show ¬ j < i + 1 by omega]
theorem left_end (w : World) (b i m n : Nat) (f : Nat → Nat) (p : Nat → Bool) (h : TabAt b w (genL (leftG f p i) m n)) (hp : p i = true) (hi : i < m) (hm : m ≤ n) :
    Calls Try.prog 13 #[.pointer (some ⟨b, 0, none⟩), .agg #[.int .i64 (i : Int), .int .u64 1]] w fun r w' => r = .returned (.int .i64 0) ∧ TabTo b w w' (genL (leftG f p (i + 1)) m n) := by
  have hs : (genL (leftG f p i) m n)[i]? = some ⟨1, 1, f i⟩ := by
    rw [genL_at (by omega), if_pos hi]
    simp [leftG]
  have := end_yes w b _ (i : Int) 1 ⟨1, 1, f i⟩ h (good_at hs (by simp) rfl)
  rw [show ((i : Int)).toNat = i by omega] at this
  rw [show (genL (leftG f p i) m n).set i (send ⟨1, 1, f i⟩) = genL (leftG f p (i + 1)) m n from leftG_gone hp hi hm] at this
  exact this
theorem left_oldest (w : World) (b m n x : Nat) (f : Nat → Nat) (p : Nat → Bool) (y : Nat) (h : TabAt b w (genL (leftG f p m) m n)) (hm : m ≤ n) (hy : wantM f p m x = y) :
    Calls Try.prog 21 #[.pointer (some ⟨b, 0, none⟩), .int .u64 (x : Int)] w fun r w' => r = .returned (.int .u64 (y : Int)) ∧ w = w' := by
  have := oldest_any w b _ x h
  rw [genL_old _ _ _ _ hm] at this
  rw [show (List.range m).foldl (fun a j => if (leftG f p m j).st = 0 then a else min a (leftG f p m j).rd) x = y from by
    rw [← hy]
    unfold wantM
    have := fold_stop (fun a j => if (leftG f p m j).st = 0 then a else min a (leftG f p m j).rd) (fun a j => if p j then a else min a (f j)) m
    have h2 : ∀ k, k ≤ m → (List.range k).foldl (fun a j => if (leftG f p m j).st = 0 then a else min a (leftG f p m j).rd) x = (List.range k).foldl (fun a j => if p j then a else min a (f j)) x := by
      intro k
      induction k with
      | zero => intro _; rfl
      | succ k ih =>
        intro hk
        rw [List.range_succ, List.foldl_append, List.foldl_append, ih (by omega)]
        cases hp : p k <;> simp [leftG, hp, show k < m by omega]
    exact h2 m (Nat.le_refl _)] at this
  exact this
theorem left_live (w : World) (b m n : Nat) (f : Nat → Nat) (p : Nat → Bool) (y : Nat) (h : TabAt b w (genL (leftG f p m) m n)) (hm : m ≤ n) (hy : manyM p m = y) :
    Calls Try.prog 23 #[.pointer (some ⟨b, 0, none⟩)] w fun r w' => r = .returned (.int .i64 (y : Int)) ∧ w = w' := by
  have := live_any w b _ h
  rw [genL_live _ _ _ hm] at this
  rw [show (List.range m).countP (fun j => (leftG f p m j).st != 0) = y from by
    rw [← hy]
    unfold manyM
    refine List.countP_congr fun j hj => ?_
    have hj' : j < m := List.mem_range.1 hj
    cases hp : p j <;> simp [leftG, hp, hj']] at this
  exact this

theorem new126 (w : World) : Calls Try.prog 9 #[.int .i64 126] w fun r w' => X9New w (List.replicate 126 slz) r w' := new9_ex w 126 (by decide) (by decide)

end Go.Proofs.Ytoaglkbobndmeaa
