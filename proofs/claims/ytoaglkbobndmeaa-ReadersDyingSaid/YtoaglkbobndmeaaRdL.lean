/-
  Layer 9: the lists of ReadersDying. Own work.
-/
import Derived.Test.YtoaglkbobndmeaaRdK
namespace Go.Proofs.Ytoaglkbobndmeaa
open Go.RowKit

/-- Those below i that p tells are dead. -/
def dyG (f : Nat → Nat) (p : Nat → Bool) (i : Nat) : Nat → Sl := fun j => if j < i && p j then ⟨2, 1, f j⟩ else ⟨1, 1, f j⟩
def dieM (p : Nat → Bool) (i : Nat) : Nat := (List.range i).countP p
theorem dieM_more (p : Nat → Bool) (i : Nat) : dieM p (i + 1) = if p i then dieM p i + 1 else dieM p i := by
  unfold dieM; rw [List.range_succ, List.countP_append]; cases h : p i <;> simp [h]
theorem dieM_le (p : Nat → Bool) (i : Nat) : dieM p i ≤ i := by
  unfold dieM; have := List.countP_le_length (p := p) (l := List.range i); simpa using this
theorem many_die (p : Nat → Bool) : ∀ i, manyM p i = i - dieM p i
  | 0 => rfl
  | i + 1 => by
    rw [manyM_more, dieM_more, many_die p i]
    have := dieM_le p i
    cases p i <;> simp <;> omega
theorem dyG_zero (f : Nat → Nat) (p : Nat → Bool) (m n : Nat) : genL (dyG f p 0) m n = freshL f m n := genL_ext fun j _ => by simp [dyG]
theorem dyG_skip {f : Nat → Nat} {p : Nat → Bool} {i : Nat} (h : p i = false) (m n : Nat) : genL (dyG f p (i + 1)) m n = genL (dyG f p i) m n := genL_ext fun j _ => by
  unfold dyG
  by_cases e : j = i
  · subst e; simp [h]
  · by_cases e1 : j < i
    · simp [e1, show j < i + 1 by omega]
    · simp [e1, show ¬ j < i + 1 by omega]
theorem dyG_dead {f : Nat → Nat} {p : Nat → Bool} {i m n : Nat} (h : p i = true) (hi : i < m) (hm : m ≤ n) : (genL (dyG f p i) m n).set i ⟨2, 1, f i⟩ = genL (dyG f p (i + 1)) m n := by
  rw [genL_set _ hi hm]
  refine genL_ext fun j _ => ?_
  unfold dyG
  by_cases e : j = i
  · subst e; simp [h]
  · by_cases e1 : j < i
    · simp [e, e1, show j < i + 1 by omega]
    · simp [e, e1, show ¬ j < i + 1 by omega]
theorem dy_at {f : Nat → Nat} {p : Nat → Bool} {i j m n : Nat} (hj : j < m) (hm : m ≤ n) : ∃ s, (genL (dyG f p i) m n)[j]? = some s ∧ s.st ≠ 0 ∧ s.turn = 1 ∧ s.rd = f j := by
  rw [genL_at (by omega), if_pos hj]
  refine ⟨_, rfl, ?_⟩
  unfold dyG
  split <;> simp
theorem dy_dead (w : World) (b i m n : Nat) (f : Nat → Nat) (p : Nat → Bool) (h : TabAt b w (genL (dyG f p i) m n)) (hp : p i = true) (hi : i < m) (hm : m ≤ n) :
    Calls Try.prog 15 #[.pointer (some ⟨b, 0, none⟩), .int .i64 (i : Int)] w fun r w' => r = .returned (.bool true) ∧ TabTo b w w' (genL (dyG f p (i + 1)) m n) := by
  have hs : (genL (dyG f p i) m n)[i]? = some ⟨1, 1, f i⟩ := by
    rw [genL_at (by omega), if_pos hi]
    simp [dyG]
  have := dead_yes w b _ (i : Int) ⟨1, 1, f i⟩ h (by rw [taken_k hs]; simp)
  rw [show ((i : Int)).toNat = i by omega] at this
  rw [show (genL (dyG f p i) m n).set i (sdead ⟨1, 1, f i⟩) = genL (dyG f p (i + 1)) m n from dyG_dead hp hi hm] at this
  exact this
theorem dy_txn (w : World) (b i j m n y : Nat) (f : Nat → Nat) (p : Nat → Bool) (h : TabAt b w (genL (dyG f p i) m n)) (hj : j < m) (hm : m ≤ n) (hy : f j = y) :
    Calls Try.prog 19 #[.pointer (some ⟨b, 0, none⟩), .agg #[.int .i64 (j : Int), .int .u64 1]] w fun r w' => r = .returned (.tuple #[.int .u64 (y : Int), .int .i64 0]) ∧ w.grownBy w' none := by
  obtain ⟨⟨st, tu, rd⟩, hs, h0, ht, hr⟩ := dy_at (f := f) (p := p) (i := i) hj hm
  have e : rd = y := hr.trans hy
  subst e
  exact txn_any w b _ (j : Int) 1 h (some ⟨st, tu, rd⟩) (good_at hs h0 ht)
theorem dy_oldest (w : World) (b m n y : Nat) (x : Int) (X : Nat) (hx : x = (X : Int)) (f : Nat → Nat) (p : Nat → Bool) (h : TabAt b w (genL (dyG f p m) m n)) (hm : m ≤ n) (hy : wantM f (fun _ => false) m X = y) :
    Calls Try.prog 21 #[.pointer (some ⟨b, 0, none⟩), .int .u64 x] w fun r w' => r = .returned (.int .u64 (y : Int)) ∧ w = w' := by
  subst hx
  have := oldest_any w b _ X h
  rw [genL_old _ _ _ _ hm] at this
  rw [show (List.range m).foldl (fun a j => if (dyG f p m j).st = 0 then a else min a (dyG f p m j).rd) X = y from by
    rw [← hy]
    unfold wantM
    congr 1
    funext a j
    unfold dyG
    split <;> simp] at this
  exact this
theorem dy_clear (w : World) (b m n y : Nat) (f : Nat → Nat) (p : Nat → Bool) (h : TabAt b w (genL (dyG f p m) m n)) (hm : m ≤ n) (hy : dieM p m = y) :
    Calls Try.prog 17 #[.pointer (some ⟨b, 0, none⟩)] w fun r w' => r = .returned (.int .i64 (y : Int)) ∧ TabTo b w w' (genL (leftG f p m) m n) := by
  have := clear_any w b _ h
  rw [genL_dead _ _ _ hm, genL_clear] at this
  rw [show (List.range m).countP (fun j => (dyG f p m j).st == 2) = y from by
    rw [← hy]
    unfold dieM
    refine List.countP_congr fun j hj => ?_
    have hj' : j < m := List.mem_range.1 hj
    cases hp : p j <;> simp [dyG, hp, hj']] at this
  rw [show genL (fun j => clrM (dyG f p m j)) m n = genL (leftG f p m) m n from genL_ext fun j hj => by
    cases hp : p j <;> simp [dyG, leftG, clrM, send, hp, hj]] at this
  exact this
theorem left_clear (w : World) (b m n : Nat) (f : Nat → Nat) (p : Nat → Bool) (h : TabAt b w (genL (leftG f p m) m n)) (hm : m ≤ n) :
    Calls Try.prog 17 #[.pointer (some ⟨b, 0, none⟩)] w fun r w' => r = .returned (.int .i64 0) ∧ TabTo b w w' (genL (leftG f p m) m n) := by
  have := clear_any w b _ h
  rw [genL_dead _ _ _ hm, genL_clear] at this
  rw [show (List.range m).countP (fun j => (leftG f p m j).st == 2) = 0 from by
    rw [List.countP_eq_zero]
    intro j _
    unfold leftG
    split <;> simp] at this
  rw [show genL (fun j => clrM (leftG f p m j)) m n = genL (leftG f p m) m n from genL_ext fun j _ => by
    unfold leftG
    split <;> simp [clrM]] at this
  exact this
theorem left_oldest' (w : World) (b m n : Nat) (x : Int) (X : Nat) (hx : x = (X : Int)) (f : Nat → Nat) (p : Nat → Bool) (y : Nat) (h : TabAt b w (genL (leftG f p m) m n)) (hm : m ≤ n) (hy : wantM f p m X = y) :
    Calls Try.prog 21 #[.pointer (some ⟨b, 0, none⟩), .int .u64 x] w fun r w' => r = .returned (.int .u64 (y : Int)) ∧ w = w' := by
  subst hx
  exact left_oldest w b m n X f p y h hm hy

end Go.Proofs.Ytoaglkbobndmeaa
