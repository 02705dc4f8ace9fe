/-
  The document's parsing: what its walk stands on. Own work.
-/
import Derived.Test.YtpjepdnkolbdhaaDoorNuU
import Derived.Test.YtpjepdnkolbdhaaDoorNuT
set_option linter.unusedVariables false
set_option linter.unusedSimpArgs false
namespace Go.Proofs.YtpjepdnkolbdhaaDoor
open Go.RowKit

theorem results_N142 {fn : Func} {p u : Tmp} (h : fn.results = #[.cell p 28, .tmp u]) (tmps : Array Value) (W : World) (q : Nat) (cs : Array Value) (e : Value) (hp : tmps.getD p undef = .pointer (some ⟨q, 0, none⟩)) (he : tmps.getD u undef = e)
    (hq : W.heap[q]? = some (.cells cs 28 (0, 0))) (hs : cs.size = 3) : (results fn tmps).run Tryd.prog W = .ok (.tuple #[.agg cs, e]) W := by
  have hld := run_loadVar_row (P := Tryd.prog) W q 28 28 cs (0, 0) _ hq Tryd.underlying28 rfl (by rw [hs]; kernel_rfl)
  have hp' : tmps[p]?.getD undef = .pointer (some ⟨q, 0, none⟩) := by simpa using hp
  have he' : tmps[u]?.getD undef = e := by simpa using he
  simp [results, h, hp', he', asAddr, hld]

/-- What the parsing holds: its answer's cell, and the number that it makes. -/
structure PW (w : World) (d : Bool) (D : Bs) (x : Int) (v : World) : Prop where
  n : RB (w.heap.size + 1) d D x v
  r : RB w.heap.size false [] 0 v
  g : Gr w v
theorem RB.set0 {q : Nat} {d : Bool} {A : Bs} {e : Int} {w : World} (h : RB q d A e w) (x : Bool) : RB q x A e (w.setCell ⟨q, 0, none⟩ (.bool x)) := by
  have := set_cell h 0 (.bool x); simpa [RB] using this
theorem RB.set1 {q : Nat} {d : Bool} {A : Bs} {e : Int} {w : World} (h : RB q d A e w) (x : Bs) : RB q d x e (w.setCell ⟨q, 1, none⟩ (.string (Sx x))) := by
  have := set_cell h 1 (.string (Sx x)); simpa [RB] using this
theorem RB.set2 {q : Nat} {d : Bool} {A : Bs} {e : Int} {w : World} (h : RB q d A e w) (x : Int) : RB q d A x (w.setCell ⟨q, 2, none⟩ (.int .i64 x)) := by
  have := set_cell h 2 (.int .i64 x); simpa [RB] using this
theorem RB.other {p q : Nat} {d : Bool} {A : Bs} {e : Int} {w : World} (h : RB q d A e w) (hne : p ≠ q) (o : Nat) (v : Value) : RB q d A e (w.setCell ⟨p, o, none⟩ v) := (set_other hne o v).trans h
theorem PW.set0 {w v : World} {d : Bool} {D : Bs} {x : Int} (h : PW w d D x v) (b : Bool) : PW w b D x (v.setCell ⟨w.heap.size + 1, 0, none⟩ (.bool b)) := ⟨h.n.set0 b, h.r.other (by omega) _ _, gr_set h.g (Nat.le_succ _) _ _⟩
theorem PW.set1 {w v : World} {d : Bool} {D : Bs} {x : Int} (h : PW w d D x v) (b : Bs) : PW w d b x (v.setCell ⟨w.heap.size + 1, 1, none⟩ (.string (Sx b))) := ⟨h.n.set1 b, h.r.other (by omega) _ _, gr_set h.g (Nat.le_succ _) _ _⟩
theorem PW.set2 {w v : World} {d : Bool} {D : Bs} {x : Int} (h : PW w d D x v) (b : Int) : PW w d D b (v.setCell ⟨w.heap.size + 1, 2, none⟩ (.int .i64 b)) := ⟨h.n.set2 b, h.r.other (by omega) _ _, gr_set h.g (Nat.le_succ _) _ _⟩
theorem PW.gr {w v u : World} {d : Bool} {D : Bs} {x : Int} (h : PW w d D x v) (g : Gr v u) : PW w d D x u := ⟨h.n.gr g, h.r.gr g, gtrans h.g g⟩

/-! Plain. -/
theorem gath_len {s : Bs} : ∀ (D : Bs) (d : Bool), (s.foldl gath (d, D)).2.length ≤ D.length + s.length := by
  induction s with
  | nil => intro D d; simp
  | cons b s ih =>
    intro D d
    rw [List.foldl_cons]
    have := ih (gath (d, D) b).2 (gath (d, D) b).1
    have h1 : (gath (d, D) b).2.length ≤ D.length + 1 := by
      unfold gath; split
      · simp
      · split <;> simp
    simp only [List.length_cons]
    have e : ((gath (d, D) b).1, (gath (d, D) b).2) = gath (d, D) b := rfl
    rw [e] at this; omega
theorem tail_bytes {s : Bs} (h : okN s = true) : ∀ b ∈ s.drop (exI s + 1), b = 43 ∨ b = 45 ∨ 48 ≤ b.toNat := by
  intro b hb
  rw [← List.drop_drop, drop_exI] at hb
  have h6 := ok_s6 h
  by_cases g : ex s = true
  · obtain ⟨e, sg, -, hsg, -, h3⟩ := s3_ex s g
    rw [h3, h6, List.append_nil] at hb
    simp only [List.drop_succ_cons, List.drop_zero, List.mem_append] at hb
    rcases hb with hb | hb
    · rcases hsg with rfl | rfl | rfl
      · cases hb
      · simp at hb; exact .inr (.inl hb)
      · simp at hb; exact .inl hb
    · have := List.all_eq_true.1 (pw_all s) _ hb
      have := dig_bd this
      exact .inr (.inr (by omega))
  · simp only [Bool.not_eq_true] at g
    rw [s3_nex s g, h6] at hb; simp at hb
theorem more_bd : ∀ (l : Bs) (u : Bool) (m : Nat), m ≤ 1000000 → (l.foldl more (u, m)).2 ≤ 1000000
  | [], _, _, h => h
  | b :: l, u, m, h => by
    rw [List.foldl_cons]
    have h1 : (more (u, m) b).2 ≤ 1000000 := by
      unfold more; split
      · exact h
      · split
        · exact Nat.min_le_right _ _
        · exact h
    exact more_bd l (more (u, m) b).1 (more (u, m) b).2 h1
theorem rt_last {D : Bs} {j : Nat} (hj : D.length = j + 1) (h : D[j]'(by omega) = 48) : D = D.take j ++ [48] := by
  have h1 : D = D.take j ++ D.drop j := (List.take_append_drop j D).symm
  have h2 : D.drop j = [48] := by
    rw [List.drop_eq_getElem_cons (by omega), h, List.drop_of_length_le (by omega)]
  rw [h2] at h1; exact h1
theorem rt_stop {D : Bs} {j : Nat} (hj : D.length = j + 1) (h : D[j]'(by omega) ≠ 48) : rtrim0 D = D := by
  have hne : D ≠ [] := fun e => by rw [e] at hj; simp at hj
  refine (rtrim_last D hne).2 ?_
  rw [List.getLast_eq_getElem]
  have : D.length - 1 = j := by omega
  simp only [this]; exact h
/-- How long the digits in a cell are. -/
def cellSz (q : Nat) (v : World) : Nat := match v.cell? ⟨q, 1, none⟩ with
  | some (.string S) => S.size
  | _ => 0
theorem RB.sz {q : Nat} {d : Bool} {A : Bs} {e : Int} {w : World} (h : RB q d A e w) : cellSz q w = A.length := by
  unfold cellSz; rw [(cells3 h).2.1]; rfl
theorem take_snoc {s : Bs} {k : Nat} (h : k < s.length) : s.take (k + 1) = s.take k ++ [s[k]] := List.take_succ_eq_append_getElem h
theorem gath_step {s : Bs} {k : Nat} (h : k < s.length) {d : Bool} {D : Bs} (e : (s.take k).foldl gath (false, []) = (d, D)) : (s.take (k + 1)).foldl gath (false, []) = gath (d, D) s[k] := by
  rw [take_snoc h, List.foldl_append, e]; rfl
theorem more_step {l : Bs} {k : Nat} (h : k < l.length) {u : Bool} {m : Nat} (e : (l.take k).foldl more (false, 0) = (u, m)) : (l.take (k + 1)).foldl more (false, 0) = more (u, m) l[k] := by
  rw [take_snoc h, List.foldl_append, e]; rfl
theorem byte_is {s : Bs} {k : Nat} (h : k < s.length) (hx : k < (Sx s).size) (c : UInt8) : ((((Sx s)[k]'hx).toNat : Int) == (c.toNat : Int)) = decide (s[k] = c) := by
  rw [Sx_at, Bool.eq_iff_iff, beq_iff_eq, decide_eq_true_eq, ← UInt8.toNat_inj]; omega
theorem byte_no {s : Bs} {k : Nat} (h : k < s.length) (hx : k < (Sx s).size) (c : UInt8) : ((((Sx s)[k]'hx).toNat : Int) != (c.toNat : Int)) = !decide (s[k] = c) := by
  rw [← byte_is h hx c]; rfl
theorem one_at {s : Bs} {k : Nat} (h : k < s.length) : (Sx s).extract k (k + 1) = Sx [s[k]] := by
  apply ByteArray.ext; apply Array.ext'
  simp only [Sx, ByteArray.data_extract, Array.toList_extract, List.extract_eq_take_drop]
  rw [show k + 1 - k = 1 by omega, List.drop_eq_getElem_cons h]; rfl

end Go.Proofs.YtpjepdnkolbdhaaDoor
