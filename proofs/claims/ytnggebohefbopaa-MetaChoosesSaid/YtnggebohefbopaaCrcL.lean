/-
  Of at rows that a call lays out (one, two, three of them). Own work.
-/
import Derived.Test.YtnggebohefbopaaCrcB
namespace Go.Proofs.Ytnggebohefbopaa
open Go.RowKit

theorem of_lit (w : World) (C : Array Value) (t : TypeId) (ls : List (List Int)) (n : Nat) (hn : n = ls.length) (hl : n ≤ 100)
    (hC : ∀ j, j < n → ∃ vj, C[j]? = some vj ∧ Seq w.heap.size w vj (ls.getD j [])) (hb : ∀ l ∈ ls, Byt l) :
    Calls Try.prog 28 #[.slice (some ⟨w.heap.size, 0, none⟩) n n] (w.alloc (.cells C t)) fun r w' => r = .returned (.int .u32 ((crcN ls.flatten : Nat) : Int)) ∧ (w.alloc (.cells C t)).grownBy w' none := by
  subst hn
  have hsz : (w.alloc (.cells C t)).heap.size = w.heap.size + 1 := by simp
  refine of_any _ _ ls ⟨_, _, rfl, by omega, fun _ => ⟨w.heap.size, 0, rfl, by rw [hsz]; omega, fun j hj => ?_⟩⟩ hb
  obtain ⟨vj, h1, h2⟩ := hC j hj
  refine ⟨vj, ?_, ?_⟩
  · rw [Nat.zero_add, World.cell?_alloc_mark]; exact h1
  · rw [hsz]
    exact (h2.below (fun i hi => Below.heap_alloc w _ i hi)).mono (by omega)

/-- The world behind a literal row and a call that leaves new blocks alone. -/
theorem glit {a b c : World} {o : Obj} (h : a.grownBy b none) (k : (b.alloc o).grownBy c none) : a.grownBy c none := gtrans h (gtrans (World.grownBy_alloc _ _ _) k)
theorem glit0 {b c : World} {o : Obj} (k : (b.alloc o).grownBy c none) : b.grownBy c none := gtrans (World.grownBy_alloc _ _ _) k
theorem Seq.grown {w w' : World} {v : Value} {bs : List Int} (h : Seq w.heap.size w v bs) (k : w.grownBy w' none) : Seq w'.heap.size w' v bs :=
  (h.below (fun i hi => k.block i hi (by simp))).mono k.size

/-- Of at a row of rows that lies whole in a block of its own, wherever that block lies. -/
theorem of_blk (W : World) (q : Nat) (C : Array Value) (t : TypeId) (fr : Nat × Nat) (ls : List (List Int)) (n : Nat) (hq : W.heap[q]? = some (.cells C t fr)) (hn : n = ls.length) (hl : n ≤ 100)
    (hC : ∀ j, j < n → ∃ vj, C[j]? = some vj ∧ Seq W.heap.size W vj (ls.getD j [])) (hb : ∀ l ∈ ls, Byt l) :
    Calls Try.prog 28 #[.slice (some ⟨q, 0, none⟩) n n] W fun r w' => r = .returned (.int .u32 ((crcN ls.flatten : Nat) : Int)) ∧ W.grownBy w' none := by
  subst hn
  refine of_any _ _ ls ⟨_, _, rfl, by omega, fun _ => ⟨q, 0, rfl, lt_of_block hq, fun j hj => ?_⟩⟩ hb
  obtain ⟨vj, h1, h2⟩ := hC j hj
  refine ⟨vj, ?_, h2⟩
  rw [Nat.zero_add, cell_of_row W q j C t fr hq]; exact h1
theorem ofb1 {W : World} {q : Nat} {t : TypeId} {fr : Nat × Nat} {v : Value} {l : List Int} (hq : W.heap[q]? = some (.cells #[v] t fr)) (h : Seq W.heap.size W v l) (hb : Byt l) :
    Calls Try.prog 28 #[.slice (some ⟨q, 0, none⟩) 1 1] W fun r w' => r = .returned (.int .u32 ((crcN l : Nat) : Int)) ∧ W.grownBy w' none := by
  have := of_blk W q #[v] t fr [l] 1 hq rfl (by decide) (fun j hj => match j, hj with | 0, _ => ⟨v, rfl, h⟩) (by simpa using hb)
  simpa only [List.flatten_cons, List.flatten_nil, List.append_nil] using this
theorem ofb3 {W : World} {q : Nat} {t : TypeId} {fr : Nat × Nat} {v0 v1 v2 : Value} {l0 l1 l2 : List Int} (hq : W.heap[q]? = some (.cells #[v0, v1, v2] t fr)) (h0 : Seq W.heap.size W v0 l0) (h1 : Seq W.heap.size W v1 l1) (h2 : Seq W.heap.size W v2 l2) (hb0 : Byt l0) (hb1 : Byt l1) (hb2 : Byt l2) :
    Calls Try.prog 28 #[.slice (some ⟨q, 0, none⟩) 3 3] W fun r w' => r = .returned (.int .u32 ((crcN (l0 ++ (l1 ++ l2)) : Nat) : Int)) ∧ W.grownBy w' none := by
  have := of_blk W q #[v0, v1, v2] t fr [l0, l1, l2] 3 hq rfl (by decide) (fun j hj => match j, hj with | 0, _ => ⟨v0, rfl, h0⟩ | 1, _ => ⟨v1, rfl, h1⟩ | 2, _ => ⟨v2, rfl, h2⟩) (fun l hl => by simp at hl; rcases hl with rfl | rfl | rfl <;> assumption)
  simpa only [List.flatten_cons, List.flatten_nil, List.append_nil] using this

theorem of1 {w : World} {t : TypeId} {v : Value} {l : List Int} {q : Nat} (hq : q = w.heap.size) (h : Seq w.heap.size w v l) (hb : Byt l) :
    Calls Try.prog 28 #[.slice (some ⟨q, 0, none⟩) 1 1] (w.alloc (.cells #[v] t)) fun r w' => r = .returned (.int .u32 ((crcN l : Nat) : Int)) ∧ w.grownBy w' none := by
  subst hq
  have := of_lit w #[v] t [l] 1 rfl (by decide) (fun j hj => match j, hj with | 0, _ => ⟨v, rfl, h⟩) (by simpa using hb)
  simp only [List.flatten_cons, List.flatten_nil, List.append_nil] at this
  exact this.mono fun r w' ⟨h1, h2⟩ => ⟨h1, glit0 h2⟩
theorem of2 {w : World} {t : TypeId} {v0 v1 : Value} {l0 l1 : List Int} {q : Nat} (hq : q = w.heap.size) (h0 : Seq w.heap.size w v0 l0) (h1 : Seq w.heap.size w v1 l1) (hb0 : Byt l0) (hb1 : Byt l1) :
    Calls Try.prog 28 #[.slice (some ⟨q, 0, none⟩) 2 2] (w.alloc (.cells #[v0, v1] t)) fun r w' => r = .returned (.int .u32 ((crcN (l0 ++ l1) : Nat) : Int)) ∧ w.grownBy w' none := by
  subst hq
  have := of_lit w #[v0, v1] t [l0, l1] 2 rfl (by decide) (fun j hj => match j, hj with | 0, _ => ⟨v0, rfl, h0⟩ | 1, _ => ⟨v1, rfl, h1⟩) (fun l hl => by simp at hl; rcases hl with rfl | rfl <;> assumption)
  simp only [List.flatten_cons, List.flatten_nil, List.append_nil] at this
  exact this.mono fun r w' ⟨h1, h2⟩ => ⟨h1, glit0 h2⟩
theorem of3 {w : World} {t : TypeId} {v0 v1 v2 : Value} {l0 l1 l2 : List Int} {q : Nat} (hq : q = w.heap.size) (h0 : Seq w.heap.size w v0 l0) (h1 : Seq w.heap.size w v1 l1) (h2 : Seq w.heap.size w v2 l2) (hb0 : Byt l0) (hb1 : Byt l1) (hb2 : Byt l2) :
    Calls Try.prog 28 #[.slice (some ⟨q, 0, none⟩) 3 3] (w.alloc (.cells #[v0, v1, v2] t)) fun r w' => r = .returned (.int .u32 ((crcN (l0 ++ (l1 ++ l2)) : Nat) : Int)) ∧ w.grownBy w' none := by
  subst hq
  have := of_lit w #[v0, v1, v2] t [l0, l1, l2] 3 rfl (by decide) (fun j hj => match j, hj with | 0, _ => ⟨v0, rfl, h0⟩ | 1, _ => ⟨v1, rfl, h1⟩ | 2, _ => ⟨v2, rfl, h2⟩) (fun l hl => by simp at hl; rcases hl with rfl | rfl | rfl <;> assumption)
  simp only [List.flatten_cons, List.flatten_nil, List.append_nil] at this
  exact this.mono fun r w' ⟨h1, h2⟩ => ⟨h1, glit0 h2⟩
theorem of0 (w : World) : Calls Try.prog 28 #[.slice none 0 0] w fun r w' => r = .returned (.int .u32 0) ∧ w.grownBy w' none :=
  of_any w _ [] ⟨none, 0, rfl, by simp, fun h => absurd rfl h⟩ (by simp)

/-- A literal row of bytes reads as what was written. -/
theorem lit_seq {w : World} {t : TypeId} {fr : Nat × Nat} {C : Array Value} {xs : List Int} {n q : Nat} (hq : q = w.heap.size) (hn : n = xs.length) (hm : n ≤ maxLen) (hC : ∀ j, j < n → C[j]? = some (.int .u8 (xs.getD j 0))) :
    Seq (w.alloc (.cells C t fr)).heap.size (w.alloc (.cells C t fr)) (.slice (some ⟨q, 0, none⟩) n n) xs := by
  subst hq hn
  refine ⟨_, xs.length, rfl, Nat.le_refl _, hm, by simp, fun _ => ⟨w.heap.size, 0, rfl, by simp, fun j hj => ?_⟩⟩
  rw [Nat.zero_add, World.cell?_alloc_mark]; exact hC j hj

end Go.Proofs.Ytnggebohefbopaa
