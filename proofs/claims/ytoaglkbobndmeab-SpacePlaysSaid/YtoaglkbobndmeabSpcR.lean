/-
  Layer 8: the document's example. Own work.
-/
import Derived.Test.YtoaglkbobndmeabSpcQ
namespace Go.Proofs.Ytoaglkbobndmeab
open Go.RowKit Go.Maps

def spOf (en lim old : Nat) (l : List Rc) : Sp := { en := en, lim := lim, low := 2, us := insAll (allOf (oldRecs old l)) [], fr := [], go := [], wa := insAll (allOf (newRecs old l)) [], ws := newRecs old l }
theorem NwAt.at {B : Nat} {w : World} {en lim old : Nat} {l : List Rc} {wv : Value} {es : List (Value × Rc)} (h : NwAt B w en lim old l wv es) : SpAt B w.heap.size w (spOf en lim old l) :=
  ⟨wv, h.fiv, by have := h.rows.rsq; rw [h.same] at this; exact this.imp fun b h1 h2 => ⟨h1, h2⟩⟩

abbrev exL : List Rc := [(3, [5]), (7, [6])]
def ex0 : Sp := ⟨8, 20, 2, [5], [], [], [6], [(7, [6])]⟩
def ex1 : Sp := ⟨8, 20, 5, [], [5], [], [6], [(7, [6])]⟩
def ex2 : Sp := ⟨9, 20, 5, [], [5, 8], [], [6], [(7, [6])]⟩
def ex3 : Sp := ⟨9, 20, 5, [], [5, 8], [4], [6], [(7, [6])]⟩

theorem ex_rows (w : World) : RSq (fun _ => True) (((w.alloc (.cells #[.int .u32 5] 36)).alloc (.cells #[.int .u32 6] 36)).alloc (.cells #[.int .u64 3, .slice (some ⟨w.heap.size, 0, none⟩) 1 1, .int .u64 7, .slice (some ⟨w.heap.size + 1, 0, none⟩) 1 1] 65))
    (.slice (some ⟨w.heap.size + 1 + 1, 0, none⟩) 2 2) exL := by
  have hn := heap_alloc_new ((w.alloc (.cells #[.int .u32 5] 36)).alloc (.cells #[.int .u32 6] 36)) (.cells #[.int .u64 3, .slice (some ⟨w.heap.size, 0, none⟩) 1 1, .int .u64 7, .slice (some ⟨w.heap.size + 1, 0, none⟩) 1 1] 65 (0, 0))
  rw [show ((w.alloc (.cells #[.int .u32 5] 36)).alloc (.cells #[.int .u32 6] 36)).heap.size = w.heap.size + 1 + 1 by simp] at hn
  have p0 := (((one_page w 5 (by decide)).grown (World.grownBy_alloc _ (.cells #[.int .u32 6] 36) none)).grown (World.grownBy_alloc _ (.cells #[.int .u64 3, .slice (some ⟨w.heap.size, 0, none⟩) 1 1, .int .u64 7, .slice (some ⟨w.heap.size + 1, 0, none⟩) 1 1] 65) none))
  have p1 := ((one_page (w.alloc (.cells #[.int .u32 5] 36)) 6 (by decide)).grown (World.grownBy_alloc _ (.cells #[.int .u64 3, .slice (some ⟨w.heap.size, 0, none⟩) 1 1, .int .u64 7, .slice (some ⟨w.heap.size + 1, 0, none⟩) 1 1] 65) none))
  rw [show (w.alloc (.cells #[.int .u32 5] 36)).heap.size = w.heap.size + 1 by simp] at p1
  refine ⟨_, 2, rfl, by decide, by decide, fun _ => ⟨_, 0, rfl, trivial, fun j r hr => ?_⟩⟩
  have hj : j < 2 := by have := (List.getElem?_eq_some_iff.1 hr).1; simpa using this
  have cell : ∀ k u, (#[Value.int .u64 3, .slice (some ⟨w.heap.size, 0, none⟩) 1 1, .int .u64 7, .slice (some ⟨w.heap.size + 1, 0, none⟩) 1 1] : Array Value)[k]? = some u → World.cell? _ ⟨w.heap.size + 1 + 1, k, none⟩ = some u := fun k u hk => by
    show World.cell? (((w.alloc (.cells #[.int .u32 5] 36)).alloc (.cells #[.int .u32 6] 36)).alloc (.cells #[.int .u64 3, .slice (some ⟨w.heap.size, 0, none⟩) 1 1, .int .u64 7, .slice (some ⟨w.heap.size + 1, 0, none⟩) 1 1] 65)) ⟨w.heap.size + 1 + 1, k, none⟩ = some u
    simp only [World.cell?, hn]
    exact hk
  rcases Nat.lt_or_ge j 1 with h | h
  · obtain rfl : j = 0 := by omega
    obtain rfl : r = (3, [5]) := by simpa using hr.symm
    exact ⟨cell 0 _ rfl, by decide, _, cell 1 _ rfl, p0⟩
  · obtain rfl : j = 1 := by omega
    obtain rfl : r = (7, [6]) := by simpa using hr.symm
    exact ⟨cell 2 _ rfl, by decide, _, cell 3 _ rfl, p1⟩

def ExNew (w : World) (r : Ending) (w' : World) : Prop := ∃ B, r = .returned (.tuple #[.pointer (some ⟨B + 4, 0, none⟩), .int .i64 0]) ∧ w.heap.size ≤ B ∧ SpAt B w'.heap.size w' ex0 ∧ w.grownBy w' none
theorem ex_new (w : World) (v : Value) (h : RSq (fun _ => True) w v exL) : Calls Try.prog 8 #[.int .u32 8, .int .u32 20, v, .int .u64 4] w fun r w' => ExNew w r w' := by
  obtain ⟨ao, c, rfl⟩ := h.shape
  refine (new_good w (fun _ => True) ao _ c 8 20 4 exL h (by decide) (by decide) (by decide) (by decide) (by decide)).mono ?_
  rintro r w' ⟨B, wv, es, rfl, hB, hN, hg⟩
  exact ⟨B, rfl, hB, hN.at, hg⟩
theorem ex_usable {H : Nat} (w : World) (B : Nat) (h : SpAt B H w ex0) : Calls Try.prog 21 #[.pointer (some ⟨B + 4, 0, none⟩)] w fun r w' => r = .returned (.int .i64 1) ∧ w = w' := usable_any w B ex0 h
theorem ex_take1 {H : Nat} (w : World) (B : Nat) (h : SpAt B H w ex0) : Calls Try.prog 12 #[.pointer (some ⟨B + 4, 0, none⟩)] w fun r w' => OpR B H w ex1 (.tuple #[.int .u32 5, .int .i64 0]) r w' := take_any w B ex0 h (by decide) (by decide) (by decide)
theorem ex_take2 {H : Nat} (w : World) (B : Nat) (h : SpAt B H w ex1) : Calls Try.prog 12 #[.pointer (some ⟨B + 4, 0, none⟩)] w fun r w' => OpR B H w ex2 (.tuple #[.int .u32 8, .int .i64 0]) r w' := take_any w B ex1 h (by decide) (by decide) (by decide)
theorem ex_give1 {H : Nat} (w : World) (B : Nat) (h : SpAt B H w ex2) : Calls Try.prog 14 #[.pointer (some ⟨B + 4, 0, none⟩), .int .u32 4] w fun r w' => OpR B H w ex3 (.int .i64 0) r w' := give_any w B ex2 h 4 (by decide)
theorem ex_give2 {H : Nat} (w : World) (B : Nat) (h : SpAt B H w ex3) : Calls Try.prog 14 #[.pointer (some ⟨B + 4, 0, none⟩), .int .u32 6] w fun r w' => OpR B H w ex3 (.int .i64 1) r w' := give_any w B ex3 h 6 (by decide)
theorem ex_fresh {H : Nat} (w : World) (B : Nat) (h : SpAt B H w ex3) : Calls Try.prog 16 #[.pointer (some ⟨B + 4, 0, none⟩), .int .u32 5] w fun r w' => r = .returned (.bool true) ∧ w.grownBy w' none := fresh_any w B ex3 h 5 (by decide)
theorem ex_end {H : Nat} (w : World) (B : Nat) (h : SpAt B H w ex3) : Calls Try.prog 17 #[.pointer (some ⟨B + 4, 0, none⟩)] w fun r w' => r = .returned (.int .u32 9) ∧ w = w' := end_any w B ex3 h
def ExRecs (w : World) (r : Ending) (w' : World) : Prop := ∃ b c a1 c1, r = .returned (.slice (some ⟨b, 0, none⟩) 2 c) ∧ w'.cell? ⟨b, 0, none⟩ = some (.int .u64 7) ∧ w'.cell? ⟨b, 2, none⟩ = some (.int .u64 9) ∧ w'.cell? ⟨b, 3, none⟩ = some (.slice (some a1) 1 c1) ∧ w'.cell? a1 = some (.int .u32 4) ∧ w.grownBy w' none
theorem ex_recs {H : Nat} (w : World) (B : Nat) (h : SpAt B H w ex3) : Calls Try.prog 19 #[.pointer (some ⟨B + 4, 0, none⟩), .int .u64 9] w fun r w' => ExRecs w r w' := by
  refine (records_any 12 sort_few (by decide) w B 9 ex3 h (by decide) (by decide) (by decide) (by decide) (by decide)).mono ?_
  rintro r w' ⟨v, es, rfl, ho, he, hg⟩
  have he2 : es.map (·.2) = [(7, [6]), (9, [4])] := he
  have hr := ho.rsq
  rw [he2] at hr
  rcases ho.row.2 with ⟨hv, hn⟩ | ⟨b, c, cur, hv, _⟩
  · have := congrArg List.length he2
    simp at this
    omega
  · have hel : es.length = 2 := by have := congrArg List.length he2; simpa using this
    rw [hv, hel] at hr ⊢
    obtain ⟨b1, o1, e1, _, k1, _, _⟩ := hr.at 0 (7, [6]) rfl
    obtain ⟨b2, o2, e2, _, k2, _, a1, c1, k3, k4⟩ := hr.at 1 (9, [4]) rfl
    cases e1; cases e2
    obtain ⟨b3, o3, e3, _, k5⟩ := k4.at 0 (by decide)
    subst e3
    exact ⟨b, c, ⟨b3, o3, none⟩, c1, rfl, k1, k2, k3, k5, hg⟩

set_option maxRecDepth 30000 in
set_option maxHeartbeats 4000000 in
theorem awake8_any (w : World) : Calls Try.prog 5 #[] w fun r w' => r = .returned (.bool true) ∧ w.grownBy w' none := by
  have HE := Lib.hid (ex_rows w)
  go_enter Try.func5, Try.ntmps5
  go_wp2_with (first
    | (go_at_call 8; (with_reducible refine (ex_new _ _ HE.out).mono ?_); rintro r w1 ⟨B, rfl, hB, hs, hg⟩; have HS1 := Lib.hid hs; have HG1 := Lib.hid (gtrans (gtrans (two_grown w _ _) (World.grownBy_alloc _ _ _)) hg); have hB1 : w.heap.size ≤ B := (by simp at hB; omega); clear hs hg hB)
    | (go_at_call 21; (with_reducible refine (ex_usable w1 B HS1.out).mono ?_); rintro r wq ⟨rfl, rfl⟩)
    | (go_at_call 12; (with_reducible refine (ex_take1 w1 B HS1.out).mono ?_); rintro r w2 ⟨rfl, hs, hf⟩; have HS2 := Lib.hid hs; have HG2 := Lib.hid (hf.grown HG1.out hB1); clear hs hf)
    | (go_at_call 12; (with_reducible refine (ex_take2 w2 B HS2.out).mono ?_); rintro r w3 ⟨rfl, hs, hf⟩; have HS3 := Lib.hid hs; have HG3 := Lib.hid (hf.grown HG2.out hB1); clear hs hf)
    | (go_at_call 14; (with_reducible refine (ex_give1 w3 B HS3.out).mono ?_); rintro r w4 ⟨rfl, hs, hf⟩; have HS4 := Lib.hid hs; have HG4 := Lib.hid (hf.grown HG3.out hB1); clear hs hf)
    | (go_at_call 14; (with_reducible refine (ex_give2 w4 B HS4.out).mono ?_); rintro r w5 ⟨rfl, hs, hf⟩; have HS5 := Lib.hid hs; have HG5 := Lib.hid (hf.grown HG4.out hB1); clear hs hf)
    | (go_at_call 19; (with_reducible refine (ex_recs w5 B HS5.out).mono ?_); rintro r w6 ⟨b, c, a1, c1, rfl, k1, k2, k3, k4, hg⟩; have HS6 := Lib.hid (HS5.out.grown hg); have HG6 := Lib.hid (gtrans HG5.out hg); clear hg)
    | (go_at_call 16; (with_reducible refine (ex_fresh w6 B HS6.out).mono ?_); rintro r w7 ⟨rfl, hg⟩; have HS7 := Lib.hid (HS6.out.grown hg); have HG7 := Lib.hid (gtrans HG6.out hg); clear hg)
    | (go_at_call 17; (with_reducible refine (ex_end w7 B HS7.out).mono ?_); rintro r wq ⟨rfl, rfl⟩))
  go_ret
  exact ⟨rfl, HG7.out⟩

end Go.Proofs.Ytoaglkbobndmeab
