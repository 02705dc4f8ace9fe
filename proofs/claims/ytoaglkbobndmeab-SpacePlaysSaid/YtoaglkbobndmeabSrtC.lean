/-
  slices' order2Ordered, medianOrdered, medianAdjacentOrdered, choosePivotOrdered at pages: they change nothing of the row, and choose within it. Own work.
-/
import Derived.Test.YtoaglkbobndmeabSrtB
namespace Go.Proofs.Ytoaglkbobndmeab
open Go.RowKit Go.Maps

/-- The row, and a counter beside it. -/
structure CtrAt (w0 : World) (blk cap : Nat) (w : World) (d : Array Nat) (g s : Nat) : Prop where
  row : RowAt w0 blk cap w d
  hg : w0.heap.size ≤ g
  box : w.heap[g]? = some (.cells #[.int .i64 (s : Int)] 3 (0, 0))
theorem CtrAt.cell {w0 w : World} {blk cap g s : Nat} {d : Array Nat} (h : CtrAt w0 blk cap w d g s) : w.cell? ⟨g, 0, none⟩ = some (.int .i64 (s : Int)) := by
  simp only [World.cell?, h.box]
  rfl
theorem CtrAt.froz {w0 w : World} {blk cap g s : Nat} {d : Array Nat} (h : CtrAt w0 blk cap w d g s) : w.frozen? ⟨g, 0, none⟩ = false := free_row h.box 0
theorem CtrAt.drewN {w0 w : World} {blk cap g s : Nat} {d : Array Nat} (h : CtrAt w0 blk cap w d g s) (n : Nat) : CtrAt w0 blk cap (w.drewN n) d g s := ⟨h.row.drewN n, h.hg, h.box⟩
theorem CtrAt.put {w0 w : World} {blk cap g s : Nat} {d : Array Nat} (h : CtrAt w0 blk cap w d g s) : CtrAt w0 blk cap (w.setCell ⟨g, 0, none⟩ (.int .i64 ((s : Int) + 1))) d g (s + 1) := by
  refine ⟨h.row.beside h.hg 0 _, h.hg, ?_⟩
  simp [World.setCell, Array.getElem?_modify, h.box]

def Ord2 (w0 : World) (blk cap : Nat) (d : Array Nat) (g s i j : Nat) (r : Ending) (w' : World) : Prop :=
  ∃ i' j' s' : Nat, r = .returned (.tuple #[.int .i64 (i' : Int), .int .i64 (j' : Int)]) ∧ (i' = i ∧ j' = j ∨ i' = j ∧ j' = i) ∧ s ≤ s' ∧ s' ≤ s + 1 ∧ CtrAt w0 blk cap w' d g s'

set_option maxHeartbeats 1000000 in
theorem order2_any (w0 w : World) (blk cap i j g s : Nat) (d : Array Nat) (h : CtrAt w0 blk cap w d g s) (hi : i < d.size) (hj : j < d.size) (hsz : d.size ≤ 100000) (hs : s ≤ 1000) :
    Calls Try.prog 59 #[.slice (some ⟨blk, 0, none⟩) d.size cap, .int .i64 (i : Int), .int .i64 (j : Int), .pointer (some ⟨g, 0, none⟩)] w fun r w' => Ord2 w0 blk cap d g s i j r w' := by
  obtain ⟨n, hn⟩ : ∃ n, n = d.size := ⟨_, rfl⟩
  have c1 := h.row.cell hi
  have c2 := h.row.cell hj
  rw [← hn] at hi hj hsz ⊢
  have H := Lib.hid h
  have HN := Lib.hid hn
  have hii : (i : Int) < (n : Int) := by omega
  have hji : (j : Int) < (n : Int) := by omega
  obtain ⟨x, hx⟩ : ∃ x, d[i]! = x := ⟨_, rfl⟩
  obtain ⟨y, hy⟩ : ∃ y, d[j]! = y := ⟨_, rfl⟩
  rw [hx] at c1
  rw [hy] at c2
  obtain ⟨lb, hlb⟩ : ∃ lb, ltN y x = lb := ⟨_, rfl⟩
  have HL := Lib.hid hlb
  clear h hn hx hy hlb
  go_enter Try.func59, Try.ntmps59
  go_wp2_with fail
  go_quiet (first | (go_at_call 48; refine Calls.quiet_of_same (less_any y x lb HL.out _)))
  have H2 := Lib.hid (H.out.drewN nq)
  have hc := H2.out.cell
  have hf := H2.out.froz
  clear c1 c2
  generalize w.drewN nq = W at H2 hc hf ⊢
  cases lb with
  | true =>
    go_wp2
    go_ret2
    exact ⟨j, i, s + 1, rfl, .inr ⟨rfl, rfl⟩, by omega, by omega, H2.out.put⟩
  | false =>
    go_wp2
    go_ret2
    exact ⟨i, j, s, rfl, .inl ⟨rfl, rfl⟩, by omega, by omega, H2.out⟩

def Med (w0 : World) (blk cap : Nat) (d : Array Nat) (g s a b c : Nat) (r : Ending) (w' : World) : Prop :=
  ∃ m s' : Nat, r = .returned (.int .i64 (m : Int)) ∧ (m = a ∨ m = b ∨ m = c) ∧ s ≤ s' ∧ s' ≤ s + 3 ∧ CtrAt w0 blk cap w' d g s'

set_option maxHeartbeats 1000000 in
theorem median_any (w0 w : World) (blk cap a b c g s : Nat) (d : Array Nat) (h : CtrAt w0 blk cap w d g s) (ha : a < d.size) (hb : b < d.size) (hc : c < d.size) (hsz : d.size ≤ 100000) (hs : s ≤ 900) :
    Calls Try.prog 57 #[.slice (some ⟨blk, 0, none⟩) d.size cap, .int .i64 (a : Int), .int .i64 (b : Int), .int .i64 (c : Int), .pointer (some ⟨g, 0, none⟩)] w fun r w' => Med w0 blk cap d g s a b c r w' := by
  have H := Lib.hid h
  have HA := Lib.hid ha
  have HB := Lib.hid hb
  have HC := Lib.hid hc
  have HS := Lib.hid hs
  have HZ := Lib.hid hsz
  clear h ha hb hc hs hsz
  go_enter Try.func57, Try.ntmps57
  go_wp2_with (first
    | (go_at_call 59; (with_reducible refine (order2_any w0 w blk cap a b g s d H.out HA.out HB.out HZ.out (by have := HS.out; omega)).mono ?_); rintro r w1 ⟨a1, b1, s1, rfl, h1⟩; have H1 := Lib.hid h1; have HA1 := Lib.hid (show a1 < d.size ∧ b1 < d.size ∧ s1 ≤ 901 by have := HA.out; have := HB.out; have := HS.out; omega); clear h1)
    | (go_at_call 59; (with_reducible refine (order2_any w0 w1 blk cap b1 c g s1 d H1.out.2.2.2 HA1.out.2.1 HC.out HZ.out (by have := HA1.out; omega)).mono ?_); rintro r w2 ⟨b2, c2, s2, rfl, h2⟩; have H2 := Lib.hid h2; have HA2 := Lib.hid (show b2 < d.size ∧ c2 < d.size ∧ s2 ≤ 902 by have := HA1.out; have := HC.out; omega); clear h2)
    | (go_at_call 59; (with_reducible refine (order2_any w0 w2 blk cap a1 b2 g s2 d H2.out.2.2.2 HA1.out.1 HA2.out.1 HZ.out (by have := HA2.out; omega)).mono ?_); rintro r w3 ⟨a3, b3, s3, rfl, h3⟩; have H3 := Lib.hid h3; clear h3))
  go_ret
  have h1 := H1.out
  have h2 := H2.out
  have h3 := H3.out
  exact ⟨b3, s3, rfl, by omega, by omega, by omega, h3.2.2.2⟩

set_option maxHeartbeats 1000000 in
theorem medianAdj_any (w0 w : World) (blk cap a g s : Nat) (d : Array Nat) (h : CtrAt w0 blk cap w d g s) (ha : a + 1 < d.size) (h1 : 1 ≤ a) (hsz : d.size ≤ 100000) (hs : s ≤ 900) :
    Calls Try.prog 56 #[.slice (some ⟨blk, 0, none⟩) d.size cap, .int .i64 (a : Int), .pointer (some ⟨g, 0, none⟩)] w fun r w' => Med w0 blk cap d g s (a - 1) a (a + 1) r w' := by
  have H := Lib.hid h
  have E1 := Lib.hid (show (a : Int) - 1 = ((a - 1 : Nat) : Int) by omega)
  have E2 := Lib.hid (show (a : Int) + 1 = ((a + 1 : Nat) : Int) by omega)
  clear h
  go_enter Try.func56, Try.ntmps56
  go_wp2_with (first
    | (go_at_call 57; have K := median_any w0 w blk cap (a - 1) a (a + 1) g s d H.out (by omega) (by omega) (by omega) hsz hs; rw [← E1.out, ← E2.out] at K; (with_reducible refine K.mono ?_); clear K; rintro r w1 ⟨m, s1, rfl, hp1, hs1, ht1, h1⟩; have H1 := Lib.hid h1; clear h1))
  go_ret
  exact ⟨m, s1, rfl, hp1, hs1, ht1, H1.out⟩

end Go.Proofs.Ytoaglkbobndmeab
