/-
  slices.choosePivotOrdered at pages: it changes nothing of the row, and chooses within it. Own work.
-/
import Derived.Test.YtoaglkbobndmeabSrtC
namespace Go.Proofs.Ytoaglkbobndmeab
open Go.RowKit Go.Maps

def Piv (w0 : World) (blk cap : Nat) (d : Array Nat) (a b : Nat) (r : Ending) (w' : World) : Prop :=
  ∃ p t : Nat, r = .returned (.tuple #[.int .i64 (p : Int), .int .i64 (t : Int)]) ∧ a ≤ p ∧ p < b ∧ t ≤ 2 ∧ RowAt w0 blk cap w' d

theorem ctr_new {w0 w : World} {blk cap : Nat} {d : Array Nat} (h : RowAt w0 blk cap w d) : CtrAt w0 blk cap (w.alloc (.cells #[.int .i64 0] 3)) d w.heap.size 0 :=
  ⟨h.grown (World.grownBy_alloc _ _ _), h.gr.size, heap_alloc_new _ _⟩

set_option maxHeartbeats 2000000 in
theorem pivot_any (w0 w : World) (blk cap a b : Nat) (d : Array Nat) (h : RowAt w0 blk cap w d) (hb : b ≤ d.size) (hsz : d.size ≤ 100000) (hab : a + 12 < b) :
    Calls Try.prog 45 #[.slice (some ⟨blk, 0, none⟩) d.size cap, .int .i64 (a : Int), .int .i64 (b : Int)] w fun r w' => Piv w0 blk cap d a b r w' := by
  obtain ⟨l, hl⟩ : ∃ l : Nat, (b : Int) - (a : Int) = (l : Int) := ⟨b - a, by omega⟩
  have hl12 : 12 < l := by omega
  have hl5 : l ≤ 100000 := by omega
  obtain ⟨q, hq⟩ : ∃ q : Nat, Int.tdiv (l : Int) 4 = (q : Int) := ⟨l / 4, by rw [Int.tdiv_eq_ediv_of_nonneg (by omega)]; omega⟩
  have HQ := Lib.hid (show q = l / 4 by rw [Int.tdiv_eq_ediv_of_nonneg (by omega)] at hq; omega)
  have hq5 : q ≤ 25000 := by have := HQ.out; omega
  have HLB := Lib.hid (show b = a + l by omega)
  have E1 := Lib.hid (show (a : Int) + (q : Int) = ((a + q : Nat) : Int) by omega)
  have E2 := Lib.hid (show (a : Int) + (q : Int) * 2 = ((a + q * 2 : Nat) : Int) by omega)
  have E3 := Lib.hid (show (a : Int) + (q : Int) * 3 = ((a + q * 3 : Nat) : Int) by omega)
  have HR := Lib.hid h
  have HC := Lib.hid (ctr_new h)
  have HB := Lib.hid hb
  have HZ := Lib.hid hsz
  have HAB := Lib.hid hab
  have hi8 : (8 : Int) ≤ (l : Int) := by omega
  have hb5 : b ≤ 100000 := by omega
  have ha5 : a ≤ 100000 := by omega
  clear h hb hsz hab
  by_cases h50 : 50 ≤ l
  · have hi50 : (50 : Int) ≤ (l : Int) := by omega
    go_enter Try.func45, Try.ntmps45
    go_wp2_with (first
      | (go_at_call 56; have K := medianAdj_any w0 (w.alloc (.cells #[.int .i64 0] 3)) blk cap (a + q) w.heap.size 0 d HC.out (by have := HQ.out; have := HLB.out; have := HB.out; omega) (by have := HQ.out; have := hi50; omega) HZ.out (by omega); rw [← E1.out] at K; (with_reducible refine K.mono ?_); clear K; rintro r w1 ⟨m1, s1, rfl, hp1, hs1, ht1, h1⟩; have H1 := Lib.hid h1; have HS1 := Lib.hid (show s1 ≤ 3 by omega); have HP1 := Lib.hid (show a ≤ m1 ∧ m1 < b by have := HQ.out; have := HLB.out; omega); clear h1 hp1 hs1 ht1)
      | (go_at_call 56; have K := medianAdj_any w0 w1 blk cap (a + q * 2) w.heap.size s1 d H1.out (by have := HQ.out; have := HLB.out; have := HB.out; omega) (by have := HQ.out; have := hi50; omega) HZ.out (by have := HS1.out; omega); rw [← E2.out] at K; (with_reducible refine K.mono ?_); clear K; rintro r w2 ⟨m2, s2, rfl, hp2, hs2, ht2, h2⟩; have H2 := Lib.hid h2; have HS2 := Lib.hid (show s2 ≤ 6 by have := HS1.out; omega); have HP2 := Lib.hid (show a ≤ m2 ∧ m2 < b by have := HQ.out; have := HLB.out; omega); clear h2 hp2 hs2 ht2)
      | (go_at_call 56; have K := medianAdj_any w0 w2 blk cap (a + q * 3) w.heap.size s2 d H2.out (by have := HQ.out; have := HLB.out; have := HB.out; omega) (by have := HQ.out; have := hi50; omega) HZ.out (by have := HS2.out; omega); rw [← E3.out] at K; (with_reducible refine K.mono ?_); clear K; rintro r w3 ⟨m3, s3, rfl, hp3, hs3, ht3, h3⟩; have H3 := Lib.hid h3; have HS3 := Lib.hid (show s3 ≤ 9 by have := HS2.out; omega); have HP3 := Lib.hid (show a ≤ m3 ∧ m3 < b by have := HQ.out; have := HLB.out; omega); clear h3 hp3 hs3 ht3)
      | (go_at_call 57; (with_reducible refine (median_any w0 w3 blk cap m1 m2 m3 w.heap.size s3 d H3.out (by have := HP1.out; have := HB.out; omega) (by have := HP2.out; have := HB.out; omega) (by have := HP3.out; have := HB.out; omega) HZ.out (by have := HS3.out; omega)).mono ?_); rintro r w4 ⟨m, s4, rfl, hp4, hs4, ht4, h4⟩; have H4 := Lib.hid h4; have hc := h4.cell; have HP := Lib.hid (show a ≤ m ∧ m < b by have := HP1.out; have := HP2.out; have := HP3.out; omega); clear h4 hp4 hs4 ht4))
    all_goals
      go_ret2
      first
        | exact ⟨m, 1, rfl, HP.out.1, HP.out.2, by decide, H4.out.row⟩
        | exact ⟨m, 2, rfl, HP.out.1, HP.out.2, by decide, H4.out.row⟩
        | exact ⟨m, 0, rfl, HP.out.1, HP.out.2, by decide, H4.out.row⟩
  · have hi50 : ¬ (50 : Int) ≤ (l : Int) := by omega
    go_enter Try.func45, Try.ntmps45
    go_wp2_with (first
      | (go_at_call 57; have K := median_any w0 (w.alloc (.cells #[.int .i64 0] 3)) blk cap (a + q) (a + q * 2) (a + q * 3) w.heap.size 0 d HC.out (by have := HQ.out; have := HLB.out; have := HB.out; omega) (by have := HQ.out; have := HLB.out; have := HB.out; omega) (by have := HQ.out; have := HLB.out; have := HB.out; omega) HZ.out (by omega); rw [← E1.out, ← E2.out, ← E3.out] at K; (with_reducible refine K.mono ?_); clear K; rintro r w1 ⟨m, s1, rfl, hp1, hs1, ht1, h1⟩; have H1 := Lib.hid h1; have hc := h1.cell; have HP := Lib.hid (show a ≤ m ∧ m < b by have := HQ.out; have := HLB.out; have := HAB.out; omega); clear h1 hp1))
    all_goals
      go_ret2
      first
        | exact ⟨m, 1, rfl, HP.out.1, HP.out.2, by decide, H1.out.row⟩
        | exact ⟨m, 2, rfl, HP.out.1, HP.out.2, by decide, H1.out.row⟩
        | exact ⟨m, 0, rfl, HP.out.1, HP.out.2, by decide, H1.out.row⟩

end Go.Proofs.Ytoaglkbobndmeab
