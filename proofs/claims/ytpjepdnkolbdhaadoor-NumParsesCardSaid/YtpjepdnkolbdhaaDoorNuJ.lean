/-
  The document's examples of numbers. Own work.
-/
import Derived.Test.YtpjepdnkolbdhaaDoorNuI
set_option linter.unusedVariables false
set_option linter.unusedSimpArgs false
namespace Go.Proofs.YtpjepdnkolbdhaaDoor
open Go.RowKit

theorem p1500 : parseM [49, 53, 48, 48] = (⟨false, [49, 53], 2⟩, 0) := by decide
theorem p0250 : parseM [45, 48, 46, 50, 53, 48] = (⟨true, [50, 53], -2⟩, 0) := by decide
theorem p0e9 : parseM [48, 101, 57] = (⟨false, [], 0⟩, 0) := by decide
theorem p01 : parseM [48, 49] = (⟨false, [], 0⟩, 11) := by decide
theorem t15e2 : textM ⟨false, [49, 53], 2⟩ = [49, 53, 101, 50] := by
  rw [textM, if_neg (by simp)]
  have : Lib.itoa 2 = [50] := by rw [Lib.itoa, if_neg (by decide), show (2 : Int).toNat = 2 from rfl, Lib.decDigits_one (by decide)]; rfl
  rw [this]; rfl
theorem t25e2 : textM ⟨true, [50, 53], -2⟩ = [45, 50, 53, 101, 45, 50] := by
  rw [textM, if_neg (by simp)]
  have : Lib.itoa (-2) = [45, 50] := by rw [Lib.itoa, if_pos (by decide), show (-2 : Int).natAbs = 2 from rfl, Lib.decDigits_one (by decide)]; rfl
  rw [this]; rfl
theorem t0 : textM ⟨false, [], 0⟩ = [48] := rfl
theorem c01 : cmpM ⟨true, [50, 53], -2⟩ ⟨false, [49, 53], 2⟩ = -1 := by decide

/-- A number is parsed out of a text that stands in the code. -/
theorem parse_lit (l : Bs) (N : Nm) (e : Int) (hp : parseM l = (N, e)) (hl : l.length ≤ 1000000) (w : World) :
    Calls Tryd.prog 11 #[.string (Sx l)] w fun r w' => r = .returned (.tuple #[.agg #[.bool N.down, .string (Sx N.digs), .int .i64 N.exp], .int .i64 e]) ∧ w.grownBy w' none := by
  have := parse_any l w hl
  rw [hp] at this; exact this

set_option maxRecDepth 100000 in
set_option maxHeartbeats 8000000 in
theorem awake_any (w : World) (hT : TB w) : Calls Tryd.prog 10 #[] w fun r w' => r = .returned (.bool true) ∧ w.grownBy w' none := by
  have A1 := Lib.hid (fun w' => parse_lit _ _ _ p1500 (by decide) w')
  have A2 := Lib.hid (fun w' => parse_lit _ _ _ p0250 (by decide) w')
  have A3 := Lib.hid (fun w' => parse_lit _ _ _ p0e9 (by decide) w')
  have A4 := Lib.hid (fun w' => parse_lit _ _ _ p01 (by decide) w')
  have B1 := Lib.hid (fun w' h => text_any false [49, 53] 2 w' h (by decide) (by decide) (by decide) (by simp))
  have B2 := Lib.hid (fun w' h => text_any true [50, 53] (-2) w' h (by decide) (by decide) (by decide) (by simp))
  have B3 := Lib.hid (fun w' h => text_any false [] 0 w' h (by decide) (by decide) (by decide) (by simp))
  have C1 := Lib.hid (fun w' => compare_any true [50, 53] (-2) false [49, 53] 2 w' (by decide) (by decide) (by decide) (by decide) (by decide) (by decide))
  rw [t15e2] at B1
  rw [t25e2] at B2
  rw [t0] at B3
  rw [c01] at C1
  simp only [Sx] at A1 A2 A3 A4 B1 B2 B3 C1
  have HT := Lib.hid hT
  clear hT
  go_enter Tryd.func10, Tryd.ntmps10
  go_wp2_with (first
    | (go_at_call 11; ((with_reducible refine (A1.out _).mono ?_); rintro r w1 ⟨rfl, hg⟩); have N1 := Lib.hid (show NB w1.heap.size false [49, 53] 2 (w1.alloc (.cells #[.bool false, .string ⟨#[49, 53]⟩, .int .i64 2] 24)) from NB_alloc w1 false [49, 53] 2); have G1 := Lib.hid (gtrans hg (World.grownBy_alloc w1 (.cells #[.bool false, .string ⟨#[49, 53]⟩, .int .i64 2] 24) none)); clear hg)
    | (go_at_call 11; ((with_reducible refine (A2.out _).mono ?_); rintro r w2 ⟨rfl, hg⟩); have N2 := Lib.hid (show NB w2.heap.size true [50, 53] (-2) (w2.alloc (.cells #[.bool true, .string ⟨#[50, 53]⟩, .int .i64 (-2)] 24)) from NB_alloc w2 true [50, 53] (-2)); have D2 := Lib.hid (gtrans hg (World.grownBy_alloc w2 (.cells #[.bool true, .string ⟨#[50, 53]⟩, .int .i64 (-2)] 24) none)); have G2 := Lib.hid (gtrans G1.out D2.out); clear hg)
    | (go_at_call 11; ((with_reducible refine (A3.out _).mono ?_); rintro r w3 ⟨rfl, hg⟩); have N3 := Lib.hid (show NB w3.heap.size false [] 0 (w3.alloc (.cells #[.bool false, .string ⟨#[]⟩, .int .i64 0] 24)) from NB_alloc w3 false [] 0); have D3 := Lib.hid (gtrans hg (World.grownBy_alloc w3 (.cells #[.bool false, .string ⟨#[]⟩, .int .i64 0] 24) none)); have G3 := Lib.hid (gtrans G2.out D3.out); clear hg)
    | (go_at_call 11; ((with_reducible refine (A4.out _).mono ?_); rintro r w4 ⟨rfl, hg⟩); have N4 := Lib.hid (show NB w4.heap.size false [] 0 (w4.alloc (.cells #[.bool false, .string ⟨#[]⟩, .int .i64 0] 24)) from NB_alloc w4 false [] 0); have D4 := Lib.hid (gtrans hg (World.grownBy_alloc w4 (.cells #[.bool false, .string ⟨#[]⟩, .int .i64 0] 24) none)); have G4 := Lib.hid (gtrans G3.out D4.out); clear hg; obtain ⟨xa1, ya1, za1, -⟩ := cells3 (N1.out.gr (gtrans D2.out (gtrans D3.out D4.out))); simp only [Sx] at xa1 ya1 za1; obtain ⟨xa2, ya2, za2, -⟩ := cells3 (N2.out.gr (gtrans D3.out D4.out)); simp only [Sx] at xa2 ya2 za2; obtain ⟨xa3, ya3, za3, -⟩ := cells3 (N3.out.gr D4.out); simp only [Sx] at xa3 ya3 za3)
    | (go_at_call 14; ((with_reducible refine (B1.out _ (HT.out.gr G4.out)).mono ?_); rintro r w5 ⟨rfl, hg⟩); have D5 := Lib.hid hg; have G5 := Lib.hid (gtrans G4.out hg); clear hg; obtain ⟨xb1, yb1, zb1, -⟩ := cells3 (N1.out.gr (gtrans (gtrans D2.out (gtrans D3.out D4.out)) D5.out)); simp only [Sx] at xb1 yb1 zb1; obtain ⟨xb2, yb2, zb2, -⟩ := cells3 (N2.out.gr (gtrans (gtrans D3.out D4.out) D5.out)); simp only [Sx] at xb2 yb2 zb2; obtain ⟨xb3, yb3, zb3, -⟩ := cells3 (N3.out.gr (gtrans D4.out D5.out)); simp only [Sx] at xb3 yb3 zb3)
    | (go_at_call 14; ((with_reducible refine (B2.out _ (HT.out.gr G5.out)).mono ?_); rintro r w6 ⟨rfl, hg⟩); have D6 := Lib.hid (gtrans D5.out hg); have G6 := Lib.hid (gtrans G5.out hg); clear hg; obtain ⟨xc1, yc1, zc1, -⟩ := cells3 (N1.out.gr (gtrans (gtrans D2.out (gtrans D3.out D4.out)) D6.out)); simp only [Sx] at xc1 yc1 zc1; obtain ⟨xc2, yc2, zc2, -⟩ := cells3 (N2.out.gr (gtrans (gtrans D3.out D4.out) D6.out)); simp only [Sx] at xc2 yc2 zc2; obtain ⟨xc3, yc3, zc3, -⟩ := cells3 (N3.out.gr (gtrans D4.out D6.out)); simp only [Sx] at xc3 yc3 zc3)
    | (go_at_call 14; ((with_reducible refine (B3.out _ (HT.out.gr G6.out)).mono ?_); rintro r w7 ⟨rfl, hg⟩); have D7 := Lib.hid (gtrans D6.out hg); have G7 := Lib.hid (gtrans G6.out hg); clear hg; obtain ⟨xd1, yd1, zd1, -⟩ := cells3 (N1.out.gr (gtrans (gtrans D2.out (gtrans D3.out D4.out)) D7.out)); simp only [Sx] at xd1 yd1 zd1; obtain ⟨xd2, yd2, zd2, -⟩ := cells3 (N2.out.gr (gtrans (gtrans D3.out D4.out) D7.out)); simp only [Sx] at xd2 yd2 zd2; obtain ⟨xd3, yd3, zd3, -⟩ := cells3 (N3.out.gr (gtrans D4.out D7.out)); simp only [Sx] at xd3 yd3 zd3)
    | (go_at_call 18; ((with_reducible refine (C1.out _).mono ?_); rintro r w8 ⟨rfl, hg⟩); have G8 := Lib.hid (gtrans G7.out hg); clear hg))
  trace_state
  go_ret
  exact ⟨rfl, G8.out⟩

end Go.Proofs.YtpjepdnkolbdhaaDoor
