/-
  NumBack: the text of any number that may be is parsed as it; the law's walk. Own work.
-/
import Derived.Test.YtpjepdnkolbdhaaDoorNuJ
set_option linter.unusedVariables false
set_option linter.unusedSimpArgs false
namespace Go.Proofs.YtpjepdnkolbdhaaDoor
open Go.RowKit

theorem text_len {d : Bool} {A : Bs} {e : Int} (hA : A.length ≤ 60) (h1 : -9223372036854775808 ≤ e) (h2 : e ≤ 9223372036854775807) : (textM ⟨d, A, e⟩).length ≤ 1000000 := by
  have := Lib.itoa_length_le e h1 h2
  unfold textM
  simp only
  split
  · simp
  · simp only [List.length_append]
    split <;> split <;> simp <;> omega

set_option maxRecDepth 100000 in
set_option maxHeartbeats 4000000 in
theorem back_any (W : World) (d : Bool) (A : Bs) (e : Int) (hT : TB W) (hl : A.length ≤ 9223372036854775807) (h1 : -9223372036854775808 ≤ e) (h2 : e ≤ 9223372036854775807) :
    Calls Tryd.prog 5 #[.agg #[.bool d, .string (Sx A), .int .i64 e]] W fun r w' => r = .returned (.bool true) ∧ Below W.heap.size W w' := by
  have k0 : NB W.heap.size d A e (W.alloc (.cells #[.bool d, .string (Sx A), .int .i64 e] 24)) := heap_alloc_new _ _
  have HG := Lib.hid (World.grownBy_alloc W (.cells #[.bool d, .string (Sx A), .int .i64 e] 24) none)
  have HC := Lib.hid (fun w' (g : Gr _ w') => And.intro (k0.gr g) (cells3 (k0.gr g)))
  have AW := Lib.hid (awake_any · ·)
  have HT := Lib.hid hT
  have hsz := Sx_size A
  have KR := Lib.hid (fun w' => right_any d A e w' hl)
  clear k0 hT
  by_cases c60 : (60 : Int) < (A.length : Int)
  · have g60 : decide ((60 : Int) < (A.length : Int)) = true := decide_eq_true c60
    generalize A.length = n at *
    go_enter Tryd.func5, Tryd.ntmps5
    go_wp2_with (first
      | (go_at_call 10; ((with_reducible refine (AW.out _ (HT.out.gr HG.out)).mono ?_); rintro r w1 ⟨rfl, hg⟩); have G1 := Lib.hid (gtrans HG.out hg); obtain ⟨c0, c1, c2, c3, -⟩ := HC.out _ hg; clear hg))
    go_ret
    exact ⟨rfl, gbelow G1.out⟩
  · have g60 : decide ((60 : Int) < (A.length : Int)) = false := decide_eq_false c60
    have hA60 : A.length ≤ 60 := by omega
    cases hr : rightM ⟨d, A, e⟩ with
    | false =>
      rw [hr] at KR
      generalize A.length = n at *
      go_enter Tryd.func5, Tryd.ntmps5
      go_wp2_with (first
        | (go_at_call 10; ((with_reducible refine (AW.out _ (HT.out.gr HG.out)).mono ?_); rintro r w1 ⟨rfl, hg⟩); have D1 := Lib.hid hg; have G1 := Lib.hid (gtrans HG.out hg); obtain ⟨c0, c1, c2, c3, -⟩ := HC.out _ hg; clear hg)
        | (go_at_call 16; ((with_reducible refine (KR.out _).mono ?_); rintro r w2 ⟨rfl, hg⟩); have G2 := Lib.hid (gtrans G1.out hg); clear hg))
      go_ret
      exact ⟨rfl, gbelow G2.out⟩
    | true =>
      rw [hr] at KR
      have hz : A = [] → d = false ∧ e = 0 := fun h => by
        have := right_nil hr h
        simp only [Nm.zero, Nm.mk.injEq] at this
        exact ⟨this.1, this.2.2⟩
      have hb : -999 ≤ e ∧ e ≤ 999 := by
        by_cases hA : A = []
        · rw [(hz hA).2]; omega
        · have := right_parts hr hA
          exact ⟨this.2.2.2.2.1, this.2.2.2.2.2⟩
      have KT := Lib.hid (fun w' h => text_any d A e w' h (by omega) (by omega) (by omega) hz)
      have KP := Lib.hid (fun w' => parse_lit (textM ⟨d, A, e⟩) ⟨d, A, e⟩ 0 (text_parse hr) (text_len hA60 h1 h2) w')
      have KC := Lib.hid (fun w' => compare_any d A e d A e w' (by omega) (by omega) (by omega) (by omega) (by omega) (by omega))
      rw [cmpM_refl] at KC
      simp only at KP
      generalize textM ⟨d, A, e⟩ = T at *
      have N1 := Lib.hid (NB_alloc · d A e)
      clear hz hb hr hA60
      generalize A.length = n at *
      go_enter Tryd.func5, Tryd.ntmps5
      go_wp2_with (first
        | (go_at_call 10; ((with_reducible refine (AW.out _ (HT.out.gr HG.out)).mono ?_); rintro r w1 ⟨rfl, hg⟩); have D1 := Lib.hid hg; have G1 := Lib.hid (gtrans HG.out hg); obtain ⟨c0, c1, c2, c3, -⟩ := HC.out _ hg; clear hg)
        | (go_at_call 16; ((with_reducible refine (KR.out _).mono ?_); rintro r w2 ⟨rfl, hg⟩); have D2 := Lib.hid (gtrans D1.out hg); have G2 := Lib.hid (gtrans G1.out hg); obtain ⟨d0, d1, d2, d3, -⟩ := HC.out _ D2.out; clear hg)
        | (go_at_call 14; ((with_reducible refine (KT.out _ (HT.out.gr G2.out)).mono ?_); rintro r w3 ⟨rfl, hg⟩); have D3 := Lib.hid (gtrans D2.out hg); have G3 := Lib.hid (gtrans G2.out hg); clear hg)
        | (go_at_call 11; ((with_reducible refine (KP.out _).mono ?_); rintro r w4 ⟨rfl, hg⟩); have hg := gtrans hg (World.grownBy_alloc w4 (.cells #[.bool d, .string (Sx A), .int .i64 e] 24) none); have D4 := Lib.hid (gtrans D3.out hg); have G4 := Lib.hid (gtrans G3.out hg); obtain ⟨e0, e1, e2, e3, -⟩ := HC.out _ D4.out; obtain ⟨f1, f2, f3, -⟩ := cells3 (N1.out w4); clear hg)
        | (go_at_call 18; ((with_reducible refine (KC.out _).mono ?_); rintro r w5 ⟨rfl, hg⟩); have G5 := Lib.hid (gtrans G4.out hg); clear hg))
      go_ret
      exact ⟨rfl, gbelow G5.out⟩

end Go.Proofs.YtpjepdnkolbdhaaDoor
