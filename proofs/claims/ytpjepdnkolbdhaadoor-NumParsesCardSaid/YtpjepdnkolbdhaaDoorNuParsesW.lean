/-
  NumParses: a text's number and its own text are the document's; the law's walk. Own work.
-/
import Derived.Test.YtpjepdnkolbdhaaDoorNuJ
import Derived.Test.YtpjepdnkolbdhaaDoorNuQ
import Derived.Test.YtpjepdnkolbdhaaDoorNuX
import Derived.BigQuiet
set_option linter.unusedVariables false
set_option linter.unusedSimpArgs false
namespace Go.Proofs.YtpjepdnkolbdhaaDoor
open Go.RowKit

theorem right_bd3 {n : Nm} (h : rightM n = true) : n.digs.length ≤ 1000 ∧ -1000 ≤ n.exp ∧ n.exp ≤ 1000 ∧ (n.digs = [] → n.down = false ∧ n.exp = 0) := by
  by_cases hd : n.digs = []
  · rw [right_nil h hd]; decide
  · have := right_parts h hd
    exact ⟨by omega, by omega, by omega, fun e => absurd e hd⟩

set_option maxRecDepth 100000 in
set_option maxHeartbeats 16000000 in
theorem parses_any (W : World) (s : Bs) (hT : TB W) (hl : s.length ≤ 9223372036854775807) :
    Calls Tryd.prog 3 #[.string (Sx s)] W fun r w' => r = .returned (.bool true) ∧ Below W.heap.size W w' := by
  have AW := Lib.hid (awake_any W hT)
  have HT := Lib.hid hT
  have hsz := Sx_size s
  clear hT
  by_cases c60 : (300 : Int) < (s.length : Int)
  · have g60 : decide ((300 : Int) < (s.length : Int)) = true := decide_eq_true c60
    generalize s.length = n at *
    go_enter Tryd.func3, Tryd.ntmps3
    go_wp2_with (go_at_call 10; ((with_reducible refine AW.out.mono ?_); rintro r w1 ⟨rfl, hg⟩); have D1 := Lib.hid hg; clear hg)
    go_ret
    exact ⟨rfl, gbelow D1.out⟩
  · have g60 : decide ((300 : Int) < (s.length : Int)) = false := decide_eq_false c60
    have hs3 : s.length ≤ 300 := by omega
    obtain ⟨⟨⟨d, A, x⟩, e⟩, hp⟩ : ∃ q, parseM s = q := ⟨_, rfl⟩
    have KP := Lib.hid (fun w' => parse_lit s ⟨d, A, x⟩ e hp (by omega) w')
    have KR := Lib.hid (fun w' => refParse_any s w' hs3)
    rw [refP_eq s hs3, hp] at KR
    simp only [valN] at KP KR
    have OA := Lib.hid (fun w' => of_any d A x w')
    have eA := Sx_toList A
    have hok : e = 0 → rightM ⟨d, A, x⟩ = true := fun h0 => (parse_ok (s := s) (n := ⟨d, A, x⟩) (by rw [hp, h0])).2.2
    have HOK := Lib.hid hok
    clear hp hok
    generalize s.length = n at *
    generalize Sx s = S at *
    by_cases he : e = 0
    · obtain ⟨p1, p2, p3, p4⟩ := right_bd3 (HOK.out he)
      have hr := HOK.out he
      simp only at p1 p2 p3 p4
      subst he
      have KT := Lib.hid (fun w' h => text_any d A x w' h (by omega) (by omega) (by omega) p4)
      have KX := Lib.hid (fun w' => refText_any d A x w' p1 p2 p3)
      have KA := Lib.hid (fun w' => right_any d A x w' (by omega))
      rw [hr] at KA
      generalize hT' : Sx (textM ⟨d, A, x⟩) = T at *
      have eT : T.toList = textM ⟨d, A, x⟩ := by rw [← hT', Sx_toList]
      clear hT' hr p1 p2 p3 p4
      generalize textM ⟨d, A, x⟩ = tm at *
      generalize hSA : Sx A = SA at *
      have HSA := Lib.hid hSA
      clear hSA
      go_enter Tryd.func3, Tryd.ntmps3
      go_wp2_with (first
        | (go_at_call 10; ((with_reducible refine AW.out.mono ?_); rintro r w1 ⟨rfl, hg⟩); have D1 := Lib.hid hg; clear hg)
        | (go_at_call 11; ((with_reducible refine (KP.out _).mono ?_); rintro r w2 ⟨rfl, hg⟩); have D2 := Lib.hid (gtrans D1.out (gtrans hg (World.grownBy_alloc w2 (.cells #[.bool d, .string SA, .int .i64 x] 24) none))); have B2 := Lib.hid (by have := NB_alloc w2 d A x; rw [HSA.out] at this; exact this : NB w2.heap.size d A x (w2.alloc (.cells #[.bool d, .string SA, .int .i64 x] 24))); clear hg)
        | (go_at_call 12; ((with_reducible refine (KR.out _).mono ?_); rintro r w3 ⟨rfl, hg⟩); have hg := gtrans hg (World.grownBy_alloc w3 (.cells #[.bool d, .string SA, .int .i64 x] 28) none); have D3 := Lib.hid (gtrans D2.out hg); have B3 := Lib.hid (B2.out.gr hg); have C3 := Lib.hid (by have := RB_alloc w3 d A x; rw [HSA.out] at this; exact this : RB w3.heap.size d A x (w3.alloc (.cells #[.bool d, .string SA, .int .i64 x] 28))); clear hg))
      have D3' := Lib.hid D3.out
      have B3' := B3.out
      have C3' := C3.out
      clear B3 C3 D3 B2 D2
      generalize w3.alloc (.cells #[.bool d, .string SA, .int .i64 x] 28) = V at *
      generalize w2.heap.size = q2 at *
      generalize w3.heap.size = q3 at *
      have cb := fun w' (h : Gr V w') => And.intro (cells3 (B3'.gr h)) (cells3 (C3'.gr h))
      rw [HSA.out] at cb
      have HKC := Lib.hid cb
      clear cb B3' C3'
      go_region_held3 (fun v => (v.cell? ⟨q2, 0, none⟩ = some (.bool d) ∧ v.cell? ⟨q2, 1, none⟩ = some (.string SA) ∧ v.cell? ⟨q2, 2, none⟩ = some (.int .i64 x)) ∧ v.cell? ⟨q3, 0, none⟩ = some (.bool d) ∧ v.cell? ⟨q3, 1, none⟩ = some (.string SA) ∧ v.cell? ⟨q3, 2, none⟩ = some (.int .i64 x))
        (first
        | (obtain ⟨⟨x0, x1, x2, -⟩, ⟨y0, y1, y2, -⟩⟩ := HKC.out _ (gdrew V); exact ⟨⟨x0, x1, x2⟩, y0, y1, y2⟩)
        | (obtain ⟨⟨x0, x1, x2, -⟩, ⟨y0, y1, y2, -⟩⟩ := HKC.out _ G4.out; exact ⟨⟨x0, x1, x2⟩, y0, y1, y2⟩))
        (first | (go_at_call 13; ((with_reducible refine (OA.out V.drew).mono ?_); rintro r w4 ⟨rfl, hg⟩); have G4 := Lib.hid (gtrans (gdrew V) hg); clear hg))
      go_wp2_with fail
      go_region_held3 (fun v => (v.cell? ⟨q2, 0, none⟩ = some (.bool d) ∧ v.cell? ⟨q2, 1, none⟩ = some (.string SA) ∧ v.cell? ⟨q2, 2, none⟩ = some (.int .i64 x)) ∧ v.cell? ⟨q3, 0, none⟩ = some (.bool d) ∧ v.cell? ⟨q3, 1, none⟩ = some (.string SA) ∧ v.cell? ⟨q3, 2, none⟩ = some (.int .i64 x))
        (first
        | (obtain ⟨⟨x0, x1, x2, -⟩, ⟨y0, y1, y2, -⟩⟩ := HKC.out _ (gtrans G4.out (gdrew w4)); exact ⟨⟨x0, x1, x2⟩, y0, y1, y2⟩)
        | (obtain ⟨⟨x0, x1, x2, -⟩, ⟨y0, y1, y2, -⟩⟩ := HKC.out _ G5.out; exact ⟨⟨x0, x1, x2⟩, y0, y1, y2⟩)
        | (obtain ⟨⟨x0, x1, x2, -⟩, ⟨y0, y1, y2, -⟩⟩ := HKC.out _ G6.out; exact ⟨⟨x0, x1, x2⟩, y0, y1, y2⟩)
        | (obtain ⟨⟨x0, x1, x2, -⟩, ⟨y0, y1, y2, -⟩⟩ := HKC.out _ G7.out; exact ⟨⟨x0, x1, x2⟩, y0, y1, y2⟩))
        (first
          | (go_at_call 14; ((with_reducible refine (KT.out w4.drew (HT.out.gr (gtrans D3'.out (gtrans G4.out (gdrew w4))))).mono ?_); rintro r w5 ⟨rfl, hg⟩); have G5 := Lib.hid (gtrans (gtrans G4.out (gdrew w4)) hg); clear hg)
          | (go_at_call 15; ((with_reducible refine (KX.out w5).mono ?_); rintro r w6 ⟨rfl, hg⟩); have G6 := Lib.hid (gtrans G5.out hg); clear hg)
          | (go_at_call 16; ((with_reducible refine (KA.out w6).mono ?_); rintro r w7 ⟨rfl, hg⟩); have G7 := Lib.hid (gtrans G6.out hg); clear hg))
      go_wp2
      go_ret
      exact ⟨ret_bool (by simp), gbelow (gtrans D3'.out G7.out)⟩
    · have he' : (e != 0) = true := by simpa using he
      clear he
      generalize hSA : Sx A = SA at *
      have HSA := Lib.hid hSA
      clear hSA
      go_enter Tryd.func3, Tryd.ntmps3
      go_wp2_with (first
        | (go_at_call 10; ((with_reducible refine AW.out.mono ?_); rintro r w1 ⟨rfl, hg⟩); have D1 := Lib.hid hg; clear hg)
        | (go_at_call 11; ((with_reducible refine (KP.out _).mono ?_); rintro r w2 ⟨rfl, hg⟩); have D2 := Lib.hid (gtrans D1.out (gtrans hg (World.grownBy_alloc w2 (.cells #[.bool d, .string SA, .int .i64 x] 24) none))); have B2 := Lib.hid (by have := NB_alloc w2 d A x; rw [HSA.out] at this; exact this : NB w2.heap.size d A x (w2.alloc (.cells #[.bool d, .string SA, .int .i64 x] 24))); clear hg)
        | (go_at_call 12; ((with_reducible refine (KR.out _).mono ?_); rintro r w3 ⟨rfl, hg⟩); have hg := gtrans hg (World.grownBy_alloc w3 (.cells #[.bool d, .string SA, .int .i64 x] 28) none); have D3 := Lib.hid (gtrans D2.out hg); have B3 := Lib.hid (B2.out.gr hg); have C3 := Lib.hid (by have := RB_alloc w3 d A x; rw [HSA.out] at this; exact this : RB w3.heap.size d A x (w3.alloc (.cells #[.bool d, .string SA, .int .i64 x] 28))); clear hg))
      have D3' := Lib.hid D3.out
      have B3' := B3.out
      have C3' := C3.out
      clear B3 C3 D3 B2 D2
      generalize w3.alloc (.cells #[.bool d, .string SA, .int .i64 x] 28) = V at *
      generalize w2.heap.size = q2 at *
      generalize w3.heap.size = q3 at *
      have cb := fun w' (h : Gr V w') => And.intro (cells3 (B3'.gr h)) (cells3 (C3'.gr h))
      rw [HSA.out] at cb
      have HKC := Lib.hid cb
      clear cb B3' C3'
      go_region_held3 (fun v => (v.cell? ⟨q2, 0, none⟩ = some (.bool d) ∧ v.cell? ⟨q2, 1, none⟩ = some (.string SA) ∧ v.cell? ⟨q2, 2, none⟩ = some (.int .i64 x)) ∧ v.cell? ⟨q3, 0, none⟩ = some (.bool d) ∧ v.cell? ⟨q3, 1, none⟩ = some (.string SA) ∧ v.cell? ⟨q3, 2, none⟩ = some (.int .i64 x))
        (first
        | (obtain ⟨⟨x0, x1, x2, -⟩, ⟨y0, y1, y2, -⟩⟩ := HKC.out _ (gdrew V); exact ⟨⟨x0, x1, x2⟩, y0, y1, y2⟩)
        | (obtain ⟨⟨x0, x1, x2, -⟩, ⟨y0, y1, y2, -⟩⟩ := HKC.out _ G4.out; exact ⟨⟨x0, x1, x2⟩, y0, y1, y2⟩))
        (first | (go_at_call 13; ((with_reducible refine (OA.out V.drew).mono ?_); rintro r w4 ⟨rfl, hg⟩); have G4 := Lib.hid (gtrans (gdrew V) hg); clear hg))
      go_wp2_with fail
      go_quiet (fail)
      go_wp2
      go_ret
      exact ⟨ret_bool (by simp), gbelow (gtrans D3'.out (gtrans G4.out (gdrewN _ _)))⟩

end Go.Proofs.YtpjepdnkolbdhaaDoor
