/-
  NumShifts: a nought more behind the point, an exponent of one; the law's walk. Own work; printed by tools/mkshifts.py.
-/
import Derived.Test.YtpjepdnkolbdhaaDoorNuGrammarW
import Derived.Test.YtpjepdnkolbdhaaDoorNuT
import Derived.BigQuiet
set_option linter.unusedVariables false
set_option linter.unusedSimpArgs false
namespace Go.Proofs.YtpjepdnkolbdhaaDoor
open Go.RowKit

set_option maxRecDepth 100000 in
set_option maxHeartbeats 16000000 in
theorem shifts_any (W : World) (s : Bs) (hT : TB W) (hl : s.length ≤ 9223372036854775807) :
    Calls Tryd.prog 7 #[.string (Sx s)] W fun r w' => r = .returned (.bool true) ∧ Below W.heap.size W w' := by
  have AW := Lib.hid (awake_any W hT)
  have hsz := Sx_size s
  clear hT
  by_cases c60 : (60 : Int) < (s.length : Int)
  · have g60 : decide ((60 : Int) < (s.length : Int)) = true := decide_eq_true c60
    generalize s.length = n at *
    go_enter Tryd.func7, Tryd.ntmps7
    go_wp2_with (go_at_call 10; ((with_reducible refine AW.out.mono ?_); rintro r w1 ⟨rfl, hg⟩); have D1 := Lib.hid hg; clear hg)
    go_ret
    exact ⟨rfl, gbelow D1.out⟩
  · have g60 : decide ((60 : Int) < (s.length : Int)) = false := decide_eq_false c60
    have hs60 : s.length ≤ 60 := by omega
    clear c60
    have G0 := Lib.hid (fun w' => gram_any s w' (by omega))
    cases ho : okN s with
    | false =>
      rw [ho] at G0
      clear ho
      go_enter Tryd.func7, Tryd.ntmps7
      go_wp2_with (first
        | (go_at_call 10; ((with_reducible refine AW.out.mono ?_); rintro r w1 ⟨rfl, hg⟩); have D1 := Lib.hid hg; clear hg)
        | (go_at_call 20; ((with_reducible refine (G0.out _).mono ?_); rintro r w1' ⟨⟨x, y, rfl, -⟩, rfl⟩)))
      go_ret
      exact ⟨rfl, gbelow D1.out⟩
    | true =>
      have GM : Hid (∀ w', Calls Tryd.prog 20 #[.string (Sx s)] w' fun r w'' => r = .returned (.tuple #[.bool true, .int .i64 (ptI s : Int), .int .i64 (exI s : Int)]) ∧ w' = w'') := Lib.hid (fun w' => (G0.out w').mono (by
        rintro r w'' ⟨⟨x, y, rfl, h⟩, rfl⟩
        obtain ⟨rfl, rfl⟩ := h ho
        rw [ho]; exact ⟨rfl, rfl⟩))
      clear G0
      have hE := exI_le s
      have hPE : ptI s ≤ exI s := by
        cases h : pt s with
        | false => exact Nat.le_of_eq ((ptI_exI s).1 h)
        | true => have := (ptI_exI s).2 h; omega
      have hsh := shift_parse s ho
      obtain ⟨⟨⟨d, A, x⟩, e⟩, hp⟩ : ∃ q, parseM s = q := ⟨_, rfl⟩
      have KP := Lib.hid (fun w' => parse_lit s ⟨d, A, x⟩ e hp (by omega) w')
      have hsl : (shT s).length ≤ 62 := by
        unfold shT
        split <;> simp only [List.length_append, List.length_take, List.length_drop, List.length_cons, List.length_nil] <;> omega
      have KT := Lib.hid (fun w' => parse_lit (shT s) ⟨d, A, x⟩ e (hsh.trans hp) (by omega) w')
      have hE1 : e = 0 → exI s = s.length → A ≠ [] → parseM (s ++ [101, 49]) = if x = 999 then (Nm.zero, 13) else (⟨d, A, x + 1⟩, 0) := fun h0 h1 h2 => by
        have h3 : s3 s = [] := by
          have := drop_exI s
          rw [h1] at this
          rw [← this]; simp
        have := e1_parse (s := s) (n := ⟨d, A, x⟩) (by rw [hp, h0]) h3 h2
        exact this
      have hxb : e = 0 → A ≠ [] → -999 ≤ x ∧ x ≤ 999 := fun h0 h2 => by
        obtain ⟨-, -, hr⟩ := parse_ok (s := s) (n := ⟨d, A, x⟩) (by rw [hp, h0])
        have := right_parts hr h2
        exact ⟨this.2.2.2.2.1, this.2.2.2.2.2⟩
      have HE1 := Lib.hid hE1
      have HXB := Lib.hid hxb
      simp only at KP KT
      have t1 := ext_take s (exI s)
      have t2 := ext_drop s (exI s)
      have s1' : (Sx (s.take (exI s))).size = exI s := by rw [Sx_size, List.length_take]; omega
      have s2' : (Sx (s.drop (exI s))).size = s.length - exI s := by rw [Sx_size, List.length_drop]
      have f1 : Sx (s.take (exI s)) ++ (⟨#[48]⟩ : ByteArray) = Sx (s.take (exI s) ++ [48]) := Sx_app _ [48]
      have f2 : Sx (s.take (exI s) ++ [48]) ++ Sx (s.drop (exI s)) = Sx (s.take (exI s) ++ [48] ++ s.drop (exI s)) := Sx_app _ _
      have f3 : Sx (s.take (exI s)) ++ (⟨#[46, 48]⟩ : ByteArray) = Sx (s.take (exI s) ++ [46, 48]) := Sx_app _ [46, 48]
      have f4 : Sx (s.take (exI s) ++ [46, 48]) ++ Sx (s.drop (exI s)) = Sx (s.take (exI s) ++ [46, 48] ++ s.drop (exI s)) := Sx_app _ _
      have f5 : Sx s ++ (⟨#[101, 49]⟩ : ByteArray) = Sx (s ++ [101, 49]) := Sx_app _ [101, 49]
      have z1' : (Sx (s.take (exI s) ++ [48])).size = exI s + 1 := by rw [Sx_size, List.length_append, List.length_take]; simp; omega
      have z2' : (Sx (s.take (exI s) ++ [46, 48])).size = exI s + 2 := by rw [Sx_size, List.length_append, List.length_take]; simp; omega
      have eA := Sx_toList A
      generalize hY1 : Sx (s.take (exI s) ++ [48] ++ s.drop (exI s)) = Y1 at *
      generalize hY2 : Sx (s.take (exI s) ++ [46, 48] ++ s.drop (exI s)) = Y2 at *
      have HY : Hid (Sx (shT s) = if ptI s = exI s then Y2 else Y1) := Lib.hid (by unfold shT; split <;> simp only [← hY1, ← hY2])
      clear hY1 hY2
      generalize Sx (s.take (exI s) ++ [48]) = X3 at *
      generalize Sx (s.take (exI s) ++ [46, 48]) = X4 at *
      generalize Sx (s.take (exI s)) = X1 at *
      generalize Sx (s.drop (exI s)) = X2 at *
      generalize Sx (shT s) = T at *
      have KE0 := Lib.hid (fun (N : Nm) (e' : Int) (h : parseM (s ++ [101, 49]) = (N, e')) w' => parse_lit (s ++ [101, 49]) N e' h (by rw [List.length_append]; simp; omega) w')
      generalize parseM (s ++ [101, 49]) = PE at *
      generalize Sx (s ++ [101, 49]) = XE at *
      clear hsh hp hsl ho hE1 hxb
      generalize ptI s = p at *
      generalize exI s = E at *
      generalize s.length = n at *
      generalize Sx s = S at *
      obtain ⟨k2, hk2⟩ : ∃ k2 : Nat, k2 = n - E := ⟨_, rfl⟩
      rw [← hk2] at s2'
      have bk2 : (k2 : Int) ≤ 60 := by omega
      obtain ⟨k3, hk3⟩ : ∃ k3 : Nat, k3 = E + 1 := ⟨_, rfl⟩
      rw [← hk3] at z1'
      have bk3 : (k3 : Int) ≤ 61 := by omega
      obtain ⟨k4, hk4⟩ : ∃ k4 : Nat, k4 = E + 2 := ⟨_, rfl⟩
      rw [← hk4] at z2'
      have bk4 : (k4 : Int) ≤ 62 := by omega
      have bE : (E : Int) ≤ (n : Int) := by omega
      have bE0 : (0 : Int) ≤ (E : Int) := by omega
      have bn : (n : Int) ≤ 60 := by omega
      clear hk2 hk3 hk4
      by_cases hpe : p = E
      · have qpe : ((p : Int) == (E : Int)) = true := beq_iff_eq.2 (by omega)
        have hTe := HY.out
        rw [if_pos hpe] at hTe
        subst hTe
        clear hpe
        by_cases he : e = 0
        · subst he
          by_cases hn : E = n
          · have lE : ¬ (E : Int) < (n : Int) := by omega
            have HN := Lib.hid hn
            clear hn
            cases A with
            | nil =>
              have qA : (Sx ([] : Bs)).toList.isEmpty = true := by rw [Sx_toList]; rfl
              go_enter Tryd.func7, Tryd.ntmps7
              go_wp2_with (first
                | (go_at_call 10; ((with_reducible refine AW.out.mono ?_); rintro r w1 ⟨rfl, hg⟩); have D1 := Lib.hid hg; clear hg)
                | (go_at_call 20; ((with_reducible refine (GM.out _).mono ?_); rintro r w1' ⟨rfl, rfl⟩))
                | (go_at_call 11; ((with_reducible refine (KP.out _).mono ?_); rintro r w2 ⟨rfl, hg⟩); have D2 := Lib.hid (gtrans D1.out (gtrans hg (World.grownBy_alloc w2 (.cells #[.bool d, .string (Sx []), .int .i64 x] 24) none))); have B2 := Lib.hid (NB_alloc w2 d [] x); clear hg))
              go_quiet (fail)
              go_wp2
              go_quiet (fail)
              go_wp2_with (first
                | (go_at_call 11; ((with_reducible refine (KT.out _).mono ?_); rintro r w3 ⟨rfl, hg⟩); have hg := gtrans (gtrans (gdrewN _ _) hg) (World.grownBy_alloc w3 (.cells #[.bool d, .string (Sx []), .int .i64 x] 24) none); have D3 := Lib.hid (gtrans D2.out hg); have B3 := Lib.hid (B2.out.gr hg); obtain ⟨e0, e1, e2, -⟩ := cells3 (B2.out.gr hg); obtain ⟨g0, g1, g2, -⟩ := cells3 (NB_alloc w3 d [] x); clear hg))
              go_ret
              exact ⟨rfl, gbelow D3.out⟩
            | cons b0 A0 =>
              have HXB' := HXB.out rfl (by simp)
              obtain ⟨xb1, xb2⟩ := HXB'
              have HE' := Lib.hid (HE1.out rfl HN.out (by simp))
              have qA : (b0 :: A0).isEmpty = false := rfl
              generalize hbA : b0 :: A0 = A at *
              clear hbA
              by_cases h9 : x = 999
              · subst h9
                have KE := Lib.hid (KE0.out Nm.zero 13 (by rw [HE'.out]; rfl))
                simp only [Nm.zero] at KE
                go_enter Tryd.func7, Tryd.ntmps7
                go_wp2_with (first
                  | (go_at_call 10; ((with_reducible refine AW.out.mono ?_); rintro r w1 ⟨rfl, hg⟩); have D1 := Lib.hid hg; clear hg)
                  | (go_at_call 20; ((with_reducible refine (GM.out _).mono ?_); rintro r w1' ⟨rfl, rfl⟩))
                  | (go_at_call 11; ((with_reducible refine (KP.out _).mono ?_); rintro r w2 ⟨rfl, hg⟩); have D2 := Lib.hid (gtrans D1.out (gtrans hg (World.grownBy_alloc w2 (.cells #[.bool d, .string (Sx A), .int .i64 999] 24) none))); have B2 := Lib.hid (NB_alloc w2 d A 999); clear hg))
                go_quiet (fail)
                go_wp2
                go_quiet (fail)
                go_wp2_with (first
                  | (go_at_call 11; ((with_reducible refine (KT.out _).mono ?_); rintro r w3 ⟨rfl, hg⟩); have hg := gtrans (gtrans (gdrewN _ _) hg) (World.grownBy_alloc w3 (.cells #[.bool d, .string (Sx A), .int .i64 999] 24) none); have D3 := Lib.hid (gtrans D2.out hg); have B3 := Lib.hid (B2.out.gr hg); obtain ⟨e0, e1, e2, -⟩ := cells3 (B2.out.gr hg); obtain ⟨g0, g1, g2, -⟩ := cells3 (NB_alloc w3 d A 999); clear hg)
                  | (go_at_call 11; ((with_reducible refine (KE.out _).mono ?_); rintro r w4 ⟨rfl, hg⟩); have hg := gtrans hg (World.grownBy_alloc w4 (.cells #[.bool false, .string (Sx []), .int .i64 0] 24) none); have D4 := Lib.hid (gtrans D3.out hg); obtain ⟨i0, i1, i2, -⟩ := cells3 (B3.out.gr hg); obtain ⟨j0, j1, j2, -⟩ := cells3 (NB_alloc w4 false [] 0); clear hg))
                go_ret
                exact ⟨rfl, gbelow D4.out⟩
              · have h9' : (x == 999) = false := beq_eq_false_iff_ne.2 h9
                have KE := Lib.hid (KE0.out ⟨d, A, x + 1⟩ 0 (by rw [HE'.out, if_neg h9]))
                simp only at KE
                clear h9
                go_enter Tryd.func7, Tryd.ntmps7
                go_wp2_with (first
                  | (go_at_call 10; ((with_reducible refine AW.out.mono ?_); rintro r w1 ⟨rfl, hg⟩); have D1 := Lib.hid hg; clear hg)
                  | (go_at_call 20; ((with_reducible refine (GM.out _).mono ?_); rintro r w1' ⟨rfl, rfl⟩))
                  | (go_at_call 11; ((with_reducible refine (KP.out _).mono ?_); rintro r w2 ⟨rfl, hg⟩); have D2 := Lib.hid (gtrans D1.out (gtrans hg (World.grownBy_alloc w2 (.cells #[.bool d, .string (Sx A), .int .i64 x] 24) none))); have B2 := Lib.hid (NB_alloc w2 d A x); clear hg))
                go_quiet (fail)
                go_wp2
                go_quiet (fail)
                go_wp2_with (first
                  | (go_at_call 11; ((with_reducible refine (KT.out _).mono ?_); rintro r w3 ⟨rfl, hg⟩); have hg := gtrans (gtrans (gdrewN _ _) hg) (World.grownBy_alloc w3 (.cells #[.bool d, .string (Sx A), .int .i64 x] 24) none); have D3 := Lib.hid (gtrans D2.out hg); have B3 := Lib.hid (B2.out.gr hg); obtain ⟨e0, e1, e2, -⟩ := cells3 (B2.out.gr hg); obtain ⟨g0, g1, g2, -⟩ := cells3 (NB_alloc w3 d A x); clear hg)
                  | (go_at_call 11; ((with_reducible refine (KE.out _).mono ?_); rintro r w4 ⟨rfl, hg⟩); have hg := gtrans hg (World.grownBy_alloc w4 (.cells #[.bool d, .string (Sx A), .int .i64 (x + 1)] 24) none); have D4 := Lib.hid (gtrans D3.out hg); obtain ⟨i0, i1, i2, -⟩ := cells3 (B3.out.gr hg); obtain ⟨j0, j1, j2, -⟩ := cells3 (NB_alloc w4 d A (x + 1)); clear hg))
                go_ret
                exact ⟨rfl, gbelow D4.out⟩
          · have lE : (E : Int) < (n : Int) := by omega
            clear hn
            go_enter Tryd.func7, Tryd.ntmps7
            go_wp2_with (first
              | (go_at_call 10; ((with_reducible refine AW.out.mono ?_); rintro r w1 ⟨rfl, hg⟩); have D1 := Lib.hid hg; clear hg)
              | (go_at_call 20; ((with_reducible refine (GM.out _).mono ?_); rintro r w1' ⟨rfl, rfl⟩))
              | (go_at_call 11; ((with_reducible refine (KP.out _).mono ?_); rintro r w2 ⟨rfl, hg⟩); have D2 := Lib.hid (gtrans D1.out (gtrans hg (World.grownBy_alloc w2 (.cells #[.bool d, .string (Sx A), .int .i64 x] 24) none))); have B2 := Lib.hid (NB_alloc w2 d A x); clear hg))
            go_quiet (fail)
            go_wp2
            go_quiet (fail)
            go_wp2_with (first
              | (go_at_call 11; ((with_reducible refine (KT.out _).mono ?_); rintro r w3 ⟨rfl, hg⟩); have hg := gtrans (gtrans (gdrewN _ _) hg) (World.grownBy_alloc w3 (.cells #[.bool d, .string (Sx A), .int .i64 x] 24) none); have D3 := Lib.hid (gtrans D2.out hg); have B3 := Lib.hid (B2.out.gr hg); obtain ⟨e0, e1, e2, -⟩ := cells3 (B2.out.gr hg); obtain ⟨g0, g1, g2, -⟩ := cells3 (NB_alloc w3 d A x); clear hg))
            go_ret
            exact ⟨rfl, gbelow D3.out⟩
        · have he' : (e != 0) = true := by simpa using he
          clear he
          go_enter Tryd.func7, Tryd.ntmps7
          go_wp2_with (first
            | (go_at_call 10; ((with_reducible refine AW.out.mono ?_); rintro r w1 ⟨rfl, hg⟩); have D1 := Lib.hid hg; clear hg)
            | (go_at_call 20; ((with_reducible refine (GM.out _).mono ?_); rintro r w1' ⟨rfl, rfl⟩))
            | (go_at_call 11; ((with_reducible refine (KP.out _).mono ?_); rintro r w2 ⟨rfl, hg⟩); have D2 := Lib.hid (gtrans D1.out (gtrans hg (World.grownBy_alloc w2 (.cells #[.bool d, .string (Sx A), .int .i64 x] 24) none))); have B2 := Lib.hid (NB_alloc w2 d A x); clear hg))
          go_quiet (fail)
          go_wp2
          go_quiet (fail)
          go_wp2_with (first
            | (go_at_call 11; ((with_reducible refine (KT.out _).mono ?_); rintro r w3 ⟨rfl, hg⟩); have hg := gtrans (gtrans (gdrewN _ _) hg) (World.grownBy_alloc w3 (.cells #[.bool d, .string (Sx A), .int .i64 x] 24) none); have D3 := Lib.hid (gtrans D2.out hg); have B3 := Lib.hid (B2.out.gr hg); obtain ⟨e0, e1, e2, -⟩ := cells3 (B2.out.gr hg); obtain ⟨g0, g1, g2, -⟩ := cells3 (NB_alloc w3 d A x); clear hg))
          go_ret
          exact ⟨rfl, gbelow D3.out⟩
      · have qpe : ((p : Int) == (E : Int)) = false := beq_eq_false_iff_ne.2 (by omega)
        have hTe := HY.out
        rw [if_neg hpe] at hTe
        subst hTe
        clear hpe
        by_cases he : e = 0
        · subst he
          by_cases hn : E = n
          · have lE : ¬ (E : Int) < (n : Int) := by omega
            have HN := Lib.hid hn
            clear hn
            cases A with
            | nil =>
              have qA : (Sx ([] : Bs)).toList.isEmpty = true := by rw [Sx_toList]; rfl
              go_enter Tryd.func7, Tryd.ntmps7
              go_wp2_with (first
                | (go_at_call 10; ((with_reducible refine AW.out.mono ?_); rintro r w1 ⟨rfl, hg⟩); have D1 := Lib.hid hg; clear hg)
                | (go_at_call 20; ((with_reducible refine (GM.out _).mono ?_); rintro r w1' ⟨rfl, rfl⟩))
                | (go_at_call 11; ((with_reducible refine (KP.out _).mono ?_); rintro r w2 ⟨rfl, hg⟩); have D2 := Lib.hid (gtrans D1.out (gtrans hg (World.grownBy_alloc w2 (.cells #[.bool d, .string (Sx []), .int .i64 x] 24) none))); have B2 := Lib.hid (NB_alloc w2 d [] x); clear hg))
              go_quiet (fail)
              go_wp2_with (first
                | (go_at_call 11; ((with_reducible refine (KT.out _).mono ?_); rintro r w3 ⟨rfl, hg⟩); have hg := gtrans (gtrans (gdrewN _ _) hg) (World.grownBy_alloc w3 (.cells #[.bool d, .string (Sx []), .int .i64 x] 24) none); have D3 := Lib.hid (gtrans D2.out hg); have B3 := Lib.hid (B2.out.gr hg); obtain ⟨e0, e1, e2, -⟩ := cells3 (B2.out.gr hg); obtain ⟨g0, g1, g2, -⟩ := cells3 (NB_alloc w3 d [] x); clear hg))
              go_ret
              exact ⟨rfl, gbelow D3.out⟩
            | cons b0 A0 =>
              have HXB' := HXB.out rfl (by simp)
              obtain ⟨xb1, xb2⟩ := HXB'
              have HE' := Lib.hid (HE1.out rfl HN.out (by simp))
              have qA : (b0 :: A0).isEmpty = false := rfl
              generalize hbA : b0 :: A0 = A at *
              clear hbA
              by_cases h9 : x = 999
              · subst h9
                have KE := Lib.hid (KE0.out Nm.zero 13 (by rw [HE'.out]; rfl))
                simp only [Nm.zero] at KE
                go_enter Tryd.func7, Tryd.ntmps7
                go_wp2_with (first
                  | (go_at_call 10; ((with_reducible refine AW.out.mono ?_); rintro r w1 ⟨rfl, hg⟩); have D1 := Lib.hid hg; clear hg)
                  | (go_at_call 20; ((with_reducible refine (GM.out _).mono ?_); rintro r w1' ⟨rfl, rfl⟩))
                  | (go_at_call 11; ((with_reducible refine (KP.out _).mono ?_); rintro r w2 ⟨rfl, hg⟩); have D2 := Lib.hid (gtrans D1.out (gtrans hg (World.grownBy_alloc w2 (.cells #[.bool d, .string (Sx A), .int .i64 999] 24) none))); have B2 := Lib.hid (NB_alloc w2 d A 999); clear hg))
                go_quiet (fail)
                go_wp2_with (first
                  | (go_at_call 11; ((with_reducible refine (KT.out _).mono ?_); rintro r w3 ⟨rfl, hg⟩); have hg := gtrans (gtrans (gdrewN _ _) hg) (World.grownBy_alloc w3 (.cells #[.bool d, .string (Sx A), .int .i64 999] 24) none); have D3 := Lib.hid (gtrans D2.out hg); have B3 := Lib.hid (B2.out.gr hg); obtain ⟨e0, e1, e2, -⟩ := cells3 (B2.out.gr hg); obtain ⟨g0, g1, g2, -⟩ := cells3 (NB_alloc w3 d A 999); clear hg)
                  | (go_at_call 11; ((with_reducible refine (KE.out _).mono ?_); rintro r w4 ⟨rfl, hg⟩); have hg := gtrans hg (World.grownBy_alloc w4 (.cells #[.bool false, .string (Sx []), .int .i64 0] 24) none); have D4 := Lib.hid (gtrans D3.out hg); obtain ⟨i0, i1, i2, -⟩ := cells3 (B3.out.gr hg); obtain ⟨j0, j1, j2, -⟩ := cells3 (NB_alloc w4 false [] 0); clear hg))
                go_ret
                exact ⟨rfl, gbelow D4.out⟩
              · have h9' : (x == 999) = false := beq_eq_false_iff_ne.2 h9
                have KE := Lib.hid (KE0.out ⟨d, A, x + 1⟩ 0 (by rw [HE'.out, if_neg h9]))
                simp only at KE
                clear h9
                go_enter Tryd.func7, Tryd.ntmps7
                go_wp2_with (first
                  | (go_at_call 10; ((with_reducible refine AW.out.mono ?_); rintro r w1 ⟨rfl, hg⟩); have D1 := Lib.hid hg; clear hg)
                  | (go_at_call 20; ((with_reducible refine (GM.out _).mono ?_); rintro r w1' ⟨rfl, rfl⟩))
                  | (go_at_call 11; ((with_reducible refine (KP.out _).mono ?_); rintro r w2 ⟨rfl, hg⟩); have D2 := Lib.hid (gtrans D1.out (gtrans hg (World.grownBy_alloc w2 (.cells #[.bool d, .string (Sx A), .int .i64 x] 24) none))); have B2 := Lib.hid (NB_alloc w2 d A x); clear hg))
                go_quiet (fail)
                go_wp2_with (first
                  | (go_at_call 11; ((with_reducible refine (KT.out _).mono ?_); rintro r w3 ⟨rfl, hg⟩); have hg := gtrans (gtrans (gdrewN _ _) hg) (World.grownBy_alloc w3 (.cells #[.bool d, .string (Sx A), .int .i64 x] 24) none); have D3 := Lib.hid (gtrans D2.out hg); have B3 := Lib.hid (B2.out.gr hg); obtain ⟨e0, e1, e2, -⟩ := cells3 (B2.out.gr hg); obtain ⟨g0, g1, g2, -⟩ := cells3 (NB_alloc w3 d A x); clear hg)
                  | (go_at_call 11; ((with_reducible refine (KE.out _).mono ?_); rintro r w4 ⟨rfl, hg⟩); have hg := gtrans hg (World.grownBy_alloc w4 (.cells #[.bool d, .string (Sx A), .int .i64 (x + 1)] 24) none); have D4 := Lib.hid (gtrans D3.out hg); obtain ⟨i0, i1, i2, -⟩ := cells3 (B3.out.gr hg); obtain ⟨j0, j1, j2, -⟩ := cells3 (NB_alloc w4 d A (x + 1)); clear hg))
                go_ret
                exact ⟨rfl, gbelow D4.out⟩
          · have lE : (E : Int) < (n : Int) := by omega
            clear hn
            go_enter Tryd.func7, Tryd.ntmps7
            go_wp2_with (first
              | (go_at_call 10; ((with_reducible refine AW.out.mono ?_); rintro r w1 ⟨rfl, hg⟩); have D1 := Lib.hid hg; clear hg)
              | (go_at_call 20; ((with_reducible refine (GM.out _).mono ?_); rintro r w1' ⟨rfl, rfl⟩))
              | (go_at_call 11; ((with_reducible refine (KP.out _).mono ?_); rintro r w2 ⟨rfl, hg⟩); have D2 := Lib.hid (gtrans D1.out (gtrans hg (World.grownBy_alloc w2 (.cells #[.bool d, .string (Sx A), .int .i64 x] 24) none))); have B2 := Lib.hid (NB_alloc w2 d A x); clear hg))
            go_quiet (fail)
            go_wp2_with (first
              | (go_at_call 11; ((with_reducible refine (KT.out _).mono ?_); rintro r w3 ⟨rfl, hg⟩); have hg := gtrans (gtrans (gdrewN _ _) hg) (World.grownBy_alloc w3 (.cells #[.bool d, .string (Sx A), .int .i64 x] 24) none); have D3 := Lib.hid (gtrans D2.out hg); have B3 := Lib.hid (B2.out.gr hg); obtain ⟨e0, e1, e2, -⟩ := cells3 (B2.out.gr hg); obtain ⟨g0, g1, g2, -⟩ := cells3 (NB_alloc w3 d A x); clear hg))
            go_ret
            exact ⟨rfl, gbelow D3.out⟩
        · have he' : (e != 0) = true := by simpa using he
          clear he
          go_enter Tryd.func7, Tryd.ntmps7
          go_wp2_with (first
            | (go_at_call 10; ((with_reducible refine AW.out.mono ?_); rintro r w1 ⟨rfl, hg⟩); have D1 := Lib.hid hg; clear hg)
            | (go_at_call 20; ((with_reducible refine (GM.out _).mono ?_); rintro r w1' ⟨rfl, rfl⟩))
            | (go_at_call 11; ((with_reducible refine (KP.out _).mono ?_); rintro r w2 ⟨rfl, hg⟩); have D2 := Lib.hid (gtrans D1.out (gtrans hg (World.grownBy_alloc w2 (.cells #[.bool d, .string (Sx A), .int .i64 x] 24) none))); have B2 := Lib.hid (NB_alloc w2 d A x); clear hg))
          go_quiet (fail)
          go_wp2_with (first
            | (go_at_call 11; ((with_reducible refine (KT.out _).mono ?_); rintro r w3 ⟨rfl, hg⟩); have hg := gtrans (gtrans (gdrewN _ _) hg) (World.grownBy_alloc w3 (.cells #[.bool d, .string (Sx A), .int .i64 x] 24) none); have D3 := Lib.hid (gtrans D2.out hg); have B3 := Lib.hid (B2.out.gr hg); obtain ⟨e0, e1, e2, -⟩ := cells3 (B2.out.gr hg); obtain ⟨g0, g1, g2, -⟩ := cells3 (NB_alloc w3 d A x); clear hg))
          go_ret
          exact ⟨rfl, gbelow D3.out⟩

end Go.Proofs.YtpjepdnkolbdhaaDoor
