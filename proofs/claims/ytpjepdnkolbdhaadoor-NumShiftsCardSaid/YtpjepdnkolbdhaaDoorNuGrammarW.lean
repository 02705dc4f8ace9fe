/-
  NumGrammar: a text with a sign more is no number's; the law's walk. Own work.
-/
import Derived.Test.YtpjepdnkolbdhaaDoorNuJ
set_option linter.unusedVariables false
set_option linter.unusedSimpArgs false
namespace Go.Proofs.YtpjepdnkolbdhaaDoor
open Go.RowKit

theorem conv_lit (x : UInt8) (k : Int) (hk : k = (x.toNat : Int)) (w : World) (q : Nat) (hq : q = w.heap.size) : (convert 43 9 (.slice (some ⟨q, 0, none⟩) 1 1)).run Tryd.prog (w.alloc (.cells #[.int .u8 k] 5)) = .ok (.string (Sx [x])) (w.alloc (.cells #[.int .u8 k] 5)) := by
  subst hk hq
  exact run_convert_bytes_back (P := Tryd.prog) _ 43 9 5 ⟨w.heap.size, 0, none⟩ 1 [x] Tryd.underlying43 Tryd.underlying5 Tryd.underlying9 (fun j hj => lit_one w _ j _ (by
    obtain rfl : j = 0 := by simpa using hj
    rfl))
theorem parse_err {l : Bs} (h : okN l = false) : parseM l = (Nm.zero, 11) := by rw [parseM, h]; rfl
theorem byte_at (a : Int) (h0 : 0 ≤ a) (h1 : a ≤ 255) : ∃ x : UInt8, a = (x.toNat : Int) := ⟨UInt8.ofNat a.toNat, by rw [UInt8.toNat_ofNat']; omega⟩

set_option maxRecDepth 100000 in
set_option maxHeartbeats 16000000 in
theorem grammar_any (W : World) (s : Bs) (a : Int) (hT : TB W) (hl : s.length ≤ 9223372036854775807) (h0 : 0 ≤ a) (h1 : a ≤ 255) :
    Calls Tryd.prog 8 #[.string (Sx s), .int .u8 a] W fun r w' => r = .returned (.bool true) ∧ Below W.heap.size W w' := by
  obtain ⟨x, hx⟩ := byte_at a h0 h1
  have AW := Lib.hid (awake_any W hT)
  have hsz := Sx_size s
  clear hT
  by_cases c60 : (60 : Int) < (s.length : Int)
  · have g60 : decide ((60 : Int) < (s.length : Int)) = true := decide_eq_true c60
    generalize s.length = n at *
    go_enter Tryd.func8, Tryd.ntmps8
    go_wp2_with (go_at_call 10; ((with_reducible refine AW.out.mono ?_); rintro r w1 ⟨rfl, hg⟩); have D1 := Lib.hid hg; clear hg)
    go_ret
    exact ⟨rfl, gbelow D1.out⟩
  · have g60 : decide ((60 : Int) < (s.length : Int)) = false := decide_eq_false c60
    have hs60 : s.length ≤ 60 := by omega
    have KP := Lib.hid (fun w' => parse_lit s (parseM s).1 (parseM s).2 rfl (by omega) w')
    have CV := Lib.hid (fun w q hq => conv_lit x a hx w q hq)
    have hsx : (Sx [x]).size = 1 := rfl
    by_cases he : (parseM s).2 = 0
    · have hok := (parse_ok (s := s) (n := (parseM s).1) (by rw [← he])).1
      rw [he] at KP
      clear he
      by_cases hex : (48 ≤ a ∧ a ≤ 57) ∨ a = 45 ∨ a = 46 ∨ a = 101 ∨ a = 69 ∨ a = 43
      · generalize (parseM s).1 = N at *
        generalize s.length = n at *
        have HX := Lib.hid hx
        have HEX := Lib.hid hex
        clear hx hok hex
        go_enter Tryd.func8, Tryd.ntmps8
        go_wp2_with (first
          | (go_at_call 10; ((with_reducible refine AW.out.mono ?_); rintro r w1 ⟨rfl, hg⟩); have D1 := Lib.hid hg; clear hg)
          | (go_at_call 11; ((with_reducible refine (KP.out _).mono ?_); rintro r w2 ⟨rfl, hg⟩); have D2 := Lib.hid (gtrans D1.out (gtrans hg (World.grownBy_alloc w2 (.cells #[.bool N.down, .string (Sx N.digs), .int .i64 N.exp] 24) none))); have cv := CV.out (w2.alloc (.cells #[.bool N.down, .string (Sx N.digs), .int .i64 N.exp] 24)) (w2.heap.size + 1) (by simp); clear hg; refine Hid.out ?_))
        refine Lib.hid ?_
        have hgo : True := trivial
        rcases HEX.out with ⟨e1, e2⟩ | rfl | rfl | rfl | rfl | rfl
        all_goals
          go_wp2
          all_goals
            go_ret
            exact ⟨rfl, gbelow (gtrans D2.out (World.grownBy_alloc _ _ none))⟩
      · have n0 : ¬ (48 ≤ a ∧ a ≤ 57) := fun h => hex (.inl h)
        have n1 : a ≠ 45 := fun h => hex (.inr (.inl h))
        have n2 : a ≠ 46 := fun h => hex (.inr (.inr (.inl h)))
        have n3 : a ≠ 101 := fun h => hex (.inr (.inr (.inr (.inl h))))
        have n4 : a ≠ 69 := fun h => hex (.inr (.inr (.inr (.inr (.inl h)))))
        have n5 : a ≠ 43 := fun h => hex (.inr (.inr (.inr (.inr (.inr h)))))
        have xd : dig x = false := by
          cases h : dig x with
          | false => rfl
          | true => have := dig_bd h; exact absurd (show 48 ≤ a ∧ a ≤ 57 by omega) n0
        have xn : ∀ k : UInt8, a ≠ (k.toNat : Int) → x ≠ k := fun k h e => h (by rw [hx, e])
        have x45 := xn 45 n1
        have x46 := xn 46 n2
        have x101 := xn 101 n3
        have x69 := xn 69 n4
        have P1 := Lib.hid (fun w' => parse_lit ([x] ++ s) Nm.zero 11 (parse_err (bad_head x s xd x45)) (by simp; omega) w')
        have P2 := Lib.hid (fun w' => parse_lit (s ++ [x]) Nm.zero 11 (parse_err (bad_tail x s hok xd x46 (.inl ⟨x101, x69⟩))) (by simp; omega) w')
        have P3 := Lib.hid (fun w' => parse_lit ([43] ++ s) Nm.zero 11 (parse_err (bad_head 43 s (by decide) (by decide))) (by simp; omega) w')
        have P4 := Lib.hid (fun w' => parse_lit (s ++ [101]) Nm.zero 11 (parse_err (bad_tail 101 s hok (by decide) (by decide) (.inr rfl))) (by simp; omega) w')
        have P5 := Lib.hid (fun w' => parse_lit ([46] ++ s) Nm.zero 11 (parse_err (bad_head 46 s (by decide) (by decide))) (by simp; omega) w')
        have f1 := Sx_app [x] s
        have f2 := Sx_app s [x]
        have f3 : (⟨#[43]⟩ : ByteArray) ++ Sx s = Sx ([43] ++ s) := Sx_app [43] s
        have f4 : Sx s ++ (⟨#[101]⟩ : ByteArray) = Sx (s ++ [101]) := Sx_app s [101]
        have f5 : (⟨#[46]⟩ : ByteArray) ++ Sx s = Sx ([46] ++ s) := Sx_app [46] s
        simp only [Nm.zero] at P1 P2 P3 P4 P5
        generalize Sx ([x] ++ s) = X1 at *
        generalize Sx (s ++ [x]) = X2 at *
        generalize Sx ([43] ++ s) = X3 at *
        generalize Sx (s ++ [101]) = X4 at *
        generalize Sx ([46] ++ s) = X5 at *
        generalize (parseM s).1 = N at *
        generalize s.length = n at *
        generalize Sx [x] = B at *
        have m1 : (a == 45) = false := beq_eq_false_iff_ne.2 n1
        have m2 : (a == 46) = false := beq_eq_false_iff_ne.2 n2
        have m3 : (a == 101) = false := beq_eq_false_iff_ne.2 n3
        have m4 : (a == 69) = false := beq_eq_false_iff_ne.2 n4
        have m5 : (a == 43) = false := beq_eq_false_iff_ne.2 n5
        clear hok hex xd xn x45 x46 x101 x69 hx c60
        by_cases hlo : 48 ≤ a
        · have hhi : ¬ a ≤ 57 := fun h => n0 ⟨hlo, h⟩
          clear n0
          go_enter Tryd.func8, Tryd.ntmps8
          go_wp2_with (first
            | (go_at_call 10; ((with_reducible refine AW.out.mono ?_); rintro r w1 ⟨rfl, hg⟩); have D1 := Lib.hid hg; clear hg)
            | (go_at_call 11; ((with_reducible refine (KP.out _).mono ?_); rintro r w2 ⟨rfl, hg⟩); have D2 := Lib.hid (gtrans D1.out (gtrans (gtrans hg (World.grownBy_alloc w2 (.cells #[.bool N.down, .string (Sx N.digs), .int .i64 N.exp] 24) none)) (World.grownBy_alloc _ (.cells #[.int .u8 a] 5) none))); have cv := CV.out (w2.alloc (.cells #[.bool N.down, .string (Sx N.digs), .int .i64 N.exp] 24)) (w2.heap.size + 1) (by simp); clear hg)
            | (go_at_call 11; ((with_reducible refine (P1.out _).mono ?_); rintro r w3 ⟨rfl, hg⟩); have D3 := Lib.hid (gtrans D2.out (gtrans hg (World.grownBy_alloc w3 (.cells #[.bool false, .string (Sx []), .int .i64 0] 24) none))); clear hg)
            | (go_at_call 11; ((with_reducible refine (P2.out _).mono ?_); rintro r w4 ⟨rfl, hg⟩); have D4 := Lib.hid (gtrans D3.out (gtrans hg (World.grownBy_alloc w4 (.cells #[.bool false, .string (Sx []), .int .i64 0] 24) none))); clear hg)
            | (go_at_call 11; ((with_reducible refine (P3.out _).mono ?_); rintro r w5 ⟨rfl, hg⟩); have D5 := Lib.hid (gtrans D4.out (gtrans hg (World.grownBy_alloc w5 (.cells #[.bool false, .string (Sx []), .int .i64 0] 24) none))); clear hg)
            | (go_at_call 11; ((with_reducible refine (P4.out _).mono ?_); rintro r w6 ⟨rfl, hg⟩); have D6 := Lib.hid (gtrans D5.out (gtrans hg (World.grownBy_alloc w6 (.cells #[.bool false, .string (Sx []), .int .i64 0] 24) none))); clear hg)
            | (go_at_call 11; ((with_reducible refine (P5.out _).mono ?_); rintro r w7 ⟨rfl, hg⟩); have D7 := Lib.hid (gtrans D6.out (gtrans hg (World.grownBy_alloc w7 (.cells #[.bool false, .string (Sx []), .int .i64 0] 24) none))); clear hg))
          go_ret
          exact ⟨rfl, gbelow D7.out⟩
        · clear n0
          go_enter Tryd.func8, Tryd.ntmps8
          go_wp2_with (first
            | (go_at_call 10; ((with_reducible refine AW.out.mono ?_); rintro r w1 ⟨rfl, hg⟩); have D1 := Lib.hid hg; clear hg)
            | (go_at_call 11; ((with_reducible refine (KP.out _).mono ?_); rintro r w2 ⟨rfl, hg⟩); have D2 := Lib.hid (gtrans D1.out (gtrans (gtrans hg (World.grownBy_alloc w2 (.cells #[.bool N.down, .string (Sx N.digs), .int .i64 N.exp] 24) none)) (World.grownBy_alloc _ (.cells #[.int .u8 a] 5) none))); have cv := CV.out (w2.alloc (.cells #[.bool N.down, .string (Sx N.digs), .int .i64 N.exp] 24)) (w2.heap.size + 1) (by simp); clear hg)
            | (go_at_call 11; ((with_reducible refine (P1.out _).mono ?_); rintro r w3 ⟨rfl, hg⟩); have D3 := Lib.hid (gtrans D2.out (gtrans hg (World.grownBy_alloc w3 (.cells #[.bool false, .string (Sx []), .int .i64 0] 24) none))); clear hg)
            | (go_at_call 11; ((with_reducible refine (P2.out _).mono ?_); rintro r w4 ⟨rfl, hg⟩); have D4 := Lib.hid (gtrans D3.out (gtrans hg (World.grownBy_alloc w4 (.cells #[.bool false, .string (Sx []), .int .i64 0] 24) none))); clear hg)
            | (go_at_call 11; ((with_reducible refine (P3.out _).mono ?_); rintro r w5 ⟨rfl, hg⟩); have D5 := Lib.hid (gtrans D4.out (gtrans hg (World.grownBy_alloc w5 (.cells #[.bool false, .string (Sx []), .int .i64 0] 24) none))); clear hg)
            | (go_at_call 11; ((with_reducible refine (P4.out _).mono ?_); rintro r w6 ⟨rfl, hg⟩); have D6 := Lib.hid (gtrans D5.out (gtrans hg (World.grownBy_alloc w6 (.cells #[.bool false, .string (Sx []), .int .i64 0] 24) none))); clear hg)
            | (go_at_call 11; ((with_reducible refine (P5.out _).mono ?_); rintro r w7 ⟨rfl, hg⟩); have D7 := Lib.hid (gtrans D6.out (gtrans hg (World.grownBy_alloc w7 (.cells #[.bool false, .string (Sx []), .int .i64 0] 24) none))); clear hg))
          go_ret
          exact ⟨rfl, gbelow D7.out⟩
    · generalize (parseM s).1 = N at *
      generalize (parseM s).2 = e at *
      generalize s.length = n at *
      have hb : (e != 0) = true := by simpa using he
      have HX := Lib.hid hx
      clear hx he
      go_enter Tryd.func8, Tryd.ntmps8
      go_wp2_with (first
        | (go_at_call 10; ((with_reducible refine AW.out.mono ?_); rintro r w1 ⟨rfl, hg⟩); have D1 := Lib.hid hg; clear hg)
        | (go_at_call 11; ((with_reducible refine (KP.out _).mono ?_); rintro r w2 ⟨rfl, hg⟩); have D2 := Lib.hid (gtrans D1.out (gtrans hg (World.grownBy_alloc w2 (.cells #[.bool N.down, .string (Sx N.digs), .int .i64 N.exp] 24) none))); have cv := CV.out (w2.alloc (.cells #[.bool N.down, .string (Sx N.digs), .int .i64 N.exp] 24)) (w2.heap.size + 1) (by simp); clear hg))
      go_ret
      exact ⟨rfl, gbelow (gtrans D2.out (World.grownBy_alloc _ _ none))⟩

end Go.Proofs.YtpjepdnkolbdhaaDoor
