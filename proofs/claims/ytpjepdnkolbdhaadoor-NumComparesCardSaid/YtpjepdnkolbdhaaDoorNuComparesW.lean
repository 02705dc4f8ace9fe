/-
  NumCompares: how two numbers stand is the document's; the law's walk. Own work; printed by tools/mkcompares.py.
-/
import Derived.Test.YtpjepdnkolbdhaaDoorNuOrdersW
import Derived.Test.YtpjepdnkolbdhaaDoorNuV
import Derived.BigQuiet
set_option linter.unusedVariables false
set_option linter.unusedSimpArgs false
namespace Go.Proofs.YtpjepdnkolbdhaaDoor
open Go.RowKit

theorem right_bd2 {n : Nm} (h : rightM n = true) : n.digs.length ≤ 1000 ∧ -1000 ≤ n.exp ∧ n.exp ≤ 1000 := by
  by_cases hd : n.digs = []
  · rw [right_nil h hd]; decide
  · have := right_parts h hd
    exact ⟨by omega, by omega, by omega⟩

set_option maxRecDepth 100000 in
set_option maxHeartbeats 16000000 in
theorem compares_any (W : World) (da : Bool) (Aa : Bs) (ea : Int) (db : Bool) (Ab : Bs) (eb : Int) (hT : TB W) (la : Aa.length ≤ 9223372036854775807) (a1 : -9223372036854775808 ≤ ea) (a2 : ea ≤ 9223372036854775807)
    (lb : Ab.length ≤ 9223372036854775807) (b1 : -9223372036854775808 ≤ eb) (b2 : eb ≤ 9223372036854775807) :
    Calls Tryd.prog 4 #[.agg #[.bool da, .string (Sx Aa), .int .i64 ea], .agg #[.bool db, .string (Sx Ab), .int .i64 eb]] W fun r w' => r = .returned (.bool true) ∧ Below W.heap.size W w' := by
  have k0 : NB W.heap.size da Aa ea ((W.alloc (.cells #[.bool da, .string (Sx Aa), .int .i64 ea] 24)).alloc (.cells #[.bool db, .string (Sx Ab), .int .i64 eb] 24)) := two_lit0 W _ _
  have k1 : NB (W.heap.size + 1) db Ab eb ((W.alloc (.cells #[.bool da, .string (Sx Aa), .int .i64 ea] 24)).alloc (.cells #[.bool db, .string (Sx Ab), .int .i64 eb] 24)) := two_lit1 W _ _
  have HG := Lib.hid (two_grown W (.cells #[.bool da, .string (Sx Aa), .int .i64 ea] 24) (.cells #[.bool db, .string (Sx Ab), .int .i64 eb] 24))
  have HC := Lib.hid (fun w' (g : Gr ((W.alloc (.cells #[.bool da, .string (Sx Aa), .int .i64 ea] 24)).alloc (.cells #[.bool db, .string (Sx Ab), .int .i64 eb] 24)) w') => And.intro (cells3 (k0.gr g)) (cells3 (k1.gr g)))
  have AW := Lib.hid (awake_any · ·)
  have HT := Lib.hid hT
  have Ra := Lib.hid (fun w' => right_any da Aa ea w' la)
  have Rb := Lib.hid (fun w' => right_any db Ab eb w' lb)
  have OA := Lib.hid (fun w' => of_any da Aa ea w')
  have OB := Lib.hid (fun w' => of_any db Ab eb w')
  have hsa := Sx_size Aa
  have hsb := Sx_size Ab
  clear k0 k1 hT a1 a2 b1 b2
  by_cases c60 : (60 : Int) < (Aa.length : Int)
  · have g60 : decide ((60 : Int) < (Aa.length : Int)) = true := decide_eq_true c60
    generalize Aa.length = n at *
    go_enter Tryd.func4, Tryd.ntmps4
    go_wp2_with (first
      | (go_at_call 10; ((with_reducible refine (AW.out _ (HT.out.gr HG.out)).mono ?_); rintro r w1 ⟨rfl, hg⟩); have D1 := Lib.hid hg; obtain ⟨⟨x0, x1, x2, x3, x4, x5⟩, ⟨y0, y1, y2, y3, y4, y5⟩⟩ := HC.out _ D1.out; clear hg))
    go_ret
    exact ⟨rfl, gbelow (gtrans HG.out D1.out)⟩
  · have g60 : decide ((60 : Int) < (Aa.length : Int)) = false := decide_eq_false c60
    by_cases d60 : (60 : Int) < (Ab.length : Int)
    · have h60 : decide ((60 : Int) < (Ab.length : Int)) = true := decide_eq_true d60
      generalize Aa.length = n at *
      generalize Ab.length = m at *
      go_enter Tryd.func4, Tryd.ntmps4
      go_wp2_with (first
        | (go_at_call 10; ((with_reducible refine (AW.out _ (HT.out.gr HG.out)).mono ?_); rintro r w1 ⟨rfl, hg⟩); have D1 := Lib.hid hg; obtain ⟨⟨x0, x1, x2, x3, x4, x5⟩, ⟨y0, y1, y2, y3, y4, y5⟩⟩ := HC.out _ D1.out; clear hg))
      go_ret
      exact ⟨rfl, gbelow (gtrans HG.out D1.out)⟩
    · have h60 : decide ((60 : Int) < (Ab.length : Int)) = false := decide_eq_false d60
      have QA := Lib.hid (fun w' => refRight_any da Aa ea w' (by omega))
      have QB := Lib.hid (fun w' => refRight_any db Ab eb w' (by omega))
      cases ra : rightM ⟨da, Aa, ea⟩ with
      | false =>
        rw [ra] at Ra QA
        clear ra
        cases rb : rightM ⟨db, Ab, eb⟩ with
        | false =>
          rw [rb] at Rb QB
          clear rb
          generalize Aa.length = n at *
          generalize Ab.length = m at *
          go_enter Tryd.func4, Tryd.ntmps4
          go_wp2_with (first
            | (go_at_call 10; ((with_reducible refine (AW.out _ (HT.out.gr HG.out)).mono ?_); rintro r w1 ⟨rfl, hg⟩); have D1 := Lib.hid hg; obtain ⟨⟨x0, x1, x2, x3, x4, x5⟩, ⟨y0, y1, y2, y3, y4, y5⟩⟩ := HC.out _ D1.out; clear hg)
            | (go_at_call 16; ((with_reducible refine (Ra.out _).mono ?_); rintro r w2 ⟨rfl, hg⟩); have D2 := Lib.hid (gtrans D1.out hg); obtain ⟨⟨x0, x1, x2, x3, x4, x5⟩, ⟨y0, y1, y2, y3, y4, y5⟩⟩ := HC.out _ D2.out; clear hg)
            | (go_at_call 16; ((with_reducible refine (Rb.out _).mono ?_); rintro r w3 ⟨rfl, hg⟩); have D3 := Lib.hid (gtrans D2.out hg); obtain ⟨⟨x0, x1, x2, x3, x4, x5⟩, ⟨y0, y1, y2, y3, y4, y5⟩⟩ := HC.out _ D3.out; clear hg)
            | (go_at_call 13; ((with_reducible refine (OA.out _).mono ?_); rintro r w4 ⟨rfl, hg⟩); have D4 := Lib.hid (gtrans D3.out hg); obtain ⟨⟨x0, x1, x2, x3, x4, x5⟩, ⟨y0, y1, y2, y3, y4, y5⟩⟩ := HC.out _ D4.out; clear hg)
            | (go_at_call 17; ((with_reducible refine (QA.out _).mono ?_); rintro r w5 ⟨rfl, hg⟩); have D5 := Lib.hid (gtrans D4.out hg); obtain ⟨⟨x0, x1, x2, x3, x4, x5⟩, ⟨y0, y1, y2, y3, y4, y5⟩⟩ := HC.out _ D5.out; clear hg)
            | (go_at_call 13; ((with_reducible refine (OB.out _).mono ?_); rintro r w6 ⟨rfl, hg⟩); have D6 := Lib.hid (gtrans D5.out hg); obtain ⟨⟨x0, x1, x2, x3, x4, x5⟩, ⟨y0, y1, y2, y3, y4, y5⟩⟩ := HC.out _ D6.out; clear hg)
            | (go_at_call 17; ((with_reducible refine (QB.out _).mono ?_); rintro r w7 ⟨rfl, hg⟩); have D7 := Lib.hid (gtrans D6.out hg); obtain ⟨⟨x0, x1, x2, x3, x4, x5⟩, ⟨y0, y1, y2, y3, y4, y5⟩⟩ := HC.out _ D7.out; clear hg))
          go_quiet (fail)
          go_wp2
          go_ret
          exact ⟨rfl, gbelow (gtrans HG.out (gtrans D7.out (gdrewN _ _)))⟩
        | true =>
          rw [rb] at Rb QB
          clear rb
          generalize Aa.length = n at *
          generalize Ab.length = m at *
          go_enter Tryd.func4, Tryd.ntmps4
          go_wp2_with (first
            | (go_at_call 10; ((with_reducible refine (AW.out _ (HT.out.gr HG.out)).mono ?_); rintro r w1 ⟨rfl, hg⟩); have D1 := Lib.hid hg; obtain ⟨⟨x0, x1, x2, x3, x4, x5⟩, ⟨y0, y1, y2, y3, y4, y5⟩⟩ := HC.out _ D1.out; clear hg)
            | (go_at_call 16; ((with_reducible refine (Ra.out _).mono ?_); rintro r w2 ⟨rfl, hg⟩); have D2 := Lib.hid (gtrans D1.out hg); obtain ⟨⟨x0, x1, x2, x3, x4, x5⟩, ⟨y0, y1, y2, y3, y4, y5⟩⟩ := HC.out _ D2.out; clear hg)
            | (go_at_call 16; ((with_reducible refine (Rb.out _).mono ?_); rintro r w3 ⟨rfl, hg⟩); have D3 := Lib.hid (gtrans D2.out hg); obtain ⟨⟨x0, x1, x2, x3, x4, x5⟩, ⟨y0, y1, y2, y3, y4, y5⟩⟩ := HC.out _ D3.out; clear hg)
            | (go_at_call 13; ((with_reducible refine (OA.out _).mono ?_); rintro r w4 ⟨rfl, hg⟩); have D4 := Lib.hid (gtrans D3.out hg); obtain ⟨⟨x0, x1, x2, x3, x4, x5⟩, ⟨y0, y1, y2, y3, y4, y5⟩⟩ := HC.out _ D4.out; clear hg)
            | (go_at_call 17; ((with_reducible refine (QA.out _).mono ?_); rintro r w5 ⟨rfl, hg⟩); have D5 := Lib.hid (gtrans D4.out hg); obtain ⟨⟨x0, x1, x2, x3, x4, x5⟩, ⟨y0, y1, y2, y3, y4, y5⟩⟩ := HC.out _ D5.out; clear hg)
            | (go_at_call 13; ((with_reducible refine (OB.out _).mono ?_); rintro r w6 ⟨rfl, hg⟩); have D6 := Lib.hid (gtrans D5.out hg); obtain ⟨⟨x0, x1, x2, x3, x4, x5⟩, ⟨y0, y1, y2, y3, y4, y5⟩⟩ := HC.out _ D6.out; clear hg)
            | (go_at_call 17; ((with_reducible refine (QB.out _).mono ?_); rintro r w7 ⟨rfl, hg⟩); have D7 := Lib.hid (gtrans D6.out hg); obtain ⟨⟨x0, x1, x2, x3, x4, x5⟩, ⟨y0, y1, y2, y3, y4, y5⟩⟩ := HC.out _ D7.out; clear hg))
          go_quiet (fail)
          go_wp2
          go_ret
          exact ⟨rfl, gbelow (gtrans HG.out (gtrans D7.out (gdrewN _ _)))⟩
      | true =>
        cases rb : rightM ⟨db, Ab, eb⟩ with
        | false =>
          rw [ra] at Ra QA
          rw [rb] at Rb QB
          clear ra rb
          generalize Aa.length = n at *
          generalize Ab.length = m at *
          go_enter Tryd.func4, Tryd.ntmps4
          go_wp2_with (first
            | (go_at_call 10; ((with_reducible refine (AW.out _ (HT.out.gr HG.out)).mono ?_); rintro r w1 ⟨rfl, hg⟩); have D1 := Lib.hid hg; obtain ⟨⟨x0, x1, x2, x3, x4, x5⟩, ⟨y0, y1, y2, y3, y4, y5⟩⟩ := HC.out _ D1.out; clear hg)
            | (go_at_call 16; ((with_reducible refine (Ra.out _).mono ?_); rintro r w2 ⟨rfl, hg⟩); have D2 := Lib.hid (gtrans D1.out hg); obtain ⟨⟨x0, x1, x2, x3, x4, x5⟩, ⟨y0, y1, y2, y3, y4, y5⟩⟩ := HC.out _ D2.out; clear hg)
            | (go_at_call 16; ((with_reducible refine (Rb.out _).mono ?_); rintro r w3 ⟨rfl, hg⟩); have D3 := Lib.hid (gtrans D2.out hg); obtain ⟨⟨x0, x1, x2, x3, x4, x5⟩, ⟨y0, y1, y2, y3, y4, y5⟩⟩ := HC.out _ D3.out; clear hg)
            | (go_at_call 13; ((with_reducible refine (OA.out _).mono ?_); rintro r w4 ⟨rfl, hg⟩); have D4 := Lib.hid (gtrans D3.out hg); obtain ⟨⟨x0, x1, x2, x3, x4, x5⟩, ⟨y0, y1, y2, y3, y4, y5⟩⟩ := HC.out _ D4.out; clear hg)
            | (go_at_call 17; ((with_reducible refine (QA.out _).mono ?_); rintro r w5 ⟨rfl, hg⟩); have D5 := Lib.hid (gtrans D4.out hg); obtain ⟨⟨x0, x1, x2, x3, x4, x5⟩, ⟨y0, y1, y2, y3, y4, y5⟩⟩ := HC.out _ D5.out; clear hg)
            | (go_at_call 13; ((with_reducible refine (OB.out _).mono ?_); rintro r w6 ⟨rfl, hg⟩); have D6 := Lib.hid (gtrans D5.out hg); obtain ⟨⟨x0, x1, x2, x3, x4, x5⟩, ⟨y0, y1, y2, y3, y4, y5⟩⟩ := HC.out _ D6.out; clear hg)
            | (go_at_call 17; ((with_reducible refine (QB.out _).mono ?_); rintro r w7 ⟨rfl, hg⟩); have D7 := Lib.hid (gtrans D6.out hg); obtain ⟨⟨x0, x1, x2, x3, x4, x5⟩, ⟨y0, y1, y2, y3, y4, y5⟩⟩ := HC.out _ D7.out; clear hg))
          go_quiet (fail)
          go_wp2
          go_ret
          exact ⟨rfl, gbelow (gtrans HG.out (gtrans D7.out (gdrewN _ _)))⟩
        | true =>
          obtain ⟨p1, p2, p3⟩ := right_bd2 ra
          obtain ⟨q1, q2, q3⟩ := right_bd2 rb
          simp only at p1 p2 p3 q1 q2 q3
          have KC := Lib.hid (fun w' => compare_any da Aa ea db Ab eb w' (by omega) (by omega) (by omega) (by omega) (by omega) (by omega))
          have KR := Lib.hid (fun w' => refCompare_any da Aa ea db Ab eb w' p1 p2 p3 q1 q2 q3)
          rw [refC_eq ra rb] at KR
          rw [ra] at Ra QA
          rw [rb] at Rb QB
          generalize cmpM ⟨da, Aa, ea⟩ ⟨db, Ab, eb⟩ = c at *
          clear ra rb p1 p2 p3 q1 q2 q3
          generalize Aa.length = n at *
          generalize Ab.length = m at *
          generalize Sx Aa = SA at *
          generalize Sx Ab = SB at *
          go_enter Tryd.func4, Tryd.ntmps4
          go_wp2_with (first
            | (go_at_call 10; ((with_reducible refine (AW.out _ (HT.out.gr HG.out)).mono ?_); rintro r w1 ⟨rfl, hg⟩); have D1 := Lib.hid hg; obtain ⟨⟨x0, x1, x2, x3, x4, x5⟩, ⟨y0, y1, y2, y3, y4, y5⟩⟩ := HC.out _ D1.out; clear hg)
            | (go_at_call 16; ((with_reducible refine (Ra.out _).mono ?_); rintro r w2 ⟨rfl, hg⟩); have D2 := Lib.hid (gtrans D1.out hg); obtain ⟨⟨x0, x1, x2, x3, x4, x5⟩, ⟨y0, y1, y2, y3, y4, y5⟩⟩ := HC.out _ D2.out; clear hg)
            | (go_at_call 16; ((with_reducible refine (Rb.out _).mono ?_); rintro r w3 ⟨rfl, hg⟩); have D3 := Lib.hid (gtrans D2.out hg); obtain ⟨⟨x0, x1, x2, x3, x4, x5⟩, ⟨y0, y1, y2, y3, y4, y5⟩⟩ := HC.out _ D3.out; clear hg)
            | (go_at_call 13; ((with_reducible refine (OA.out _).mono ?_); rintro r w4 ⟨rfl, hg⟩); have D4 := Lib.hid (gtrans D3.out hg); obtain ⟨⟨x0, x1, x2, x3, x4, x5⟩, ⟨y0, y1, y2, y3, y4, y5⟩⟩ := HC.out _ D4.out; clear hg)
            | (go_at_call 17; ((with_reducible refine (QA.out _).mono ?_); rintro r w5 ⟨rfl, hg⟩); have D5 := Lib.hid (gtrans D4.out hg); obtain ⟨⟨x0, x1, x2, x3, x4, x5⟩, ⟨y0, y1, y2, y3, y4, y5⟩⟩ := HC.out _ D5.out; clear hg)
            | (go_at_call 13; ((with_reducible refine (OB.out _).mono ?_); rintro r w6 ⟨rfl, hg⟩); have D6 := Lib.hid (gtrans D5.out hg); obtain ⟨⟨x0, x1, x2, x3, x4, x5⟩, ⟨y0, y1, y2, y3, y4, y5⟩⟩ := HC.out _ D6.out; clear hg)
            | (go_at_call 17; ((with_reducible refine (QB.out _).mono ?_); rintro r w7 ⟨rfl, hg⟩); have D7 := Lib.hid (gtrans D6.out hg); obtain ⟨⟨x0, x1, x2, x3, x4, x5⟩, ⟨y0, y1, y2, y3, y4, y5⟩⟩ := HC.out _ D7.out; clear hg))
          have HKC := Lib.hid (fun w' (h : Gr w7 w') => HC.out w' (gtrans D7.out h))
          go_region_held3 (fun v => (v.cell? ⟨W.heap.size, 0, none⟩ = some (.bool da) ∧ v.cell? ⟨W.heap.size, 1, none⟩ = some (.string SA) ∧ v.cell? ⟨W.heap.size, 2, none⟩ = some (.int .i64 ea)) ∧ v.cell? ⟨W.heap.size + 1, 0, none⟩ = some (.bool db) ∧ v.cell? ⟨W.heap.size + 1, 1, none⟩ = some (.string SB) ∧ v.cell? ⟨W.heap.size + 1, 2, none⟩ = some (.int .i64 eb))
            (first
              | (obtain ⟨⟨x0, x1, x2, -⟩, ⟨y0, y1, y2, -⟩⟩ := HKC.out _ (gdrew w7); exact ⟨⟨x0, x1, x2⟩, y0, y1, y2⟩)
              | (obtain ⟨⟨x0, x1, x2, -⟩, ⟨y0, y1, y2, -⟩⟩ := HKC.out _ G8.out; exact ⟨⟨x0, x1, x2⟩, y0, y1, y2⟩)
              | (obtain ⟨⟨x0, x1, x2, -⟩, ⟨y0, y1, y2, -⟩⟩ := HKC.out _ G9.out; exact ⟨⟨x0, x1, x2⟩, y0, y1, y2⟩)
              | (obtain ⟨⟨x0, x1, x2, -⟩, ⟨y0, y1, y2, -⟩⟩ := HKC.out _ G10.out; exact ⟨⟨x0, x1, x2⟩, y0, y1, y2⟩)
              | (obtain ⟨⟨x0, x1, x2, -⟩, ⟨y0, y1, y2, -⟩⟩ := HKC.out _ G11.out; exact ⟨⟨x0, x1, x2⟩, y0, y1, y2⟩))
            (first
              | (go_at_call 18; ((with_reducible refine (KC.out w7.drew).mono ?_); rintro r w8 ⟨rfl, hg⟩); have G8 := Lib.hid (gtrans (gdrew w7) hg); clear hg)
              | (go_at_call 13; ((with_reducible refine (OA.out w8).mono ?_); rintro r w9 ⟨rfl, hg⟩); have G9 := Lib.hid (gtrans G8.out hg); clear hg)
              | (go_at_call 13; ((with_reducible refine (OB.out w9).mono ?_); rintro r w10 ⟨rfl, hg⟩); have G10 := Lib.hid (gtrans G9.out hg); clear hg)
              | (go_at_call 19; ((with_reducible refine (KR.out w10).mono ?_); rintro r w11 ⟨rfl, hg⟩); have G11 := Lib.hid (gtrans G10.out hg); clear hg))
          go_wp2
          go_ret
          exact ⟨ret_bool (by simp), gbelow (gtrans HG.out (gtrans D7.out G11.out))⟩

end Go.Proofs.YtpjepdnkolbdhaaDoor
