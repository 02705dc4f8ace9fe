/-
  JsonBack: a value's text is parsed as it; the law's walk. Own work.
-/
import Derived.Test.YticnfmfmgdfdeaaGreatDoorJsnBE
import Derived.Deep.RegionHeld3
import Derived.Deep.DeepCutAuto

set_option linter.unusedVariables false
set_option linter.unusedSimpArgs false
namespace Go.Proofs.YticnfmfmgdfdeaaGreatDoor
open Go.RowKit

set_option maxRecDepth 100000 in
set_option maxHeartbeats 16000000 in
theorem back_any (W : World) (s t : Bs) (hT : TB W) (hE : ES W) (hs : s.length ≤ 9223372036854775807) (ht : t.length ≤ 9223372036854775807) :
    Calls Tryz.prog 5 #[.string (Sx s), .string (Sx t)] W fun r w' => r = .returned (.bool true) ∧ Below W.heap.size W w' := by
  have AW := Lib.hid (awake15_any W hT hE)
  have HT := Lib.hid hT
  have HE := Lib.hid hE
  have hsz := Sx_size s
  have htz := Sx_size t
  clear hT hE
  by_cases c1 : 600 < s.length ∨ 600 < t.length
  · have k1 : (600 : Int) < (s.length : Int) ∨ ¬ (600 : Int) < (s.length : Int) ∧ (600 : Int) < (t.length : Int) := by omega
    clear c1
    generalize s.length = n at *
    generalize t.length = m at *
    generalize Sx s = SS at *
    generalize Sx t = TT at *
    rcases k1 with k1 | ⟨k0, k1⟩
    all_goals
      go_enter Tryz.func5, Tryz.ntmps5
      go_wp2_with (go_at_call 14; ((with_reducible refine AW.out.mono ?_); rintro r w1 ⟨rfl, hg⟩); have D1 := Lib.hid hg; clear hg)
      go_ret
      exact ⟨rfl, gbelow D1.out⟩
  · have k1 : ¬ (600 : Int) < (s.length : Int) := by omega
    have k2 : ¬ (600 : Int) < (t.length : Int) := by omega
    have PA := Lib.hid (fun w (h : ES w) => parse_vb s w h)
    have PB := Lib.hid (fun w (h : ES w) => parse_vb t w h)
    have ra := parse_right s
    have rb := parse_right t
    have la : (textJ (parseJ s).1).length ≤ 4096 := by have := (parseJ_ok s).2; omega
    have lb : (textJ (parseJ t).1).length ≤ 4096 := by have := (parseJ_ok t).2; omega
    clear c1 hs ht
    generalize s.length = n at *
    generalize t.length = m at *
    generalize Sx s = SS at *
    generalize Sx t = TT at *
    generalize (parseJ s).1 = A at *
    generalize (parseJ t).1 = B at *
    generalize (parseJ s).2 = ea at *
    generalize (parseJ t).2 = eb at *
    have HR := Lib.hid (And.intro ra (And.intro rb (And.intro la lb)))
    clear ra rb la lb
    by_cases c2 : ea ≠ 0 ∨ eb ≠ 0
    · have k3 : (ea != 0) = true ∨ (ea != 0) = false ∧ (eb != 0) = true := by
        by_cases h : ea = 0
        · right; rcases c2 with c2 | c2
          · exact absurd h c2
          · exact ⟨by simpa using h, by simpa using c2⟩
        · left; simpa using h
      clear c2
      rcases k3 with k3 | ⟨k3, k4⟩
      all_goals
        go_enter Tryz.func5, Tryz.ntmps5
        go_wp2_with (first
          | (go_at_call 14; ((with_reducible refine AW.out.mono ?_); rintro r w1 ⟨rfl, hg⟩); have D1 := Lib.hid hg; clear hg)
          | (go_at_call 15; ((with_reducible refine (PA.out _ (HE.out.gr D1.out)).mono ?_); rintro r w2 ⟨ka, ia, da, ga, xa, ta, aa6, na6, ca6, aa7, na7, ca7, rfl, hv, hg⟩); have D2 := Lib.hid (gtrans D1.out hg); clear hg hv)
          | (go_at_call 15; ((with_reducible refine (PB.out _ (HE.out.gr D2.out)).mono ?_); rintro r w3 ⟨kb, ib, db, gb, xb, tb, ab6, nb6, cb6, ab7, nb7, cb7, rfl, hv, hg⟩); have D3 := Lib.hid (gtrans D2.out hg); clear hg hv))
        go_ret
        exact ⟨rfl, gbelow D3.out⟩
    · obtain ⟨rfl, rfl⟩ : ea = 0 ∧ eb = 0 := by
        by_cases h : ea = 0
        · by_cases g : eb = 0
          · exact ⟨h, g⟩
          · exact absurd (.inr g) c2
        · exact absurd (.inl h) c2
      clear c2
      have PC := Lib.hid (fun w (h : ES w) => parse_vb' (textJ A) A 0 (back_parse HR.out.1 HR.out.2.2.1) w h)
      have haa : cmpJ A A = 0 := (cmpJ_zero 16 A A HR.out.1 HR.out.1).2 rfl
      have hab : (cmpJ A B = 0 ∧ textJ B = textJ A) ∨ (cmpJ A B ≠ 0 ∧ textJ A ≠ textJ B) := by
        by_cases h : cmpJ A B = 0
        · left
          have := (cmpJ_zero 16 A B HR.out.1 HR.out.2.1).1 h
          exact ⟨h, by rw [this]⟩
        · right
          exact ⟨h, fun e => h ((cmpJ_zero 16 A B HR.out.1 HR.out.2.1).2 (text_inj HR.out.1 HR.out.2.1 HR.out.2.2.1 e))⟩
      have TA : Hid (∀ u q w, VB A u q w → TB w → Calls Tryz.prog 17 #[.agg u] w fun r w' => r = .returned (.string (Sx (textJ A))) ∧ Gr w w') := Lib.hid (fun u q w h k => text_vb h k HR.out.1 (by have := HR.out.2.2.1; omega))
      have TBB : Hid (∀ u q w, VB B u q w → TB w → Calls Tryz.prog 17 #[.agg u] w fun r w' => r = .returned (.string (Sx (textJ B))) ∧ Gr w w') := Lib.hid (fun u q w h k => text_vb h k HR.out.2.1 (by have := HR.out.2.2.2; omega))
      have CA : Hid (∀ u v p q w, VB A u p w → VB A v q w → Calls Tryz.prog 19 #[.agg u, .agg v] w fun r w' => r = .returned (.int .i64 0) ∧ Gr w w') := Lib.hid (fun u v p q w h g => by
        have := cmp_vb h g HR.out.1 HR.out.1
        rw [haa] at this
        exact this)
      have CB : Hid (∀ u v p q w, VB A u p w → VB B v q w → Calls Tryz.prog 19 #[.agg u, .agg v] w fun r w' => r = .returned (.int .i64 (cmpJ A B)) ∧ Gr w w') := Lib.hid (fun u v p q w h g => cmp_vb h g HR.out.1 HR.out.2.1)
      clear haa
      have key : ∃ (x : Int) (XA XB : ByteArray), cmpJ A B = x ∧ Sx (textJ A) = XA ∧ Sx (textJ B) = XB ∧ ((x = 0 ∧ XB = XA) ∨ ((x == 0) = false ∧ (XA.toList == XB.toList) = false)) := by
        refine ⟨_, _, _, rfl, rfl, rfl, ?_⟩
        rcases hab with ⟨h1, h2⟩ | ⟨h1, h2⟩
        · exact .inl ⟨h1, by rw [h2]⟩
        · refine .inr ⟨by simpa using h1, ?_⟩
          rw [Sx_toList, Sx_toList]
          exact beq_eq_false_iff_ne.2 h2
      obtain ⟨x, XA, XB, e1, e2, e3, key⟩ := key
      rw [e1] at CB
      rw [e2] at TA PC
      rw [e3] at TBB
      clear e1 e2 e3 hab
      rcases key with ⟨rfl, rfl⟩ | ⟨k5, k6⟩
      all_goals
        go_enter Tryz.func5, Tryz.ntmps5
        go_wp2_with (first
          | (go_at_call 14; ((with_reducible refine AW.out.mono ?_); rintro r w1 ⟨rfl, hg⟩); have D1 := Lib.hid hg; clear hg)
          | (go_at_call 15; ((with_reducible refine (PA.out _ (HE.out.gr D1.out)).mono ?_); rintro r w2 ⟨ka, ia, da, ga, xa, ta, aa6, na6, ca6, aa7, na7, ca7, rfl, hv, hg⟩); have D2 := Lib.hid (gtrans D1.out hg); have V1 := Lib.hid hv; clear hg hv)
          | (go_at_call 15; ((with_reducible refine (PB.out _ (HE.out.gr D2.out)).mono ?_); rintro r w3 ⟨kb, ib, db, gb, xb, tb, ab6, nb6, cb6, ab7, nb7, cb7, rfl, hv, hg⟩); have D3 := Lib.hid (gtrans D2.out hg); have V2 := Lib.hid hv; have V1b := Lib.hid (V1.out.gr hg); have hc := (V1.out.gr hg).c; obtain ⟨x0, x1, x2, x3, x4, x5, x6, x7⟩ := hc; clear hg hv)
          | (go_at_call 17; ((with_reducible refine (TA.out _ _ _ V1b.out (HT.out.gr D3.out)).mono ?_); rintro r w4 ⟨rfl, hg⟩); have D4 := Lib.hid (gtrans D3.out hg); have V1c := Lib.hid (V1b.out.gr hg); have V2c := Lib.hid (V2.out.gr hg); clear hg x0 x1 x2 x3 x4 x5 x6 x7)
          | (go_at_call 15; ((with_reducible refine (PC.out _ (HE.out.gr D4.out)).mono ?_); rintro r w5 ⟨kc, ic, dc, gc, xc, tc, ac6, nc6, cc6, ac7, nc7, cc7, rfl, hv, hg⟩); have D5 := Lib.hid (gtrans D4.out hg); have V3 := Lib.hid hv; have V1d := Lib.hid (V1c.out.gr hg); have V2d := Lib.hid (V2c.out.gr hg); clear hg hv))
        have HC := Lib.hid (fun V (G : Gr (w5.alloc (.cells (V8 kc ic dc gc xc tc ac6 nc6 cc6 ac7 nc7 cc7) 28)) V) => And.intro (V1d.out.gr G).c (And.intro (V2d.out.gr G).c (V3.out.gr G).c))
        generalize w5.alloc (.cells (V8 kc ic dc gc xc tc ac6 nc6 cc6 ac7 nc7 cc7) 28) = W5 at *
        go_region_held3 (fun v => (v.cell? ⟨w2.heap.size, 0, none⟩ = some (.int .i64 ka) ∧ v.cell? ⟨w2.heap.size, 1, none⟩ = some (.bool ia) ∧ v.cell? ⟨w2.heap.size, 2, none⟩ = some (.bool da) ∧ v.cell? ⟨w2.heap.size, 3, none⟩ = some (.string ga) ∧ v.cell? ⟨w2.heap.size, 4, none⟩ = some (.int .i64 xa) ∧ v.cell? ⟨w2.heap.size, 5, none⟩ = some (.string ta) ∧ v.cell? ⟨w2.heap.size, 6, none⟩ = some (.slice aa6 na6 ca6) ∧ v.cell? ⟨w2.heap.size, 7, none⟩ = some (.slice aa7 na7 ca7)) ∧ (v.cell? ⟨w3.heap.size, 0, none⟩ = some (.int .i64 kb) ∧ v.cell? ⟨w3.heap.size, 1, none⟩ = some (.bool ib) ∧ v.cell? ⟨w3.heap.size, 2, none⟩ = some (.bool db) ∧ v.cell? ⟨w3.heap.size, 3, none⟩ = some (.string gb) ∧ v.cell? ⟨w3.heap.size, 4, none⟩ = some (.int .i64 xb) ∧ v.cell? ⟨w3.heap.size, 5, none⟩ = some (.string tb) ∧ v.cell? ⟨w3.heap.size, 6, none⟩ = some (.slice ab6 nb6 cb6) ∧ v.cell? ⟨w3.heap.size, 7, none⟩ = some (.slice ab7 nb7 cb7)) ∧ v.cell? ⟨w5.heap.size, 0, none⟩ = some (.int .i64 kc) ∧ v.cell? ⟨w5.heap.size, 1, none⟩ = some (.bool ic) ∧ v.cell? ⟨w5.heap.size, 2, none⟩ = some (.bool dc) ∧ v.cell? ⟨w5.heap.size, 3, none⟩ = some (.string gc) ∧ v.cell? ⟨w5.heap.size, 4, none⟩ = some (.int .i64 xc) ∧ v.cell? ⟨w5.heap.size, 5, none⟩ = some (.string tc) ∧ v.cell? ⟨w5.heap.size, 6, none⟩ = some (.slice ac6 nc6 cc6) ∧ v.cell? ⟨w5.heap.size, 7, none⟩ = some (.slice ac7 nc7 cc7))
          (first | (exact HC.out _ (gdrew W5)) | (exact HC.out _ (grefl W5 none)) | (exact HC.out _ G6.out) | (exact HC.out _ G7.out) | (exact HC.out _ G8.out) | (exact HC.out _ G9.out))
          (first
            | (go_at_call 17; ((with_reducible refine (TA.out _ _ W5.drew (V3.out.gr (gdrew W5)) (HT.out.gr (gtrans D5.out (gdrew W5)))).mono ?_); rintro r w6 ⟨rfl, hg⟩); have G6 := Lib.hid (gtrans (gdrew W5) hg); clear hg)
            | (go_at_call 19; ((with_reducible refine (CA.out _ _ _ _ w6 (V1d.out.gr G6.out) (V3.out.gr G6.out)).mono ?_); rintro r w7 ⟨rfl, hg⟩); have G7 := Lib.hid (gtrans G6.out hg); clear hg)
            | (go_at_call 19; ((with_reducible refine (CB.out _ _ _ _ w7 (V1d.out.gr G7.out) (V2d.out.gr G7.out)).mono ?_); rintro r w8 ⟨rfl, hg⟩); have G8 := Lib.hid (gtrans G7.out hg); clear hg)
            | (go_at_call 17; ((with_reducible refine (TBB.out _ _ w8 (V2d.out.gr G8.out) (HT.out.gr (gtrans D5.out G8.out))).mono ?_); rintro r w9 ⟨rfl, hg⟩); have G9 := Lib.hid (gtrans G8.out hg); clear hg))
        go_wp2
        go_ret
        exact ⟨rfl, gbelow (gtrans D5.out G9.out)⟩

end Go.Proofs.YticnfmfmgdfdeaaGreatDoor
