/-
  A number's sign, its height, how two stand: the code's. Own work.
-/
import Derived.Test.YticnfmfmgdfdeaaGreatDoorJsnAG
import Derived.Deep.RegionHeld3
import Derived.Deep.QuietTactic
import Derived.BigQuiet
import Derived.Deep.LoopGhost

set_option linter.unusedVariables false
set_option linter.unusedSimpArgs false
namespace Go.Proofs.YticnfmfmgdfdeaaGreatDoor
open Go.RowKit

theorem ret_int {k : IntKind} {a b : Int} (h : a = b) : Ending.returned (.int k a) = .returned (.int k b) := by rw [h]
theorem ret_bool {a b : Bool} (h : a = b) : Ending.returned (.bool a) = .returned (.bool b) := by rw [h]

theorem height_any (d : Bool) (A : Bs) (e : Int) (w : World) (hl : A.length ≤ 1000000) (h1 : -1000000 ≤ e) (h2 : e ≤ 1000000) :
    Calls Tryz.prog 84 #[.agg #[.bool d, .string (Sx A), .int .i64 e]] w fun r w' => r = .returned (.int .i64 (hgt ⟨d, A, e⟩)) ∧ w.grownBy w' none := by
  have hsz := Sx_size A
  unfold hgt
  simp only
  generalize Sx A = B at *
  generalize A.length = n at *
  go_enter Tryz.func84, Tryz.ntmps84
  go_wp2
  go_ret
  exact ⟨rfl, World.grownBy_alloc _ _ _⟩

theorem sign_any (d : Bool) (A : Bs) (e : Int) (w : World) :
    Calls Tryz.prog 82 #[.agg #[.bool d, .string (Sx A), .int .i64 e]] w fun r w' => r = .returned (.int .i64 (sgn ⟨d, A, e⟩)) ∧ w.grownBy w' none := by
  have e1 := Sx_toList A
  go_enter Tryz.func82, Tryz.ntmps82
  go_wp2
  all_goals
    go_ret
    exact ⟨ret_int (by simp_all [sgn, Nm.zero]), World.grownBy_alloc _ _ _⟩

def orI (x y : Int) : Int := if x = 0 then y else x
set_option maxHeartbeats 1000000 in
theorem or_two (w : World) (q : Nat) (x y : Int) (c0 : w.cell? ⟨q, 0, none⟩ = some (.int .i64 x)) (c1 : w.cell? ⟨q, 1, none⟩ = some (.int .i64 y)) :
    Calls Tryz.prog 83 #[.slice (some ⟨q, 0, none⟩) 2 2] w fun r w' => r = .returned (.int .i64 (orI x y)) ∧ w = w' := by
  unfold orI
  by_cases hx : x = 0
  · rw [if_pos hx]
    have hb : (x != 0) = false := by simpa using hx
    by_cases hy : y = 0
    · have hb2 : (y != 0) = false := by simpa using hy
      have HY := Lib.hid hy
      clear hx hy
      go_enter Tryz.func83, Tryz.ntmps83
      go_wp2
      refine wp_loop_rounds 3 ?_
      repeat any_goals (rw [rounds_succ]; go_wp2)
      go_ret
      exact ⟨ret_int HY.out.symm, rfl⟩
    · have hb2 : (y != 0) = true := by simpa using hy
      clear hx hy
      go_enter Tryz.func83, Tryz.ntmps83
      go_wp2
      refine wp_loop_rounds 3 ?_
      repeat any_goals (rw [rounds_succ]; go_wp2)
      go_ret
      exact ⟨rfl, rfl⟩
  · rw [if_neg hx]
    have hb : (x != 0) = true := by simpa using hx
    clear hx
    go_enter Tryz.func83, Tryz.ntmps83
    go_wp2
    refine wp_loop_rounds 3 ?_
    repeat any_goals (rw [rounds_succ]; go_wp2)
    go_ret
    exact ⟨rfl, rfl⟩
theorem cells_new1 (W : World) (a b : Value) (t : TypeId) : (W.alloc (.cells #[a, b] t)).cell? ⟨W.heap.size, 0, none⟩ = some a ∧ (W.alloc (.cells #[a, b] t)).cell? ⟨W.heap.size, 1, none⟩ = some b := by
  obtain ⟨h1, h2, _, _⟩ := cells2 (heap_alloc_new W (.cells #[a, b] t (0, 0)))
  exact ⟨h1, h2⟩
theorem cells_new2 (W : World) (a b : Value) (t : TypeId) : ((W.alloc (.cells #[a, b] t)).drew).cell? ⟨W.heap.size, 0, none⟩ = some a ∧ ((W.alloc (.cells #[a, b] t)).drew).cell? ⟨W.heap.size, 1, none⟩ = some b := by
  obtain ⟨h1, h2, _, _⟩ := cells2 (heap_alloc_new W (.cells #[a, b] t (0, 0)))
  exact ⟨h1, h2⟩

set_option maxHeartbeats 1000000 in
theorem compare_any (da : Bool) (Aa : Bs) (ea : Int) (db : Bool) (Ab : Bs) (eb : Int) (w : World) (hla : Aa.length ≤ 1000000) (ha1 : -1000000 ≤ ea) (ha2 : ea ≤ 1000000) (hlb : Ab.length ≤ 1000000) (hb1 : -1000000 ≤ eb) (hb2 : eb ≤ 1000000) :
    Calls Tryz.prog 42 #[.agg #[.bool da, .string (Sx Aa), .int .i64 ea], .agg #[.bool db, .string (Sx Ab), .int .i64 eb]] w fun r w' => r = .returned (.int .i64 (cmpM ⟨da, Aa, ea⟩ ⟨db, Ab, eb⟩)) ∧ w.grownBy w' none := by
  have SA := Lib.hid (sign_any da Aa ea)
  have SB := Lib.hid (sign_any db Ab eb)
  have k0 : NB w.heap.size da Aa ea ((w.alloc (.cells #[.bool da, .string (Sx Aa), .int .i64 ea] 24)).alloc (.cells #[.bool db, .string (Sx Ab), .int .i64 eb] 24)) := two_lit0 w _ _
  have k1 : NB (w.heap.size + 1) db Ab eb ((w.alloc (.cells #[.bool da, .string (Sx Aa), .int .i64 ea] 24)).alloc (.cells #[.bool db, .string (Sx Ab), .int .i64 eb] 24)) := two_lit1 w _ _
  have HG := Lib.hid (two_grown w (.cells #[.bool da, .string (Sx Aa), .int .i64 ea] 24) (.cells #[.bool db, .string (Sx Ab), .int .i64 eb] 24))
  generalize hsa : sgn ⟨da, Aa, ea⟩ = sa at *
  generalize hsb : sgn ⟨db, Ab, eb⟩ = sb at *
  have KC := Lib.hid (fun w' => cmpI_any sa sb w')
  have HM := Lib.hid (show cmpM ⟨da, Aa, ea⟩ ⟨db, Ab, eb⟩ = if cmpI sa sb = 0 then (if da then cmpK ⟨db, Ab, eb⟩ ⟨da, Aa, ea⟩ else cmpK ⟨da, Aa, ea⟩ ⟨db, Ab, eb⟩) else cmpI sa sb by rw [cmpM, hsa, hsb])
  clear hsa hsb
  generalize hc : cmpI sa sb = c at *
  clear hc
  generalize cmpM ⟨da, Aa, ea⟩ ⟨db, Ab, eb⟩ = m at *
  go_enter Tryz.func42, Tryz.ntmps42
  go_wp2_with fail
  generalize (w.alloc (.cells #[.bool da, .string (Sx Aa), .int .i64 ea] 24)).alloc (.cells #[.bool db, .string (Sx Ab), .int .i64 eb] 24) = W at *
  have HKC := Lib.hid (fun w' (h : Gr W w') => And.intro (k0.gr h).nc (k1.gr h).nc)
  have HK0 := Lib.hid k0
  have HK1 := Lib.hid k1
  clear k0 k1
  go_region_held3 (fun v => (v.cell? ⟨w.heap.size, 0, none⟩ = some (.bool da) ∧ v.cell? ⟨w.heap.size, 1, none⟩ = some (.string (Sx Aa)) ∧ v.cell? ⟨w.heap.size, 2, none⟩ = some (.int .i64 ea)) ∧ v.cell? ⟨w.heap.size + 1, 0, none⟩ = some (.bool db) ∧ v.cell? ⟨w.heap.size + 1, 1, none⟩ = some (.string (Sx Ab)) ∧ v.cell? ⟨w.heap.size + 1, 2, none⟩ = some (.int .i64 eb))
    (first | (exact HKC.out _ (gdrew W)) | (exact HKC.out _ HG1.out) | (exact HKC.out _ HG2.out))
    (first
      | (go_at_call 82; ((with_reducible refine (SA.out W.drew).mono ?_); rintro r w1 ⟨rfl, hg⟩); have HG1 := Lib.hid (gtrans (gdrew W) hg); clear hg)
      | (go_at_call 82; ((with_reducible refine (SB.out w1).mono ?_); rintro r w2 ⟨rfl, hg⟩); have HG2 := Lib.hid (gtrans HG1.out hg); clear hg)
      | (go_at_call 40; ((with_reducible refine (KC.out w2).mono ?_); rintro r w3 ⟨rfl, rfl⟩)))
  have HG3 := Lib.hid (gtrans HG.out HG2.out)
  have n0 := HK0.out.gr HG2.out
  have n1 := HK1.out.gr HG2.out
  have H0 := Lib.hid n0
  have H1 := Lib.hid n1
  by_cases h0 : c = 0
  · have hcb : (c != 0) = false := by simpa using h0
    have HM2 := Lib.hid (HM.out.trans (if_pos h0))
    clear h0
    cases da
    · have hm := HM2.out
      simp only [Bool.false_eq_true, if_false] at hm
      have HM3 := Lib.hid hm
      clear hm
      have HKD := Lib.hid (fun w' (h : Gr w3 w') => And.intro (n0.gr h).nc (n1.gr h).nc)
      have KH1 := Lib.hid (fun w' => height_any false Aa ea w' hla ha1 ha2)
      have KH2 := Lib.hid (fun w' => height_any db Ab eb w' hlb hb1 hb2)
      have HK : Hid (m = orI (cmpI (hgt ⟨false, Aa, ea⟩) (hgt ⟨db, Ab, eb⟩)) (cmpB Aa Ab)) := Lib.hid (by rw [HM3.out]; rfl)
      have KCI := Lib.hid (fun w' => cmpI_any (hgt ⟨false, Aa, ea⟩) (hgt ⟨db, Ab, eb⟩) w')
      have KCS := Lib.hid (fun w' => cmpS_any Aa Ab w')
      generalize hgt ⟨false, Aa, ea⟩ = h1 at *
      generalize hgt ⟨db, Ab, eb⟩ = h2 at *
      generalize cmpI h1 h2 = ci at *
      generalize cmpB Aa Ab = cb at *
      clear n0 n1
      go_wp2
      go_region_held3 (fun v => (v.cell? ⟨w.heap.size, 0, none⟩ = some (.bool false) ∧ v.cell? ⟨w.heap.size, 1, none⟩ = some (.string (Sx Aa)) ∧ v.cell? ⟨w.heap.size, 2, none⟩ = some (.int .i64 ea)) ∧ v.cell? ⟨w.heap.size + 1, 0, none⟩ = some (.bool db) ∧ v.cell? ⟨w.heap.size + 1, 1, none⟩ = some (.string (Sx Ab)) ∧ v.cell? ⟨w.heap.size + 1, 2, none⟩ = some (.int .i64 eb))
        (first | (exact HKD.out _ (gdrew w3)) | (exact HKD.out _ HG4.out) | (exact HKD.out _ HG5.out) | (exact HKD.out _ (gtrans HG5.out (World.grownBy_alloc _ _ _))))
        (first
          | (go_at_call 84; ((with_reducible refine (KH1.out w3.drew).mono ?_); rintro r w4 ⟨rfl, hg⟩); have HG4 := Lib.hid (gtrans (gdrew w3) hg); clear hg)
          | (go_at_call 84; ((with_reducible refine (KH2.out w4).mono ?_); rintro r w5 ⟨rfl, hg⟩); have HG5 := Lib.hid (gtrans HG4.out hg); clear hg)
          | (go_at_call 40; ((with_reducible refine (KCI.out _).mono ?_); rintro r w6 ⟨rfl, rfl⟩))
          | (go_at_call 43; ((with_reducible refine (KCS.out _).mono ?_); rintro r w7 ⟨rfl, rfl⟩))
          | (go_at_call 83; (refine (or_two _ _ _ _ (cells_new1 _ _ _ _).1 (cells_new1 _ _ _ _).2).mono ?_); rintro r w8 ⟨rfl, rfl⟩))
      go_wp2
      go_ret
      exact ⟨ret_int HK.out.symm, gtrans HG3.out (gtrans HG5.out (World.grownBy_alloc _ _ _))⟩
    · have hm := HM2.out
      simp only [if_true] at hm
      have HM3 := Lib.hid hm
      clear hm
      obtain ⟨c0, c1, c2, f0, f1, f2⟩ := cells3 n0
      obtain ⟨d0, d1, d2, g0, g1, g2⟩ := cells3 n1
      go_wp2_with fail
      have hq : w.heap.size ≠ w.heap.size + 1 := by omega
      have HS0 := Lib.hid (show NB w.heap.size db Ab eb (((((w3.setCell ⟨w.heap.size, 0, none⟩ (.bool db)).setCell ⟨w.heap.size, 1, none⟩ (.string (Sx Ab))).setCell ⟨w.heap.size, 2, none⟩ (.int .i64 eb)).setCell ⟨w.heap.size + 1, 0, none⟩ (.bool true)).setCell ⟨w.heap.size + 1, 1, none⟩ (.string (Sx Aa)) |>.setCell ⟨w.heap.size + 1, 2, none⟩ (.int .i64 ea)) from
        (set_other hq.symm _ _).trans ((set_other hq.symm _ _).trans ((set_other hq.symm _ _).trans (set3 H0.out))))
      have HS1 := Lib.hid (show NB (w.heap.size + 1) true Aa ea (((((w3.setCell ⟨w.heap.size, 0, none⟩ (.bool db)).setCell ⟨w.heap.size, 1, none⟩ (.string (Sx Ab))).setCell ⟨w.heap.size, 2, none⟩ (.int .i64 eb)).setCell ⟨w.heap.size + 1, 0, none⟩ (.bool true)).setCell ⟨w.heap.size + 1, 1, none⟩ (.string (Sx Aa)) |>.setCell ⟨w.heap.size + 1, 2, none⟩ (.int .i64 ea)) from
        set3 (((set_other hq _ _).trans ((set_other hq _ _).trans ((set_other hq _ _).trans H1.out)))))
      have HSG := Lib.hid (show Gr w (((((w3.setCell ⟨w.heap.size, 0, none⟩ (.bool db)).setCell ⟨w.heap.size, 1, none⟩ (.string (Sx Ab))).setCell ⟨w.heap.size, 2, none⟩ (.int .i64 eb)).setCell ⟨w.heap.size + 1, 0, none⟩ (.bool true)).setCell ⟨w.heap.size + 1, 1, none⟩ (.string (Sx Aa)) |>.setCell ⟨w.heap.size + 1, 2, none⟩ (.int .i64 ea)) from
        gr_set (gr_set (gr_set (gr_set (gr_set (gr_set HG3.out (Nat.le_refl _) _ _) (Nat.le_refl _) _ _) (Nat.le_refl _) _ _) (Nat.le_succ _) _ _) (Nat.le_succ _) _ _) (Nat.le_succ _) _ _)
      generalize (((((w3.setCell ⟨w.heap.size, 0, none⟩ (.bool db)).setCell ⟨w.heap.size, 1, none⟩ (.string (Sx Ab))).setCell ⟨w.heap.size, 2, none⟩ (.int .i64 eb)).setCell ⟨w.heap.size + 1, 0, none⟩ (.bool true)).setCell ⟨w.heap.size + 1, 1, none⟩ (.string (Sx Aa)) |>.setCell ⟨w.heap.size + 1, 2, none⟩ (.int .i64 ea)) = W5 at *
      clear c0 c1 c2 f0 f1 f2 d0 d1 d2 g0 g1 g2 n0 n1 hq H0 H1
      have n0 := HS0.out
      have n1 := HS1.out
      have HKD := Lib.hid (fun w' (h : Gr W5 w') => And.intro (n0.gr h).nc (n1.gr h).nc)
      have KH1 := Lib.hid (fun w' => height_any db Ab eb w' hlb hb1 hb2)
      have KH2 := Lib.hid (fun w' => height_any true Aa ea w' hla ha1 ha2)
      have HK : Hid (m = orI (cmpI (hgt ⟨db, Ab, eb⟩) (hgt ⟨true, Aa, ea⟩)) (cmpB Ab Aa)) := Lib.hid (by rw [HM3.out]; rfl)
      have KCI := Lib.hid (fun w' => cmpI_any (hgt ⟨db, Ab, eb⟩) (hgt ⟨true, Aa, ea⟩) w')
      have KCS := Lib.hid (fun w' => cmpS_any Ab Aa w')
      generalize hgt ⟨db, Ab, eb⟩ = h1 at *
      generalize hgt ⟨true, Aa, ea⟩ = h2 at *
      generalize cmpI h1 h2 = ci at *
      generalize cmpB Ab Aa = cb at *
      clear n0 n1
      go_wp2
      go_region_held3 (fun v => (v.cell? ⟨w.heap.size, 0, none⟩ = some (.bool db) ∧ v.cell? ⟨w.heap.size, 1, none⟩ = some (.string (Sx Ab)) ∧ v.cell? ⟨w.heap.size, 2, none⟩ = some (.int .i64 eb)) ∧ v.cell? ⟨w.heap.size + 1, 0, none⟩ = some (.bool true) ∧ v.cell? ⟨w.heap.size + 1, 1, none⟩ = some (.string (Sx Aa)) ∧ v.cell? ⟨w.heap.size + 1, 2, none⟩ = some (.int .i64 ea))
        (first | (exact HKD.out _ (gdrew W5)) | (exact HKD.out _ HG4.out) | (exact HKD.out _ HG5.out) | (exact HKD.out _ (gtrans HG5.out (World.grownBy_alloc _ _ _))))
        (first
          | (go_at_call 84; ((with_reducible refine (KH1.out W5.drew).mono ?_); rintro r w4 ⟨rfl, hg⟩); have HG4 := Lib.hid (gtrans (gdrew W5) hg); clear hg)
          | (go_at_call 84; ((with_reducible refine (KH2.out w4).mono ?_); rintro r w5 ⟨rfl, hg⟩); have HG5 := Lib.hid (gtrans HG4.out hg); clear hg)
          | (go_at_call 40; ((with_reducible refine (KCI.out _).mono ?_); rintro r w6 ⟨rfl, rfl⟩))
          | (go_at_call 43; ((with_reducible refine (KCS.out _).mono ?_); rintro r w7 ⟨rfl, rfl⟩))
          | (go_at_call 83; (refine (or_two _ _ _ _ (cells_new1 _ _ _ _).1 (cells_new1 _ _ _ _).2).mono ?_); rintro r w8 ⟨rfl, rfl⟩))
      go_wp2
      go_ret
      exact ⟨ret_int HK.out.symm, gtrans HSG.out (gtrans HG5.out (World.grownBy_alloc _ _ _))⟩
  · have hcb : (c != 0) = true := by simpa using h0
    have HM2 := Lib.hid (HM.out.trans (if_neg h0))
    clear h0
    go_wp2
    go_ret
    exact ⟨ret_int HM2.out.symm, HG3.out⟩

end Go.Proofs.YticnfmfmgdfdeaaGreatDoor
