/-
  How two numbers stand, by the document: with noughts behind. Own work.
-/
import Derived.Test.YtpjepdnkolbdhaaDoorNuU
import Derived.Deep.DeepCutAuto
set_option linter.unusedVariables false
set_option linter.unusedSimpArgs false
namespace Go.Proofs.YtpjepdnkolbdhaaDoor
open Go.RowKit

theorem noughts_w (n : Nat) (w : World) (hn : n ≤ 1000000) :
    Calls Tryd.prog 32 #[.int .i64 (IntKind.i64.wrap (n : Int))] w fun r w' => r = .returned (.string (Sx (List.replicate n 48))) ∧ w = w' := by
  rw [IntWalk.i64_in _ (by omega)]; exact noughts_any n w hn
set_option maxRecDepth 20000 in
set_option maxHeartbeats 4000000 in
theorem refCompare_any (da : Bool) (Aa : Bs) (ea : Int) (db : Bool) (Ab : Bs) (eb : Int) (w : World) (hla : Aa.length ≤ 1000) (ha1 : -1000 ≤ ea) (ha2 : ea ≤ 1000) (hlb : Ab.length ≤ 1000) (hb1 : -1000 ≤ eb) (hb2 : eb ≤ 1000) :
    Calls Tryd.prog 19 #[.agg #[.bool da, .string (Sx Aa), .int .i64 ea], .agg #[.bool db, .string (Sx Ab), .int .i64 eb]] w fun r w' => r = .returned (.int .i64 (refC ⟨da, Aa, ea⟩ ⟨db, Ab, eb⟩)) ∧ w.grownBy w' none := by
  have k0 : RB w.heap.size da Aa ea ((w.alloc (.cells #[.bool da, .string (Sx Aa), .int .i64 ea] 28)).alloc (.cells #[.bool db, .string (Sx Ab), .int .i64 eb] 28)) := two_lit0 w _ _
  have k1 : RB (w.heap.size + 1) db Ab eb ((w.alloc (.cells #[.bool da, .string (Sx Aa), .int .i64 ea] 28)).alloc (.cells #[.bool db, .string (Sx Ab), .int .i64 eb] 28)) := two_lit1 w _ _
  have HG := Lib.hid (two_grown w (.cells #[.bool da, .string (Sx Aa), .int .i64 ea] 28) (.cells #[.bool db, .string (Sx Ab), .int .i64 eb] 28))
  obtain ⟨ka, hka⟩ : ∃ ka : Nat, ea - min ea eb = (ka : Int) := ⟨(ea - min ea eb).toNat, by omega⟩
  obtain ⟨kb, hkb⟩ : ∃ kb : Nat, eb - min ea eb = (kb : Int) := ⟨(eb - min ea eb).toNat, by omega⟩
  have bka : ka ≤ 2000 := by omega
  have bkb : kb ≤ 2000 := by omega
  have hpa : padM ⟨da, Aa, ea⟩ (min ea eb) = if Aa = [] then [] else Aa ++ List.replicate ka 48 := by
    unfold padM; simp only [hka, Int.toNat_natCast]
  have hpb : padM ⟨db, Ab, eb⟩ (min ea eb) = if Ab = [] then [] else Ab ++ List.replicate kb 48 := by
    unfold padM; simp only [hkb, Int.toNat_natCast]
  have HR : Hid (refC ⟨da, Aa, ea⟩ ⟨db, Ab, eb⟩ = (if da && db && grM (padM ⟨da, Aa, ea⟩ (min ea eb)) (padM ⟨db, Ab, eb⟩ (min ea eb)) then -1 else if da && db && grM (padM ⟨db, Ab, eb⟩ (min ea eb)) (padM ⟨da, Aa, ea⟩ (min ea eb)) then 1 else if da && db then 0 else if da then -1 else if db || grM (padM ⟨da, Aa, ea⟩ (min ea eb)) (padM ⟨db, Ab, eb⟩ (min ea eb)) then 1 else if grM (padM ⟨db, Ab, eb⟩ (min ea eb)) (padM ⟨da, Aa, ea⟩ (min ea eb)) then -1 else 0)) := Lib.hid rfl
  have hlx : (padM ⟨da, Aa, ea⟩ (min ea eb)).length ≤ 1000000 := by rw [hpa]; split <;> simp; omega
  have hly : (padM ⟨db, Ab, eb⟩ (min ea eb)).length ≤ 1000000 := by rw [hpb]; split <;> simp; omega
  have KG1 := Lib.hid (fun w' => greater_any (padM ⟨da, Aa, ea⟩ (min ea eb)) (padM ⟨db, Ab, eb⟩ (min ea eb)) w' hlx hly)
  have KG2 := Lib.hid (fun w' => greater_any (padM ⟨db, Ab, eb⟩ (min ea eb)) (padM ⟨da, Aa, ea⟩ (min ea eb)) w' hly hlx)
  have HPA := Lib.hid hpa
  have HPB := Lib.hid hpb
  clear hpa hpb hlx hly
  generalize padM ⟨da, Aa, ea⟩ (min ea eb) = x at *
  generalize padM ⟨db, Ab, eb⟩ (min ea eb) = y at *
  generalize grM x y = g1 at *
  generalize grM y x = g2 at *
  generalize refC ⟨da, Aa, ea⟩ ⟨db, Ab, eb⟩ = res at *
  have KN1 := Lib.hid (fun w' => noughts_w ka w' (by omega))
  have KN2 := Lib.hid (fun w' => noughts_w kb w' (by omega))
  have f1 := Sx_app Aa (List.replicate ka 48)
  have f2 := Sx_app Ab (List.replicate kb 48)
  have s1' : (Sx (List.replicate ka 48)).size = ka := by rw [Sx_size, List.length_replicate]
  have s2' : (Sx (List.replicate kb 48)).size = kb := by rw [Sx_size, List.length_replicate]
  have s3' := Sx_size Aa
  have s4' := Sx_size Ab
  have eA := Sx_toList Aa
  have eB := Sx_toList Ab
  have HPA' : Hid (Sx x = if Aa.isEmpty then (⟨#[]⟩ : ByteArray) else Sx (Aa ++ List.replicate ka 48)) := Lib.hid (by rw [HPA.out]; cases Aa <;> rfl)
  have HPB' : Hid (Sx y = if Ab.isEmpty then (⟨#[]⟩ : ByteArray) else Sx (Ab ++ List.replicate kb 48)) := Lib.hid (by rw [HPB.out]; cases Ab <;> rfl)
  clear HPA HPB
  generalize Sx (Aa ++ List.replicate ka 48) = X0 at *
  generalize Sx (Ab ++ List.replicate kb 48) = Y0 at *
  generalize Sx (List.replicate ka 48) = NA at *
  generalize Sx (List.replicate kb 48) = NBt at *
  generalize Sx x = SX at *
  generalize Sx y = SY at *
  go_enter Tryd.func19, Tryd.ntmps19
  go_wp2_with fail
  generalize (w.alloc (.cells #[.bool da, .string (Sx Aa), .int .i64 ea] 28)).alloc (.cells #[.bool db, .string (Sx Ab), .int .i64 eb] 28) = W at *
  have HKC := Lib.hid (fun w' (h : Gr W w') => And.intro (cells3 (k0.gr h)) (cells3 (k1.gr h)))
  clear k0 k1
  generalize hla' : Aa.length = la at *
  generalize hlb' : Ab.length = lb at *
  clear hla' hlb'
  generalize hSA : Sx Aa = SA at *
  generalize hSB : Sx Ab = SB at *
  clear hSA hSB
  have cc1 : (9223372036854775807 < la + ka) = False := eq_false (by omega)
  have cc2 : (9223372036854775807 < lb + kb) = False := eq_false (by omega)
  go_region_held3 (fun v => (v.cell? ⟨w.heap.size, 1, none⟩ = some (.string SA) ∧ v.cell? ⟨w.heap.size, 2, none⟩ = some (.int .i64 ea)) ∧ v.cell? ⟨w.heap.size + 1, 2, none⟩ = some (.int .i64 eb))
    (first | (obtain ⟨⟨-, z1, z2, -⟩, ⟨-, -, z3, -⟩⟩ := HKC.out _ (gdrew W); exact ⟨⟨z1, z2⟩, z3⟩) | (obtain ⟨⟨-, z1, z2, -⟩, ⟨-, -, z3, -⟩⟩ := HKC.out _ (grefl W none); exact ⟨⟨z1, z2⟩, z3⟩))
    (first
      | (go_at_call 32; ((with_reducible refine (KN1.out W.drew).mono ?_); rintro r w1 ⟨rfl, rfl⟩)))
  have HKD := Lib.hid (fun w' (h : Gr W.drew w') => HKC.out w' (gtrans (gdrew W) h))
  have HG2 := Lib.hid (gtrans HG.out (gdrew W))
  generalize W.drew = V at *
  go_wp2_with fail
  go_region_held3 (fun v => (v.cell? ⟨w.heap.size + 1, 1, none⟩ = some (.string SB) ∧ v.cell? ⟨w.heap.size + 1, 2, none⟩ = some (.int .i64 eb)) ∧ v.cell? ⟨w.heap.size, 2, none⟩ = some (.int .i64 ea))
    (first | (obtain ⟨⟨-, -, z3, -⟩, ⟨-, z1, z2, -⟩⟩ := HKD.out _ (gdrew V); exact ⟨⟨z1, z2⟩, z3⟩) | (obtain ⟨⟨-, -, z3, -⟩, ⟨-, z1, z2, -⟩⟩ := HKD.out _ (grefl V none); exact ⟨⟨z1, z2⟩, z3⟩))
    (first
      | (go_at_call 32; ((with_reducible refine (KN2.out V.drew).mono ?_); rintro r w1 ⟨rfl, rfl⟩)))
  obtain ⟨⟨c0, c1, c2, -⟩, ⟨d0, d1, d2, -⟩⟩ := HKD.out _ (gdrew V)
  have HG3 := Lib.hid (gtrans HG2.out (gdrew V))
  generalize V.drew = U at *
  go_upto_if 33 with (fail)
  go_cut [5] from 7 (fun v wx => v = .string SX ∧ U = wx)
  case first =>
    generalize hAe : Aa.isEmpty = ae at *
    have hp := HPA'.out
    cases ae
    · have HP := Lib.hid (show SX = X0 from hp)
      clear hp hAe
      go_wp2
      go_meet
      exact ⟨by rw [HP.out], rfl⟩
    · have HP := Lib.hid (show SX = ⟨#[]⟩ from hp)
      clear hp hAe
      go_wp2
      go_meet
      exact ⟨by rw [HP.out], rfl⟩
  case rest =>
    obtain ⟨rfl, rfl⟩ := hcut
    go_upto_if 36 with (fail)
    go_cut [6] from 7 (fun v wx => v = .string SY ∧ U = wx)
    case first =>
      generalize hBe : Ab.isEmpty = be at *
      have hp := HPB'.out
      cases be
      · have HP := Lib.hid (show SY = Y0 from hp)
        clear hp hBe
        go_wp2
        go_meet
        exact ⟨by rw [HP.out], rfl⟩
      · have HP := Lib.hid (show SY = ⟨#[]⟩ from hp)
        clear hp hBe
        go_wp2
        go_meet
        exact ⟨by rw [HP.out], rfl⟩
    case rest =>
      obtain ⟨rfl, rfl⟩ := hcut
      cases da <;> cases db <;> cases g1 <;> cases g2
      all_goals
        go_wp2_with (first
          | (go_at_call 33; ((with_reducible refine (KG1.out U).mono ?_); rintro r w1 ⟨rfl, rfl⟩))
          | (go_at_call 33; ((with_reducible refine (KG2.out U).mono ?_); rintro r w1 ⟨rfl, rfl⟩)))
        go_ret
        exact ⟨by rw [HR.out]; rfl, HG3.out⟩

end Go.Proofs.YtpjepdnkolbdhaaDoor
