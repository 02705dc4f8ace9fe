/-
  The document's grammar, walked. Own work; printed by tools/mknut.py.
-/
import Derived.Test.YtpjepdnkolbdhaaDoorNuS
import Derived.Deep.DeepCutAuto
set_option linter.unusedVariables false
set_option linter.unusedSimpArgs false
namespace Go.Proofs.YtpjepdnkolbdhaaDoor
open Go.RowKit

set_option maxHeartbeats 4000000 in
set_option maxRecDepth 20000 in
theorem gram_any (s : Bs) (w : World) (hl : s.length ≤ 1000) :
    Calls Tryd.prog 20 #[.string (Sx s)] w fun r w' => (∃ x y : Int, r = .returned (.tuple #[.bool (okN s), .int .i64 x, .int .i64 y]) ∧ (okN s = true → x = ptI s ∧ y = exI s)) ∧ w = w' := by
  obtain ⟨p0, P, E, hP, hE, hp⟩ : ∃ p0 P E, P = ptI s ∧ E = exI s ∧ Parts s p0 P E := ⟨_, _, _, rfl, rfl, parts s⟩
  have HX := Lib.hid (And.intro hP hE)
  have b0 := hp.r0.1
  have bP := hp.rP.1
  have bE := hp.rE.1
  have b1 : p0 ≤ 1000 := by omega
  have b2 : P ≤ 1000 := by omega
  have b3 : E ≤ 1000 := by omega
  have lP : p0 ≤ P := by have := hp.lP; omega
  clear b0 bP bE hP hE
  have HP := Lib.hid hp
  clear hp
  have hsz := Sx_size s
  go_enter Tryd.func20, Tryd.ntmps20
  go_upto_region 2 with (fail)
  go_cut [17] from 8 (fun b wx => b = .bool (dn s) ∧ w = wx)
  case first =>
    rcases (suf_nil s).head with ⟨k, e⟩ | ⟨hx, k, hc⟩
    · have HV := Lib.hid (show dn s = false by show isH 45 (s) = false; rw [e]; rfl)
      have k' : ¬ (0 : Int) < (s.length : Int) := by omega
      clear k e
      go_wp2
      go_meet
      exact ⟨by rw [HV.out], rfl⟩
    · have k' : (0 : Int) < (s.length : Int) := by omega
      have HC := Lib.hid (hc 45)
      clear hc k
      cases h1 : isH 45 (s) with
      | false =>
        have c1 : ((((Sx s)[0]'hx).toNat : Int) == 45) = false := HC.out.trans h1
        have HV := Lib.hid (show dn s = false from h1)
        clear h1
        go_wp2
        go_meet
        exact ⟨by rw [HV.out], rfl⟩
      | true =>
        have c1 : ((((Sx s)[0]'hx).toNat : Int) == 45) = true := HC.out.trans h1
        have HV := Lib.hid (show dn s = true from h1)
        clear h1
        go_wp2
        go_meet
        exact ⟨by rw [HV.out], rfl⟩
  case rest =>
    obtain ⟨rfl, rfl⟩ := hcut
    go_upto_if 17 with (fail)
    go_cut [5] from 8 (fun i wx => i = .int .i64 (p0 : Int) ∧ w = wx)
    case first =>
      rcases HP.out.a0 with ⟨h1, h2⟩ | ⟨h1, h2⟩
      · have H2 := Lib.hid h2
        rw [h1]
        clear h1 h2
        go_wp2
        go_meet
        exact ⟨by rw [H2.out]; rfl, rfl⟩
      · have H2 := Lib.hid h2
        rw [h1]
        clear h1 h2
        go_wp2
        go_meet
        exact ⟨by rw [H2.out]; rfl, rfl⟩
    case rest =>
      obtain ⟨rfl, rfl⟩ := hcut
      go_upto_region 4 with (fail)
      go_cut [35] from 8 (fun b wx => b = .bool (!okA s) ∧ w = wx)
      case first =>
        by_cases hne : ah s = []
        · have z0 : dz s p0 = false := by rw [dz_nat, HP.out.r0.one, dH_app HP.out.aA HP.out.d2, hne]; rfl
          have HV := Lib.hid (show okA s = false by rw [okA, hne]; rfl)
          clear hne
          go_wp2_with (go_at_call 26; ((with_reducible refine (digit_z s _ _ (by omega) (by omega) (by omega)).mono ?_); rintro r w1 ⟨rfl, rfl⟩))
          go_meet
          exact ⟨by rw [HV.out]; rfl, rfl⟩
        · have HNE := Lib.hid hne
          have hr := HP.out.r0
          have z0 : dz s p0 = true := by
            rw [dz_nat, hr.one, dH_app HP.out.aA HP.out.d2]
            cases h : ah s with
            | nil => exact absurd h hne
            | cons _ _ => rfl
          rcases hr.head with ⟨-, e⟩ | ⟨hx, k, hc⟩
          · exact absurd (List.append_eq_nil_iff.1 e).1 hne
          have k' : (p0 : Int) < (s.length : Int) := by omega
          have h48 := hc 48
          rw [isH_app 48 hne] at h48
          have H48 := Lib.hid h48
          clear h48 hc k hne
          cases h1 : isH 48 (ah s) with
          | false =>
            have c1 : ((((Sx s)[p0]'hx).toNat : Int) == 48) = false := H48.out.trans h1
            have HV := Lib.hid (show okA s = true by
              rw [okA, h1]
              cases h : ah s with
              | nil => exact absurd h HNE.out
              | cons _ _ => simp)
            have HR := Lib.hid hr
            clear h1 hr
            go_wp2_with (go_at_call 26; ((with_reducible refine (digit_z s _ _ (by omega) (by omega) (by omega)).mono ?_); rintro r w1 ⟨rfl, rfl⟩))
            go_meet
            exact ⟨by rw [HV.out]; rfl, rfl⟩
          | true =>
            have c1 : ((((Sx s)[p0]'hx).toNat : Int) == 48) = true := H48.out.trans h1
            obtain ⟨T, hT⟩ : ∃ T, ah s = 48 :: T := ⟨_, isH_eq h1⟩
            have haA := HP.out.aA
            rw [hT] at hr haA
            have z1 : dz s ((p0 : Int) + 1) = !T.isEmpty := by
              rw [show ((p0 : Int) + 1) = ((p0 + 1 : Nat) : Int) from rfl, dz_nat]
              rw [List.cons_append] at hr
              rw [hr.tail.one, dH_app (by simp only [List.all_cons, Bool.and_eq_true] at haA; exact haA.2) HP.out.d2]
            have HV := Lib.hid (show okA s = T.isEmpty by rw [okA, h1, hT]; cases T <;> simp)
            have HR := Lib.hid hr
            clear h1 hr hT haA
            generalize T.isEmpty = te at *
            go_wp2_with (go_at_call 26; ((with_reducible refine (digit_z s _ _ (by omega) (by omega) (by omega)).mono ?_); rintro r w1 ⟨rfl, rfl⟩))
            all_goals
              go_meet
              first
                | exact ⟨by rw [HV.out], rfl⟩
                | (subst_vars; exact ⟨by rw [HV.out]; rfl, rfl⟩)
                | (refine ⟨?_, rfl⟩; rw [HV.out]; simp_all)
      case rest =>
        obtain ⟨rfl, rfl⟩ := hcut
        by_cases hA : okA s = true
        case neg =>
          have ho : okA s = false := by simpa using hA
          have HO := Lib.hid (show okN s = false by rw [okN, ho]; rfl)
          rw [show (!okA s) = true by rw [ho]; rfl]
          clear hA ho
          go_wp2_with (go_at_call 26; ((with_reducible refine (digit_z s _ _ (by omega) (by omega) (by omega)).mono ?_); rintro r w1 ⟨rfl, rfl⟩))
          go_ret3
          exact ⟨⟨0, 0, by rw [HO.out]; rfl, fun h => absurd (HO.out.symm.trans h) (by decide)⟩, rfl⟩

        have HA := Lib.hid hA
        rw [show (!okA s) = false by rw [hA]; rfl]
        clear hA
        have HJ := Lib.hid (fun (j : Nat) (h1 : p0 ≤ j) (h2 : j < P) => show dz s j = true by rw [dz_nat]; exact HP.out.r0.digs HP.out.aA j h1 (by rw [← HP.out.lP]; exact h2))
        have HD := Lib.hid (show dz s P = false by rw [dz_nat, HP.out.rP.one]; exact HP.out.d2)
        go_wp2_with (go_at_call 26; ((with_reducible refine (digit_z s _ _ (by omega) (by omega) (by omega)).mono ?_); rintro r w1 ⟨rfl, rfl⟩))
        go_loop [5] (fun i => ∃ j : Nat, p0 ≤ j ∧ j ≤ P ∧ i = .int .i64 j) (fun i => P - (intOf i).toNat)
        case atStart => exact ⟨p0, by omega, by omega, rfl⟩
        case round =>
          obtain ⟨j, hj1, hj2, rfl⟩ := hrel
          by_cases hlt : j < P
          · have hd := HJ.out j hj1 hlt
            go_wp2_with (go_at_call 26; ((with_reducible refine (digit_z s _ _ (by omega) (by omega) (by omega)).mono ?_); rintro r w1 ⟨rfl, rfl⟩))
            go_round
            case rel => exact ⟨j + 1, by omega, by omega, by go_num⟩
            case measure => simp [intOf]; omega
          · obtain rfl : j = P := by omega
            have hd := HD.out
            go_upto_region 9 with (go_at_call 26; ((with_reducible refine (digit_z s _ _ (by omega) (by omega) (by omega)).mono ?_); rintro r w1 ⟨rfl, rfl⟩))
            clear hd HJ HD hlt hj1 hj2
            go_cut [51] from 8 (fun b wx => b = .bool (pt s) ∧ w = wx)
            case first =>
              rcases HP.out.rP.head with ⟨k, e⟩ | ⟨hx, k, hc⟩
              · have HV := Lib.hid (show pt s = false by show isH 46 (s2 s) = false; rw [e]; rfl)
                have k' : ¬ (j : Int) < (s.length : Int) := by omega
                clear k e
                go_wp2
                go_meet
                exact ⟨by rw [HV.out], rfl⟩
              · have k' : (j : Int) < (s.length : Int) := by omega
                have HC := Lib.hid (hc 46)
                clear hc k
                cases h1 : isH 46 (s2 s) with
                | false =>
                  have c1 : ((((Sx s)[j]'hx).toNat : Int) == 46) = false := HC.out.trans h1
                  have HV := Lib.hid (show pt s = false from h1)
                  clear h1
                  go_wp2
                  go_meet
                  exact ⟨by rw [HV.out], rfl⟩
                | true =>
                  have c1 : ((((Sx s)[j]'hx).toNat : Int) == 46) = true := HC.out.trans h1
                  have HV := Lib.hid (show pt s = true from h1)
                  clear h1
                  go_wp2
                  go_meet
                  exact ⟨by rw [HV.out], rfl⟩
            case rest =>
              obtain ⟨rfl, rfl⟩ := hcut
              by_cases hB : okB s = true
              case neg =>
                have ho : okB s = false := by simpa using hB
                have HO := Lib.hid (show okN s = false by rw [okN, ho]; simp)
                obtain ⟨hpt, hb⟩ : pt s = true ∧ bh s = [] := by
                  rw [okB] at ho
                  cases h1 : pt s <;> cases h2 : bh s <;> simp [h1, h2] at ho ⊢
                have hr := HP.out.rP
                rw [(HP.out.ePt hpt).1, hb] at hr
                have z1 : dz s ((j : Int) + 1) = false := by
                  rw [show ((j : Int) + 1) = ((j + 1 : Nat) : Int) from rfl, dz_nat, hr.tail.one]; exact HP.out.d3
                rw [hpt]
                clear hr hb hB ho hpt
                go_wp2_with (go_at_call 26; ((with_reducible refine (digit_z s _ _ (by omega) (by omega) (by omega)).mono ?_); rintro r w1 ⟨rfl, rfl⟩))
                go_ret3
                exact ⟨⟨0, 0, by rw [HO.out]; rfl, fun h => absurd (HO.out.symm.trans h) (by decide)⟩, rfl⟩

              have HB := Lib.hid hB
              clear hB
              go_upto_if 51 with (fail)
              go_cut [5] from 8 (fun i wx => i = .int .i64 (E : Int) ∧ w = wx)
              case first =>
                cases hpt : pt s with
                | false =>
                  have H2 := Lib.hid (HP.out.eNo hpt).2
                  go_wp2
                  go_meet
                  exact ⟨by rw [H2.out], rfl⟩
                | true =>
                  obtain ⟨e2, hEP⟩ := HP.out.ePt hpt
                  have hr := HP.out.rP
                  rw [e2] at hr
                  have hbn : bh s ≠ [] := fun e => by
                    have := HB.out
                    rw [okB, hpt, e] at this; exact absurd this (by decide)
                  obtain ⟨P1, hP1⟩ : ∃ P1 : Nat, P1 = j + 1 := ⟨_, rfl⟩
                  have q1 : (j : Int) + 1 = (P1 : Int) := by omega
                  have lE : P1 ≤ E := by omega
                  have bP1 : P1 ≤ 1001 := by omega
                  have hr1 := hr.tail
                  rw [← hP1] at hr1
                  have HJ := Lib.hid (fun (i : Nat) (h1 : P1 ≤ i) (h2 : i < E) => show dz s i = true by rw [dz_nat]; exact hr1.digs HP.out.aB i h1 (by omega))
                  have HD := Lib.hid (show dz s E = false by rw [dz_nat, HP.out.rE.one]; exact HP.out.d3)
                  have z1 : dz s P1 = true := by
                    rw [dz_nat, hr1.one, dH_app HP.out.aB HP.out.d3]
                    cases h : bh s with
                    | nil => exact absurd h hbn
                    | cons _ _ => rfl
                  clear e2 hEP hr hbn hP1 hr1
                  go_wp2_with (go_at_call 26; ((with_reducible refine (digit_z s _ _ (by omega) (by omega) (by omega)).mono ?_); rintro r w1 ⟨rfl, rfl⟩))
                  go_loop [5] (fun i => ∃ j : Nat, P1 ≤ j ∧ j ≤ E ∧ i = .int .i64 j) (fun i => E - (intOf i).toNat)
                  case atStart => exact ⟨P1, by omega, by omega, rfl⟩
                  case round =>
                    obtain ⟨m, hj1, hj2, rfl⟩ := hrel
                    by_cases hlt : m < E
                    · have hd := HJ.out m hj1 hlt
                      go_wp2_with (go_at_call 26; ((with_reducible refine (digit_z s _ _ (by omega) (by omega) (by omega)).mono ?_); rintro r w1 ⟨rfl, rfl⟩))
                      go_round
                      case rel => exact ⟨m + 1, by omega, by omega, by go_num⟩
                      case measure => simp [intOf]; omega
                    · obtain rfl : m = E := by omega
                      have hd := HD.out
                      go_wp2_with (go_at_call 26; ((with_reducible refine (digit_z s _ _ (by omega) (by omega) (by omega)).mono ?_); rintro r w1 ⟨rfl, rfl⟩))
                      go_meet
                      exact ⟨rfl, rfl⟩
              case rest =>
                obtain ⟨rfl, rfl⟩ := hcut
                go_upto_region 16 with (fail)
                go_cut [79] from 8 (fun b wx => b = .bool (ex s) ∧ w = wx)
                case first =>
                  rcases HP.out.rE.head with ⟨k, e⟩ | ⟨hx, k, hc⟩
                  · have HV := Lib.hid (show ex s = false by show (isH 101 (s3 s) || isH 69 (s3 s)) = false; rw [e]; rfl)
                    have k' : ¬ (E : Int) < (s.length : Int) := by omega
                    clear k e
                    go_wp2
                    go_meet
                    exact ⟨by rw [HV.out], rfl⟩
                  · have k' : (E : Int) < (s.length : Int) := by omega
                    have HC := Lib.hid (hc 101)
                    have HC2 := Lib.hid (hc 69)
                    clear hc k
                    have HV := Lib.hid (show ex s = (isH 101 (s3 s) || isH 69 (s3 s)) from rfl)
                    cases h1 : isH 101 (s3 s) with
                    | false =>
                      have c1 : ((((Sx s)[E]'hx).toNat : Int) == 101) = false := HC.out.trans h1
                      cases h2 : isH 69 (s3 s) with
                      | false =>
                        have c2 : ((((Sx s)[E]'hx).toNat : Int) == 69) = false := HC2.out.trans h2
                        rw [h1, h2] at HV
                        clear h1 h2
                        go_wp2
                        go_meet
                        exact ⟨by rw [HV.out]; rfl, rfl⟩
                      | true =>
                        have c2 : ((((Sx s)[E]'hx).toNat : Int) == 69) = true := HC2.out.trans h2
                        rw [h1, h2] at HV
                        clear h1 h2
                        go_wp2
                        go_meet
                        exact ⟨by rw [HV.out]; rfl, rfl⟩
                    | true =>
                      have c1 : ((((Sx s)[E]'hx).toNat : Int) == 101) = true := HC.out.trans h1
                      rw [h1, Bool.true_or] at HV
                      clear h1
                      go_wp2
                      go_meet
                      exact ⟨by rw [HV.out], rfl⟩
                case rest =>
                  obtain ⟨rfl, rfl⟩ := hcut
                  obtain ⟨Z, hZ, hZE⟩ : ∃ Z : Nat, Z + (s6 s).length = s.length ∧ (ex s = false → Z = E) := by
                    by_cases hex : ex s = true
                    · have := (parts_ex hex HP.out.rE).2.1.app.1
                      exact ⟨_, this, fun h => absurd (h.symm.trans hex) (by decide)⟩
                    · have := HP.out.rE.1
                      have h6 : s6 s = s3 s := by rw [s6, if_neg hex]
                      rw [h6]; exact ⟨E, this, fun _ => rfl⟩
                  have HZ := Lib.hid hZ
                  have HZE := Lib.hid hZE
                  have bZ : Z ≤ 1000 := by omega
                  clear hZ hZE
                  obtain ⟨E1, hE1⟩ : ∃ E1 : Nat, E1 = E + 1 := ⟨_, rfl⟩
                  have q1 : (E : Int) + 1 = (E1 : Int) := by omega
                  have bE1 : E1 ≤ 1001 := by omega
                  obtain ⟨Q, hQ⟩ : ∃ Q : Nat, Q = E1 + (if exSg s then 1 else 0) := ⟨_, rfl⟩
                  have bQ : Q ≤ 1002 := by rw [hQ]; split <;> omega
                  have HQ := Lib.hid hQ
                  have HE1 := Lib.hid hE1
                  clear hE1 hQ
                  by_cases hC : okC s = true
                  case neg =>
                    have ho : okC s = false := by simpa using hC
                    have HO := Lib.hid (show okN s = false by rw [okN, ho]; simp)
                    obtain ⟨hex, hb⟩ : ex s = true ∧ pw s = [] := by
                      rw [okC] at ho
                      cases h1 : ex s <;> cases h2 : pw s <;> simp [h1, h2] at ho ⊢
                    obtain ⟨r4, rq, hpw, d6⟩ := parts_ex hex HP.out.rE
                    rw [← HE1.out] at r4 rq
                    rw [← HQ.out, hb, List.nil_append] at rq
                    have HR4 := Lib.hid r4
                    have HRQ := Lib.hid rq
                    have HD := Lib.hid d6
                    rw [hex]
                    clear r4 rq hpw d6 hb ho hC hex
                    go_upto_region 18 with (fail)
                    go_cut [97] from 8 (fun b wx => b = .bool (exSg s) ∧ w = wx)
                    case first =>
                      rcases HR4.out.head with ⟨k, e⟩ | ⟨hx, k, hc⟩
                      · have HV := Lib.hid (show exSg s = false by show (isH 43 (s4 s) || isH 45 (s4 s)) = false; rw [e]; rfl)
                        have k' : ¬ (E1 : Int) < (s.length : Int) := by omega
                        clear k e
                        go_wp2
                        go_meet
                        exact ⟨by rw [HV.out], rfl⟩
                      · have k' : (E1 : Int) < (s.length : Int) := by omega
                        have HC := Lib.hid (hc 43)
                        have HC2 := Lib.hid (hc 45)
                        clear hc k
                        have HV := Lib.hid (show exSg s = (isH 43 (s4 s) || isH 45 (s4 s)) from rfl)
                        cases h1 : isH 43 (s4 s) with
                        | false =>
                          have c1 : ((((Sx s)[E1]'hx).toNat : Int) == 43) = false := HC.out.trans h1
                          cases h2 : isH 45 (s4 s) with
                          | false =>
                            have c2 : ((((Sx s)[E1]'hx).toNat : Int) == 45) = false := HC2.out.trans h2
                            rw [h1, h2] at HV
                            clear h1 h2
                            go_wp2
                            go_meet
                            exact ⟨by rw [HV.out]; rfl, rfl⟩
                          | true =>
                            have c2 : ((((Sx s)[E1]'hx).toNat : Int) == 45) = true := HC2.out.trans h2
                            rw [h1, h2] at HV
                            clear h1 h2
                            go_wp2
                            go_meet
                            exact ⟨by rw [HV.out]; rfl, rfl⟩
                        | true =>
                          have c1 : ((((Sx s)[E1]'hx).toNat : Int) == 43) = true := HC.out.trans h1
                          rw [h1, Bool.true_or] at HV
                          clear h1
                          go_wp2
                          go_meet
                          exact ⟨by rw [HV.out], rfl⟩
                    case rest =>
                      obtain ⟨rfl, rfl⟩ := hcut
                      go_upto_if 97 with (fail)
                      go_cut [5] from 8 (fun i wx => i = .int .i64 (Q : Int) ∧ w = wx)
                      case first =>
                        cases hg : exSg s with
                        | false =>
                          have H2 := Lib.hid (show Q = E1 by rw [HQ.out, hg]; rfl)
                          clear hg
                          go_wp2
                          go_meet
                          exact ⟨by rw [H2.out], rfl⟩
                        | true =>
                          have H2 := Lib.hid (show Q = E1 + 1 by rw [HQ.out, hg]; rfl)
                          clear hg
                          go_wp2
                          go_meet
                          exact ⟨by rw [H2.out]; rfl, rfl⟩
                      case rest =>
                        obtain ⟨rfl, rfl⟩ := hcut
                        have z2 : dz s Q = false := by rw [dz_nat, HRQ.out.one]; exact HD.out
                        go_wp2_with (go_at_call 26; ((with_reducible refine (digit_z s _ _ (by omega) (by omega) (by omega)).mono ?_); rintro r w1 ⟨rfl, rfl⟩))
                        go_ret3
                        exact ⟨⟨0, 0, by rw [HO.out]; rfl, fun h => absurd (HO.out.symm.trans h) (by decide)⟩, rfl⟩
                  have HC := Lib.hid hC
                  clear hC
                  go_upto_if 79 with (fail)
                  go_cut [5] from 8 (fun i wx => i = .int .i64 (Z : Int) ∧ w = wx)
                  case first =>
                    cases hex : ex s with
                    | false =>
                      have H2 := Lib.hid (HZE.out hex)
                      go_wp2
                      go_meet
                      exact ⟨by rw [H2.out], rfl⟩
                    | true =>
                      obtain ⟨r4, rq, hpw, d6⟩ := parts_ex hex HP.out.rE
                      rw [← HE1.out] at r4 rq
                      rw [← HQ.out] at rq
                      have hpn : pw s ≠ [] := fun e => by
                        have := HC.out
                        rw [okC, hex, e] at this; exact absurd this (by decide)
                      have hlZ : Z = Q + (pw s).length := by have := rq.app.1; have := HZ.out; omega
                      have lq : Q ≤ Z := by omega
                      have HLZ := Lib.hid hlZ
                      have HR4 := Lib.hid r4
                      have HJ := Lib.hid (fun (i : Nat) (h1 : Q ≤ i) (h2 : i < Z) => show dz s i = true by rw [dz_nat]; exact rq.digs hpw i h1 (by have := HLZ.out; omega))
                      have HD := Lib.hid (show dz s Z = false by rw [dz_nat, HLZ.out, rq.app.one]; exact d6)
                      have z2 : dz s Q = true := by
                        rw [dz_nat, rq.one, dH_app hpw d6]
                        cases h : pw s with
                        | nil => exact absurd h hpn
                        | cons _ _ => rfl
                      clear r4 rq hpw d6 hpn hlZ
                      go_upto_region 18 with (fail)
                      go_cut [97] from 8 (fun b wx => b = .bool (exSg s) ∧ w = wx)
                      case first =>
                        rcases HR4.out.head with ⟨k, e⟩ | ⟨hx, k, hc⟩
                        · have HV := Lib.hid (show exSg s = false by show (isH 43 (s4 s) || isH 45 (s4 s)) = false; rw [e]; rfl)
                          have k' : ¬ (E1 : Int) < (s.length : Int) := by omega
                          clear k e
                          go_wp2
                          go_meet
                          exact ⟨by rw [HV.out], rfl⟩
                        · have k' : (E1 : Int) < (s.length : Int) := by omega
                          have HC := Lib.hid (hc 43)
                          have HC2 := Lib.hid (hc 45)
                          clear hc k
                          have HV := Lib.hid (show exSg s = (isH 43 (s4 s) || isH 45 (s4 s)) from rfl)
                          cases h1 : isH 43 (s4 s) with
                          | false =>
                            have c1 : ((((Sx s)[E1]'hx).toNat : Int) == 43) = false := HC.out.trans h1
                            cases h2 : isH 45 (s4 s) with
                            | false =>
                              have c2 : ((((Sx s)[E1]'hx).toNat : Int) == 45) = false := HC2.out.trans h2
                              rw [h1, h2] at HV
                              clear h1 h2
                              go_wp2
                              go_meet
                              exact ⟨by rw [HV.out]; rfl, rfl⟩
                            | true =>
                              have c2 : ((((Sx s)[E1]'hx).toNat : Int) == 45) = true := HC2.out.trans h2
                              rw [h1, h2] at HV
                              clear h1 h2
                              go_wp2
                              go_meet
                              exact ⟨by rw [HV.out]; rfl, rfl⟩
                          | true =>
                            have c1 : ((((Sx s)[E1]'hx).toNat : Int) == 43) = true := HC.out.trans h1
                            rw [h1, Bool.true_or] at HV
                            clear h1
                            go_wp2
                            go_meet
                            exact ⟨by rw [HV.out], rfl⟩
                      case rest =>
                        obtain ⟨rfl, rfl⟩ := hcut
                        go_upto_if 97 with (fail)
                        go_cut [5] from 8 (fun i wx => i = .int .i64 (Q : Int) ∧ w = wx)
                        case first =>
                          cases hg : exSg s with
                          | false =>
                            have H2 := Lib.hid (show Q = E1 by rw [HQ.out, hg]; rfl)
                            clear hg
                            go_wp2
                            go_meet
                            exact ⟨by rw [H2.out], rfl⟩
                          | true =>
                            have H2 := Lib.hid (show Q = E1 + 1 by rw [HQ.out, hg]; rfl)
                            clear hg
                            go_wp2
                            go_meet
                            exact ⟨by rw [H2.out]; rfl, rfl⟩
                        case rest =>
                          obtain ⟨rfl, rfl⟩ := hcut
                          go_wp2_with (go_at_call 26; ((with_reducible refine (digit_z s _ _ (by omega) (by omega) (by omega)).mono ?_); rintro r w1 ⟨rfl, rfl⟩))
                          go_loop [5] (fun i => ∃ j : Nat, Q ≤ j ∧ j ≤ Z ∧ i = .int .i64 j) (fun i => Z - (intOf i).toNat)
                          case atStart => exact ⟨Q, by omega, by omega, rfl⟩
                          case round =>
                            obtain ⟨m, hj1, hj2, rfl⟩ := hrel
                            by_cases hlt : m < Z
                            · have hd := HJ.out m hj1 hlt
                              go_wp2_with (go_at_call 26; ((with_reducible refine (digit_z s _ _ (by omega) (by omega) (by omega)).mono ?_); rintro r w1 ⟨rfl, rfl⟩))
                              go_round
                              case rel => exact ⟨m + 1, by omega, by omega, by go_num⟩
                              case measure => simp [intOf]; omega
                            · obtain rfl : m = Z := by omega
                              have hd := HD.out
                              go_wp2_with (go_at_call 26; ((with_reducible refine (digit_z s _ _ (by omega) (by omega) (by omega)).mono ?_); rintro r w1 ⟨rfl, rfl⟩))
                              go_meet
                              exact ⟨rfl, rfl⟩
                  case rest =>
                    obtain ⟨rfl, rfl⟩ := hcut
                    have hz : ((Z : Int) == (s.length : Int)) = okN s := by
                      have hA := HA.out
                      have hB := HB.out
                      have hC := HC.out
                      have hZ := HZ.out
                      rw [okN, hA, hB, hC, Bool.eq_iff_iff]
                      simp only [beq_iff_eq, Bool.true_and, List.isEmpty_iff]
                      constructor
                      · intro h; exact List.eq_nil_of_length_eq_zero (by omega)
                      · intro h; rw [h] at hZ; simp at hZ; omega
                    go_wp2
                    go_ret3
                    exact ⟨⟨j, E, rfl, fun _ => ⟨by rw [HX.out.1], by rw [HX.out.2]⟩⟩, rfl⟩

end Go.Proofs.YtpjepdnkolbdhaaDoor
