/-
  The document's parsing, walked. Own work.
-/
import Derived.Test.YtpjepdnkolbdhaaDoorNuQa
import Derived.Test.YtpjepdnkolbdhaaDoorNuI
import Derived.Deep.DeepCutAuto
set_option linter.unusedVariables false
set_option linter.unusedSimpArgs false
namespace Go.Proofs.YtpjepdnkolbdhaaDoor
open Go.RowKit

set_option maxRecDepth 20000 in
set_option maxHeartbeats 8000000 in
theorem refParse_any (s : Bs) (w : World) (hl : s.length ≤ 300) :
    Calls Tryd.prog 12 #[.string (Sx s)] w fun r w' => r = .returned (.tuple #[valN (refP s).1, .int .i64 (refP s).2]) ∧ w.grownBy w' none := by
  have G0 := Lib.hid (fun w' => gram_any s w' (by omega))
  have hsz := Sx_size s
  cases ho : okN s with
  | false =>
    rw [ho] at G0
    have HR := Lib.hid (show refP s = (Nm.zero, 11) by unfold refP; rw [ho]; rfl)
    clear ho
    have HZ := Lib.hid (RB_alloc w false [] 0)
    have HG := Lib.hid (World.grownBy_alloc w (.cells #[.bool false, .string (Sx []), .int .i64 0] 28) none)
    obtain ⟨c0, c1, c2, c3, c4, c5⟩ := cells3 (RB_alloc w false [] 0)
    go_enter Tryd.func12, Tryd.ntmps12
    go_wp2_with (go_at_call 20; ((with_reducible refine (G0.out _).mono ?_); rintro r w1' ⟨⟨x, y, rfl, -⟩, rfl⟩))
    refine bodyPost_ret (results_N142 rfl _ _ w.heap.size _ _ rfl rfl HZ.out rfl) rfl ⟨by rw [HR.out]; rfl, HG.out⟩
  | true =>
    have GM : Hid (∀ w', Calls Tryd.prog 20 #[.string (Sx s)] w' fun r w'' => r = .returned (.tuple #[.bool true, .int .i64 (ptI s : Int), .int .i64 (exI s : Int)]) ∧ w' = w'') := Lib.hid (fun w' => (G0.out w').mono (by
      rintro r w'' ⟨⟨x, y, rfl, h⟩, rfl⟩
      obtain ⟨rfl, rfl⟩ := h ho
      rw [ho]; exact ⟨rfl, rfl⟩))
    clear G0
    have HO := Lib.hid ho
    have hE := exI_le s
    generalize hP' : ptI s = P at *
    generalize hE' : exI s = E at *
    have HPE := Lib.hid (And.intro hP' hE')
    clear hP' hE' ho
    have k0 : PW w false [] 0 ((w.alloc (.cells #[.bool false, .string (Sx []), .int .i64 0] 28)).alloc (.cells #[.bool false, .string (Sx []), .int .i64 0] 28)) := ⟨two_lit1 w _ _, two_lit0 w _ _, two_grown w _ _⟩
    go_enter Tryd.func12, Tryd.ntmps12
    go_wp2_with (go_at_call 20; ((with_reducible refine (GM.out _).mono ?_); rintro r w1' ⟨rfl, rfl⟩))
    have K0 := Lib.hid k0
    clear k0
    go_loopw [8] (fun i wx => ∃ (k : Nat) (d : Bool) (D : Bs), k ≤ E ∧ i = .int .i64 k ∧ (s.take k).foldl gath (false, []) = (d, D) ∧ D.length ≤ k ∧ PW w d D 0 wx) (fun i _ => E - (intOf i).toNat)
    case atStart => exact ⟨0, false, [], Nat.zero_le _, rfl, rfl, Nat.le_refl _, K0.out⟩
    case round =>
      obtain ⟨k, d, D, hk, rfl, hf, hD, hw⟩ := hrel
      have HW := Lib.hid hw
      have HF := Lib.hid hf
      obtain ⟨c0, c1, c2, c3, c4, c5⟩ := cells3 hw.n
      clear hw hf
      by_cases hlt : k < E
      · have hks : k < s.length := by omega
        have hki : (k : Int) < (E : Int) := by omega
        have hkn : (k : Int) < (s.length : Int) := by omega
        have hx : k < (Sx s).size := by rw [hsz]; exact hks
        have b45 : ((((Sx s)[k]'hx).toNat : Int) == 45) = decide (s[k] = 45) := byte_is hks hx 45
        have b46 : ((((Sx s)[k]'hx).toNat : Int) != 46) = !decide (s[k] = 46) := byte_no hks hx 46
        have b48 : ((((Sx s)[k]'hx).toNat : Int) != 48) = !decide (s[k] = 48) := byte_no hks hx 48
        have hst := Lib.hid (gath_step hks HF.out)
        have hone := one_at hks
        have happ := Sx_app D [s[k]]
        have eD := Sx_toList D
        have hsD := Sx_size D
        have hs1 : (Sx [s[k]]).size = 1 := rfl
        generalize hb : s[k] = b at *
        have HB := Lib.hid hb
        clear hb
        by_cases h45 : b = 45
        · have g : gath (d, D) b = (true, D) := by rw [h45]; rfl
          have HN := Lib.hid (hst.out.trans g)
          rw [decide_eq_true h45] at b45
          clear g h45 b46 b48
          go_wp2
          go_roundw
          case rel => exact ⟨k + 1, true, D, by omega, by go_num, HN.out, by omega, HW.out.set0 true⟩
          case measure => simp [intOf]; omega
        · rw [decide_eq_false h45] at b45
          by_cases h46 : b = 46
          · have g : gath (d, D) b = (d, D) := by rw [h46]; rfl
            have HN := Lib.hid (hst.out.trans g)
            rw [decide_eq_true h46] at b46
            clear g h45 h46 b48
            go_wp2
            go_roundw
            case rel => exact ⟨k + 1, d, D, by omega, by go_num, HN.out, by omega, HW.out⟩
            case measure => simp [intOf]; omega
          · rw [decide_eq_false h46] at b46
            by_cases hg : D = [] ∧ b = 48
            · have g : gath (d, D) b = (d, D) := by
                simp only [gath, h45, if_false, h46, ne_eq, not_false_eq_true, true_and]
                rw [if_neg]; rintro (q | q)
                · exact q hg.1
                · exact q hg.2
              have HN := Lib.hid (hst.out.trans g)
              have hDe : D.isEmpty = true := by rw [hg.1]; rfl
              rw [decide_eq_true hg.2] at b48
              clear g h45 h46 hg
              go_wp2
              go_roundw
              case rel => exact ⟨k + 1, d, D, by omega, by go_num, HN.out, by omega, HW.out⟩
              case measure => simp [intOf]; omega
            · have g : gath (d, D) b = (d, D ++ [b]) := by
                simp only [gath, h45, if_false, h46, ne_eq, not_false_eq_true, true_and]
                rw [if_pos]
                by_cases q : D = []
                · exact .inr fun e => hg ⟨q, e⟩
                · exact .inl q
              have HN := Lib.hid (hst.out.trans g)
              have hq1 : (k : Int) + 1 ≤ (s.length : Int) := by omega
              have HL := Lib.hid (show (D ++ [b]).length ≤ k + 1 by rw [List.length_append]; simp; exact hD)
              cases D with
              | nil =>
                have h48 : ¬ b = 48 := fun e => hg ⟨rfl, e⟩
                rw [decide_eq_false h48] at b48
                generalize hX : Sx (([] : Bs) ++ [b]) = X at *
                have HXX := Lib.hid hX
                clear hX g h45 h46 hg h48
                go_wp2_with fail
                go_region
                all_goals
                  go_wp2
                  go_roundw
                  case rel => exact ⟨k + 1, d, ([] : Bs) ++ [b], by omega, by go_num, HN.out, HL.out, by rw [← HXX.out]; first | exact HW.out.set1 _ | exact (HW.out.gr (gdrewN _ _)).set1 _ | exact (HW.out.gr (gdrew _)).set1 _⟩
                  case measure => simp [intOf]; omega
              | cons y D' =>
                obtain ⟨ld, hld⟩ : ∃ ld, ld = (y :: D').length := ⟨_, rfl⟩
                have bld : ld ≤ 300 := by omega
                rw [← hld] at hsD
                have cc1 : (9223372036854775807 < ld + 1) = False := eq_false (by omega)
                generalize hX : Sx ((y :: D') ++ [b]) = X at *
                have HXX := Lib.hid hX
                generalize hSD : Sx (y :: D') = SD at *
                clear hX g h45 h46 hg hld hSD b48
                go_wp2_with fail
                go_region
                all_goals
                  go_wp2
                  go_roundw
                  case rel => exact ⟨k + 1, d, (y :: D') ++ [b], by omega, by go_num, HN.out, HL.out, by rw [← HXX.out]; first | exact HW.out.set1 _ | exact (HW.out.gr (gdrewN _ _)).set1 _ | exact (HW.out.gr (gdrew _)).set1 _⟩
                  case measure => simp [intOf]; omega
      · obtain rfl : k = E := by omega
        have hgd : d = dn s ∧ D = trim0 (ah s ++ bh s) := by
          have := HF.out
          rw [← HPE.out.2, gath_all] at this
          exact ⟨(Prod.mk.inj this).1.symm, (Prod.mk.inj this).2.symm⟩
        obtain ⟨nb, hnb⟩ : ∃ nb : Nat, nb = (bh s).length := ⟨_, rfl⟩
        have hp1 : P < k → (P : Int) + 1 - (k : Int) = -(nb : Int) := fun h => by
          have h0 := ptI_exI s
          rw [HPE.out.1, HPE.out.2] at h0
          cases hp : pt s with
          | false => have := h0.1 hp; omega
          | true => have := h0.2 hp; omega
        have hp2 : ¬ P < k → nb = 0 := fun h => by
          have h0 := ptI_exI s
          rw [HPE.out.1, HPE.out.2] at h0
          cases hp : pt s with
          | false => rw [hnb, bh_none s hp]; rfl
          | true => have := h0.2 hp; omega
        have bnb : nb ≤ 300 := by have := lens s; omega
        have bP : P ≤ 300 := by
          have h0 := ptI_exI s
          rw [HPE.out.1, HPE.out.2] at h0
          cases hp : pt s with
          | false => have := h0.1 hp; omega
          | true => have := h0.2 hp; omega
        have HP1 := Lib.hid hp1
        have HP2 := Lib.hid hp2
        have HGD := Lib.hid hgd
        have HNB := Lib.hid hnb
        clear hp1 hp2 hgd hnb hlt
        go_upto_if 59 with (fail)
        go_cut [] from 13 (fun wx => PW w d D (-(nb : Int)) wx)
        case first =>
          by_cases hPk : P < k
          · have q := HP1.out hPk
            have hPi : (P : Int) < (k : Int) := by omega
            go_wp2
            go_meet
            exact HW.out.set2 _
          · have hPi : ¬ (P : Int) < (k : Int) := by omega
            have H0 := Lib.hid (HP2.out hPk)
            go_wp2
            go_meet
            have := HW.out
            rw [H0.out]; exact this
        case rest =>
          have HW2 := Lib.hid hcut
          clear hcut c0 c1 c2 c3 c4 c5 HW
          obtain ⟨c0, c1, c2, c3, c4, c5⟩ := cells3 HW2.out.n
          obtain ⟨E1, hE1⟩ : ∃ E1 : Nat, E1 = k + 1 := ⟨_, rfl⟩
          have qE : (k : Int) + 1 = (E1 : Int) := by omega
          have bE1 : E1 ≤ 301 := by omega
          have htl : (s.drop E1).length = s.length - E1 := List.length_drop
          have HTB := Lib.hid (show ∀ b ∈ s.drop E1, b = 43 ∨ b = 45 ∨ 48 ≤ b.toNat by have := tail_bytes HO.out; rw [HPE.out.2] at this; rw [hE1]; exact this)
          have HMA := Lib.hid (show (s.drop E1).foldl more (false, 0) = (un s, powV 1000000 (pw s)) by have := more_all s (ok_s6 HO.out); rw [HPE.out.2] at this; rw [hE1]; exact this)
          have HTL := Lib.hid htl
          have HE1 := Lib.hid hE1
          clear htl hE1
          go_wp2
          go_loop [9, 10, 11] (fun m u i => ∃ (j : Nat) (v : Bool) (M : Nat), j ≤ (s.drop E1).length ∧ i = .int .i64 ((E1 + j : Nat) : Int) ∧ m = .int .i64 M ∧ u = .bool v ∧ ((s.drop E1).take j).foldl more (false, 0) = (v, M) ∧ M ≤ 1000000) (fun _ _ i => E1 + s.length - (intOf i).toNat)
          case atStart => exact ⟨0, false, 0, Nat.zero_le _, rfl, rfl, rfl, rfl, by omega⟩
          case round =>
            obtain ⟨j, v, M, hj, rfl, rfl, rfl, hf, hM⟩ := hrel
            have HF2 := Lib.hid hf
            clear hf
            obtain ⟨J, hJ⟩ : ∃ J, J = E1 + j := ⟨_, rfl⟩
            rw [← hJ]
            have hJb : J ≤ 602 := by have := HTL.out; omega
            by_cases hlt : J < s.length
            · have hj2 : j < (s.drop E1).length := by have := HTL.out; omega
              have hJi : (J : Int) < (s.length : Int) := by omega
              have hx : J < (Sx s).size := by rw [hsz]; exact hlt
              have hbb : (s.drop E1)[j] = s[J] := by simp [hJ]
              have hst := more_step hj2 HF2.out
              have hmem := HTB.out _ (List.getElem_mem hj2)
              have hbt := Sx_at s J hx
              rw [hbb] at hst hmem
              obtain ⟨bt, hbt'⟩ : ∃ bt : Nat, bt = (s[J]).toNat := ⟨_, rfl⟩
              have hbt2 : ((Sx s)[J]'hx).toNat = bt := by rw [hbt, hbt']; rfl
              have b255 : bt ≤ 255 := by have := (s[J]).toNat_lt; omega
              generalize s[J] = b at *
              have HJ := Lib.hid hJ
              have HST := Lib.hid hst
              have HMM := Lib.hid hmem
              have HBT := Lib.hid hbt'
              clear hJ hst hmem hbt hbt' hbb
              by_cases h45 : b = 45
              · have c45 : ((bt : Int) == 45) = true := by rw [HBT.out, h45]; rfl
                have HN := Lib.hid (HST.out.trans (show more (v, M) b = (true, M) by rw [h45]; rfl))
                clear h45
                go_wp2
                go_round
                case rel => exact ⟨j + 1, true, M, hj2, by rw [← Nat.add_assoc, ← HJ.out]; go_num, rfl, rfl, HN.out, hM⟩
                case measure => have := HJ.out; simp [intOf]; omega
              · have c45 : ((bt : Int) == 45) = false := by
                  rw [beq_eq_false_iff_ne]; intro e
                  apply h45; rw [← UInt8.toNat_inj]; have := HBT.out; show b.toNat = 45; omega
                by_cases h43 : b = 43
                · have c43 : ((bt : Int) != 43) = false := by rw [HBT.out, h43]; rfl
                  have HN := Lib.hid (HST.out.trans (show more (v, M) b = (v, M) by rw [h43]; rfl))
                  clear h45 h43
                  go_wp2
                  go_round
                  case rel => exact ⟨j + 1, v, M, hj2, by rw [← Nat.add_assoc, ← HJ.out]; go_num, rfl, rfl, HN.out, hM⟩
                  case measure => have := HJ.out; simp [intOf]; omega
                · have c43 : ((bt : Int) != 43) = true := by
                    rw [bne_iff_ne]; intro e
                    apply h43; rw [← UInt8.toNat_inj]; have := HBT.out; show b.toNat = 43; omega
                  have h48 : 48 ≤ bt := by
                    rcases HMM.out with h | h | h
                    · exact absurd h h43
                    · exact absurd h h45
                    · have := HBT.out; omega
                  obtain ⟨R, hR⟩ : ∃ R : Nat, R = min (10 * M + (bt - 48)) 1000000 := ⟨_, rfl⟩
                  have hR1 : min (10 * (M : Int) + (bt : Int) - 48) 1000000 = (R : Int) := by omega
                  have HN := Lib.hid (HST.out.trans (show more (v, M) b = (v, R) by simp only [more, h45, if_false, h43, ne_eq, not_false_eq_true, if_true]; rw [hR, HBT.out]))
                  have HRM := Lib.hid (show R ≤ 1000000 by omega)
                  clear h45 h43 hR
                  go_wp2
                  go_round
                  case rel => exact ⟨j + 1, v, R, hj2, by rw [← Nat.add_assoc, ← HJ.out]; go_num, rfl, rfl, HN.out, HRM.out⟩
                  case measure => have := HJ.out; simp [intOf]; omega
            · have hJi : ¬ (J : Int) < (s.length : Int) := by omega
              have hmv : v = un s ∧ M = powV 1000000 (pw s) := by
                have h1 := HF2.out
                rw [List.take_of_length_le (by have := HTL.out; omega), HMA.out] at h1
                exact ⟨(Prod.mk.inj h1).1.symm, (Prod.mk.inj h1).2.symm⟩
              have HMV := Lib.hid hmv
              clear hmv hJ hlt
              obtain ⟨mv, hmv⟩ : ∃ mv : Int, mv = if v then -(M : Int) else (M : Int) := ⟨_, rfl⟩
              have bmv1 : -1000000 ≤ mv := by rw [hmv]; split <;> omega
              have bmv2 : mv ≤ 1000000 := by rw [hmv]; split <;> omega
              have HV := Lib.hid hmv
              clear hmv
              go_upto_if 90 with (fail)
              go_cut [9] from 13 (fun m wx => m = .int .i64 mv ∧ wc = wx)
              case first =>
                cases v
                · have H := Lib.hid (show mv = (M : Int) from HV.out)
                  go_wp2
                  go_meet
                  exact ⟨by rw [H.out], rfl⟩
                · have H := Lib.hid (show mv = -(M : Int) from HV.out)
                  go_wp2
                  go_meet
                  exact ⟨by rw [H.out], rfl⟩
              case rest =>
                obtain ⟨rfl, rfl⟩ := hcut
                obtain ⟨X1, hX1⟩ : ∃ X1 : Int, X1 = -(nb : Int) + mv := ⟨_, rfl⟩
                have qX : -(nb : Int) + mv = X1 := hX1.symm
                have bX1 : -1000300 ≤ X1 := by omega
                have bX2 : X1 ≤ 1000300 := by omega
                have HX1 := Lib.hid hX1
                clear hX1
                have HW3 := Lib.hid (HW2.out.set2 X1)
                have HLD := Lib.hid (show k ≤ 300 by omega)
                go_wp2
                go_loopw [] (fun wx => ∃ (D' : Bs) (x' : Int), rtrim0 D' = rtrim0 D ∧ D'.length ≤ D.length ∧ x' = X1 + ((D.length : Int) - (D'.length : Int)) ∧ PW w d D' x' wx) (fun wx => cellSz (w.heap.size + 1) wx)
                case atStart => exact ⟨D, X1, rfl, Nat.le_refl _, by omega, HW3.out⟩
                case round =>
                  obtain ⟨D', x', hrt, hl', hx', hw⟩ := hrel
                  have HW4 := Lib.hid hw
                  have HRT := Lib.hid hrt
                  have HX' := Lib.hid hx'
                  have bx1 : -1000300 ≤ x' := by omega
                  have bx2 : x' ≤ 1000600 := by omega
                  clear hw hrt hx' c0 c1 c2 c3 c4 c5
                  obtain ⟨c0, c1, c2, c3, c4, c5⟩ := cells3 HW4.out.n
                  obtain ⟨r0, r1, r2, r3, r4, r5⟩ := cells3 HW4.out.r
                  have hsD := Sx_size D'
                  have eD := Sx_toList D'
                  by_cases hD0 : D' = []
                  · subst hD0
                    have HR := Lib.hid (show refP s = (Nm.zero, 0) by
                      have h1 : rtrim0 (trim0 (ah s ++ bh s)) = [] := by rw [← HGD.out.2, ← HRT.out]; rfl
                      unfold refP refN
                      rw [if_pos HO.out]; simp only [h1, if_true])
                    go_wp2
                    refine bodyPost_ret (results_N142 rfl _ _ w.heap.size _ _ rfl rfl (set3 HW4.out.r) rfl) rfl ⟨by rw [HR.out]; rfl, gr_set (gr_set (gr_set HW4.out.g (Nat.le_refl _) _ _) (Nat.le_refl _) _ _) (Nat.le_refl _) _ _⟩
                  · have hDp : 0 < D'.length := List.length_pos_iff.2 hD0
                    obtain ⟨m, hm⟩ : ∃ m : Nat, D'.length = m + 1 := ⟨D'.length - 1, by omega⟩
                    have bm : m ≤ 300 := by omega
                    have hDi : (0 : Int) < (D'.length : Int) := by omega
                    have hmi : (D'.length : Int) - 1 = (m : Int) := by omega
                    have hml : (m : Int) < (D'.length : Int) := by omega
                    have hxm : m < (Sx D').size := by rw [hsD]; omega
                    have hDe : D'.isEmpty = false := by cases D' with
                      | nil => exact absurd rfl hD0
                      | cons _ _ => rfl
                    have hbm : ((((Sx D')[m]'hxm).toNat : Int) == 48) = decide (D'[m]'(by omega) = 48) := byte_is (by omega) hxm 48
                    have HBM := Lib.hid hbm
                    have HDL := Lib.hid hm
                    clear hbm hD0
                    by_cases h48 : D'[m]'(by omega) = 48
                    · have c48 : ((((Sx D')[m]'hxm).toNat : Int) == 48) = true := by rw [HBM.out]; exact decide_eq_true h48
                      have hsp := rt_last HDL.out h48
                      have htk := ext_take D' m
                      have HT := Lib.hid (show rtrim0 (D'.take m) = rtrim0 D from ((congrArg rtrim0 hsp).trans (rtrim_snoc _)).symm.trans HRT.out)
                      have HTL2 := Lib.hid (show (D'.take m).length = m by rw [List.length_take]; omega)
                      have HSZ := Lib.hid HW4.out.n.sz
                      have HW5 := Lib.hid ((HW4.out.set1 (D'.take m)).set2 (x' + 1))
                      clear hsp h48
                      go_wp2
                      go_roundw
                      case rel => exact ⟨D'.take m, x' + 1, HT.out, by have := HTL2.out; omega, by have := HX'.out; have := HTL2.out; have := HDL.out; omega, HW5.out⟩
                      case measure => rw [HW5.out.n.sz, HSZ.out, HTL2.out]; have := HDL.out; omega
                    · have c48 : ((((Sx D')[m]'hxm).toNat : Int) == 48) = false := by rw [HBM.out]; exact decide_eq_false h48
                      have hstop := rt_stop HDL.out h48
                      have HN := Lib.hid (show refN s = ⟨d, D', x'⟩ by
                        have h1 : rtrim0 (trim0 (ah s ++ bh s)) = D' := by rw [← HGD.out.2, ← HRT.out]; exact hstop
                        unfold refN
                        rw [h1, ← HGD.out.1, ← HMV.out.1, ← HMV.out.2, ← HNB.out, ← HGD.out.2]
                        congr 1
                        have h1 := HX'.out; have h2 := HX1.out
                        have h3 : (if v = true then -(M : Int) else (M : Int)) = mv := HV.out.symm
                        rw [h3]; omega)
                      have HRP := Lib.hid (show refP s = if rightM ⟨d, D', x'⟩ then (⟨d, D', x'⟩, 0) else (Nm.zero, 13) by
                        unfold refP
                        rw [if_pos HO.out, HN.out, if_neg (show ¬ D' = [] from fun e => by rw [e] at hDp; exact absurd hDp (by decide))])
                      have KR := Lib.hid (fun w' => refRight_any d D' x' w' (by omega))
                      clear h48 hstop
                      cases hr : rightM ⟨d, D', x'⟩ with
                      | false =>
                        rw [hr] at KR HRP
                        clear hr
                        go_wp2_with (go_at_call 17; ((with_reducible refine (KR.out _).mono ?_); rintro r w5 ⟨rfl, hg⟩); have HW6 := Lib.hid (HW4.out.gr hg); obtain ⟨y0, y1, y2, y3, y4, y5⟩ := cells3 HW6.out.n; obtain ⟨z0, z1, z2, z3, z4, z5⟩ := cells3 HW6.out.r; clear hg)
                        refine bodyPost_ret (results_N142 rfl _ _ w.heap.size _ _ rfl rfl (set3 HW6.out.r) rfl) rfl ⟨by rw [HRP.out]; rfl, gr_set (gr_set (gr_set HW6.out.g (Nat.le_refl _) _ _) (Nat.le_refl _) _ _) (Nat.le_refl _) _ _⟩
                      | true =>
                        rw [hr] at KR HRP
                        clear hr
                        go_wp2_with (go_at_call 17; ((with_reducible refine (KR.out _).mono ?_); rintro r w5 ⟨rfl, hg⟩); have HW6 := Lib.hid (HW4.out.gr hg); obtain ⟨y0, y1, y2, y3, y4, y5⟩ := cells3 HW6.out.n; obtain ⟨z0, z1, z2, z3, z4, z5⟩ := cells3 HW6.out.r; clear hg)
                        refine bodyPost_ret (results_N142 rfl _ _ w.heap.size _ _ rfl rfl (set3 HW6.out.r) rfl) rfl ⟨by rw [HRP.out]; rfl, gr_set (gr_set (gr_set HW6.out.g (Nat.le_refl _) _ _) (Nat.le_refl _) _ _) (Nat.le_refl _) _ _⟩

end Go.Proofs.YtpjepdnkolbdhaaDoor
