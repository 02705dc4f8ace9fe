/-
  FreedSpreads: Spread cuts a list of pairs into the pages that Row tells, and refuses what it must. Proved for every input, no condition.
-/
import Derived.Test.YtpgpilalhbdidaaFrW
import Derived.Test.YtpgpilalhbdidaaFrK
import Derived.ProofKit
import Derived.OpenShut
import Derived.ShutString
import Derived.ChangeOld
namespace Go.Proofs.Ytpgpilalhbdidaa
open Go.RowKit Go.Maps

set_option maxRecDepth 100000 in
set_option maxHeartbeats 4000000 in
theorem fspreads_any (W : World) (ao : Option Addr) (n c : Nat) (ps : List Pr) (p S : Int) (h : PrSq (fun b => b < W.heap.size) W (.slice ao n c) ps) (hsm : ps.length * 16 ≤ 140737488351232) (hp0 : -9223372036854775808 ≤ p) (hp1 : p ≤ 9223372036854775807) (hS0 : -9223372036854775808 ≤ S) (hS1 : S ≤ 9223372036854775807) :
    Calls Try.prog 4 #[.slice ao n c, .int .i64 p, .int .i64 S] W fun r w' => r = .returned (.bool true) ∧ Below W.heap.size W w' := by
  obtain ⟨hn, hnc, hc9⟩ := h.len
  have h9 : maxLen ≤ 9223372036854775807 := by decide
  have HN := Lib.hid hn
  have HS := Lib.hid h
  have HSM := Lib.hid hsm
  clear h hn hsm
  by_cases h3 : 300 < n
  · have h3i : (300 : Int) < (n : Int) := by omega
    go_enter Try.func4, Try.ntmps4
    go_wp2_with (go_at_call 9; (with_reducible refine (awake10_any W).mono ?_); rintro r w1 ⟨rfl, hg⟩; have HG1 := Lib.hid hg; clear hg)
    go_ret
    exact ⟨rfl, gbelow HG1.out⟩
  have h3i : ¬ (300 : Int) < (n : Int) := by omega
  by_cases hB : 100 < p ∧ p ≤ 65536
  · obtain ⟨hB1, hB2⟩ := hB
    go_enter Try.func4, Try.ntmps4
    go_wp2_with (go_at_call 9; (with_reducible refine (awake10_any W).mono ?_); rintro r w1 ⟨rfl, hg⟩; have HG1 := Lib.hid hg; clear hg)
    go_ret
    exact ⟨rfl, gbelow HG1.out⟩
  by_cases hA : (512 ≤ S ∧ S ≤ 4096) ∧ 0 ≤ p ∧ p ≤ 65536
  · obtain ⟨⟨hA1, hA2⟩, hA3, hA4⟩ := hA
    have hp9 : ¬ 100 < p := by omega
    have a1 : ¬ S < 512 := by omega
    have a2 : ¬ 4096 < S := by omega
    have a3 : ¬ p < 0 := by omega
    have a4 : ¬ 65536 < p := by omega
    obtain ⟨Mn, hMn⟩ : ∃ Mn, Mn = manyF (n : Int) S := ⟨_, rfl⟩
    have HMN := Lib.hid hMn
    clear hMn hB
    by_cases hlt : p < Mn
    · go_enter Try.func4, Try.ntmps4
      go_wp2_with (first
        | (go_at_call 9; (with_reducible refine (awake10_any W).mono ?_); rintro r w1 ⟨rfl, hg⟩; have HG1 := Lib.hid hg; have HR1 := Lib.hid (HS.out.grown hg); clear hg)
        | (go_at_call 17; (with_reducible refine (pairs10_any w1 _ ao n c ps HR1.out (by omega)).mono ?_); rintro r w2 ⟨va, vc, rfl, ho, hg⟩; rw [← HN.out] at ho ⊢; have HG2 := Lib.hid (gtrans HG1.out hg); clear ho hg)
        | (go_at_call 22; (with_reducible refine (spread_full w2 va n vc p S (by omega) hA1 hA2 hA3 hA4 (by rw [← HMN.out]; exact hlt)).mono ?_); rintro r w3 ⟨rfl, hg⟩; have HG3 := Lib.hid (gtrans HG2.out hg); clear hg)
        | (go_at_call 20; (with_reducible refine (vmany_any _ (n : Int) S (by omega)).mono ?_); rw [← HMN.out]; rintro r wq ⟨rfl, rfl⟩))
      go_ret
      exact ⟨rfl, gbelow HG3.out⟩
    · obtain ⟨m, rfl⟩ : ∃ m : Nat, p = (m : Int) := ⟨p.toNat, by omega⟩
      obtain ⟨M, hM⟩ : ∃ M : Nat, (M : Int) = roomI S := ⟨(roomI S).toNat, by have := room_bd hA1 hA2; omega⟩
      have HM := Lib.hid hM
      clear hM
      go_enter Try.func4, Try.ntmps4
      go_wp2_with (first
        | (go_at_call 9; (with_reducible refine (awake10_any W).mono ?_); rintro r w1 ⟨rfl, hg⟩; have HG1 := Lib.hid hg; have HR1 := Lib.hid (HS.out.grown hg); clear hg)
        | (go_at_call 17; (with_reducible refine (pairs10_any w1 _ ao n c ps HR1.out (by omega)).mono ?_); rintro r w2 ⟨va, vc, rfl, ho, hg⟩; rw [← HN.out] at ho ⊢; have HO2 := Lib.hid ho; have HG2 := Lib.hid (gtrans HG1.out hg); have HR2 := Lib.hid (HR1.out.grown hg); clear ho hg)
        | (go_at_call 22; (with_reducible refine (spread_ok w2 _ va n vc ps (m : Int) S m M rfl HM.out HO2.out.sq (Nat.le_trans HSM.out (by decide)) hA1 hA2 (by omega) (by rw [← HMN.out]; omega)).mono ?_); rintro r w3 ⟨v, vals, q, rfl, ho, hg⟩; obtain rfl := ho.val; have HO3 := Lib.hid ho; have HG3 := Lib.hid (gtrans HG2.out hg); have HR3 := Lib.hid (HR2.out.grown hg); clear ho hg)
        | (go_at_call 20; (with_reducible refine (vmany_any _ (n : Int) S (by omega)).mono ?_); rw [← HMN.out]; rintro r wq ⟨rfl, rfl⟩))
      go_loopw [10] (fun i wr => ∃ k : Nat, k ≤ m ∧ i = .int .i64 (k : Int) ∧ w3.grownBy wr none) (fun i _ => m - (intOf i).toNat)
      case atStart => exact ⟨0, Nat.zero_le _, rfl, grefl _ _⟩
      case round =>
        obtain ⟨k, hk, rfl, hg⟩ := hrel
        have HG := Lib.hid hg
        by_cases hkm : k < m
        · have hki : (k : Int) < (m : Int) := by omega
          have hk0 : (0 : Int) ≤ (k : Int) := by omega
          have ho := HO3.out.grown hg
          have HRR := Lib.hid ((HR3.out.grown hg).grown (gdrew wr))
          obtain ⟨u, hu, hpu⟩ := ho.each k hkm
          obtain ⟨ua, uc, rfl⟩ := hpu.shape
          have c0 := World.ownsRow.cells ho.row (g := q) rfl k _ hu
          rw [Addr.add_lit] at c0
          obtain ⟨E, hE⟩ : ∃ E, E = (partF ps M k).length := ⟨_, rfl⟩
          rw [← hE] at hpu c0
          have HE := Lib.hid hE
          have HU := Lib.hid (hpu.grown (gdrew wr))
          clear hu hpu hE ho hg
          simp only [Nat.zero_add] at c0
          go_wp2_with fail
          go_region_held3 (fun W => W.cell? ⟨q, k, none⟩ = some (.slice ua E uc)) (go_keep)
            (first
              | (go_at_call 23; (with_reducible refine (vrow_any _ _ ao n c ps k M S HRR.out (by omega) hA1 hA2 HM.out (by omega)).mono ?_); rintro r w4 ⟨a4, e4, c4, rfl, hp4, rfl⟩; have he := hp4.len.1; rw [← HE.out] at he; subst he; have HP4 := Lib.hid hp4; clear hp4)
              | (go_at_call 12; (with_reducible refine (alike10_any _ _ _ _ _ _ _ _ _ HU.out HP4.out).mono ?_); rintro r w5 ⟨rfl, hg⟩; have HG5 := Lib.hid hg; have m0 := hg.cell c0 (by simp); clear hg))
          all_goals
            go_wp2
            go_roundw
            case rel => exact ⟨k + 1, by omega, by go_num, gtrans HG.out (gtrans (gdrew _) HG5.out)⟩
            case measure => simp [intOf]; omega
        · have hki : ¬ (k : Int) < (m : Int) := by omega
          go_wp2
          go_ret
          exact ⟨rfl, gbelow (gtrans HG3.out HG.out)⟩
  · have hcs : (S < 512 ∧ ¬ 100 < p ∧ p ≤ 65536) ∨ (S < 512 ∧ 100 < p ∧ ¬ p ≤ 65536) ∨ (¬ S < 512 ∧ 4096 < S ∧ ¬ 100 < p ∧ p ≤ 65536) ∨ (¬ S < 512 ∧ 4096 < S ∧ 100 < p ∧ ¬ p ≤ 65536) ∨
        (¬ S < 512 ∧ ¬ 4096 < S ∧ ¬ 100 < p ∧ p < 0) ∨ (¬ S < 512 ∧ ¬ 4096 < S ∧ 100 < p ∧ ¬ p < 0 ∧ 65536 < p) := by omega
    have HA := Lib.hid hA
    clear hA hB
    rcases hcs with ⟨a1, a2, a3⟩ | ⟨a1, a2, a3⟩ | ⟨a1, a2, a3, a4⟩ | ⟨a1, a2, a3, a4⟩ | ⟨a1, a2, a3, a4⟩ | ⟨a1, a2, a3, a4, a5⟩
    all_goals
      go_enter Try.func4, Try.ntmps4
      go_wp2_with (first
        | (go_at_call 9; (with_reducible refine (awake10_any W).mono ?_); rintro r w1 ⟨rfl, hg⟩; have HG1 := Lib.hid hg; have HR1 := Lib.hid (HS.out.grown hg); clear hg)
        | (go_at_call 17; (with_reducible refine (pairs10_any w1 _ ao n c ps HR1.out (by omega)).mono ?_); rintro r w2 ⟨va, vc, rfl, ho, hg⟩; rw [← HN.out] at ho ⊢; have HG2 := Lib.hid (gtrans HG1.out hg); clear ho hg)
        | (go_at_call 22; (with_reducible refine (spread_arg w2 va n vc p S HA.out).mono ?_); rintro r w3 ⟨rfl, hg⟩; have HG3 := Lib.hid (gtrans HG2.out hg); clear hg))
      go_ret
      exact ⟨rfl, gbelow HG3.out⟩

open Go.ChangeShapes Go.WideShapes Go.ChangeAt
set_option linter.unusedVariables false
set_option maxRecDepth 100000 in
theorem fspreads_lifted (os : Os) (started : os.Started) (H : Type) (enc : TypeId × Value → H) :
    ReturnsInHanded {} Try.checked os 4 .any (Rows.freedSpreadsSpec.pre6 enc Try.prog Try.f4 Rows.freedSpreadsRow.domain false) (Rows.freedSpreadsSpec.post enc Try.prog Try.f4 false true false false) := by
  refine returnsInHanded_of_change_sized (C := Try.checked) ownKnob0 started (by kernel_rfl) Try.func4
    (ChangeSpec.witness6 (enc := enc) (C := Try.checked) false ⟨#[], #[.slice none 0 0, .int .i64 0, .int .i64 0], []⟩ 8 (by kernel_rfl) (by kernel_rfl) (by kernel_rfl) (by kernel_rfl)) ?_
  intro W base args ds gs before hval0 hW hcnd hsz0 _
  have hval : ∀ (j : Nat) t v, Try.f4.params[j]? = some t → args[j]? = some v → Value.okWide Try.prog W .any base t v := hval0
  have hW' := hW
  obtain ⟨p, q, hA0, hV, rfl, hfz, hnd⟩ := hW
  have hA : DataW.TrodAll enc Try.prog W 0 (fun _ => true) true Try.f4.params.toList args.toList ds p := hA0
  have hsz : (DataW.weightsEach Try.prog (Try.f4.params.toList ++ Rows.freedSpreadsSpec.plain.varTypes Try.prog) (ds ++ gs)).all (· ≤ reachBytes) = true := hsz0
  rw [Try.params4] at hA hval hsz
  obtain ⟨v0, vs0, d0, ds0, p0, q0, hargs, rfl, rfl, h0, r0⟩ := trodAll_cons hA
  obtain ⟨v1, vs1, d1, ds1, p1, q1, rfl, rfl, rfl, h1, r1⟩ := trodAll_cons r0
  obtain ⟨v2, vs2, d2, ds2, p2, q2, rfl, rfl, rfl, h2, r2⟩ := trodAll_cons r1
  obtain ⟨rfl, rfl, rfl⟩ := trodAll_nil r2
  obtain rfl : args = #[v0, v1, v2] := by cases args; simp_all
  obtain ⟨rfl, rfl⟩ := trodVars_none hV
  obtain ⟨a0, len0, cap0, rfl⟩ := okWide_slice Try.underlying23 (hval 0 23 v0 rfl rfl)
  have lt0 : ∀ x ∈ p0, x.block < W.heap.size := by obtain ⟨m, hm⟩ := h0; exact DataW.trod_lt m _ _ _ hm
  obtain ⟨z0, w0, s0⟩ := open_pairs h0 hsz (j := 0) rfl rfl
  obtain ⟨a1, rfl, rfl, rfl, w1⟩ := open_int Try.underlying3 (hval 1 3 v1 rfl rfl) h1
  have b1 := bounds_i64 w1
  obtain ⟨a2, rfl, rfl, rfl, w2⟩ := open_int Try.underlying3 (hval 2 3 v2 rfl rfl) h2
  have b2 := bounds_i64 w2
  clear hA0 hval0
  refine (fspreads_any W a0 len0 cap0 z0 a1 a2 w0 s0 b1.1 b1.2 b2.1 b2.2).mono fun e W' ⟨he, bel⟩ => ?_
  subst he
  exact ⟨_, rfl, _, _, _, [], _, [], hW', trodAll_mk1 (shut_bool Try.underlying4 _), (trodAll_cons_mk (Below.trod laidOut0 (by kernel_rfl) (of_decide_eq_true (by kernel_rfl)) h0 bel lt0) (trodAll_cons_mk (shut_int Try.underlying3 w1) (trodAll_cons_mk (shut_int Try.underlying3 w2) trodAll_mk0))), rfl, bel.frame _, fun h => by cases h⟩

/-- FreedSpreads, for every input. -/
theorem freedSpreads_holds : Rows.FreedSpreadsSaid :=
  OpenClaim.holds_of_wide 4 Try.f4 rfl rfl rfl rfl rfl rfl rfl ⟨rfl, rfl, rfl, rfl, rfl⟩ rfl rfl rfl rfl rfl (by kernel_rfl) Try.func4 (by kernel_rfl)
    (of_decide_eq_true (by kernel_rfl)) (by unfold Func.isWrapper; first | (rw [if_pos (by decide +kernel)]; kernel_rfl) | (rw [if_neg (by decide +kernel)]; exact ⟨rfl, rfl⟩))
    (fun os started H enc _ => fspreads_lifted os started H enc)
#print axioms freedSpreads_holds

end Go.Proofs.Ytpgpilalhbdidaa
