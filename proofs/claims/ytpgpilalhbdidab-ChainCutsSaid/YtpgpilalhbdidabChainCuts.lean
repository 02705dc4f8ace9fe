/-
  'ChainCuts' returns true for every input: how bytes are cut is the document's, and how many pages they take. No condition. Own work; the frame is the guide's.
-/
import Derived.Test.YtpgpilalhbdidabChaK
import Derived.ProofKit
import Derived.OpenShut
import Derived.ShutString
import Derived.ChangeOld
namespace Go.Proofs.Ytpgpilalhbdidab
open Go.RowKit

theorem COwns.rowAt {base : Nat} {w : World} {la : Option Addr} {n lc : Nat} {es : List (Value × List Int)} (h : COwns base w (.slice la n lc) es) (hn : n = es.length) {i : Nat} {y : Value × List Int} (hy : es[i]? = some y) :
    ∃ g, la = some ⟨g, 0, none⟩ ∧ w.cell? ⟨g, i, none⟩ = some y.1 ∧ OwnB base w y.1 y.2 := by
  have hi : i < es.length := (List.getElem?_eq_some_iff.1 hy).1
  have h1 := h.1
  obtain ⟨g, hg⟩ : ∃ g, la = some ⟨g, 0, none⟩ := by
    rcases h.1.2 with ⟨_, h0⟩ | ⟨g, cap, cur, hv, _⟩
    · omega
    · injection hv with e; exact ⟨g, e⟩
  subst hg
  have hc := h1.cells (g := g) rfl i y.1 (by rw [List.getElem?_map, hy]; rfl)
  rw [Addr.add_lit, Nat.zero_add] at hc
  exact ⟨g, rfl, hc, h.2 y (List.mem_of_getElem? hy)⟩
theorem SOwns.row {base : Nat} {w : World} {a : Option Addr} {n c : Nat} {l : List (List Int)} (h : SOwns base w (.slice a n c) l) {i : Nat} {q : List Int} (hq : l[i]? = some q) :
    ∃ g, a = some ⟨g, 0, none⟩ ∧ w.cell? ⟨g, i, none⟩ = some (.string (strOfNums q)) := by
  obtain ⟨g, c', e, hc⟩ := h.at hq
  injection e with e1
  exact ⟨g, e1, hc⟩

set_option maxRecDepth 100000 in
set_option maxHeartbeats 4000000 in
theorem ccuts_any (w : World) (ao : Option Addr) (n c : Nat) (p : List Int) (size x : Int) (h : Seq w.heap.size w (.slice ao n c) p) (hb : Byt p) (z0 : -9223372036854775808 ≤ size) (z1 : size ≤ 9223372036854775807) (x0 : -9223372036854775808 ≤ x) (x1 : x ≤ 9223372036854775807) :
    Calls Try.prog 3 #[.slice ao n c, .int .i64 size, .int .i64 x] w fun r w' => r = .returned (.bool true) ∧ Below w.heap.size w w' := by
  have hn : n = p.length := by obtain ⟨_, _, hv, _⟩ := h; injection hv
  have HN := Lib.hid hn
  have H := Lib.hid h
  have HB := Lib.hid hb
  clear h hb hn
  obtain ⟨T, hT⟩ : ∃ T, T = strOfNums p := ⟨_, rfl⟩
  have HT := Lib.hid hT
  have HCV := Lib.hid (show ∀ w' : World, w.grownBy w' none → (convert 22 9 (.slice ao n c)).run Try.prog w' = .ok (.string T) w' from fun w' hg => by
    rw [hT]; exact seq_string (H.out.below (w' := w') (fun i hi => hg.block i hi (by simp))))
  clear hT
  by_cases k1 : n ≤ 9000
  · have hd0 : decide ((9000 : Int) < (n : Int)) = false := by simp; omega
    have hd0' : decide (9000 < n) = false := by simp; omega
    by_cases ks : 512 ≤ size ∧ size ≤ 4096
    · obtain ⟨S, rfl⟩ : ∃ S : Nat, size = (S : Int) := ⟨size.toNat, by omega⟩
      have hS1 : 512 ≤ S := by omega
      have hS2 : S ≤ 4096 := by omega
      obtain ⟨V, hV⟩ : ∃ V, V = manyI x (S : Int) := ⟨_, rfl⟩
      have HV := Lib.hid hV
      clear hV ks
      go_enter Try.func3, Try.ntmps3
      go_wp2_with (first
        | (go_at_call 9; refine (awake6_any _).mono ?_; rintro r wA ⟨rfl, hgA⟩; have HGA := Lib.hid hgA; clear hgA)
        | (go_at_call 10; have Kc := cut_any wA w.heap.size n c ao p S (H.out.below (fun i hi => HGA.out.block i hi (by simp))) HGA.out.size k1 hS1 hS2; ((with_reducible refine Kc.mono ?_); clear Kc; rintro r wC ⟨lv, es, M, rfl, hco, hes, hM1, hM2, hgC⟩); obtain ⟨la, lc, rfl⟩ := own_shape hco.1; have hel : es.length = M := (by have := congrArg List.length hes; simpa using this); rw [hel] at hco ⊢; have HCO := Lib.hid hco; have HES := Lib.hid hes; have HM1 := Lib.hid hM1; have HM2 := Lib.hid hM2; have HGC := Lib.hid (gtrans HGA.out hgC); have HEL := Lib.hid hel; have HMM := Lib.hid (parts_many hS1 hS2 hM1 hM2); have hcv := HCV.out wC HGC.out; clear hco hes hM1 hM2 hgC hel)
        | (go_at_call 11; have Kc := gcut_any wC p S HB.out (by rw [← HN.out]; exact k1) hS1 hS2; rw [← HT.out] at Kc; ((with_reducible refine Kc.mono ?_); clear Kc; rintro r wD ⟨gv, M', rfl, hso, q1, q2, hgD⟩); have hMM : M = M' := parts_uniq HM1.out HM2.out (by rw [HN.out]; exact q1) (fun k hk => by rw [HN.out]; exact q2 k hk); subst hMM; obtain ⟨ga, gc, hgs⟩ := own_shape hso; rw [List.length_map, List.length_range] at hgs; subst hgs; have HSO := Lib.hid hso; have HCD := Lib.hid (HCO.out.grown hgD); have HGD := Lib.hid (gtrans HGC.out hgD); clear hso q1 q2 hgD hcv)
        | (go_at_call 12; have Kc := cmany_eq wD x (S : Int) x1; rw [← HV.out] at Kc; ((with_reducible refine Kc.mono ?_); clear Kc; rintro r w1 ⟨rfl, rfl⟩))
        | (go_at_call 13; have Kc := gmany_eq wD x (S : Int) x0 x1 (by omega) (by omega); rw [← HV.out] at Kc; ((with_reducible refine Kc.mono ?_); clear Kc; rintro r w1 ⟨rfl, rfl⟩))
        | (go_at_call 12; have Kc := cmany_eq wD (n : Int) (S : Int) (by omega); rw [HMM.out] at Kc; ((with_reducible refine Kc.mono ?_); clear Kc; rintro r w1 ⟨rfl, rfl⟩)))
      have hM9 : M ≤ 9000 := by
        rcases Nat.eq_zero_or_pos M with e | e
        · omega
        · have := HM2.out (M - 1) (by omega)
          have : M - 1 ≤ (M - 1) * (S - 8) := Nat.le_mul_of_pos_right _ (by omega)
          omega
      go_loopw [10] (fun i wr => ∃ k : Nat, k ≤ M ∧ i = .int .i64 k ∧ wD.grownBy wr none) (fun i _ => M - (intOf i).toNat)
      case atStart => exact ⟨0, Nat.zero_le _, rfl, grefl _ _⟩
      case round =>
        obtain ⟨k, hk, rfl, hg⟩ := hrel
        have HG := Lib.hid hg
        by_cases hlt : k < M
        · have hki : (k : Int) < (M : Int) := by omega
          obtain ⟨y, hy⟩ : ∃ y, es[k]? = some y := ⟨_, List.getElem?_eq_getElem (by have := HEL.out; omega)⟩
          have hyp : y.2 = partC p (S - 8) k := by
            have := congrArg (fun l => l[k]?) HES.out
            simp [hy, hlt] at this
            exact this
          obtain ⟨g, rfl, hcell, hoy⟩ := (HCD.out.grown hg).rowAt HEL.out.symm hy
          obtain ⟨g2, rfl, hcell2⟩ := (HSO.out.grown hg).row (i := k) (q := y.2) (by rw [hyp]; simp [hlt])
          obtain ⟨a1, c1, hys⟩ := own_shape hoy
          rw [hys] at hcell hoy
          have v1 : ∀ j, (convert 22 9 (.slice a1 y.2.length c1)).run Try.prog (wr.drewN j) = .ok (.string (strOfNums y.2)) (wr.drewN j) := fun j => seq_string ((Seq.owned hoy).below (w' := wr.drewN j) (fun _ _ => rfl))
          obtain ⟨s1, hs1⟩ : ∃ s, s = strOfNums y.2 := ⟨_, rfl⟩
          obtain ⟨E, hE⟩ : ∃ E, E = y.2.length := ⟨_, rfl⟩
          rw [← hs1] at v1 hcell2
          rw [← hE] at v1 hcell
          clear hy hyp hys hoy hs1 hE hg
          go_wp2
          go_quiet (fail)
          go_wp2
          go_roundw
          case rel => exact ⟨k + 1, by omega, by go_num, gtrans HG.out ⟨rfl, rfl, rfl, Nat.le_refl _, fun _ _ _ => rfl⟩⟩
          case measure => simp [intOf]; omega
        · obtain rfl : k = M := by omega
          go_wp2
          go_ret
          exact ⟨rfl, gbelow (gtrans HGD.out HG.out)⟩
    · have HMM := Lib.hid (show manyI (n : Int) size = 0 by rw [manyI, if_neg (fun k => ks k.2)])
      have HKS := Lib.hid ks
      obtain ⟨V, hV⟩ : ∃ V, V = manyI x size := ⟨_, rfl⟩
      have HV := Lib.hid hV
      clear ks hV
      go_enter Try.func3, Try.ntmps3
      go_wp2_with (first
        | (go_at_call 9; refine (awake6_any _).mono ?_; rintro r wA ⟨rfl, hgA⟩; have HGA := Lib.hid hgA; have hcv := HCV.out wA hgA; clear hgA)
        | (go_at_call 10; have Kc := cut_no wA ao n c size HKS.out; ((with_reducible refine Kc.mono ?_); clear Kc; rintro r w1 ⟨rfl, rfl⟩))
        | (go_at_call 11; have Kc := gcut_no wA T size HKS.out; ((with_reducible refine Kc.mono ?_); clear Kc; rintro r w1 ⟨rfl, rfl⟩))
        | (go_at_call 12; have Kc := cmany_eq wA x size x1; rw [← HV.out] at Kc; ((with_reducible refine Kc.mono ?_); clear Kc; rintro r w1 ⟨rfl, rfl⟩))
        | (go_at_call 13; have Kc := gmany_eq wA x size x0 x1 z0 z1; rw [← HV.out] at Kc; ((with_reducible refine Kc.mono ?_); clear Kc; rintro r w1 ⟨rfl, rfl⟩))
        | (go_at_call 12; have Kc := cmany_eq wA (n : Int) size (by omega); rw [HMM.out] at Kc; ((with_reducible refine Kc.mono ?_); clear Kc; rintro r w1 ⟨rfl, rfl⟩)))
      go_loopw [10] (fun i wr => i = .int .i64 0 ∧ wA.grownBy wr none) (fun _ _ => 0)
      case atStart => exact ⟨rfl, grefl _ _⟩
      case round =>
        obtain ⟨rfl, hg⟩ := hrel
        have HG := Lib.hid hg
        clear hg
        go_wp2
        go_ret
        exact ⟨rfl, gbelow (gtrans HGA.out HG.out)⟩
  · have hd0 : decide ((9000 : Int) < (n : Int)) = true := by simp; omega
    have hd0' : decide (9000 < n) = true := by simp; omega
    clear k1
    go_enter Try.func3, Try.ntmps3
    go_wp2_with (go_at_call 9; refine (awake6_any _).mono ?_; rintro r wA ⟨rfl, hgA⟩; have HGA := Lib.hid hgA; clear hgA)
    go_ret
    exact ⟨rfl, gbelow HGA.out⟩

open Go.ChangeShapes Go.WideShapes Go.ChangeAt
set_option linter.unusedVariables false
set_option maxRecDepth 100000 in
theorem ccuts_lifted (os : Os) (started : os.Started) (H : Type) (enc : TypeId × Value → H) :
    ReturnsInHanded {} Try.checked os 3 .any (Rows.chainCutsSpec.pre6 enc Try.prog Try.f3 Rows.chainCutsRow.domain false) (Rows.chainCutsSpec.post enc Try.prog Try.f3 false true false false) := by
  refine returnsInHanded_of_change (C := Try.checked) ownKnob0 started (by kernel_rfl) Try.func3
    (ChangeSpec.witness6 (enc := enc) (C := Try.checked) false ⟨#[], #[.slice none 0 0, .int .i64 0, .int .i64 0], []⟩ 8 (by kernel_rfl) (by kernel_rfl) (by kernel_rfl) (by kernel_rfl)) ?_
  intro W base args ds gs before hval0 hW hcnd _
  have hval : ∀ (j : Nat) t v, Try.f3.params[j]? = some t → args[j]? = some v → Value.okWide Try.prog W .any base t v := hval0
  have hW' := hW
  obtain ⟨p, q, hA0, hV, rfl, hfz, hnd⟩ := hW
  have hA : DataW.TrodAll enc Try.prog W 0 (fun _ => true) true Try.f3.params.toList args.toList ds p := hA0
  rw [Try.params3] at hA hval
  obtain ⟨v0, vs0, d0, ds0, p0, q0, hargs, rfl, rfl, h0, r0⟩ := trodAll_cons hA
  obtain ⟨v1, vs1, d1, ds1, p1, q1, rfl, rfl, rfl, h1, r1⟩ := trodAll_cons r0
  obtain ⟨v2, vs2, d2, ds2, p2, q2, rfl, rfl, rfl, h2, r2⟩ := trodAll_cons r1
  obtain ⟨rfl, rfl, rfl⟩ := trodAll_nil r2
  obtain rfl : args = #[v0, v1, v2] := by cases args; simp_all
  obtain ⟨rfl, rfl⟩ := trodVars_none hV
  obtain ⟨a0, len0, cap0, rfl⟩ := okWide_slice Try.underlying22 (hval 0 22 v0 rfl rfl)
  have lt0 : ∀ x ∈ p0, x.block < W.heap.size := by obtain ⟨m, hm⟩ := h0; exact DataW.trod_lt m _ _ _ hm
  obtain ⟨z0, w0, y0⟩ := open_bytes h0
  obtain ⟨a1, rfl, rfl, rfl, w1⟩ := open_int Try.underlying3 (hval 1 3 v1 rfl rfl) h1
  have b1 := bounds_i64 w1
  obtain ⟨a2, rfl, rfl, rfl, w2⟩ := open_int Try.underlying3 (hval 2 3 v2 rfl rfl) h2
  have b2 := bounds_i64 w2
  clear hA0 hval0
  refine (ccuts_any W a0 len0 cap0 z0 a1 a2 w0 y0 b1.1 b1.2 b2.1 b2.2).mono fun e W' ⟨he, bel⟩ => ?_
  subst he
  exact ⟨_, rfl, _, _, _, [], _, [], hW', trodAll_mk1 (shut_bool Try.underlying4 _), (trodAll_cons_mk (Below.trod laidOut0 (by kernel_rfl) (of_decide_eq_true (by kernel_rfl)) h0 bel lt0) (trodAll_cons_mk (shut_int Try.underlying3 w1) (trodAll_cons_mk (shut_int Try.underlying3 w2) trodAll_mk0))), rfl, bel.frame _, fun h => by cases h⟩

/-- ChainCuts, for every input. -/
theorem chainCuts_holds : Rows.ChainCutsSaid :=
  OpenClaim.holds_of_wide 3 Try.f3 rfl rfl rfl rfl rfl rfl rfl ⟨rfl, rfl, rfl, rfl, rfl⟩ rfl rfl rfl rfl rfl (by kernel_rfl) Try.func3 (by kernel_rfl)
    (of_decide_eq_true (by kernel_rfl)) (by unfold Func.isWrapper; first | (rw [if_pos (by decide +kernel)]; kernel_rfl) | (rw [if_neg (by decide +kernel)]; exact ⟨rfl, rfl⟩))
    (fun os started H enc _ => ccuts_lifted os started H enc)
#print axioms chainCuts_holds

end Go.Proofs.Ytpgpilalhbdidab
