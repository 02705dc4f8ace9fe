/-
  'ChainWhole' returns true for every input: bytes that are cut, put, got, and laid one behind the other are the same. No condition. Own work; the frame is the guide's.
-/
import Derived.Test.YtpgpilalhbdidabChaJ
import Derived.Test.YtpgpilalhbdidabOctL
import Derived.ProofKit
import Derived.OpenShut
import Derived.ShutString
import Derived.ChangeOld
namespace Go.Proofs.Ytpgpilalhbdidab
open Go.RowKit

/-- The i-th part as it lies in what Cut has handed back. -/
theorem COwns.at {base : Nat} {w : World} {la : Option Addr} {n lc : Nat} {es : List (Value × List Int)} (h : COwns base w (.slice la n lc) es) (hn : n = es.length) {i : Nat} {y : Value × List Int} (hy : es[i]? = some y) :
    ∃ g, la = some ⟨g, 0, none⟩ ∧ g < w.heap.size ∧ w.cell? ⟨g, i, none⟩ = some y.1 ∧ OwnB base w y.1 y.2 := by
  have hi : i < es.length := (List.getElem?_eq_some_iff.1 hy).1
  have h1 := h.1
  obtain ⟨g, hg⟩ : ∃ g, la = some ⟨g, 0, none⟩ := by
    rcases h.1.2 with ⟨_, h0⟩ | ⟨g, cap, cur, hv, _⟩
    · omega
    · injection hv with e; exact ⟨g, e⟩
  subst hg
  have hc := h1.cells (g := g) rfl i y.1 (by rw [List.getElem?_map, hy]; rfl)
  rw [Addr.add_lit, Nat.zero_add] at hc
  exact ⟨g, rfl, by have := World.block_lt_of_cell? _ _ hc; simpa using this, hc, h.2 y (List.mem_of_getElem? hy)⟩

set_option maxRecDepth 100000 in
set_option maxHeartbeats 4000000 in
theorem cwhole_any (w : World) (ao : Option Addr) (n c : Nat) (p : List Int) (size : Int) (h : Seq w.heap.size w (.slice ao n c) p) (hb : Byt p) (z0 : -9223372036854775808 ≤ size) (z1 : size ≤ 9223372036854775807) :
    Calls Try.prog 6 #[.slice ao n c, .int .i64 size] w fun r w' => r = .returned (.bool true) ∧ Below w.heap.size w w' := by
  have hn : n = p.length := by obtain ⟨_, _, hv, _⟩ := h; injection hv
  obtain ⟨i0, hi, hz0, hz1, hz2⟩ := info_parts infoU8
  have HN := Lib.hid hn
  have H := Lib.hid h
  have HB := Lib.hid hb
  clear h hb hn
  by_cases k1 : n ≤ 9000
  · have hd0 : decide ((9000 : Int) < (n : Int)) = false := by simp; omega
    have hd0' : decide (9000 < n) = false := by simp; omega
    by_cases k2 : 512 ≤ size
    · have hd1 : decide (size < 512) = false := by simp; omega
      by_cases k3 : size ≤ 4096
      · have hd2 : decide ((4096 : Int) < size) = false := by simp; omega
        obtain ⟨S, rfl⟩ : ∃ S : Nat, size = (S : Int) := ⟨size.toNat, by omega⟩
        have hS1 : 512 ≤ S := by omega
        have hS2 : S ≤ 4096 := by omega
        have hd1' : decide (S < 512) = false := by simp; omega
        have hd2' : decide (4096 < S) = false := by simp; omega
        obtain ⟨m, hm⟩ : ∃ m, m = S - 8 := ⟨_, rfl⟩
        have HM := Lib.hid hm
        have hm1 : 1 ≤ m := by omega
        have hm9 : m ≤ 4088 := by omega
        have hm8 : m + 8 = S := by omega
        have hmS : (S : Int) - 8 = (m : Int) := by omega
        clear hm
        go_enter Try.func6, Try.ntmps6
        go_wp2_with (first
          | (go_at_call 9; refine (awake6_any _).mono ?_; rintro r wA ⟨rfl, hgA⟩; have HGA := Lib.hid hgA; clear hgA)
          | (go_at_call 10; have Kc := cut_any wA w.heap.size n c ao p S (H.out.below (fun i hi => HGA.out.block i hi (by simp))) HGA.out.size k1 hS1 hS2; rw [← HM.out] at Kc; ((with_reducible refine Kc.mono ?_); clear Kc; rintro r wC ⟨lv, es, M, rfl, hco, hes, hM1, hM2, hgC⟩); obtain ⟨la, lc, rfl⟩ := own_shape hco.1; have hel : es.length = M := (by have := congrArg List.length hes; simpa using this); have HCO := Lib.hid hco; have HES := Lib.hid hes; have HM1 := Lib.hid hM1; have HM2 := Lib.hid hM2; have HGC := Lib.hid (gtrans HGA.out hgC); rw [hel]; have HEL := Lib.hid hel; clear hco hes hM1 hM2 hgC hel))
        have hM9 : M ≤ 9000 := by
          rcases Nat.eq_zero_or_pos M with e | e
          · omega
          · have := HM2.out (M - 1) (by omega)
            have : M - 1 ≤ (M - 1) * m := Nat.le_mul_of_pos_right _ hm1
            omega
        have HCO2 : Hid (COwns (wA.heap.size + 3) wC (.slice la M lc) es) := Lib.hid (by have h := HCO.out; rw [HEL.out] at h; exact h)
        clear HCO
        go_loopw [7, 8] (fun v i wr => ∃ k : Nat, k ≤ M ∧ i = .int .i64 k ∧ OwnB wC.heap.size wr v (p.take (k * m)) ∧ Below wC.heap.size wC wr) (fun _ i _ => M - (intOf i).toNat)
        case atStart => exact ⟨0, Nat.zero_le _, rfl, by simpa using OwnB.nil wC.heap.size wC, Below.refl _ _⟩
        case round =>
          obtain ⟨k, hk, rfl, hov, hbw⟩ := hrel
          obtain ⟨va, vc, rfl⟩ := own_shape hov
          have HOV := Lib.hid hov
          have HBW := Lib.hid hbw
          clear hov hbw
          by_cases hlt : k < M
          · have hki : (k : Int) < (M : Int) := by omega
            obtain ⟨y, hy⟩ : ∃ y, es[k]? = some y := ⟨_, List.getElem?_eq_getElem (by have := HEL.out; omega)⟩
            have hyp : y.2 = partC p m k := by
              have := congrArg (fun l => l[k]?) HES.out
              simp [hy, hlt] at this
              exact this
            obtain ⟨g, rfl, hgl, hcell, hoy⟩ := HCO2.out.at HEL.out.symm hy
            rw [hyp] at hoy
            obtain ⟨a1, c1, hys⟩ := own_shape hoy
            rw [hys] at hcell hoy
            obtain ⟨E, hE⟩ : ∃ E, E = (partC p m k).length := ⟨_, rfl⟩
            rw [← hE] at hcell
            have hEc := partC_len p m k
            rw [← hE] at hEc
            unfold cutE at hEc
            have hkm := HM2.out k hlt
            have hE1 : 1 ≤ E := by have := HN.out; omega
            have hEm : E ≤ m := by omega
            have HR := Lib.hid (show RightC (E : Int) (S : Int) from ⟨by omega, by omega, by omega, by omega⟩)
            have HRP := Lib.hid (show RightC ((partC p m k).length : Int) (S : Int) by rw [← hE]; exact HR.out)
            have HSQ := Lib.hid (show Seq wC.heap.size wr (.slice a1 E c1) (partC p m k) from (by have h := Seq.owned hoy; rw [← hE] at h; exact h.below (fun i hi => HBW.out.block i hi)))
            have hcw : wr.cell? ⟨g, k, none⟩ = some (.slice a1 E c1) := (HBW.out.cell (p := ⟨g, k, none⟩) hgl).trans hcell
            have HBP := Lib.hid (show Byt (partC p m k) from (HB.out.drop _).take _)
            have HPL := Lib.hid (chB_len (p := partC p m k) (x := (k : Int) + 1) (S := S) (by rw [← hE]; omega))
            have HE := Lib.hid hE
            have HTK := Lib.hid (show p.take ((k + 1) * m) = p.take (k * m) ++ partC p m k by rw [Nat.succ_mul, List.take_add]; rfl)
            have hu1 : IntKind.u32.wrap ((k : Int) + 1) = (k : Int) + 1 := by rw [show IntKind.u32.wrap ((k : Int) + 1) = ((k : Int) + 1) % 4294967296 from rfl]; omega
            have HK0 := Lib.hid (show (0 : Int) ≤ (k : Int) + 1 by omega)
            have HK1 := Lib.hid (show (k : Int) + 1 ≤ 4294967295 by omega)
            have htl : (p.take (k * m)).length ≤ 9000 := by rw [List.length_take]; have := HN.out; omega
            obtain ⟨TL, hTL⟩ : ∃ TL, TL = (p.take (k * m)).length := ⟨_, rfl⟩
            rw [← hTL] at htl HOV ⊢
            have HTL := Lib.hid hTL
            have hE9 : E ≤ 4096 := by omega
            have HEM := Lib.hid (fun (h : k + 1 < M) => (show E = m by have := HM2.out (k + 1) h; rw [Nat.succ_mul] at this; have := HN.out; omega))
            clear hy hyp hys hE hEc hkm hoy hcell hTL
            by_cases hk1 : k + 1 < M
            · obtain rfl : E = m := HEM.out hk1
              have hkd : decide ((k : Int) + 1 < (M : Int)) = true := by simp; omega
              go_wp2_with (first
                | (go_at_call 14; have Kc := cput_ok wr wC.heap.size a1 E c1 (partC p E k) ((k : Int) + 1) S HSQ.out HBW.out.size HK0.out HK1.out HR.out; ((with_reducible refine Kc.mono ?_); clear Kc; rintro r w2 ⟨bb, rfl, _, hpb, hg⟩); have G2 := Lib.hid hg; have HPB := Lib.hid (seq_page hpb HPL.out (by unfold maxLen; omega)); clear hg hpb)
                | (go_at_call 16; have Kc := cget_back HPB.out (Nat.le_refl _) HBP.out HK0.out HK1.out HRP.out; ((with_reducible refine Kc.mono ?_); clear Kc; rintro r w3 ⟨pv, rfl, ho, hg⟩); obtain ⟨bq, qc, rfl, hbq, hcq⟩ := own_at ho (by rw [← HE.out]; exact hE1); rw [← HE.out] at ho hcq ⊢; have HCQ := Lib.hid hcq; have G3 := Lib.hid (gtrans G2.out hg); have HOV3 := Lib.hid (HOV.out.grown G3.out); have HBW3 := Lib.hid (HBW.out.trans ((gbelow G3.out).mono HBW.out.size)); clear ho hg hcq hbq)
                | (at_builtin; refine wpList_append_own2 _ rfl _ _ 22 rfl wC.heap.size 5 i0 (.int .u8 0) 1 1 Try.underlying22 hi hz0 hz1 hz2 rfl (by decide) (.slice va TL vc) TL ((p.take (k * E)).map (Value.int .u8)) rfl (by have h := HOV3.out; unfold OwnB at h; rw [← HTL.out] at h; exact h) ⟨bq, 0, none⟩ E qc ((partC p E k).map (Value.int .u8)) rfl (by rw [List.length_map, ← HE.out, Nat.mul_one]) (by
                    intro j u hj
                    rw [List.getElem?_map] at hj
                    obtain ⟨z, hz, rfl⟩ := Option.map_eq_some_iff.1 hj
                    have hjl := (List.getElem?_eq_some_iff.1 hz).1
                    rw [Addr.add_lit, Nat.zero_add, HCQ.out j (by rw [HE.out]; exact hjl), List.getD_eq_getElem?_getD, hz]; rfl) (by intro u hu; obtain ⟨z, _, rfl⟩ := List.mem_map.1 hu; rfl) (by unfold maxLen; omega) (by omega) HBW3.out.size ?_; intro v' w4 hown' hgrow _; have HOV4 := Lib.hid (show OwnB wC.heap.size w4 v' (p.take ((k + 1) * E)) by rw [HTK.out]; unfold OwnB; rw [List.length_append, List.map_append, ← HTL.out, ← HE.out]; exact hown'); have HBW4 := Lib.hid (HBW3.out.grown hgrow HBW3.out.size (fun q e => (HOV3.out.lt q e).1)); clear hown' hgrow))
              go_roundw
              case rel => exact ⟨k + 1, by omega, by go_num, HOV4.out, HBW4.out⟩
              case measure => simp [intOf]; omega
            · have hkd : decide ((k : Int) + 1 < (M : Int)) = false := by simp; omega
              go_wp2_with (first
                | (go_at_call 14; have Kc := cput_ok wr wC.heap.size a1 E c1 (partC p m k) ((k : Int) + 1) S HSQ.out HBW.out.size HK0.out HK1.out HR.out; ((with_reducible refine Kc.mono ?_); clear Kc; rintro r w2 ⟨bb, rfl, _, hpb, hg⟩); have G2 := Lib.hid hg; have HPB := Lib.hid (seq_page hpb HPL.out (by unfold maxLen; omega)); clear hg hpb)
                | (go_at_call 16; have Kc := cget_back HPB.out (Nat.le_refl _) HBP.out HK0.out HK1.out HRP.out; ((with_reducible refine Kc.mono ?_); clear Kc; rintro r w3 ⟨pv, rfl, ho, hg⟩); obtain ⟨bq, qc, rfl, hbq, hcq⟩ := own_at ho (by rw [← HE.out]; exact hE1); rw [← HE.out] at ho hcq ⊢; have HCQ := Lib.hid hcq; have G3 := Lib.hid (gtrans G2.out hg); have HOV3 := Lib.hid (HOV.out.grown G3.out); have HBW3 := Lib.hid (HBW.out.trans ((gbelow G3.out).mono HBW.out.size)); clear ho hg hcq hbq)
                | (at_builtin; refine wpList_append_own2 _ rfl _ _ 22 rfl wC.heap.size 5 i0 (.int .u8 0) 1 1 Try.underlying22 hi hz0 hz1 hz2 rfl (by decide) (.slice va TL vc) TL ((p.take (k * m)).map (Value.int .u8)) rfl (by have h := HOV3.out; unfold OwnB at h; rw [← HTL.out] at h; exact h) ⟨bq, 0, none⟩ E qc ((partC p m k).map (Value.int .u8)) rfl (by rw [List.length_map, ← HE.out, Nat.mul_one]) (by
                    intro j u hj
                    rw [List.getElem?_map] at hj
                    obtain ⟨z, hz, rfl⟩ := Option.map_eq_some_iff.1 hj
                    have hjl := (List.getElem?_eq_some_iff.1 hz).1
                    rw [Addr.add_lit, Nat.zero_add, HCQ.out j (by rw [HE.out]; exact hjl), List.getD_eq_getElem?_getD, hz]; rfl) (by intro u hu; obtain ⟨z, _, rfl⟩ := List.mem_map.1 hu; rfl) (by unfold maxLen; omega) (by omega) HBW3.out.size ?_; intro v' w4 hown' hgrow _; have HOV4 := Lib.hid (show OwnB wC.heap.size w4 v' (p.take ((k + 1) * m)) by rw [HTK.out]; unfold OwnB; rw [List.length_append, List.map_append, ← HTL.out, ← HE.out]; exact hown'); have HBW4 := Lib.hid (HBW3.out.grown hgrow HBW3.out.size (fun q e => (HOV3.out.lt q e).1)); clear hown' hgrow))
              go_roundw
              case rel => exact ⟨k + 1, by omega, by go_num, HOV4.out, HBW4.out⟩
              case measure => simp [intOf]; omega
          · obtain rfl : k = M := by omega
            have htk : p.take (k * m) = p := List.take_of_length_le (by have := HM1.out; have := HN.out; omega)
            rw [htk] at HOV
            have v1 := seq_string (Seq.owned HOV.out)
            have v2 := seq_string (H.out.below (w' := wr) (fun i hi => ((gbelow HGC.out).trans (HBW.out.mono HGC.out.size)).block i hi))
            rw [htk]
            have HBE := Lib.hid ((gbelow HGC.out).trans (HBW.out.mono HGC.out.size))
            obtain ⟨T, hT⟩ : ∃ T, T = strOfNums p := ⟨_, rfl⟩
            rw [← hT] at v1 v2
            rw [← HN.out] at v1 ⊢
            clear hT htk
            go_wp2
            go_ret
            exact ⟨by simp, HBE.out⟩
      · have hd2 : decide ((4096 : Int) < size) = true := by simp; omega
        clear k3
        go_enter Try.func6, Try.ntmps6
        go_wp2_with (go_at_call 9; refine (awake6_any _).mono ?_; rintro r wA ⟨rfl, hgA⟩; have HGA := Lib.hid hgA; clear hgA)
        go_ret
        exact ⟨rfl, gbelow HGA.out⟩
    · have hd1 : decide (size < 512) = true := by simp; omega
      clear k2
      go_enter Try.func6, Try.ntmps6
      go_wp2_with (go_at_call 9; refine (awake6_any _).mono ?_; rintro r wA ⟨rfl, hgA⟩; have HGA := Lib.hid hgA; clear hgA)
      go_ret
      exact ⟨rfl, gbelow HGA.out⟩
  · have hd0 : decide ((9000 : Int) < (n : Int)) = true := by simp; omega
    have hd0' : decide (9000 < n) = true := by simp; omega
    clear k1
    go_enter Try.func6, Try.ntmps6
    go_wp2_with (go_at_call 9; refine (awake6_any _).mono ?_; rintro r wA ⟨rfl, hgA⟩; have HGA := Lib.hid hgA; clear hgA)
    go_ret
    exact ⟨rfl, gbelow HGA.out⟩

open Go.ChangeShapes Go.WideShapes Go.ChangeAt
set_option linter.unusedVariables false
set_option maxRecDepth 100000 in
theorem cwhole_lifted (os : Os) (started : os.Started) (H : Type) (enc : TypeId × Value → H) :
    ReturnsInHanded {} Try.checked os 6 .any (Rows.chainWholeSpec.pre6 enc Try.prog Try.f6 Rows.chainWholeRow.domain false) (Rows.chainWholeSpec.post enc Try.prog Try.f6 false true false false) := by
  refine returnsInHanded_of_change (C := Try.checked) ownKnob0 started (by kernel_rfl) Try.func6
    (ChangeSpec.witness6 (enc := enc) (C := Try.checked) false ⟨#[], #[.slice none 0 0, .int .i64 0], []⟩ 8 (by kernel_rfl) (by kernel_rfl) (by kernel_rfl) (by kernel_rfl)) ?_
  intro W base args ds gs before hval0 hW hcnd _
  have hval : ∀ (j : Nat) t v, Try.f6.params[j]? = some t → args[j]? = some v → Value.okWide Try.prog W .any base t v := hval0
  have hW' := hW
  obtain ⟨p, q, hA0, hV, rfl, hfz, hnd⟩ := hW
  have hA : DataW.TrodAll enc Try.prog W 0 (fun _ => true) true Try.f6.params.toList args.toList ds p := hA0
  rw [Try.params6] at hA hval
  obtain ⟨v0, vs0, d0, ds0, p0, q0, hargs, rfl, rfl, h0, r0⟩ := trodAll_cons hA
  obtain ⟨v1, vs1, d1, ds1, p1, q1, rfl, rfl, rfl, h1, r1⟩ := trodAll_cons r0
  obtain ⟨rfl, rfl, rfl⟩ := trodAll_nil r1
  obtain rfl : args = #[v0, v1] := by cases args; simp_all
  obtain ⟨rfl, rfl⟩ := trodVars_none hV
  obtain ⟨a0, len0, cap0, rfl⟩ := okWide_slice Try.underlying22 (hval 0 22 v0 rfl rfl)
  have lt0 : ∀ x ∈ p0, x.block < W.heap.size := by obtain ⟨m, hm⟩ := h0; exact DataW.trod_lt m _ _ _ hm
  obtain ⟨z0, w0, y0⟩ := open_bytes h0
  obtain ⟨a1, rfl, rfl, rfl, w1⟩ := open_int Try.underlying3 (hval 1 3 v1 rfl rfl) h1
  have b1 := bounds_i64 w1
  clear hA0 hval0
  refine (cwhole_any W a0 len0 cap0 z0 a1 w0 y0 b1.1 b1.2).mono fun e W' ⟨he, bel⟩ => ?_
  subst he
  exact ⟨_, rfl, _, _, _, [], _, [], hW', trodAll_mk1 (shut_bool Try.underlying4 _), (trodAll_cons_mk (Below.trod laidOut0 (by kernel_rfl) (of_decide_eq_true (by kernel_rfl)) h0 bel lt0) (trodAll_cons_mk (shut_int Try.underlying3 w1) trodAll_mk0)), rfl, bel.frame _, fun h => by cases h⟩

/-- ChainWhole, for every input. -/
theorem chainWhole_holds : Rows.ChainWholeSaid :=
  OpenClaim.holds_of_wide 6 Try.f6 rfl rfl rfl rfl rfl rfl rfl ⟨rfl, rfl, rfl, rfl, rfl⟩ rfl rfl rfl rfl rfl (by kernel_rfl) Try.func6 (by kernel_rfl)
    (of_decide_eq_true (by kernel_rfl)) (by unfold Func.isWrapper; first | (rw [if_pos (by decide +kernel)]; kernel_rfl) | (rw [if_neg (by decide +kernel)]; exact ⟨rfl, rfl⟩))
    (fun os started H enc _ => cwhole_lifted os started H enc)
#print axioms chainWhole_holds

end Go.Proofs.Ytpgpilalhbdidab
