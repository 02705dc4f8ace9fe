/-
  ReadersSlots: as many readers begin as there are slots; one more doesn't; one that ended leaves its slot, the lowest such first. Proved for every input, no condition.
-/
import Derived.Test.YtoaglkbobndmeaaRdH
import Derived.Deep.Cut
import Derived.Deep.RegionWith
namespace Go.Proofs.Ytoaglkbobndmeaa
open Go.RowKit

set_option maxRecDepth 100000 in
set_option maxHeartbeats 8000000 in
theorem slots_any (W : World) (m : Int) (ao : Option Addr) (n c : Nat) (bs : List Int) (hm0 : -9223372036854775808 ≤ m) (hm1 : m ≤ 9223372036854775807) (h : Seq W.heap.size W (.slice ao n c) bs) (hby : Byt bs) :
    Calls Try.prog 6 #[.int .i64 m, .slice ao n c] W fun r w' => r = .returned (.bool true) ∧ Below W.heap.size W w' := by
  by_cases hlo : m < 1
  · go_enter Try.func6, Try.ntmps6
    go_wp2_with (first
      | (go_at_call 8; (with_reducible refine (awake9_any W).mono ?_); rintro r w1 ⟨rfl, hg⟩; have HG1 := Lib.hid hg; clear hg)
      | (go_at_call 9; (with_reducible refine (new9_bad w1 m (.inl hlo)).mono ?_); rintro r w2 ⟨rfl, rfl⟩)
      | go_in)
    go_ret
    exact ⟨rfl, gbelow HG1.out⟩
  by_cases hhi : 126 < m
  · go_enter Try.func6, Try.ntmps6
    go_wp2_with (first
      | (go_at_call 8; (with_reducible refine (awake9_any W).mono ?_); rintro r w1 ⟨rfl, hg⟩; have HG1 := Lib.hid hg; clear hg)
      | (go_at_call 9; (with_reducible refine (new9_bad w1 m (.inr hhi)).mono ?_); rintro r w2 ⟨rfl, rfl⟩)
      | go_in)
    go_ret
    exact ⟨rfl, gbelow HG1.out⟩
  obtain ⟨N, rfl⟩ : ∃ N : Nat, m = (N : Int) := ⟨m.toNat, by omega⟩
  have hN1 : 1 ≤ N := by omega
  have hN2 : N ≤ 126 := by omega
  have H := Lib.hid h
  have HB := Lib.hid hby
  have hnl : n = bs.length := by obtain ⟨_, _, e, _⟩ := h; injection e
  have HNL := Lib.hid hnl
  clear h hby hlo hhi hm0 hm1 hnl
  obtain ⟨i0, hi, hz0, hz1, hz2⟩ := info_parts infoBool
  go_enter Try.func6, Try.ntmps6
  go_wp2_with (first
    | (go_at_call 8; (with_reducible refine (awake9_any W).mono ?_); rintro r w1 ⟨rfl, hg⟩; have HG1 := Lib.hid hg; clear hg)
    | (go_at_call 9; (with_reducible refine (new9_ex w1 N hN1 hN2).mono ?_); rintro r w2 ⟨b, rfl, hb, ht, hg⟩; rw [← freshL_zero (fun _ => 5) N] at ht; have HT2 := Lib.hid ht; have HG2 := Lib.hid (gtrans HG1.out hg); have hbW : W.heap.size ≤ b := Nat.le_trans HG1.out.size hb; clear ht hg hb)
    | go_in)
  go_loopw [8, 9] (fun l i wr => ∃ k : Nat, k ≤ N ∧ i = .int .i64 (k : Int) ∧ HOwn W.heap.size wr l (hdls k) ∧ TabAt b wr (freshL (fun _ => 5) k N) ∧ W.grownBy wr none) (fun _ i _ => N - (intOf i).toNat)
  case atStart => exact ⟨0, Nat.zero_le _, rfl, HOwn.nil _ _, HT2.out, HG2.out⟩
  case round =>
    obtain ⟨k, hk, rfl, ho, ht, hg⟩ := hrel
    have HO := Lib.hid ho
    have HT := Lib.hid ht
    have HG := Lib.hid hg
    clear ho ht hg
    by_cases hlt : k < N
    · have hki : (k : Int) < (N : Int) := by omega
      obtain ⟨a0, c0, hv⟩ := HO.out.shape
      rw [hdls_len] at hv
      subst hv
      go_wp2_with (first
        | (go_at_call 11; (with_reducible refine (fresh_begin _ b k N (fun _ => 5) 5 5 rfl HT.out hlt rfl (by decide)).mono ?_); rintro r w3 ⟨rfl, ht⟩; have hga := World.grownBy_alloc w3 (.cells #[.int .i64 (k : Int), .int .u64 1] 36) none; have HT3 := Lib.hid (ht.1.grown hga); have HO3 := Lib.hid ((HO.out.tab HT.out ht.2).grown hga); have HG3 := Lib.hid (gtrans (ht.grown HG.out hbW) hga); clear ht hga)
        | (at_builtin; refine wpList_happ _ rfl _ _ rfl W.heap.size (.slice a0 k c0) (hdls k) (k, 1) _ _ _ rfl rfl (by simp) rfl rfl HO3.out (by rw [hdls_len]; omega) HG3.out.size ?_; intro v' w5 ho hg; rw [hdls_more] at ho; have HO5 := Lib.hid ho; have HT5 := Lib.hid (HT3.out.hown HO3.out hg); have HG5 := Lib.hid (grow_row HG3.out HO3.out hg); clear ho hg)
        | go_in)
      go_roundw
      case rel => exact ⟨k + 1, by omega, by go_num, HO5.out, HT5.out, HG5.out⟩
      case measure => simp [intOf]; omega
    · have hki : ¬ (k : Int) < (N : Int) := by omega
      obtain rfl : N = k := by omega
      obtain ⟨a0, c0, hv⟩ := HO.out.shape
      rw [hdls_len] at hv
      subst hv
      have hn64 : (n : Int) ≤ 9223372036854775807 := by
        obtain ⟨_, _, e, hc, hc2, _⟩ := H.out
        injection e with _ e1 e2
        unfold maxLen at hc2; omega
      by_cases hbig : 40 < n
      · have hbi : (40 : Int) < (n : Int) := by omega
        go_wp2_with (first
          | (go_at_call 11; (with_reducible refine (fresh_full _ b N (fun _ => 5) 5 5 rfl HT.out).mono ?_); rintro r w3 ⟨rfl, hg⟩; have HG3 := Lib.hid (gtrans (gtrans HG.out hg) (World.grownBy_alloc w3 (.cells #[.int .i64 0, .int .u64 0] 36) none)); clear hg)
          | go_in)
        go_ret
        exact ⟨rfl, gbelow HG3.out⟩
      have hbi : ¬ (40 : Int) < (n : Int) := by omega
      go_wp2_with (first
        | (go_at_call 11; (with_reducible refine (fresh_full _ b N (fun _ => 5) 5 5 rfl HT.out).mono ?_); rintro r w3 ⟨rfl, hg⟩; have hg2 := gtrans hg (World.grownBy_alloc w3 (.cells #[.int .i64 0, .int .u64 0] 36) none); have HG3 := Lib.hid (gtrans HG.out hg2); have HT3 := Lib.hid (HT.out.grown hg2); have HO3 := Lib.hid (HO.out.grown hg2); clear hg hg2)
        | (at_make; refine wpList_make_full _ rfl _ _ 62 rfl W.heap.size 4 i0 (.bool false) 1 Try.underlying62 hi hz0 hz1 .i64 .i64 _ _ N rfl rfl ?c1 ?c2 ?c3 ?c4 HG3.out.size ?_; (case c1 => rfl); (case c2 => rfl); (case c3 => rw [hz2]; omega); (case c4 => unfold maxLen; omega); intro w5 hown hgM; have HB5 := Lib.hid (BOwn.made hown); have HG5 := Lib.hid (gtrans HG3.out hgM); have HT5 := Lib.hid (HT3.out.grown hgM); have HO5 := Lib.hid (HO3.out.grown hgM); clear hown hgM)
        | go_in)
      rw [← lastL_start N] at HT5
      rw [show (w3.alloc (.cells #[.int .i64 0, .int .u64 0] 36)).heap.size = w3.heap.size + 1 by simp] at HB5
      generalize w3.heap.size + 1 = g at HB5 ⊢
      go_loopw [15] (fun i wr => ∃ (j : Nat) (F : List Bool), j ≤ n ∧ i = .int .i64 (j : Int) ∧ F.length = N ∧ BOwn W.heap.size wr (.slice (some ⟨g, 0, none⟩) N N) F ∧ HOwn W.heap.size wr (.slice a0 N c0) (hdls N) ∧ TabAt b wr (lastL F 0) ∧ W.grownBy wr none) (fun i _ => n - (intOf i).toNat)
      case atStart => exact ⟨0, _, Nat.zero_le _, rfl, by simp, HB5.out, HO5.out, HT5.out, HG5.out⟩
      case round =>
        obtain ⟨j, F, hj, rfl, hFl, hf, ho, ht, hg⟩ := hrel
        have HF := Lib.hid hf
        have HO6 := Lib.hid ho
        have HT6 := Lib.hid ht
        have HG6 := Lib.hid hg
        have HFL := Lib.hid hFl
        clear hf ho ht hg hFl
        by_cases hlt : j < n
        · have hji : (j : Int) < (n : Int) := by omega
          obtain ⟨ba, oa, hva, hca⟩ := (H.out.below (fun i hi => HG6.out.block i hi (by simp))).cellAt j (by have := HNL.out; omega)
          subst hva
          have y1 := HB.out.get j
          obtain ⟨x, hx⟩ : ∃ x : Nat, (x : Int) = bs.getD j 0 := ⟨(bs.getD j 0).toNat, by omega⟩
          rw [← hx] at hca y1
          obtain ⟨k, hkx⟩ : ∃ k, k = x % N := ⟨_, rfl⟩
          have hkN : k < N := by rw [hkx]; exact Nat.mod_lt _ (by omega)
          have hN0 : ¬ (N : Int) = 0 := by omega
          have hmod : (x : Int).tmod (N : Int) = (k : Int) := by rw [hkx]; rfl
          clear hx hkx
          obtain ⟨g0, c0', hv, e0, e1⟩ := HO6.out.at (hdls_at hkN)
          rw [hdls_len] at hv
          injection hv with hv1 _ hv3
          subst hv1 hv3
          obtain ⟨fk, hfk⟩ : ∃ f, F[k]? = some f := ⟨F[k]'(by have := HFL.out; omega), List.getElem?_eq_getElem _⟩
          have hkNi : (k : Int) < (N : Int) := by omega
          have f0 := HF.out.at hfk
          have HFK := Lib.hid hfk
          clear hfk
          cases fk with
          | false =>
            go_upto_region 23 with fail
            go_region_with (go_at_call 13; (with_reducible refine (last_end _ b k F (HT6.out.grown (gdrew _)) HFK.out).mono ?_); rintro r w7 ⟨rfl, ht⟩; have HT7 := Lib.hid ht.1; have HG7 := Lib.hid (ht.grown (gtrans HG6.out (gdrew _)) hbW); have HO7 := Lib.hid ((HO6.out.grown (gdrew _)).tab (HT6.out.grown (gdrew _)) ht.2); have hF7 := (HF.out.grown (gdrew _)).tab (HT6.out.grown (gdrew _)) ht.2; have f7 := hF7.at HFK.out; have z7 := hF7.free HFL.out k; have HF7 := Lib.hid hF7; clear ht hF7)
            all_goals
              go_wp2
              go_roundw
              case rel => exact ⟨j + 1, F.set k true, by omega, by go_num, by rw [List.length_set]; exact HFL.out, (HF7.out.stored HFL.out k true).1, HO7.out.flag HF7.out (HF7.out.stored HFL.out k true).2.1, HT7.out.flag HF7.out (HF7.out.stored HFL.out k true).2.1, gnew HG7.out (HF7.out.stored HFL.out k true).2.1 (HF7.out.stored HFL.out k true).2.2⟩
              case measure => simp [intOf]; omega
          | true =>
            go_upto_region 23 with fail
            go_region_with (go_at_call 13; (with_reducible refine (last_end_no _ b k F (HT6.out.grown (gdrew _)) HFK.out).mono ?_); rintro r w7 ⟨rfl, hg⟩; have hg7 := gtrans (gdrew _) hg; have HT7 := Lib.hid (HT6.out.grown hg7); have HG7 := Lib.hid (gtrans HG6.out hg7); have HO7 := Lib.hid (HO6.out.grown hg7); have hF7 := HF.out.grown hg7; have f7 := hF7.at HFK.out; have z7 := hF7.free HFL.out k; have HF7 := Lib.hid hF7; clear hg hg7 hF7)
            all_goals
              go_wp2
              go_roundw
              case rel => exact ⟨j + 1, F, by omega, by go_num, HFL.out, by have h8 := (HF7.out.stored HFL.out k true).1; rw [set_same_b HFK.out] at h8; exact h8, HO7.out.flag HF7.out (HF7.out.stored HFL.out k true).2.1, HT7.out.flag HF7.out (HF7.out.stored HFL.out k true).2.1, gnew HG7.out (HF7.out.stored HFL.out k true).2.1 (HF7.out.stored HFL.out k true).2.2⟩
              case measure => simp [intOf]; omega
        · have hji : ¬ (j : Int) < (n : Int) := by omega
          go_wp2
          go_loopw [17] (fun i wz => ∃ i' : Nat, i' ≤ N ∧ i = .int .i64 (i' : Int) ∧ BOwn W.heap.size wz (.slice (some ⟨g, 0, none⟩) N N) F ∧ TabAt b wz (lastL F i') ∧ W.grownBy wz none) (fun i _ => N - (intOf i).toNat)
          case atStart => exact ⟨0, Nat.zero_le _, rfl, HF.out, HT6.out, HG6.out⟩
          case round =>
            obtain ⟨k, hk, rfl, hf, ht, hg⟩ := hrel
            have HF8 := Lib.hid hf
            have HT8 := Lib.hid ht
            have HG8 := Lib.hid hg
            clear hf ht hg HF HT6 HG6 HO6
            by_cases hkt : k < N
            · have hki : (k : Int) < (N : Int) := by omega
              obtain ⟨fk, hfk⟩ : ∃ f, F[k]? = some f := ⟨F[k]'(by have := HFL.out; omega), List.getElem?_eq_getElem _⟩
              have f8 := HF8.out.at hfk
              have HFK := Lib.hid hfk
              clear hfk
              cases fk with
              | false =>
                go_wp2
                go_roundw
                case rel => exact ⟨k + 1, by omega, by go_num, HF8.out, by rw [lastL_skip HFK.out]; exact HT8.out, HG8.out⟩
                case measure => simp [intOf]; omega
              | true =>
                go_wp2_with (first
                  | (go_at_call 11; (with_reducible refine (last_begin _ b k F HT8.out HFK.out).mono ?_); rintro r w9 ⟨rfl, ht⟩; have hga := World.grownBy_alloc w9 (.cells #[.int .i64 (k : Int), .int .u64 2] 36) none; have HT9 := Lib.hid (ht.1.grown hga); have HF9 := Lib.hid ((HF8.out.tab HT8.out ht.2).grown hga); have HG9 := Lib.hid (gtrans (ht.grown HG8.out hbW) hga); clear ht hga)
                  | go_in)
                go_roundw
                case rel => exact ⟨k + 1, by omega, by go_num, HF9.out, HT9.out, HG9.out⟩
                case measure => simp [intOf]; omega
            · have hki : ¬ (k : Int) < (N : Int) := by omega
              have hTN := HT8.out
              rw [show k = F.length by have := HFL.out; omega] at hTN
              have hlive : liveN (lastL F F.length) = N := (lastL_live F).trans HFL.out
              have HTN := Lib.hid hTN
              have HLV := Lib.hid hlive
              clear hTN hlive
              go_wp2_with (first
                | (go_at_call 23; (with_reducible refine (live_any _ b _ HTN.out).mono ?_); rw [HLV.out]; rintro r w9 ⟨rfl, rfl⟩)
                | go_in)
              go_ret
              exact ⟨by simp, gbelow HG8.out⟩


open Go.ChangeShapes Go.WideShapes Go.ChangeAt
set_option linter.unusedVariables false
set_option maxRecDepth 100000 in
theorem slots_lifted (os : Os) (started : os.Started) (H : Type) (enc : TypeId × Value → H) :
    ReturnsInHanded {} Try.checked os 6 .any (Rows.readersSlotsSpec.pre6 enc Try.prog Try.f6 Rows.readersSlotsRow.domain false) (Rows.readersSlotsSpec.post enc Try.prog Try.f6 false true false false) := by
  refine returnsInHanded_of_change (C := Try.checked) ownKnob0 started (by kernel_rfl) Try.func6
    (ChangeSpec.witness6 (enc := enc) (C := Try.checked) false ⟨#[], #[.int .i64 0, .slice none 0 0], []⟩ 8 (by kernel_rfl) (by kernel_rfl) (by kernel_rfl) (by kernel_rfl)) ?_
  intro W base args ds gs before hval0 hW hcnd _
  have hval : ∀ (j : Nat) t v, Try.f6.params[j]? = some t → args[j]? = some v → Value.okWide Try.prog W .any base t v := hval0
  have hW' := hW
  obtain ⟨p, q, hA0, hV, rfl, hfz, hnd⟩ := hW
  have hA : DataW.TrodAll enc Try.prog W 0 (fun _ => true) true Try.f6.params.toList args.toList ds p := hA0
  rw [Try.params6] at hA hval
  obtain ⟨v0, vs0, d0, ds0, p0, q0, hargs, rfl, rfl, h0, r0⟩ := trodAll_cons hA
  obtain ⟨v1, vs1, d1, ds1, p1, q1, rfl, rfl, rfl, h1, r1⟩ := trodAll_cons r0
  obtain ⟨rfl, rfl, rfl⟩ := trodAll_nil r1
  obtain rfl : args = #[v0, v1] := by cases args; simp_all
  obtain ⟨rfl, rfl⟩ := trodVars_none hV
  obtain ⟨a0, rfl, rfl, rfl, w0⟩ := open_int Try.underlying3 (hval 0 3 v0 rfl rfl) h0
  have b0 := bounds_i64 w0
  obtain ⟨a1, len1, cap1, rfl⟩ := okWide_slice Try.underlying60 (hval 1 60 v1 rfl rfl)
  have lt1 : ∀ x ∈ p1, x.block < W.heap.size := by obtain ⟨m, hm⟩ := h1; exact DataW.trod_lt m _ _ _ hm
  obtain ⟨z1, w1, y1⟩ := open_bytes h1
  clear hA0 hval0
  refine (slots_any W a0 a1 len1 cap1 z1 b0.1 b0.2 w1 y1).mono fun e W' ⟨he, bel⟩ => ?_
  subst he
  exact ⟨_, rfl, _, _, _, [], _, [], hW', trodAll_mk1 (shut_bool Try.underlying4 _), (trodAll_cons_mk (shut_int Try.underlying3 w0) (trodAll_cons_mk (Below.trod laidOut0 (by kernel_rfl) (of_decide_eq_true (by kernel_rfl)) h1 bel lt1) trodAll_mk0)), rfl, bel.frame _, fun h => by cases h⟩

/-- ReadersSlots, for every input. -/
theorem readersSlots_holds : Rows.ReadersSlotsSaid :=
  OpenClaim.holds_of_wide 6 Try.f6 rfl rfl rfl rfl rfl rfl rfl ⟨rfl, rfl, rfl, rfl, rfl⟩ rfl rfl rfl rfl rfl (by kernel_rfl) Try.func6 (by kernel_rfl)
    (of_decide_eq_true (by kernel_rfl)) (by unfold Func.isWrapper; first | (rw [if_pos (by decide +kernel)]; kernel_rfl) | (rw [if_neg (by decide +kernel)]; exact ⟨rfl, rfl⟩))
    (fun os started H enc _ => slots_lifted os started H enc)
#print axioms readersSlots_holds

end Go.Proofs.Ytoaglkbobndmeaa
