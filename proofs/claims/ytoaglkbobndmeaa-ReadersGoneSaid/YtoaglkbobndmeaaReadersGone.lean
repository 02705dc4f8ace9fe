/-
  ReadersGone: a handle that was ended, or whose reader was declared dead and cleared, is never good again, whoever begins there. Proved for every input, no condition.
-/
import Derived.Test.YtoaglkbobndmeaaRdI
import Derived.Deep.CutBlock
namespace Go.Proofs.Ytoaglkbobndmeaa
open Go.RowKit

set_option maxRecDepth 100000 in
set_option maxHeartbeats 8000000 in
theorem gone_any (W : World) (m s : Int) (dd : Bool) (ao : Option Addr) (n c : Nat) (zs : List Nat) (hm0 : 0 ≤ m) (hm1 : m ≤ 255) (hs0 : 0 ≤ s) (hs1 : s ≤ 255) (h : U64q W.heap.size W (.slice ao n c) zs) :
    Calls Try.prog 4 #[.int .u8 m, .int .u8 s, .bool dd, .slice ao n c] W fun r w' => r = .returned (.bool true) ∧ Below W.heap.size W w' := by
  obtain ⟨M, rfl⟩ : ∃ M : Nat, m = (M : Int) := ⟨m.toNat, by omega⟩
  obtain ⟨S, rfl⟩ : ∃ S : Nat, s = (S : Int) := ⟨s.toNat, by omega⟩
  obtain ⟨hnl, hnm⟩ := h.len
  have hn64 : (n : Int) ≤ 9223372036854775807 := by unfold maxLen at hnm; omega
  by_cases hbig : 40 < n
  · have hbi : (40 : Int) < (n : Int) := by omega
    clear hm0 hm1 hs0 hs1 h
    go_enter Try.func4, Try.ntmps4
    go_wp2_with (first
      | (go_at_call 8; (with_reducible refine (awake9_any W).mono ?_); rintro r w1 ⟨rfl, hg⟩; have HG1 := Lib.hid hg; clear hg)
      | go_in)
    go_ret
    exact ⟨rfl, gbelow HG1.out⟩
  have hbi : ¬ (40 : Int) < (n : Int) := by omega
  obtain ⟨N, hN⟩ : ∃ N, N = M % 20 + 1 := ⟨_, rfl⟩
  have hN1 : 1 ≤ N := by omega
  have hN2 : N ≤ 20 := by omega
  have hr1 : (M : Int) % 20 + 1 = (N : Int) := by omega
  obtain ⟨q, hq⟩ : ∃ q, q = S % N := ⟨_, rfl⟩
  have hqN : q < N := by rw [hq]; exact Nat.mod_lt _ (by omega)
  have hN0 : ¬ (N : Int) = 0 := by omega
  have hmod : (S : Int).tmod (N : Int) = (q : Int) := by rw [hq]; rfl
  have H := Lib.hid h
  have HNL := Lib.hid hnl
  clear h hnl hnm hbig hN hq
  go_enter Try.func4, Try.ntmps4
  go_wp2_with (first
    | (go_at_call 8; (with_reducible refine (awake9_any W).mono ?_); rintro r w1 ⟨rfl, hg⟩; have HG1 := Lib.hid hg; clear hg)
    | (go_at_call 9; (with_reducible refine (new9_ex w1 N hN1 (by omega)).mono ?_); rintro r w2 ⟨b, rfl, hb, ht, hg⟩; rw [← freshL_zero (fun i => i) N] at ht; have HT2 := Lib.hid ht; have HG2 := Lib.hid (gtrans HG1.out hg); have hbW : W.heap.size ≤ b := Nat.le_trans HG1.out.size hb; clear ht hg hb)
    | go_in)
  go_loopw [13, 14] (fun l i wr => ∃ k : Nat, k ≤ N ∧ i = .int .i64 (k : Int) ∧ HOwn W.heap.size wr l (hdls k) ∧ TabAt b wr (freshL (fun i => i) k N) ∧ W.grownBy wr none) (fun _ i _ => N - (intOf i).toNat)
  case atStart => exact ⟨0, Nat.zero_le _, rfl, HOwn.nil _ _, HT2.out, HG2.out⟩
  case round =>
    obtain ⟨k, hk, rfl, ho, ht, hg⟩ := hrel
    have HO := Lib.hid ho
    have HT := Lib.hid ht
    have HG := Lib.hid hg
    clear ho ht hg
    obtain ⟨a0, c0, hv⟩ := HO.out.shape
    rw [hdls_len] at hv
    subst hv
    by_cases hlt : k < N
    · have hki : (k : Int) < (N : Int) := by omega
      have hw : IntKind.u64.wrap (k : Int) = (k : Int) := IntWalk.u64_in _ (by omega)
      go_wp2_with (first
        | (go_at_call 11; (with_reducible refine (fresh_begin _ b k N (fun i => i) k _ rfl HT.out hlt rfl (by omega)).mono ?_); rintro r w3 ⟨rfl, ht⟩; have hga := World.grownBy_alloc w3 (.cells #[.int .i64 (k : Int), .int .u64 1] 36) none; have HT3 := Lib.hid (ht.1.grown hga); have HO3 := Lib.hid ((HO.out.tab HT.out ht.2).grown hga); have HG3 := Lib.hid (gtrans (ht.grown HG.out hbW) hga); clear ht hga)
        | (at_builtin; refine wpList_happ _ rfl _ _ rfl W.heap.size (.slice a0 k c0) (hdls k) (k, 1) _ _ _ rfl rfl (by simp) rfl rfl HO3.out (by rw [hdls_len]; omega) HG3.out.size ?_; intro v' w5 ho hg; rw [hdls_more] at ho; have HO5 := Lib.hid ho; have HT5 := Lib.hid (HT3.out.hown HO3.out hg); have HG5 := Lib.hid (grow_row HG3.out HO3.out hg); clear ho hg)
        | go_in)
      go_roundw
      case rel => exact ⟨k + 1, by omega, by go_num, HO5.out, HT5.out, HG5.out⟩
      case measure => simp [intOf]; omega
    · have hki : ¬ (k : Int) < (N : Int) := by omega
      obtain rfl : N = k := by omega
      obtain ⟨g0, c0', hv, e0, e1⟩ := HO.out.at (hdls_at hqN)
      rw [hdls_len] at hv
      injection hv with hv1 _ hv3
      subst hv1 hv3
      have hqi : (q : Int) < (N : Int) := by omega
      cases dd
      all_goals (go_wp2_with (first
        | (go_at_call 15; (with_reducible refine (gone_dead _ b q N HT.out hqN).mono ?_); rintro r w3 ⟨rfl, ht⟩; have HT3 := Lib.hid ht.1; have HG3 := Lib.hid (ht.grown HG.out hbW); have HO3 := Lib.hid (HO.out.tab HT.out ht.2); clear ht)
        | (go_at_call 17; (with_reducible refine (gone_clear _ b q N HT3.out hqN).mono ?_); rintro r w4 ⟨rfl, ht⟩; have HT4 := Lib.hid ht.1; have HG4 := Lib.hid (ht.grown HG3.out hbW); have HO4 := Lib.hid (HO3.out.tab HT3.out ht.2); clear ht)
        | (go_at_call 13; (with_reducible refine (gone_end1 _ b q N HT.out hqN).mono ?_); rintro r w3 ⟨rfl, ht⟩; have HT4 := Lib.hid ht.1; have HG4 := Lib.hid (ht.grown HG.out hbW); have HO4 := Lib.hid (HO.out.tab HT.out ht.2); clear ht)
        | go_in))
      all_goals
        go_loopw [18] (fun i wr => ∃ j : Nat, j ≤ n ∧ i = .int .i64 (j : Int) ∧ HOwn W.heap.size wr (.slice (some ⟨g0, 0, none⟩) N c0) (hdls N) ∧ TabAt b wr (goneL q (j + 1) N) ∧ W.grownBy wr none) (fun i _ => n - (intOf i).toNat)
        case atStart => exact ⟨0, Nat.zero_le _, rfl, HO4.out, HT4.out, HG4.out⟩
        case round =>
          obtain ⟨j, hj, rfl, ho, ht, hg⟩ := hrel
          have HO5 := Lib.hid ho
          have HT5 := Lib.hid ht
          have HG5 := Lib.hid hg
          clear ho ht hg e0 e1
          have rd : ∀ (w : World), HOwn W.heap.size w (.slice (some ⟨g0, 0, none⟩) N c0) (hdls N) → w.cell? ⟨g0, q * 2, none⟩ = some (.int .i64 (q : Int)) ∧ w.cell? ⟨g0, q * 2 + 1, none⟩ = some (.int .u64 1) := fun w hw => by
            obtain ⟨g1, c1, hv, f0, f1⟩ := hw.at (hdls_at hqN)
            injection hv with hv1
            injection hv1 with hv1
            injection hv1 with hv1
            subst hv1
            exact ⟨f0, f1⟩
          have RD := Lib.hid rd
          clear rd
          by_cases hlt : j < n
          · have hji : (j : Int) < (n : Int) := by omega
            obtain ⟨x, hx⟩ : ∃ x, zs[j]? = some x := ⟨zs[j]'(by have := HNL.out; omega), List.getElem?_eq_getElem _⟩
            obtain ⟨ba, oa, rfl, -, hx64⟩ := H.out.at hx
            have ZC := Lib.hid (show ∀ (w : World), W.grownBy w none → w.cell? ⟨ba, oa + j, none⟩ = some (.int .u64 (x : Int)) from fun w hg => by
              obtain ⟨b', o', e, hc, _⟩ := (H.out.below (fun i hi => hg.block i hi (by simp))).at hx
              injection e with e; injection e with e1 e2; subst e1 e2; exact hc)
            have HX := Lib.hid hx64
            obtain ⟨e0, e1⟩ := RD.out _ HO5.out
            obtain ⟨t, ht⟩ : ∃ t, j + 1 + 1 = t := ⟨_, rfl⟩
            clear hx hx64
            go_wp2_with (first
              | (go_at_call 19; (with_reducible refine (gone_txn _ b q _ N HT5.out hqN).mono ?_); rintro r w5 ⟨rfl, hg⟩; have HT6 := Lib.hid (HT5.out.grown hg); have HG6 := Lib.hid (gtrans HG5.out hg); have HO6 := Lib.hid (HO5.out.grown hg); obtain ⟨f0, f1⟩ := RD.out _ HO6.out; clear hg)
              | (go_at_call 13; (with_reducible refine (gone_end _ b q _ N HT6.out hqN).mono ?_); rintro r w6 ⟨rfl, hg⟩; have HT7 := Lib.hid (HT6.out.grown hg); have HG7 := Lib.hid (gtrans HG6.out hg); have HO7 := Lib.hid (HO6.out.grown hg); have z7 := ZC.out _ HG7.out; clear hg)
              | (go_at_call 11; (with_reducible refine (gone_begin _ b q (j + 1) t x N ht HT7.out hqN (by omega) HX.out).mono ?_); rintro r w7 ⟨rfl, htt⟩; have hga := World.grownBy_alloc w7 (.cells #[.int .i64 (q : Int), .int .u64 (t : Int)] 36) none; have HT8 := Lib.hid (htt.1.grown hga); have HO8 := Lib.hid ((HO7.out.tab HT7.out htt.2).grown hga); have HG8 := Lib.hid (gtrans (htt.grown HG7.out hbW) hga); have A8 := Lib.hid (heap_alloc_new w7 (.cells #[.int .i64 (q : Int), .int .u64 (t : Int)] 36 (0, 0))); clear htt hga)
              | (go_at_call 19; (with_reducible refine (gone_read _ b q t x N HT8.out hqN).mono ?_); rintro r w8 ⟨rfl, hg⟩; have HT9 := Lib.hid (HT8.out.grown hg); have HG9 := Lib.hid (gtrans HG8.out hg); have HO9 := Lib.hid (HO8.out.grown hg); have A9 := Lib.hid ((hg.block _ (lt_of_block A8.out) (by simp)).trans A8.out); obtain ⟨k0, k1⟩ := cells2 A9.out; have z9 := ZC.out _ HG9.out; clear hg)
              | (go_at_call 13; (with_reducible refine (gone_again _ b q t x N HT9.out hqN).mono ?_); rintro r w9 ⟨rfl, htt⟩; have HTa := Lib.hid htt.1; have HGa := Lib.hid (htt.grown HG9.out hbW); have HOa := Lib.hid (HO9.out.tab HT9.out htt.2); clear htt)
              | go_in)
            go_roundw
            case rel => exact ⟨j + 1, by omega, by go_num, HOa.out, by rw [ht]; exact HTa.out, HGa.out⟩
            case measure => simp [intOf]; omega
          · have hji : ¬ (j : Int) < (n : Int) := by omega
            obtain ⟨N1, hN1'⟩ : ∃ N1 : Nat, N - 1 = N1 := ⟨_, rfl⟩
            have hn1 : (N : Int) - 1 = (N1 : Int) := by omega
            go_wp2_with (first
              | (go_at_call 23; (with_reducible refine (gone_live _ b q _ N HT5.out hqN N1 hN1').mono ?_); rintro r w9 ⟨rfl, rfl⟩)
              | go_in)
            go_ret
            exact ⟨by simp, gbelow HG5.out⟩

open Go.ChangeShapes Go.WideShapes Go.ChangeAt
set_option linter.unusedVariables false
set_option maxRecDepth 100000 in
theorem gone_lifted (os : Os) (started : os.Started) (H : Type) (enc : TypeId × Value → H) :
    ReturnsInHanded {} Try.checked os 4 .any (Rows.readersGoneSpec.pre6 enc Try.prog Try.f4 Rows.readersGoneRow.domain false) (Rows.readersGoneSpec.post enc Try.prog Try.f4 false true false false) := by
  refine returnsInHanded_of_change (C := Try.checked) ownKnob0 started (by kernel_rfl) Try.func4
    (ChangeSpec.witness6 (enc := enc) (C := Try.checked) false ⟨#[], #[.int .u8 0, .int .u8 0, .bool false, .slice none 0 0], []⟩ 8 (by kernel_rfl) (by kernel_rfl) (by kernel_rfl) (by kernel_rfl)) ?_
  intro W base args ds gs before hval0 hW hcnd _
  have hval : ∀ (j : Nat) t v, Try.f4.params[j]? = some t → args[j]? = some v → Value.okWide Try.prog W .any base t v := hval0
  have hW' := hW
  obtain ⟨p, q, hA0, hV, rfl, hfz, hnd⟩ := hW
  have hA : DataW.TrodAll enc Try.prog W 0 (fun _ => true) true Try.f4.params.toList args.toList ds p := hA0
  rw [Try.params4] at hA hval
  obtain ⟨v0, vs0, d0, ds0, p0, q0, hargs, rfl, rfl, h0, r0⟩ := trodAll_cons hA
  obtain ⟨v1, vs1, d1, ds1, p1, q1, rfl, rfl, rfl, h1, r1⟩ := trodAll_cons r0
  obtain ⟨v2, vs2, d2, ds2, p2, q2, rfl, rfl, rfl, h2, r2⟩ := trodAll_cons r1
  obtain ⟨v3, vs3, d3, ds3, p3, q3, rfl, rfl, rfl, h3, r3⟩ := trodAll_cons r2
  obtain ⟨rfl, rfl, rfl⟩ := trodAll_nil r3
  obtain rfl : args = #[v0, v1, v2, v3] := by cases args; simp_all
  obtain ⟨rfl, rfl⟩ := trodVars_none hV
  obtain ⟨a0, rfl, rfl, rfl, w0⟩ := open_int Try.underlying5 (hval 0 5 v0 rfl rfl) h0
  have b0 := bounds_u8 w0
  obtain ⟨a1, rfl, rfl, rfl, w1⟩ := open_int Try.underlying5 (hval 1 5 v1 rfl rfl) h1
  have b1 := bounds_u8 w1
  obtain ⟨a2, rfl, rfl, rfl⟩ := open_bool Try.underlying4 (hval 2 4 v2 rfl rfl) h2
  obtain ⟨a3, len3, cap3, rfl⟩ := okWide_slice Try.underlying58 (hval 3 58 v3 rfl rfl)
  have lt3 : ∀ x ∈ p3, x.block < W.heap.size := by obtain ⟨m, hm⟩ := h3; exact DataW.trod_lt m _ _ _ hm
  obtain ⟨z3, w3⟩ := open_u64s h3
  clear hA0 hval0
  refine (gone_any W a0 a1 a2 a3 len3 cap3 z3 b0.1 b0.2 b1.1 b1.2 w3).mono fun e W' ⟨he, bel⟩ => ?_
  subst he
  exact ⟨_, rfl, _, _, _, [], _, [], hW', trodAll_mk1 (shut_bool Try.underlying4 _), (trodAll_cons_mk (shut_int Try.underlying5 w0) (trodAll_cons_mk (shut_int Try.underlying5 w1) (trodAll_cons_mk (shut_bool Try.underlying4 _) (trodAll_cons_mk (Below.trod laidOut0 (by kernel_rfl) (of_decide_eq_true (by kernel_rfl)) h3 bel lt3) trodAll_mk0)))), rfl, bel.frame _, fun h => by cases h⟩

/-- ReadersGone, for every input. -/
theorem readersGone_holds : Rows.ReadersGoneSaid :=
  OpenClaim.holds_of_wide 4 Try.f4 rfl rfl rfl rfl rfl rfl rfl ⟨rfl, rfl, rfl, rfl, rfl⟩ rfl rfl rfl rfl rfl (by kernel_rfl) Try.func4 (by kernel_rfl)
    (of_decide_eq_true (by kernel_rfl)) (by unfold Func.isWrapper; first | (rw [if_pos (by decide +kernel)]; kernel_rfl) | (rw [if_neg (by decide +kernel)]; exact ⟨rfl, rfl⟩))
    (fun os started H enc _ => gone_lifted os started H enc)
#print axioms readersGone_holds

end Go.Proofs.Ytoaglkbobndmeaa
