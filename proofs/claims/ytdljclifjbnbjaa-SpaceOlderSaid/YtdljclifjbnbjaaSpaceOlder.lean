/-
  SpaceOlder: with an older change that still is read no more pages are usable; with none all that is free is. Proved for every input, no condition.
-/
import Derived.Test.YtdljclifjbnbjaaSpcT
import Derived.Test.YtdljclifjbnbjaaSpcU
namespace Go.Proofs.Ytdljclifjbnbjaa
open Go.RowKit Go.Maps

theorem gbelow {a b : World} (h : a.grownBy b none) : Below a.heap.size a b := ⟨h.os, h.tape, h.output, h.size, fun i hi => h.block i hi (by simp)⟩
def NewOk (w : World) (en lim old : Nat) (l : List Rc) (r : Ending) (w' : World) : Prop := ∃ B, r = .returned (.tuple #[.pointer (some ⟨B + 4, 0, none⟩), .int .i64 0]) ∧ w.heap.size ≤ B ∧ SpAt B w' (spOf en lim old l) ∧ w.grownBy w' none
/-- New, of 50 pages there and 60 that may be. -/
theorem new50 (w : World) (R : Nat → Prop) (ao : Option Addr) (n c : Nat) (old : Int) (l : List Rc) (hs : RSq R w (.slice ao n c) l) (h4 : right l 50 = true) (h0 : 0 ≤ old) (h1 : old ≤ 18446744073709551615) :
    Calls Try.prog 11 #[.int .u32 50, .int .u32 60, .slice ao n c, .int .u64 old] w fun r w' => NewOk w 50 60 old.toNat l r w' := by
  have e : ((old.toNat : Nat) : Int) = old := by omega
  have K := new_good w R ao n c 50 60 old.toNat l hs (by decide) (by decide) (by decide) h4 (by omega)
  rw [e] at K
  refine K.mono ?_
  rintro r w' ⟨B, wv, es, rfl, hB, hN, hg⟩
  exact ⟨B, rfl, hB, hN.at, hg⟩
theorem right50 (w : World) (R : Nat → Prop) (ao : Option Addr) (n c : Nat) (l : List Rc) (hs : RSq R w (.slice ao n c) l) (b : Bool) (hb : right l 50 = b) :
    Calls Try.prog 13 #[.slice ao n c, .int .u32 50] w fun r w' => r = .returned (.bool b) ∧ w.grownBy w' none := by
  subst hb
  exact right_any w R ao n c l 50 hs (by decide)

theorem usable50 (w : World) (B old : Nat) (l : List Rc) (n : Nat) (h : SpAt B w (spOf 50 60 old l)) (hn : n = (insAll (allOf (oldRecs old l)) []).length) :
    Calls Try.prog 24 #[.pointer (some ⟨B + 4, 0, none⟩)] w fun r w' => r = .returned (.int .i64 (n : Int)) ∧ w = w' := by
  subst hn
  exact usable_any w B _ h

set_option maxRecDepth 100000 in
set_option maxHeartbeats 4000000 in
theorem older_any (W : World) (ao : Option Addr) (n c : Nat) (rs : List Rc) (a b : Int) (h : RSq (fun b => b < W.heap.size) W (.slice ao n c) rs) (hsm : Small8 rs) (ha0 : 0 ≤ a) (ha1 : a ≤ 18446744073709551615) (hb0 : 0 ≤ b) (hb1 : b ≤ 18446744073709551615) :
    Calls Try.prog 7 #[.slice ao n c, .int .u64 a, .int .u64 b] W fun r w' => r = .returned (.bool true) ∧ Below W.heap.size W w' := by
  have Hs := Lib.hid h
  have HSM := Lib.hid hsm
  clear h hsm
  obtain ⟨f, hf⟩ : ∃ f, few8 rs = f := ⟨_, rfl⟩
  obtain ⟨g, hg⟩ : ∃ g, right rs 50 = g := ⟨_, rfl⟩
  have HFW := Lib.hid hf
  have HRT := Lib.hid hg
  clear hf hg
  have base : f = false ∨ g = false ∨ b < a ∨ (f = true ∧ g = true ∧ a ≤ b) := by
    cases f <;> cases g <;> simp
    omega
  have hLb := Lib.hid base
  clear base
  cases f with
  | false =>
    go_enter Try.func7, Try.ntmps7
    go_wp2_with (first
      | (go_at_call 8; (with_reducible refine (awake8_any W).mono ?_); rintro r w1 ⟨rfl, hg⟩; have HG1 := Lib.hid hg; have HR1 := Lib.hid (Hs.out.grown hg); clear hg)
      | (go_at_call 9; (with_reducible refine (few8_any w1 _ ao n c rs HR1.out).mono ?_); rw [HFW.out]; rintro r wq ⟨rfl, rfl⟩)
      | (go_at_call 10; (with_reducible refine (records8_any w1 ao n c rs (HR1.out.imp (fun b _ hb => hb)) HSM.out).mono ?_); rintro r w2 ⟨ov, rv, es, es2, rfl, ho, he, hv, he2, hg⟩; have HG2 := Lib.hid (gtrans HG1.out hg); clear ho he hv he2 hg))
    go_ret
    exact ⟨rfl, gbelow HG2.out⟩
  | true =>
    cases g with
    | false =>
      go_enter Try.func7, Try.ntmps7
      go_wp2_with (first
        | (go_at_call 8; (with_reducible refine (awake8_any W).mono ?_); rintro r w1 ⟨rfl, hg⟩; have HG1 := Lib.hid hg; have HR1 := Lib.hid (Hs.out.grown hg); clear hg)
        | (go_at_call 9; (with_reducible refine (few8_any w1 _ ao n c rs HR1.out).mono ?_); rw [HFW.out]; rintro r wq ⟨rfl, rfl⟩)
        | (go_at_call 10; (with_reducible refine (records8_any w1 ao n c rs (HR1.out.imp (fun b _ hb => hb)) HSM.out).mono ?_); rintro r w2 ⟨ov, rv, es, es2, rfl, ho, he, hv, he2, hg⟩; have hro := ho.rsq; rw [he] at hro; obtain ⟨oa, oc, rfl⟩ := hro.shape; have HRO := Lib.hid hro; have HG2 := Lib.hid (gtrans HG1.out hg); clear ho he hv he2 hg hro)
        | (go_at_call 13; (with_reducible refine (right50 w2 _ oa _ oc rs HRO.out false HRT.out).mono ?_); rintro r w3 ⟨rfl, hg⟩; have HG3 := Lib.hid (gtrans HG2.out hg); clear hg))
      go_ret
      exact ⟨rfl, gbelow HG3.out⟩
    | true =>
      by_cases hab : b < a
      · go_enter Try.func7, Try.ntmps7
        go_wp2_with (first
          | (go_at_call 8; (with_reducible refine (awake8_any W).mono ?_); rintro r w1 ⟨rfl, hg⟩; have HG1 := Lib.hid hg; have HR1 := Lib.hid (Hs.out.grown hg); clear hg)
          | (go_at_call 9; (with_reducible refine (few8_any w1 _ ao n c rs HR1.out).mono ?_); rw [HFW.out]; rintro r wq ⟨rfl, rfl⟩)
          | (go_at_call 10; (with_reducible refine (records8_any w1 ao n c rs (HR1.out.imp (fun b _ hb => hb)) HSM.out).mono ?_); rintro r w2 ⟨ov, rv, es, es2, rfl, ho, he, hv, he2, hg⟩; have hro := ho.rsq; rw [he] at hro; obtain ⟨oa, oc, rfl⟩ := hro.shape; have HRO := Lib.hid hro; have HG2 := Lib.hid (gtrans HG1.out hg); clear ho he hv he2 hg hro)
          | (go_at_call 13; (with_reducible refine (right50 w2 _ oa _ oc rs HRO.out true HRT.out).mono ?_); rintro r w3 ⟨rfl, hg⟩; have HG3 := Lib.hid (gtrans HG2.out hg); clear hg))
        go_ret
        exact ⟨rfl, gbelow HG3.out⟩
      · have hok := right_iff.1 HRT.out
        have lenle := okr_len hok
        have l1 : (insAll (allOf (oldRecs a.toNat rs)) []).length ≤ (insAll (allOf (oldRecs b.toNat rs)) []).length := by rw [us_len hok, us_len hok]; exact old_mono (by omega) rs
        have l2 : (insAll (allOf (oldRecs b.toNat rs)) []).length ≤ (allOf rs).length := by rw [us_len hok]; exact old_le _ rs
        have hal : (allOf rs).length ≤ 50 := nodup_len (okr_nodup hok) fun x hx => (okr_range hok x hx).2
        obtain ⟨n1, hn1⟩ : ∃ n1, n1 = (insAll (allOf (oldRecs a.toNat rs)) []).length := ⟨_, rfl⟩
        obtain ⟨n2, hn2⟩ : ∃ n2, n2 = (insAll (allOf (oldRecs b.toNat rs)) []).length := ⟨_, rfl⟩
        obtain ⟨N, hN⟩ : ∃ N, N = (allOf rs).length := ⟨_, rfl⟩
        rw [← hn1, ← hn2] at l1
        rw [← hn2, ← hN] at l2
        rw [← hN] at hal
        have HN1 := Lib.hid hn1
        have HN2 := Lib.hid hn2
        have HNN := Lib.hid hN
        have HOK := Lib.hid hok
        have HLL := Lib.hid lenle
        clear hok hn1 hn2 hN lenle
        go_enter Try.func7, Try.ntmps7
        go_wp2_with (first
          | (go_at_call 8; (with_reducible refine (awake8_any W).mono ?_); rintro r w1 ⟨rfl, hg⟩; have HG1 := Lib.hid hg; have HR1 := Lib.hid (Hs.out.grown hg); clear hg)
          | (go_at_call 9; (with_reducible refine (few8_any w1 _ ao n c rs HR1.out).mono ?_); rw [HFW.out]; rintro r wq ⟨rfl, rfl⟩)
          | (go_at_call 10; (with_reducible refine (records8_any w1 ao n c rs (HR1.out.imp (fun b _ hb => hb)) HSM.out).mono ?_); rintro r w2 ⟨ov, rv, es, es2, rfl, ho, he, hv, he2, hg⟩; have hro := ho.rsq; rw [he] at hro; obtain ⟨oa, oc, rfl⟩ := hro.shape; have HRO := Lib.hid hro; have HG2 := Lib.hid (gtrans HG1.out hg); have HLT := Lib.hid (show ∀ r ∈ rs, r.1 ≤ 18446744073709551615 from fun r hr => by rw [← he] at hr; obtain ⟨y, hy, rfl⟩ := List.mem_map.1 hr; have := (ho.each y hy).2; omega); clear ho he hv he2 hg hro)
          | (go_at_call 13; (with_reducible refine (right50 w2 _ oa _ oc rs HRO.out true HRT.out).mono ?_); rintro r w3 ⟨rfl, hg⟩; have HG3 := Lib.hid (gtrans HG2.out hg); have HR3 := Lib.hid (HRO.out.grown hg); clear hg)
          | (go_at_call 11; (with_reducible refine (new50 w3 _ oa _ oc a rs HR3.out HRT.out ha0 ha1).mono ?_); rintro r w4 ⟨B1, rfl, hB1, hs1, hg⟩; have HG4 := Lib.hid (gtrans HG3.out hg); have HR4 := Lib.hid (HR3.out.grown hg); have HS1 := Lib.hid hs1; clear hg hs1 hB1)
          | (go_at_call 11; (with_reducible refine (new50 w4 _ oa _ oc b rs HR4.out HRT.out hb0 hb1).mono ?_); rintro r w5 ⟨B2, rfl, hB2, hs2, hg⟩; have HG5 := Lib.hid (gtrans HG4.out hg); have HR5 := Lib.hid (HR4.out.grown hg); have HS1' := Lib.hid (HS1.out.grown hg); have HS2 := Lib.hid hs2; clear hg hs2 hB2)
          | (go_at_call 11; (with_reducible refine (new50 w5 _ oa _ oc 18446744073709551615 rs HR5.out HRT.out (by decide) (by decide)).mono ?_); rintro r w6 ⟨B3, rfl, hB3, hs3, hg⟩; have HG6 := Lib.hid (gtrans HG5.out hg); have HR6 := Lib.hid (HR5.out.grown hg); have HS1q := Lib.hid (HS1'.out.grown hg); have HS2' := Lib.hid (HS2.out.grown hg); have HS3 := Lib.hid hs3; clear hg hs3 hB3))
        go_loopw [17, 18] (fun s i wr => ∃ k : Nat, k ≤ rs.length ∧ i = .int .i64 (k : Int) ∧ s = .int .i64 (((allOf (rs.take k)).length : Nat) : Int) ∧ w6 = wr) (fun _ i _ => rs.length - (intOf i).toNat)
        case atStart => exact ⟨0, Nat.zero_le _, rfl, by simp [allOf], rfl⟩
        case round =>
          obtain ⟨k, hk, rfl, rfl, rfl⟩ := hrel
          obtain ⟨sk, hsk⟩ : ∃ sk, sk = (allOf (rs.take k)).length := ⟨_, rfl⟩
          rw [← hsk]
          have HSK := Lib.hid hsk
          have hsk5 : sk ≤ 50 := by
            have e : (allOf rs).length = (allOf (rs.take k)).length + (allOf (rs.drop k)).length := by
              rw [← List.length_append, allOf, allOf, allOf, ← List.flatMap_append, List.take_append_drop]
            have := HNN.out
            omega
          clear hsk
          have hrl := HLL.out
          by_cases hlt : k < rs.length
          · obtain ⟨r, hr⟩ : ∃ r, rs[k]? = some r := ⟨rs[k], List.getElem?_eq_getElem hlt⟩
            obtain ⟨b', o', rfl, _, _, _, a1, q1, c1, _⟩ := HR6.out.at k r hr
            have HTK := Lib.hid (take_snoc hr)
            have hrl2 := okr_each HOK.out (List.mem_of_getElem? hr)
            have hki : (k : Int) < (rs.length : Int) := by omega
            generalize hm : r.2.length = m at c1 hrl2
            have HM := Lib.hid hm
            clear hm hr
            go_wp2
            go_roundw
            case rel => exact ⟨k + 1, by omega, by simp, by rw [HTK.out, allOf_snoc, List.length_append, ← HSK.out, HM.out]; simp, by first | rfl | trivial⟩
            case measure => simp [intOf]; omega
          · have hki : ¬ (k : Int) < (rs.length : Int) := by omega
            have e : k = rs.length := by omega
            have hskN : sk = N := by rw [HSK.out, HNN.out, e, List.take_length]
            subst hskN
            clear e
            have l1i : (n1 : Int) ≤ (n2 : Int) := by omega
            have l2i : (n2 : Int) ≤ (sk : Int) := by omega
            have HN3 := Lib.hid (show sk = (insAll (allOf (oldRecs (18446744073709551615 : Int).toNat rs)) []).length by
              rw [us_len HOK.out, show (18446744073709551615 : Int).toNat = 18446744073709551615 from rfl, old_all (fun r hr => HLT.out r hr)]
              exact HNN.out)
            go_wp2_with (first
              | (go_at_call 24; (with_reducible refine (usable50 _ B1 _ rs n1 HS1q.out HN1.out).mono ?_); rintro r wq ⟨rfl, rfl⟩)
              | (go_at_call 24; (with_reducible refine (usable50 _ B2 _ rs n2 HS2'.out HN2.out).mono ?_); rintro r wq ⟨rfl, rfl⟩)
              | (go_at_call 24; (with_reducible refine (usable50 _ B3 _ rs sk HS3.out HN3.out).mono ?_); rintro r wq ⟨rfl, rfl⟩))
            go_ret
            exact ⟨rfl, gbelow HG6.out⟩

open Go.ChangeShapes Go.WideShapes Go.ChangeAt
set_option linter.unusedVariables false
set_option maxRecDepth 100000 in
theorem older_lifted (os : Os) (started : os.Started) (H : Type) (enc : TypeId × Value → H) :
    ReturnsInHanded {} Try.checked os 7 .any (Rows.spaceOlderSpec.pre6 enc Try.prog Try.f7 Rows.spaceOlderRow.domain false) (Rows.spaceOlderSpec.post enc Try.prog Try.f7 false true false false) := by
  refine returnsInHanded_of_change_sized (C := Try.checked) ownKnob0 started (by kernel_rfl) Try.func7
    (ChangeSpec.witness6 (enc := enc) (C := Try.checked) false ⟨#[], #[.slice none 0 0, .int .u64 0, .int .u64 0], []⟩ 8 (by kernel_rfl) (by kernel_rfl) (by kernel_rfl) (by kernel_rfl)) ?_
  intro W base args ds gs before hval0 hW hcnd hsz0 _
  have hval : ∀ (j : Nat) t v, Try.f7.params[j]? = some t → args[j]? = some v → Value.okWide Try.prog W .any base t v := hval0
  have hW' := hW
  obtain ⟨p, q, hA0, hV, rfl, hfz, hnd⟩ := hW
  have hA : DataW.TrodAll enc Try.prog W 0 (fun _ => true) true Try.f7.params.toList args.toList ds p := hA0
  have hsz : (DataW.weightsEach Try.prog (Try.f7.params.toList ++ Rows.spaceOlderSpec.plain.varTypes Try.prog) (ds ++ gs)).all (· ≤ reachBytes) = true := hsz0
  rw [Try.params7] at hA hval hsz
  obtain ⟨v0, vs0, d0, ds0, p0, q0, hargs, rfl, rfl, h0, r0⟩ := trodAll_cons hA
  obtain ⟨v1, vs1, d1, ds1, p1, q1, rfl, rfl, rfl, h1, r1⟩ := trodAll_cons r0
  obtain ⟨v2, vs2, d2, ds2, p2, q2, rfl, rfl, rfl, h2, r2⟩ := trodAll_cons r1
  obtain ⟨rfl, rfl, rfl⟩ := trodAll_nil r2
  obtain rfl : args = #[v0, v1, v2] := by cases args; simp_all
  obtain ⟨rfl, rfl⟩ := trodVars_none hV
  obtain ⟨a0, len0, cap0, rfl⟩ := okWide_slice Try.underlying23 (hval 0 23 v0 rfl rfl)
  have lt0 : ∀ x ∈ p0, x.block < W.heap.size := by obtain ⟨m, hm⟩ := h0; exact DataW.trod_lt m _ _ _ hm
  obtain ⟨z0, w0, s0⟩ := open_raws8 h0 hsz (j := 0) rfl rfl
  obtain ⟨a1, rfl, rfl, rfl, w1⟩ := open_int Try.underlying24 (hval 1 24 v1 rfl rfl) h1
  have b1 := bounds_u64 w1
  obtain ⟨a2, rfl, rfl, rfl, w2⟩ := open_int Try.underlying24 (hval 2 24 v2 rfl rfl) h2
  have b2 := bounds_u64 w2
  clear hA0 hval0
  refine (older_any W a0 len0 cap0 z0 a1 a2 w0 s0 b1.1 b1.2 b2.1 b2.2).mono fun e W' ⟨he, bel⟩ => ?_
  subst he
  exact ⟨_, rfl, _, _, _, [], _, [], hW', trodAll_mk1 (shut_bool Try.underlying4 _), (trodAll_cons_mk (Below.trod laidOut0 (by kernel_rfl) (of_decide_eq_true (by kernel_rfl)) h0 bel lt0) (trodAll_cons_mk (shut_int Try.underlying24 w1) (trodAll_cons_mk (shut_int Try.underlying24 w2) trodAll_mk0))), rfl, bel.frame _, fun h => by cases h⟩

/-- SpaceOlder, for every input. -/
theorem spaceOlder_holds : Rows.SpaceOlderSaid :=
  OpenClaim.holds_of_wide 7 Try.f7 rfl rfl rfl rfl rfl rfl rfl ⟨rfl, rfl, rfl, rfl, rfl⟩ rfl rfl rfl rfl rfl (by kernel_rfl) Try.func7 (by kernel_rfl)
    (of_decide_eq_true (by kernel_rfl)) (by unfold Func.isWrapper; first | (rw [if_pos (by decide +kernel)]; kernel_rfl) | (rw [if_neg (by decide +kernel)]; exact ⟨rfl, rfl⟩))
    (fun os started H enc _ => older_lifted os started H enc)
#print axioms spaceOlder_holds

end Go.Proofs.Ytdljclifjbnbjaa
