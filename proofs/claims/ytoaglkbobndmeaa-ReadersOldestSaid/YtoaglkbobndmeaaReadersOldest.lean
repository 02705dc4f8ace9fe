/-
  ReadersOldest: the oldest change is the least of what is read, and of what is told, whoever comes and goes. Proved for every input, no condition.
-/
import Derived.Test.YtoaglkbobndmeaaRdK
namespace Go.Proofs.Ytoaglkbobndmeaa
open Go.RowKit

set_option maxRecDepth 100000 in
set_option maxHeartbeats 8000000 in
theorem oldestL_any (W : World) (ao : Option Addr) (n c : Nat) (zs : List Nat) (ga : Option Addr) (gn gc : Nat) (gs : List Int) (x : Int) (h : U64q W.heap.size W (.slice ao n c) zs) (hg : Seq W.heap.size W (.slice ga gn gc) gs) (hgb : Byt gs) (hx0 : 0 ≤ x) (hx1 : x ≤ 18446744073709551615) :
    Calls Try.prog 5 #[.slice ao n c, .slice ga gn gc, .int .u64 x] W fun r w' => r = .returned (.bool true) ∧ Below W.heap.size W w' := by
  obtain ⟨X, rfl⟩ : ∃ X : Nat, x = (X : Int) := ⟨x.toNat, by omega⟩
  obtain ⟨hnl, hnm⟩ := h.len
  have hn64 : (n : Int) ≤ 9223372036854775807 := by unfold maxLen at hnm; omega
  have hgl : gn = gs.length := by obtain ⟨_, _, e, _⟩ := hg; injection e
  have hg64 : (gn : Int) ≤ 9223372036854775807 := by
    obtain ⟨_, _, e, hc, hc2, _⟩ := hg
    injection e with _ e1 e2
    unfold maxLen at hc2; omega
  have H := Lib.hid h
  have HGs := Lib.hid hg
  have HGB := Lib.hid hgb
  have HNL := Lib.hid hnl
  have HGL := Lib.hid hgl
  clear h hg hgb hnl hgl hnm hx0 hx1
  by_cases hbig : 126 < n
  · have hbi : (126 : Int) < (n : Int) := by omega
    go_enter Try.func5, Try.ntmps5
    go_wp2_with (first
      | (go_at_call 8; (with_reducible refine (awake9_any W).mono ?_); rintro r w1 ⟨rfl, hg⟩; have HG1 := Lib.hid hg; clear hg)
      | go_in)
    go_ret
    exact ⟨rfl, gbelow HG1.out⟩
  have hbi : ¬ (126 : Int) < (n : Int) := by omega
  by_cases hfew : gn < n
  · have hfi : (gn : Int) < (n : Int) := by omega
    go_enter Try.func5, Try.ntmps5
    go_wp2_with (first
      | (go_at_call 8; (with_reducible refine (awake9_any W).mono ?_); rintro r w1 ⟨rfl, hg⟩; have HG1 := Lib.hid hg; clear hg)
      | go_in)
    go_ret
    exact ⟨rfl, gbelow HG1.out⟩
  have hfi : ¬ (gn : Int) < (n : Int) := by omega
  have hnn : n ≤ 126 := by omega
  obtain ⟨f, hf⟩ : ∃ f : Nat → Nat, f = fun j => zs.getD j 0 := ⟨_, rfl⟩
  obtain ⟨p, hp⟩ : ∃ p : Nat → Bool, p = fun j => decide ((gs.getD j 0).toNat % 2 = 1) := ⟨_, rfl⟩
  have ZC := Lib.hid (show ∀ (j : Nat) (w : World), j < n → W.grownBy w none → ∃ ba oa, ao = some ⟨ba, oa, none⟩ ∧ w.cell? ⟨ba, oa + j, none⟩ = some (.int .u64 (f j : Int)) ∧ f j < 18446744073709551616 from fun j w hj hg => by
    obtain ⟨y, hy⟩ : ∃ y, zs[j]? = some y := ⟨zs[j]'(by have := HNL.out; omega), List.getElem?_eq_getElem _⟩
    obtain ⟨ba, oa, e, hc, h64⟩ := (H.out.below (fun i hi => hg.block i hi (by simp))).at hy
    have hfj : f j = y := by rw [hf]; simp [List.getD_eq_getElem?_getD, hy]
    rw [← hfj] at hc h64
    exact ⟨ba, oa, e, hc, h64⟩)
  have PC := Lib.hid (show ∀ (j : Nat) (w : World), j < n → W.grownBy w none → ∃ ba oa, ga = some ⟨ba, oa, none⟩ ∧ ∃ y : Nat, w.cell? ⟨ba, oa + j, none⟩ = some (.int .u8 (y : Int)) ∧ bits BinOp.and IntKind.u8 (y : Int) 1 = ((if p j then 1 else 0 : Nat) : Int) from fun j w hj hg => by
    obtain ⟨ba, oa, e, hc⟩ := (HGs.out.below (fun i hi => hg.block i hi (by simp))).cellAt j (by have := HGL.out; omega)
    have y1 := HGB.out.get j
    obtain ⟨y, hy⟩ : ∃ y : Nat, (y : Int) = gs.getD j 0 := ⟨(gs.getD j 0).toNat, by omega⟩
    rw [← hy] at hc
    refine ⟨ba, oa, e, y, hc, u8_one y _ (by omega) ?_⟩
    rw [hp]
    show (if decide ((gs.getD j 0).toNat % 2 = 1) = true then 1 else 0) = _
    rw [← hy, Int.toNat_natCast]
    by_cases q : y % 2 = 1
    · simp [q]
    · rw [if_neg (by simpa using q)]; omega)
  clear hf hp hbig hfew
  go_enter Try.func5, Try.ntmps5
  go_wp2_with (first
    | (go_at_call 8; (with_reducible refine (awake9_any W).mono ?_); rintro r w1 ⟨rfl, hg⟩; have HG1 := Lib.hid hg; clear hg)
    | (go_at_call 9; (with_reducible refine (new126 w1).mono ?_); rintro r w2 ⟨b, rfl, hb, ht, hg⟩; rw [← freshL_zero f 126] at ht; have HT2 := Lib.hid ht; have HG2 := Lib.hid (gtrans HG1.out hg); have hbW : W.heap.size ≤ b := Nat.le_trans HG1.out.size hb; clear ht hg hb)
    | go_in)
  go_loopw [10, 11] (fun l i wr => ∃ k : Nat, k ≤ n ∧ i = .int .i64 (k : Int) ∧ HOwn W.heap.size wr l (hdls k) ∧ TabAt b wr (freshL f k 126) ∧ W.grownBy wr none) (fun _ i _ => n - (intOf i).toNat)
  case atStart => exact ⟨0, Nat.zero_le _, rfl, HOwn.nil _ _, HT2.out, HG2.out⟩
  case round =>
    obtain ⟨k, hk, rfl, ho, ht, hg⟩ := hrel
    have HO := Lib.hid ho
    have HT := Lib.hid ht
    have HG := Lib.hid hg
    clear ho ht hg
    obtain ⟨a0, c0, hv⟩ := HO.out.shape
    rw [hdls_len] at hv
    subst hv
    by_cases hlt : k < n
    · have hki : (k : Int) < (n : Int) := by omega
      obtain ⟨ba, oa, rfl, hzc, hz64⟩ := ZC.out k _ hlt HG.out
      obtain ⟨y, hy⟩ : ∃ y, f k = y := ⟨_, rfl⟩
      rw [hy] at hzc hz64
      go_wp2_with (first
        | (go_at_call 11; (with_reducible refine (fresh_begin _ b k 126 f y _ rfl HT.out (by omega) hy hz64).mono ?_); rintro r w3 ⟨rfl, ht⟩; have hga := World.grownBy_alloc w3 (.cells #[.int .i64 (k : Int), .int .u64 1] 36) none; have HT3 := Lib.hid (ht.1.grown hga); have HO3 := Lib.hid ((HO.out.tab HT.out ht.2).grown hga); have HG3 := Lib.hid (gtrans (ht.grown HG.out hbW) hga); clear ht hga)
        | (at_builtin; refine wpList_happ _ rfl _ _ rfl W.heap.size (.slice a0 k c0) (hdls k) (k, 1) _ _ _ rfl rfl (by simp) rfl rfl HO3.out (by rw [hdls_len]; omega) HG3.out.size ?_; intro v' w5 ho hg; rw [hdls_more] at ho; have HO5 := Lib.hid ho; have HT5 := Lib.hid (HT3.out.hown HO3.out hg); have HG5 := Lib.hid (grow_row HG3.out HO3.out hg); clear ho hg)
        | go_in)
      go_roundw
      case rel => exact ⟨k + 1, by omega, by go_num, HO5.out, HT5.out, HG5.out⟩
      case measure => simp [intOf]; omega
    · have hki : ¬ (k : Int) < (n : Int) := by omega
      obtain rfl : n = k := by omega
      rw [← leftG_zero f p n 126] at HT
      go_wp2
      go_loopw [14, 15, 16] (fun wv mv i wz => ∃ (j u m : Nat), j ≤ n ∧ i = .int .i64 (j : Int) ∧ wv = .int .u64 (u : Int) ∧ mv = .int .i64 (m : Int) ∧ wantM f p j X = u ∧ manyM p j = m ∧ HOwn W.heap.size wz (.slice a0 n c0) (hdls n) ∧ TabAt b wz (genL (leftG f p j) n 126) ∧ W.grownBy wz none) (fun _ _ i _ => n - (intOf i).toNat)
      case atStart => exact ⟨0, X, 0, Nat.zero_le _, rfl, rfl, rfl, rfl, rfl, HO.out, HT.out, HG.out⟩
      case round =>
        obtain ⟨j, u, m, hj, rfl, rfl, rfl, hu, hm, ho, ht, hg⟩ := hrel
        have HU := Lib.hid hu
        have HM := Lib.hid hm
        have HO5 := Lib.hid ho
        have HT5 := Lib.hid ht
        have HG5 := Lib.hid hg
        have hmj : m ≤ j := by rw [← hm]; exact manyM_le p j
        clear ho ht hg hu hm
        by_cases hlt : j < n
        · have hji : (j : Int) < (n : Int) := by omega
          obtain ⟨ba, oa, rfl, y, hyc, hyb⟩ := PC.out j _ hlt HG5.out
          cases hpj : p j with
          | true =>
            rw [hpj] at hyb
            have hyb1 : bits BinOp.and IntKind.u8 (y : Int) 1 = 1 := hyb
            obtain ⟨g0, c0', hv, e0, e1⟩ := HO5.out.at (hdls_at hlt)
            rw [hdls_len] at hv
            injection hv with hv1 _ hv3
            subst hv1 hv3
            have HPJ := Lib.hid hpj
            have hw := wantM_more f p j X
            have hmm := manyM_more p j
            rw [hpj, if_pos rfl] at hw hmm
            have HW := Lib.hid (hw.trans HU.out)
            have HMM := Lib.hid (hmm.trans HM.out)
            clear hyb hpj hw hmm
            go_wp2_with (first
              | (go_at_call 13; (with_reducible refine (left_end _ b j n 126 f p HT5.out HPJ.out hlt hnn).mono ?_); rintro r w6 ⟨rfl, ht⟩; have HT6 := Lib.hid ht.1; have HG6 := Lib.hid (ht.grown HG5.out hbW); have HO6 := Lib.hid (HO5.out.tab HT5.out ht.2); clear ht)
              | go_in)
            go_roundw
            case rel => exact ⟨j + 1, u, m, by omega, by go_num, rfl, rfl, HW.out, HMM.out, HO6.out, HT6.out, HG6.out⟩
            case measure => simp [intOf]; omega
          | false =>
            rw [hpj] at hyb
            have hyb1 : bits BinOp.and IntKind.u8 (y : Int) 1 = 0 := hyb
            obtain ⟨bz, oz, rfl, hzc, hz64⟩ := ZC.out j _ hlt HG5.out
            obtain ⟨z, hz⟩ : ∃ z, f j = z := ⟨_, rfl⟩
            have hw := wantM_more f p j X
            have hmm := manyM_more p j
            rw [hpj, if_neg (by simp), HU.out, hz] at hw
            rw [hpj, if_neg (by simp), HM.out] at hmm
            rw [hz] at hzc
            have HW := Lib.hid hw
            have HMM := Lib.hid hmm
            have HTs := Lib.hid (show TabAt b _ (genL (leftG f p (j + 1)) n 126) by rw [leftG_skip hpj]; exact HT5.out)
            clear hyb hpj hw hmm hz
            go_wp2
            go_roundw
            case rel => exact ⟨j + 1, min u z, m + 1, by omega, by go_num, by go_num, by go_num, HW.out, HMM.out, HO5.out, HTs.out, HG5.out⟩
            case measure => simp [intOf]; omega
        · have hji : ¬ (j : Int) < (n : Int) := by omega
          obtain rfl : n = j := by omega
          go_wp2_with (first
            | (go_at_call 21; (with_reducible refine (left_oldest _ b n 126 X f p u HT5.out hnn HU.out).mono ?_); rintro r w9 ⟨rfl, rfl⟩)
            | (go_at_call 23; (with_reducible refine (left_live _ b n 126 f p m HT5.out hnn HM.out).mono ?_); rintro r w9 ⟨rfl, rfl⟩)
            | go_in)
          go_ret
          exact ⟨by simp, gbelow HG5.out⟩

open Go.ChangeShapes Go.WideShapes Go.ChangeAt
set_option linter.unusedVariables false
set_option maxRecDepth 100000 in
theorem oldestL_lifted (os : Os) (started : os.Started) (H : Type) (enc : TypeId × Value → H) :
    ReturnsInHanded {} Try.checked os 5 .any (Rows.readersOldestSpec.pre6 enc Try.prog Try.f5 Rows.readersOldestRow.domain false) (Rows.readersOldestSpec.post enc Try.prog Try.f5 false true false false) := by
  refine returnsInHanded_of_change (C := Try.checked) ownKnob0 started (by kernel_rfl) Try.func5
    (ChangeSpec.witness6 (enc := enc) (C := Try.checked) false ⟨#[], #[.slice none 0 0, .slice none 0 0, .int .u64 0], []⟩ 8 (by kernel_rfl) (by kernel_rfl) (by kernel_rfl) (by kernel_rfl)) ?_
  intro W base args ds gs before hval0 hW hcnd _
  have hval : ∀ (j : Nat) t v, Try.f5.params[j]? = some t → args[j]? = some v → Value.okWide Try.prog W .any base t v := hval0
  have hW' := hW
  obtain ⟨p, q, hA0, hV, rfl, hfz, hnd⟩ := hW
  have hA : DataW.TrodAll enc Try.prog W 0 (fun _ => true) true Try.f5.params.toList args.toList ds p := hA0
  rw [Try.params5] at hA hval
  obtain ⟨v0, vs0, d0, ds0, p0, q0, hargs, rfl, rfl, h0, r0⟩ := trodAll_cons hA
  obtain ⟨v1, vs1, d1, ds1, p1, q1, rfl, rfl, rfl, h1, r1⟩ := trodAll_cons r0
  obtain ⟨v2, vs2, d2, ds2, p2, q2, rfl, rfl, rfl, h2, r2⟩ := trodAll_cons r1
  obtain ⟨rfl, rfl, rfl⟩ := trodAll_nil r2
  obtain rfl : args = #[v0, v1, v2] := by cases args; simp_all
  obtain ⟨rfl, rfl⟩ := trodVars_none hV
  obtain ⟨a0, len0, cap0, rfl⟩ := okWide_slice Try.underlying58 (hval 0 58 v0 rfl rfl)
  have lt0 : ∀ x ∈ p0, x.block < W.heap.size := by obtain ⟨m, hm⟩ := h0; exact DataW.trod_lt m _ _ _ hm
  obtain ⟨z0, w0⟩ := open_u64s h0
  obtain ⟨a1, len1, cap1, rfl⟩ := okWide_slice Try.underlying60 (hval 1 60 v1 rfl rfl)
  have lt1 : ∀ x ∈ p1, x.block < W.heap.size := by obtain ⟨m, hm⟩ := h1; exact DataW.trod_lt m _ _ _ hm
  obtain ⟨z1, w1, y1⟩ := open_bytes h1
  obtain ⟨a2, rfl, rfl, rfl, w2⟩ := open_int Try.underlying32 (hval 2 32 v2 rfl rfl) h2
  have b2 := bounds_u64 w2
  clear hA0 hval0
  refine (oldestL_any W a0 len0 cap0 z0 a1 len1 cap1 z1 a2 w0 w1 y1 b2.1 b2.2).mono fun e W' ⟨he, bel⟩ => ?_
  subst he
  exact ⟨_, rfl, _, _, _, [], _, [], hW', trodAll_mk1 (shut_bool Try.underlying4 _), (trodAll_cons_mk (Below.trod laidOut0 (by kernel_rfl) (of_decide_eq_true (by kernel_rfl)) h0 bel lt0) (trodAll_cons_mk (Below.trod laidOut0 (by kernel_rfl) (of_decide_eq_true (by kernel_rfl)) h1 bel lt1) (trodAll_cons_mk (shut_int Try.underlying32 w2) trodAll_mk0))), rfl, bel.frame _, fun h => by cases h⟩

/-- ReadersOldest, for every input. -/
theorem readersOldest_holds : Rows.ReadersOldestSaid :=
  OpenClaim.holds_of_wide 5 Try.f5 rfl rfl rfl rfl rfl rfl rfl ⟨rfl, rfl, rfl, rfl, rfl⟩ rfl rfl rfl rfl rfl (by kernel_rfl) Try.func5 (by kernel_rfl)
    (of_decide_eq_true (by kernel_rfl)) (by unfold Func.isWrapper; first | (rw [if_pos (by decide +kernel)]; kernel_rfl) | (rw [if_neg (by decide +kernel)]; exact ⟨rfl, rfl⟩))
    (fun os started H enc _ => oldestL_lifted os started H enc)
#print axioms readersOldest_holds

end Go.Proofs.Ytoaglkbobndmeaa
