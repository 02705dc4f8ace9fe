/-
  ReadersDying: a reader that is declared dead reads on, and is the oldest one, until it is cleared. Proved for every input, no condition.
-/
import Derived.Test.YtoaglkbobndmeaaRdL
namespace Go.Proofs.Ytoaglkbobndmeaa
open Go.RowKit

set_option maxRecDepth 100000 in
set_option maxHeartbeats 8000000 in
theorem dying_any (W : World) (ao : Option Addr) (n c : Nat) (zs : List Nat) (ga : Option Addr) (gn gc : Nat) (gs : List Int) (h : U64q W.heap.size W (.slice ao n c) zs) (hg : Seq W.heap.size W (.slice ga gn gc) gs) (hgb : Byt gs) :
    Calls Try.prog 7 #[.slice ao n c, .slice ga gn gc] W fun r w' => r = .returned (.bool true) ∧ Below W.heap.size W w' := by
  obtain ⟨hnl, hnm⟩ := h.len
  have hn64 : (n : Int) ≤ 9223372036854775807 := by unfold maxLen at hnm; omega
  have hgl : gn = gs.length := by obtain ⟨_, _, e, _⟩ := hg; injection e
  have hg64 : (gn : Int) ≤ 9223372036854775807 := by
    obtain ⟨_, _, e, hc, hc2, _⟩ := hg
    injection e with _ e1 e2
    unfold maxLen at hc2; omega
  have H := Lib.hid h
  have HGs := Lib.hid hg
  have HGB := Lib.hid hgb
  have HNL := Lib.hid hnl
  have HGL := Lib.hid hgl
  clear h hg hgb hnl hgl hnm
  by_cases hq : 100 < n ∨ gn < n ∨ n = 0
  · have hq3 : 100 < n ∨ (¬ 100 < n ∧ gn < n) ∨ (¬ 100 < n ∧ ¬ gn < n ∧ n = 0) := by omega
    rcases hq3 with hbig | ⟨hb, hfew⟩ | ⟨hb, hf, hz⟩
    · have hbi : (100 : Int) < (n : Int) := by omega
      go_enter Try.func7, Try.ntmps7
      go_wp2_with (first
        | (go_at_call 8; (with_reducible refine (awake9_any W).mono ?_); rintro r w1 ⟨rfl, hg⟩; have HG1 := Lib.hid hg; clear hg)
        | go_in)
      go_ret
      exact ⟨rfl, gbelow HG1.out⟩
    · have hbi : ¬ (100 : Int) < (n : Int) := by omega
      have hfi : (gn : Int) < (n : Int) := by omega
      go_enter Try.func7, Try.ntmps7
      go_wp2_with (first
        | (go_at_call 8; (with_reducible refine (awake9_any W).mono ?_); rintro r w1 ⟨rfl, hg⟩; have HG1 := Lib.hid hg; clear hg)
        | go_in)
      go_ret
      exact ⟨rfl, gbelow HG1.out⟩
    · subst hz
      have hfi : ¬ (gn : Int) < 0 := by omega
      go_enter Try.func7, Try.ntmps7
      go_wp2_with (first
        | (go_at_call 8; (with_reducible refine (awake9_any W).mono ?_); rintro r w1 ⟨rfl, hg⟩; have HG1 := Lib.hid hg; clear hg)
        | go_in)
      go_ret
      exact ⟨rfl, gbelow HG1.out⟩
  have hnn : n ≤ 100 := by omega
  have hn1 : 1 ≤ n := by omega
  have hbi : ¬ (100 : Int) < (n : Int) := by omega
  have hfi : ¬ (gn : Int) < (n : Int) := by omega
  have hzi : ¬ (n : Int) = 0 := by omega
  have hzb : ((n : Int) == 0) = false := by simpa using hzi
  obtain ⟨f, hf⟩ : ∃ f : Nat → Nat, f = fun j => zs.getD j 0 := ⟨_, rfl⟩
  obtain ⟨p, hp⟩ : ∃ p : Nat → Bool, p = fun j => decide ((gs.getD j 0).toNat % 2 = 1) := ⟨_, rfl⟩
  have ZC := Lib.hid (show ∀ (j : Nat) (w : World), j < n → W.grownBy w none → ∃ ba oa, ao = some ⟨ba, oa, none⟩ ∧ w.cell? ⟨ba, oa + j, none⟩ = some (.int .u64 (f j : Int)) ∧ f j < 18446744073709551616 from fun j w hj hg => by
    obtain ⟨y, hy⟩ : ∃ y, zs[j]? = some y := ⟨zs[j]'(by have := HNL.out; omega), List.getElem?_eq_getElem _⟩
    obtain ⟨ba, oa, e, hc, h64⟩ := (H.out.below (fun i hi => hg.block i hi (by simp))).at hy
    have hfj : f j = y := by rw [hf]; simp [List.getD_eq_getElem?_getD, hy]
    rw [← hfj] at hc h64
    exact ⟨ba, oa, e, hc, h64⟩)
  obtain ⟨bt, hbt⟩ : ∃ bt : Nat → Nat, bt = fun j => (gs.getD j 0).toNat := ⟨_, rfl⟩
  have PC := Lib.hid (show ∀ (j : Nat) (w : World), j < n → W.grownBy w none → ∃ ba oa, ga = some ⟨ba, oa, none⟩ ∧ w.cell? ⟨ba, oa + j, none⟩ = some (.int .u8 (bt j : Int)) ∧ bits BinOp.and IntKind.u8 (bt j : Int) 1 = ((if p j then 1 else 0 : Nat) : Int) from fun j w hj hg => by
    obtain ⟨ba, oa, e, hc⟩ := (HGs.out.below (fun i hi => hg.block i hi (by simp))).cellAt j (by have := HGL.out; omega)
    have y1 := HGB.out.get j
    have hy : (bt j : Int) = gs.getD j 0 := by rw [hbt]; show ((gs.getD j 0).toNat : Int) = _; omega
    have hy2 : (gs.getD j 0).toNat = bt j := by rw [hbt]
    rw [← hy] at hc
    refine ⟨ba, oa, e, hc, u8_one _ _ (by omega) ?_⟩
    rw [hp]
    show (if decide ((gs.getD j 0).toNat % 2 = 1) = true then 1 else 0) = _
    rw [hy2]
    by_cases q : bt j % 2 = 1
    · simp [q]
    · rw [if_neg (by simpa using q)]; omega)
  clear hf hp hq hbt
  go_enter Try.func7, Try.ntmps7
  go_wp2_with (first
    | (go_at_call 8; (with_reducible refine (awake9_any W).mono ?_); rintro r w1 ⟨rfl, hg⟩; have HG1 := Lib.hid hg; clear hg)
    | (go_at_call 9; (with_reducible refine (new9_ex w1 n hn1 (by omega)).mono ?_); rintro r w2 ⟨b, rfl, hb, ht, hg⟩; rw [← freshL_zero f n] at ht; have HT2 := Lib.hid ht; have HG2 := Lib.hid (gtrans HG1.out hg); have hbW : W.heap.size ≤ b := Nat.le_trans HG1.out.size hb; clear ht hg hb)
    | go_in)
  go_loopw [8, 9, 10, 11, 12] (fun ov lv dv l i wr => ∃ (k u v m : Nat), k ≤ n ∧ i = .int .i64 (k : Int) ∧ ov = .int .u64 (u : Int) ∧ lv = .int .u64 (v : Int) ∧ dv = .int .i64 (m : Int) ∧ wantM f (fun _ => false) k 18446744073709551615 = u ∧ wantM f p k 18446744073709551615 = v ∧ dieM p k = m ∧ HOwn W.heap.size wr l (hdls k) ∧ TabAt b wr (freshL f k n) ∧ W.grownBy wr none) (fun _ _ _ _ i _ => n - (intOf i).toNat)
  case atStart => exact ⟨0, 18446744073709551615, 18446744073709551615, 0, Nat.zero_le _, rfl, rfl, rfl, rfl, rfl, rfl, rfl, HOwn.nil _ _, HT2.out, HG2.out⟩
  case round =>
    obtain ⟨k, u, v, m, hk, rfl, rfl, rfl, rfl, hu, hv0, hm, ho, ht, hg⟩ := hrel
    have HU := Lib.hid hu
    have HV := Lib.hid hv0
    have HM := Lib.hid hm
    have hmk : m ≤ k := by rw [← hm]; exact dieM_le p k
    have HO := Lib.hid ho
    have HT := Lib.hid ht
    have HG := Lib.hid hg
    clear ho ht hg hu hv0 hm
    obtain ⟨a0, c0, hv⟩ := HO.out.shape
    rw [hdls_len] at hv
    subst hv
    by_cases hlt : k < n
    · have hki : (k : Int) < (n : Int) := by omega
      obtain ⟨ba, oa, rfl, hzc, hz64⟩ := ZC.out k _ hlt HG.out
      obtain ⟨y, hy⟩ : ∃ y, f k = y := ⟨_, rfl⟩
      rw [hy] at hzc hz64
      obtain ⟨bg, og, rfl, hgc, hgbit⟩ := PC.out k _ hlt HG.out
      obtain ⟨g, hg0⟩ : ∃ g, bt k = g := ⟨_, rfl⟩
      rw [hg0] at hgc hgbit
      have HG0 := Lib.hid hg0
      clear hg0
      have hmin : ∀ a : Nat, min a y = if y < a then y else a := fun a => by
        by_cases q : y < a
        · rw [if_pos q]; omega
        · rw [if_neg q]; omega
      have wu := wantM_more f (fun _ => false) k 18446744073709551615
      have wv := wantM_more f p k 18446744073709551615
      have wm := dieM_more p k
      rw [if_neg (by simp), HU.out, hy, hmin] at wu
      rw [HV.out, hy, hmin] at wv
      rw [HM.out] at wm
      have HY := Lib.hid hy
      clear hy hmin
      by_cases cu : y < u
      · rw [if_pos cu] at wu
        have WU := Lib.hid wu
        clear wu
        cases hpj : p k with
        | true =>
          rw [hpj, if_pos rfl] at wv
          rw [hpj, if_pos rfl] at wm
          rw [hpj] at hgbit
          have hyb1 : bits BinOp.and IntKind.u8 (g : Int) 1 = 1 := hgbit
          have WV := Lib.hid wv
          have WM := Lib.hid wm
          clear hgbit wv wm hpj
          go_wp2_with (first
            | (go_at_call 11; (with_reducible refine (fresh_begin _ b k n f y _ rfl HT.out hlt HY.out hz64).mono ?_); rintro r w3 ⟨rfl, ht⟩; have hga := World.grownBy_alloc w3 (.cells #[.int .i64 (k : Int), .int .u64 1] 36) none; have HT3 := Lib.hid (ht.1.grown hga); have HO3 := Lib.hid ((HO.out.tab HT.out ht.2).grown hga); have HG3 := Lib.hid (gtrans (ht.grown HG.out hbW) hga); clear ht hga)
            | (at_builtin; refine wpList_happ _ rfl _ _ rfl W.heap.size (.slice a0 k c0) (hdls k) (k, 1) _ _ _ rfl rfl (by simp) rfl rfl HO3.out (by rw [hdls_len]; omega) HG3.out.size ?_; intro v' w5 ho hg; rw [hdls_more] at ho; have HO5 := Lib.hid ho; have HT5 := Lib.hid (HT3.out.hown HO3.out hg); have HG5 := Lib.hid (grow_row HG3.out HO3.out hg); obtain ⟨b2, o2, e2, hz5, -⟩ := ZC.out k _ hlt HG5.out; (injection e2 with e2; injection e2 with e2 e3; subst e2 e3); obtain ⟨b3, o3, e4, hg5, -⟩ := PC.out k _ hlt HG5.out; (injection e4 with e4; injection e4 with e4 e5; subst e4 e5); rw [HG0.out] at hg5; rw [HY.out] at hz5; clear ho hg)
            | go_in)
          go_roundw
          case rel => exact ⟨k + 1, y, v, m + 1, by omega, by go_num, rfl, rfl, by go_num, WU.out, WV.out, WM.out, HO5.out, HT5.out, HG5.out⟩
          case measure => simp [intOf]; omega
        | false =>
          rw [hpj, if_neg (by simp)] at wv
          rw [hpj, if_neg (by simp)] at wm
          rw [hpj] at hgbit
          have hyb1 : bits BinOp.and IntKind.u8 (g : Int) 1 = 0 := hgbit
          have WM := Lib.hid wm
          clear hgbit wm hpj
          by_cases cv : y < v
          · rw [if_pos cv] at wv
            have WV := Lib.hid wv
            clear wv
            go_wp2_with (first
              | (go_at_call 11; (with_reducible refine (fresh_begin _ b k n f y _ rfl HT.out hlt HY.out hz64).mono ?_); rintro r w3 ⟨rfl, ht⟩; have hga := World.grownBy_alloc w3 (.cells #[.int .i64 (k : Int), .int .u64 1] 36) none; have HT3 := Lib.hid (ht.1.grown hga); have HO3 := Lib.hid ((HO.out.tab HT.out ht.2).grown hga); have HG3 := Lib.hid (gtrans (ht.grown HG.out hbW) hga); clear ht hga)
              | (at_builtin; refine wpList_happ _ rfl _ _ rfl W.heap.size (.slice a0 k c0) (hdls k) (k, 1) _ _ _ rfl rfl (by simp) rfl rfl HO3.out (by rw [hdls_len]; omega) HG3.out.size ?_; intro v' w5 ho hg; rw [hdls_more] at ho; have HO5 := Lib.hid ho; have HT5 := Lib.hid (HT3.out.hown HO3.out hg); have HG5 := Lib.hid (grow_row HG3.out HO3.out hg); obtain ⟨b2, o2, e2, hz5, -⟩ := ZC.out k _ hlt HG5.out; (injection e2 with e2; injection e2 with e2 e3; subst e2 e3); obtain ⟨b3, o3, e4, hg5, -⟩ := PC.out k _ hlt HG5.out; (injection e4 with e4; injection e4 with e4 e5; subst e4 e5); rw [HG0.out] at hg5; rw [HY.out] at hz5; clear ho hg)
              | go_in)
            go_roundw
            case rel => exact ⟨k + 1, y, y, m, by omega, by go_num, rfl, rfl, rfl, WU.out, WV.out, WM.out, HO5.out, HT5.out, HG5.out⟩
            case measure => simp [intOf]; omega
          · rw [if_neg cv] at wv
            have WV := Lib.hid wv
            clear wv
            go_wp2_with (first
              | (go_at_call 11; (with_reducible refine (fresh_begin _ b k n f y _ rfl HT.out hlt HY.out hz64).mono ?_); rintro r w3 ⟨rfl, ht⟩; have hga := World.grownBy_alloc w3 (.cells #[.int .i64 (k : Int), .int .u64 1] 36) none; have HT3 := Lib.hid (ht.1.grown hga); have HO3 := Lib.hid ((HO.out.tab HT.out ht.2).grown hga); have HG3 := Lib.hid (gtrans (ht.grown HG.out hbW) hga); clear ht hga)
              | (at_builtin; refine wpList_happ _ rfl _ _ rfl W.heap.size (.slice a0 k c0) (hdls k) (k, 1) _ _ _ rfl rfl (by simp) rfl rfl HO3.out (by rw [hdls_len]; omega) HG3.out.size ?_; intro v' w5 ho hg; rw [hdls_more] at ho; have HO5 := Lib.hid ho; have HT5 := Lib.hid (HT3.out.hown HO3.out hg); have HG5 := Lib.hid (grow_row HG3.out HO3.out hg); obtain ⟨b2, o2, e2, hz5, -⟩ := ZC.out k _ hlt HG5.out; (injection e2 with e2; injection e2 with e2 e3; subst e2 e3); obtain ⟨b3, o3, e4, hg5, -⟩ := PC.out k _ hlt HG5.out; (injection e4 with e4; injection e4 with e4 e5; subst e4 e5); rw [HG0.out] at hg5; rw [HY.out] at hz5; clear ho hg)
              | go_in)
            go_roundw
            case rel => exact ⟨k + 1, y, v, m, by omega, by go_num, rfl, rfl, rfl, WU.out, WV.out, WM.out, HO5.out, HT5.out, HG5.out⟩
            case measure => simp [intOf]; omega
      · rw [if_neg cu] at wu
        have WU := Lib.hid wu
        clear wu
        cases hpj : p k with
        | true =>
          rw [hpj, if_pos rfl] at wv
          rw [hpj, if_pos rfl] at wm
          rw [hpj] at hgbit
          have hyb1 : bits BinOp.and IntKind.u8 (g : Int) 1 = 1 := hgbit
          have WV := Lib.hid wv
          have WM := Lib.hid wm
          clear hgbit wv wm hpj
          go_wp2_with (first
            | (go_at_call 11; (with_reducible refine (fresh_begin _ b k n f y _ rfl HT.out hlt HY.out hz64).mono ?_); rintro r w3 ⟨rfl, ht⟩; have hga := World.grownBy_alloc w3 (.cells #[.int .i64 (k : Int), .int .u64 1] 36) none; have HT3 := Lib.hid (ht.1.grown hga); have HO3 := Lib.hid ((HO.out.tab HT.out ht.2).grown hga); have HG3 := Lib.hid (gtrans (ht.grown HG.out hbW) hga); clear ht hga)
            | (at_builtin; refine wpList_happ _ rfl _ _ rfl W.heap.size (.slice a0 k c0) (hdls k) (k, 1) _ _ _ rfl rfl (by simp) rfl rfl HO3.out (by rw [hdls_len]; omega) HG3.out.size ?_; intro v' w5 ho hg; rw [hdls_more] at ho; have HO5 := Lib.hid ho; have HT5 := Lib.hid (HT3.out.hown HO3.out hg); have HG5 := Lib.hid (grow_row HG3.out HO3.out hg); obtain ⟨b2, o2, e2, hz5, -⟩ := ZC.out k _ hlt HG5.out; (injection e2 with e2; injection e2 with e2 e3; subst e2 e3); obtain ⟨b3, o3, e4, hg5, -⟩ := PC.out k _ hlt HG5.out; (injection e4 with e4; injection e4 with e4 e5; subst e4 e5); rw [HG0.out] at hg5; rw [HY.out] at hz5; clear ho hg)
            | go_in)
          go_roundw
          case rel => exact ⟨k + 1, u, v, m + 1, by omega, by go_num, rfl, rfl, by go_num, WU.out, WV.out, WM.out, HO5.out, HT5.out, HG5.out⟩
          case measure => simp [intOf]; omega
        | false =>
          rw [hpj, if_neg (by simp)] at wv
          rw [hpj, if_neg (by simp)] at wm
          rw [hpj] at hgbit
          have hyb1 : bits BinOp.and IntKind.u8 (g : Int) 1 = 0 := hgbit
          have WM := Lib.hid wm
          clear hgbit wm hpj
          by_cases cv : y < v
          · rw [if_pos cv] at wv
            have WV := Lib.hid wv
            clear wv
            go_wp2_with (first
              | (go_at_call 11; (with_reducible refine (fresh_begin _ b k n f y _ rfl HT.out hlt HY.out hz64).mono ?_); rintro r w3 ⟨rfl, ht⟩; have hga := World.grownBy_alloc w3 (.cells #[.int .i64 (k : Int), .int .u64 1] 36) none; have HT3 := Lib.hid (ht.1.grown hga); have HO3 := Lib.hid ((HO.out.tab HT.out ht.2).grown hga); have HG3 := Lib.hid (gtrans (ht.grown HG.out hbW) hga); clear ht hga)
              | (at_builtin; refine wpList_happ _ rfl _ _ rfl W.heap.size (.slice a0 k c0) (hdls k) (k, 1) _ _ _ rfl rfl (by simp) rfl rfl HO3.out (by rw [hdls_len]; omega) HG3.out.size ?_; intro v' w5 ho hg; rw [hdls_more] at ho; have HO5 := Lib.hid ho; have HT5 := Lib.hid (HT3.out.hown HO3.out hg); have HG5 := Lib.hid (grow_row HG3.out HO3.out hg); obtain ⟨b2, o2, e2, hz5, -⟩ := ZC.out k _ hlt HG5.out; (injection e2 with e2; injection e2 with e2 e3; subst e2 e3); obtain ⟨b3, o3, e4, hg5, -⟩ := PC.out k _ hlt HG5.out; (injection e4 with e4; injection e4 with e4 e5; subst e4 e5); rw [HG0.out] at hg5; rw [HY.out] at hz5; clear ho hg)
              | go_in)
            go_roundw
            case rel => exact ⟨k + 1, u, y, m, by omega, by go_num, rfl, rfl, rfl, WU.out, WV.out, WM.out, HO5.out, HT5.out, HG5.out⟩
            case measure => simp [intOf]; omega
          · rw [if_neg cv] at wv
            have WV := Lib.hid wv
            clear wv
            go_wp2_with (first
              | (go_at_call 11; (with_reducible refine (fresh_begin _ b k n f y _ rfl HT.out hlt HY.out hz64).mono ?_); rintro r w3 ⟨rfl, ht⟩; have hga := World.grownBy_alloc w3 (.cells #[.int .i64 (k : Int), .int .u64 1] 36) none; have HT3 := Lib.hid (ht.1.grown hga); have HO3 := Lib.hid ((HO.out.tab HT.out ht.2).grown hga); have HG3 := Lib.hid (gtrans (ht.grown HG.out hbW) hga); clear ht hga)
              | (at_builtin; refine wpList_happ _ rfl _ _ rfl W.heap.size (.slice a0 k c0) (hdls k) (k, 1) _ _ _ rfl rfl (by simp) rfl rfl HO3.out (by rw [hdls_len]; omega) HG3.out.size ?_; intro v' w5 ho hg; rw [hdls_more] at ho; have HO5 := Lib.hid ho; have HT5 := Lib.hid (HT3.out.hown HO3.out hg); have HG5 := Lib.hid (grow_row HG3.out HO3.out hg); obtain ⟨b2, o2, e2, hz5, -⟩ := ZC.out k _ hlt HG5.out; (injection e2 with e2; injection e2 with e2 e3; subst e2 e3); obtain ⟨b3, o3, e4, hg5, -⟩ := PC.out k _ hlt HG5.out; (injection e4 with e4; injection e4 with e4 e5; subst e4 e5); rw [HG0.out] at hg5; rw [HY.out] at hz5; clear ho hg)
              | go_in)
            go_roundw
            case rel => exact ⟨k + 1, u, v, m, by omega, by go_num, rfl, rfl, rfl, WU.out, WV.out, WM.out, HO5.out, HT5.out, HG5.out⟩
            case measure => simp [intOf]; omega
    · have hki : ¬ (k : Int) < (n : Int) := by omega
      obtain rfl : n = k := by omega
      rw [← dyG_zero f p n n] at HT
      go_wp2
      go_loopw [15] (fun i wz => ∃ j : Nat, j ≤ n ∧ i = .int .i64 (j : Int) ∧ HOwn W.heap.size wz (.slice a0 n c0) (hdls n) ∧ TabAt b wz (genL (dyG f p j) n n) ∧ W.grownBy wz none) (fun i _ => n - (intOf i).toNat)
      case atStart => exact ⟨0, Nat.zero_le _, rfl, HO.out, HT.out, HG.out⟩
      case round =>
        obtain ⟨j, hj, rfl, ho, ht, hg⟩ := hrel
        have HO5 := Lib.hid ho
        have HT5 := Lib.hid ht
        have HG5 := Lib.hid hg
        clear ho ht hg
        have RD := Lib.hid (show ∀ (w : World), j < n → HOwn W.heap.size w (.slice a0 n c0) (hdls n) → ∃ g0, a0 = some ⟨g0, 0, none⟩ ∧ w.cell? ⟨g0, j * 2, none⟩ = some (.int .i64 (j : Int)) ∧ w.cell? ⟨g0, j * 2 + 1, none⟩ = some (.int .u64 1) from fun w hj ho => by
          obtain ⟨g0, c0', hv, e0, e1⟩ := ho.at (hdls_at hj)
          injection hv with hv1
          exact ⟨g0, hv1, e0, e1⟩)
        by_cases hlt : j < n
        · have hji : (j : Int) < (n : Int) := by omega
          obtain ⟨g0, rfl, e0, e1⟩ := RD.out _ hlt HO5.out
          have RD2 := Lib.hid (show ∀ (w : World), HOwn W.heap.size w (.slice (some ⟨g0, 0, none⟩) n c0) (hdls n) → w.cell? ⟨g0, j * 2, none⟩ = some (.int .i64 (j : Int)) ∧ w.cell? ⟨g0, j * 2 + 1, none⟩ = some (.int .u64 1) from fun w ho => by
            obtain ⟨g1, h1, e0, e1⟩ := RD.out w hlt ho
            injection h1 with h1; injection h1 with h1; subst h1
            exact ⟨e0, e1⟩)
          clear RD
          obtain ⟨ba, oa, rfl, hzc, hz64⟩ := ZC.out j _ hlt HG5.out
          obtain ⟨y, hy⟩ : ∃ y, f j = y := ⟨_, rfl⟩
          rw [hy] at hzc
          have HY := Lib.hid hy
          have ZC2 := Lib.hid (show ∀ (w : World), W.grownBy w none → w.cell? ⟨ba, oa + j, none⟩ = some (.int .u64 (y : Int)) from fun w hg => by
            obtain ⟨b2, o2, e2, hz5, -⟩ := ZC.out j _ hlt hg
            injection e2 with e2; injection e2 with e2 e3; subst e2 e3
            rw [HY.out] at hz5; exact hz5)
          clear hy hz64
          obtain ⟨bg, og, rfl, hgc, hgbit⟩ := PC.out j _ hlt HG5.out
          obtain ⟨g, hg0⟩ : ∃ g, bt j = g := ⟨_, rfl⟩
          rw [hg0] at hgc hgbit
          clear hg0
          cases hpj : p j with
          | true =>
            rw [hpj] at hgbit
            have hyb1 : bits BinOp.and IntKind.u8 (g : Int) 1 = 1 := hgbit
            have HPJ := Lib.hid hpj
            clear hgbit hpj
            go_wp2_with (first
              | (go_at_call 15; (with_reducible refine (dy_dead _ b j n n f p HT5.out HPJ.out hlt (Nat.le_refl _)).mono ?_); rintro r w6 ⟨rfl, ht⟩; have HT6 := Lib.hid ht.1; have HG6 := Lib.hid (ht.grown HG5.out hbW); have HO6 := Lib.hid (HO5.out.tab HT5.out ht.2); obtain ⟨k0, k1⟩ := RD2.out _ HO6.out; clear ht)
              | (go_at_call 19; (with_reducible refine (dy_txn _ b (j + 1) j n n y f p HT6.out hlt (Nat.le_refl _) HY.out).mono ?_); rintro r w7 ⟨rfl, hg⟩; have HT7 := Lib.hid (HT6.out.grown hg); have HG7 := Lib.hid (gtrans HG6.out hg); have HO7 := Lib.hid (HO6.out.grown hg); have z7 := ZC2.out _ HG7.out; clear hg)
              | go_in)
            go_roundw
            case rel => exact ⟨j + 1, by omega, by go_num, HO7.out, HT7.out, HG7.out⟩
            case measure => simp [intOf]; omega
          | false =>
            rw [hpj] at hgbit
            have hyb1 : bits BinOp.and IntKind.u8 (g : Int) 1 = 0 := hgbit
            have HPJ := Lib.hid hpj
            clear hgbit hpj
            go_wp2_with (first
              | (go_at_call 19; (with_reducible refine (dy_txn _ b j j n n y f p HT5.out hlt (Nat.le_refl _) HY.out).mono ?_); rintro r w7 ⟨rfl, hg⟩; have HT7 := Lib.hid (HT5.out.grown hg); have HG7 := Lib.hid (gtrans HG5.out hg); have HO7 := Lib.hid (HO5.out.grown hg); have z7 := ZC2.out _ HG7.out; clear hg)
              | go_in)
            go_roundw
            case rel => exact ⟨j + 1, by omega, by go_num, HO7.out, by rw [dyG_skip HPJ.out]; exact HT7.out, HG7.out⟩
            case measure => simp [intOf]; omega
        · have hji : ¬ (j : Int) < (n : Int) := by omega
          obtain rfl : n = j := by omega
          have hmany := many_die p n
          rw [HM.out] at hmany
          obtain ⟨q, hq⟩ : ∃ q, n - m = q := ⟨_, rfl⟩
          have hqi : (n : Int) - (m : Int) = (q : Int) := by omega
          have HQ := Lib.hid (hmany.trans hq)
          clear hmany hq RD
          go_wp2_with (first
            | (go_at_call 21; (with_reducible refine (dy_oldest _ b n n u 18446744073709551615 18446744073709551615 rfl f p HT5.out (Nat.le_refl _) HU.out).mono ?_); rintro r w9 ⟨rfl, rfl⟩)
            | (go_at_call 17; (with_reducible refine (dy_clear _ b n n m f p HT5.out (Nat.le_refl _) HM.out).mono ?_); rintro r w6 ⟨rfl, ht⟩; have HT6 := Lib.hid ht.1; have HG6 := Lib.hid (ht.grown HG5.out hbW); clear ht)
            | (go_at_call 17; (with_reducible refine (left_clear _ b n n f p HT6.out (Nat.le_refl _)).mono ?_); rintro r w7 ⟨rfl, ht⟩; have HT7 := Lib.hid ht.1; have HG7 := Lib.hid (ht.grown HG6.out hbW); clear ht)
            | (go_at_call 21; (with_reducible refine (left_oldest' _ b n n 18446744073709551615 18446744073709551615 rfl f p v HT7.out (Nat.le_refl _) HV.out).mono ?_); rintro r w9 ⟨rfl, rfl⟩)
            | (go_at_call 23; (with_reducible refine (left_live _ b n n f p q HT7.out (Nat.le_refl _) HQ.out).mono ?_); rintro r w9 ⟨rfl, rfl⟩)
            | go_in)
          go_ret
          exact ⟨by simp, gbelow HG7.out⟩

open Go.ChangeShapes Go.WideShapes Go.ChangeAt
set_option linter.unusedVariables false
set_option maxRecDepth 100000 in
theorem dying_lifted (os : Os) (started : os.Started) (H : Type) (enc : TypeId × Value → H) :
    ReturnsInHanded {} Try.checked os 7 .any (Rows.readersDyingSpec.pre6 enc Try.prog Try.f7 Rows.readersDyingRow.domain false) (Rows.readersDyingSpec.post enc Try.prog Try.f7 false true false false) := by
  refine returnsInHanded_of_change (C := Try.checked) ownKnob0 started (by kernel_rfl) Try.func7
    (ChangeSpec.witness6 (enc := enc) (C := Try.checked) false ⟨#[], #[.slice none 0 0, .slice none 0 0], []⟩ 8 (by kernel_rfl) (by kernel_rfl) (by kernel_rfl) (by kernel_rfl)) ?_
  intro W base args ds gs before hval0 hW hcnd _
  have hval : ∀ (j : Nat) t v, Try.f7.params[j]? = some t → args[j]? = some v → Value.okWide Try.prog W .any base t v := hval0
  have hW' := hW
  obtain ⟨p, q, hA0, hV, rfl, hfz, hnd⟩ := hW
  have hA : DataW.TrodAll enc Try.prog W 0 (fun _ => true) true Try.f7.params.toList args.toList ds p := hA0
  rw [Try.params7] at hA hval
  obtain ⟨v0, vs0, d0, ds0, p0, q0, hargs, rfl, rfl, h0, r0⟩ := trodAll_cons hA
  obtain ⟨v1, vs1, d1, ds1, p1, q1, rfl, rfl, rfl, h1, r1⟩ := trodAll_cons r0
  obtain ⟨rfl, rfl, rfl⟩ := trodAll_nil r1
  obtain rfl : args = #[v0, v1] := by cases args; simp_all
  obtain ⟨rfl, rfl⟩ := trodVars_none hV
  obtain ⟨a0, len0, cap0, rfl⟩ := okWide_slice Try.underlying58 (hval 0 58 v0 rfl rfl)
  have lt0 : ∀ x ∈ p0, x.block < W.heap.size := by obtain ⟨m, hm⟩ := h0; exact DataW.trod_lt m _ _ _ hm
  obtain ⟨z0, w0⟩ := open_u64s h0
  obtain ⟨a1, len1, cap1, rfl⟩ := okWide_slice Try.underlying60 (hval 1 60 v1 rfl rfl)
  have lt1 : ∀ x ∈ p1, x.block < W.heap.size := by obtain ⟨m, hm⟩ := h1; exact DataW.trod_lt m _ _ _ hm
  obtain ⟨z1, w1, y1⟩ := open_bytes h1
  clear hA0 hval0
  refine (dying_any W a0 len0 cap0 z0 a1 len1 cap1 z1 w0 w1 y1).mono fun e W' ⟨he, bel⟩ => ?_
  subst he
  exact ⟨_, rfl, _, _, _, [], _, [], hW', trodAll_mk1 (shut_bool Try.underlying4 _), (trodAll_cons_mk (Below.trod laidOut0 (by kernel_rfl) (of_decide_eq_true (by kernel_rfl)) h0 bel lt0) (trodAll_cons_mk (Below.trod laidOut0 (by kernel_rfl) (of_decide_eq_true (by kernel_rfl)) h1 bel lt1) trodAll_mk0)), rfl, bel.frame _, fun h => by cases h⟩

/-- ReadersDying, for every input. -/
theorem readersDying_holds : Rows.ReadersDyingSaid :=
  OpenClaim.holds_of_wide 7 Try.f7 rfl rfl rfl rfl rfl rfl rfl ⟨rfl, rfl, rfl, rfl, rfl⟩ rfl rfl rfl rfl rfl (by kernel_rfl) Try.func7 (by kernel_rfl)
    (of_decide_eq_true (by kernel_rfl)) (by unfold Func.isWrapper; first | (rw [if_pos (by decide +kernel)]; kernel_rfl) | (rw [if_neg (by decide +kernel)]; exact ⟨rfl, rfl⟩))
    (fun os started H enc _ => dying_lifted os started H enc)
#print axioms readersDying_holds

end Go.Proofs.Ytoaglkbobndmeaa
