/-
  'LeafRoom' returns true for every input: entries that are right go into a page just if they fill no more than it has; each one more fills 2 and its cell more. No condition. Own work; the frame is the guide's.
-/
import Derived.Test.YtfencmidjolgfaaLawL
import Derived.Deep.LoopGhost
namespace Go.Proofs.Ytfencmidjolgfaa
open Go.RowKit

set_option maxRecDepth 100000 in
set_option maxHeartbeats 8000000 in
theorem room_any (w : World) (ao : Option Addr) (n c : Nat) (l : List En) (size : Int) (h : Raws w (.slice ao n c) l) (h0 : -9223372036854775808 ≤ size) (h9 : size ≤ 9223372036854775807) :
    Calls Try.prog 7 #[.slice ao n c, .int .i64 size] w fun r w' => r = .returned (.bool true) ∧ Below w.heap.size w w' := by
  have H := Lib.hid h
  clear h
  by_cases hf : FewP l
  · have HF := Lib.hid hf
    clear hf
    go_enter Try.func7, Try.ntmps7
    go_wp2_with (first
      | (go_at_call 14; refine (awake4_any _).mono ?_; rintro r wA ⟨rfl, hgA⟩; have HGA := Lib.hid hgA; clear hgA)
      | (go_at_call 15; refine (few_yes H.out (gbelow HGA.out) HF.out).mono ?_; rintro r w1 ⟨rfl, rfl⟩)
      | (go_at_call 16; refine (ents_s H.out (gbelow HGA.out) HF.out).mono ?_; rintro r w1 ⟨la, m, lc, rv, X, rfl, hm, hm30, hfi, hen, hrr, hg1⟩; obtain ⟨ra, rc, rfl⟩ := hrr.shape; have HM := Lib.hid hm; have HFI := Lib.hid hfi; have HEN := Lib.hid hen; have HG1 := Lib.hid (gtrans HGA.out hg1); clear hm hfi hen hrr hg1))
    go_loopg [9, 10] m (fun q s i wr => ∃ (k : Nat), k + q = m ∧ i = .int .i64 (k : Int) ∧ s = .int .i64 (fillK leafY X k) ∧ fillK leafY X k ≤ 4 + 200006 * k ∧ w1.grownBy wr none)
    case atStart => exact ⟨0, by omega, rfl, rfl, Nat.le_refl _, grefl _ _⟩
    case round =>
      obtain ⟨k, hkq, rfl, rfl, hfb, hgr⟩ := hrel
      have HGR := Lib.hid hgr
      clear hgr
      by_cases hlt : k < m
      · obtain ⟨q, rfl⟩ : ∃ q, gk = q + 1 := ⟨gk - 1, by omega⟩
        have hki : (k : Int) < (m : Int) := by omega
        obtain ⟨x, hx⟩ : ∃ x, X[k]? = some x := ⟨_, List.getElem?_eq_getElem (by have := HM.out; omega)⟩
        obtain ⟨b, o, rfl, hb, a1, c1, a2, c2, h1, h2, h3, q0, q1, q2, q3⟩ := (HEN.out.grown HGR.out (Nat.le_refl _)).at k x hx
        have HK := Lib.hid (lfillK_snoc hx)
        have hcl := cl_le h3
        have H3 := Lib.hid h3
        obtain ⟨z, hz⟩ : ∃ z, z = cl x := ⟨_, rfl⟩
        obtain ⟨s0, hs0⟩ : ∃ s0, s0 = fillK leafY X k := ⟨_, rfl⟩
        obtain ⟨s1, hs1⟩ : ∃ s1, s1 = fillK leafY X (k + 1) := ⟨_, rfl⟩
        rw [← hz] at hcl
        rw [← hs0] at hfb ⊢
        have hs01 : s1 = s0 + (2 + z) := by rw [hs1, hs0, hz]; exact HK.out
        have HFT := Lib.hid (show fillL leafY (X.take (k + 1)) = s1 by rw [fillL_take _ _ (by have := HM.out; omega), hs1])
        have hsi : (s0 : Int) + (2 + (z : Int)) = (s1 : Int) := by omega
        have HSI := Lib.hid hsi
        have hsb : s1 ≤ 4 + 200006 * (k + 1) := by omega
        have HZ := Lib.hid hz
        have HS1 := Lib.hid hs1
        have hcap : k + 1 ≤ lc := by
          obtain ⟨_, _, hv, hc, _⟩ := HEN.out
          injection hv with _ e1 e2
          have := HM.out
          omega
        have hcapi : (k : Int) + 1 ≤ (lc : Int) := by omega
        have hlen : ¬ (lc : Int) < (k : Int) + 1 := by omega
        clear h1 h2 h3 hx hz hs0 hs1 hs01
        go_wp2_with (go_at_call 23; refine (cell_any _ a1 a2 c1 c2 x H3.out).mono ?_; rintro r w2 ⟨rfl, rfl⟩; rw [← HZ.out])
        have hg2 := two_grown wr (.cells (ecs (.slice a1 x.key.length c1) (.slice a2 x.val.length c2) x.long x.first) 43) (.cells (ecs (.slice a1 x.key.length c1) (.slice a2 x.val.length c2) x.long x.first) 43)
        have HG2 := Lib.hid (gtrans HGR.out hg2)
        have HET := Lib.hid ((HEN.out.take (k + 1) (by have := HM.out; omega)).grown HG2.out (Nat.le_refl _))
        clear hg2 q0 q1 q2 q3
        generalize ((wr.alloc (.cells (ecs (.slice a1 x.key.length c1) (.slice a2 x.val.length c2) x.long x.first) 43)).alloc (.cells (ecs (.slice a1 x.key.length c1) (.slice a2 x.val.length c2) x.long x.first) 43)) = w2 at *
        have KF := Lib.hid (fill_any w2 w1.heap.size _ (k + 1) lc (X.take (k + 1)) HET.out HG2.out.size)
        rw [HFT.out] at KF
        go_wp2_with (go_at_call 21; refine KF.out.mono ?_; rintro r w3 ⟨rfl, hg3⟩; have HG3 := Lib.hid (gtrans HG2.out hg3); clear hg3)
        go_roundg q
        case measure => omega
        case rel => exact ⟨k + 1, by omega, by go_num, by rw [HS1.out], by rw [← HS1.out]; exact hsb, HG3.out⟩
      · obtain rfl : k = m := by omega
        obtain ⟨F, hF⟩ : ∃ F, F = fillK leafY X k := ⟨_, rfl⟩
        rw [← hF] at hfb ⊢
        have HFL := Lib.hid (show fillL leafY X = F by rw [hF, HM.out]; rfl)
        have HEN2 := Lib.hid (HEN.out.grown HGR.out (Nat.le_refl _))
        have hsz := HGR.out.size
        clear hF
        by_cases hr : RightP X size
        · obtain ⟨S, rfl⟩ : ∃ S : Nat, size = (S : Int) := ⟨size.toNat, by have := hr.1; omega⟩
          have HR := Lib.hid hr
          clear hr
          by_cases hle : F ≤ S
          · have hle1 : (F : Int) ≤ (S : Int) := by omega
            have KP := Lib.hid (fun W (hw : w1.grownBy W none) => put_ok W w1.heap.size la k lc X S (HEN.out.grown hw (Nat.le_refl _)) hw.size HR.out (by rw [HFL.out]; exact hle))
            go_wp2_with (first
              | (go_at_call 19; refine (right_yes HEN2.out hsz HR.out).mono ?_; rintro r w2 ⟨rfl, hg2⟩; have HG2 := Lib.hid (gtrans HGR.out hg2); clear hg2)
              | (go_at_call 17; refine (KP.out _ HG2.out).mono ?_; rintro r w3 ⟨b, rfl, _, _, hg3⟩; have HG3 := Lib.hid (gtrans HG2.out hg3); clear hg3)
              | (go_at_call 21; have KF := fill_any w3 w1.heap.size la k lc X (HEN.out.grown HG3.out (Nat.le_refl _)) HG3.out.size; rw [HFL.out] at KF; refine KF.mono ?_; clear KF; rintro r w4 ⟨rfl, hg4⟩; have HG4 := Lib.hid (gtrans HG3.out hg4); clear hg4))
            go_ret
            exact ⟨by simp [hle1], gbelow (gtrans HG1.out HG4.out)⟩
          · have hle1 : ¬ (F : Int) ≤ (S : Int) := by omega
            have hlt1 : (S : Int) < (fillL leafY X : Int) := by rw [HFL.out]; omega
            have KP := Lib.hid (fun W (hw : w1.grownBy W none) => put_full W w1.heap.size la k lc X S (HEN.out.grown hw (Nat.le_refl _)) hw.size HR.out hlt1)
            clear hlt1 hle
            go_wp2_with (first
              | (go_at_call 19; refine (right_yes HEN2.out hsz HR.out).mono ?_; rintro r w2 ⟨rfl, hg2⟩; have HG2 := Lib.hid (gtrans HGR.out hg2); clear hg2)
              | (go_at_call 17; refine (KP.out _ HG2.out).mono ?_; rintro r w3 ⟨rfl, hg3⟩; have HG3 := Lib.hid (gtrans HG2.out hg3); clear hg3)
              | (go_at_call 21; have KF := fill_any w3 w1.heap.size la k lc X (HEN.out.grown HG3.out (Nat.le_refl _)) HG3.out.size; rw [HFL.out] at KF; refine KF.mono ?_; clear KF; rintro r w4 ⟨rfl, hg4⟩; have HG4 := Lib.hid (gtrans HG3.out hg4); clear hg4))
            go_ret
            exact ⟨by simp [hle1]; omega, gbelow (gtrans HG1.out HG4.out)⟩
        · have HR := Lib.hid hr
          clear hr
          go_wp2_with (go_at_call 19; refine (right_no HEN2.out hsz HR.out).mono ?_; rintro r w2 ⟨rfl, hg2⟩; have HG2 := Lib.hid (gtrans HGR.out hg2); clear hg2)
          go_ret
          exact ⟨rfl, gbelow (gtrans HG1.out HG2.out)⟩
  · have HF := Lib.hid hf
    clear hf
    go_enter Try.func7, Try.ntmps7
    go_wp2_with (first
      | (go_at_call 14; refine (awake4_any _).mono ?_; rintro r wA ⟨rfl, hgA⟩; have HGA := Lib.hid hgA; clear hgA)
      | (go_at_call 15; refine (few_no H.out (gbelow HGA.out) HF.out).mono ?_; rintro r w1 ⟨rfl, rfl⟩))
    go_ret
    exact ⟨rfl, gbelow HGA.out⟩

open Go.ChangeShapes Go.WideShapes Go.ChangeAt
set_option linter.unusedVariables false
set_option maxRecDepth 100000 in
theorem room_lifted (os : Os) (started : os.Started) (H : Type) (enc : TypeId × Value → H) :
    ReturnsInHanded {} Try.checked os 7 .any (Rows.leafRoomSpec.pre6 enc Try.prog Try.f7 Rows.leafRoomRow.domain false) (Rows.leafRoomSpec.post enc Try.prog Try.f7 false true false false) := by
  refine returnsInHanded_of_change (C := Try.checked) ownKnob0 started (by kernel_rfl) Try.func7
    (ChangeSpec.witness6 (enc := enc) (C := Try.checked) false ⟨#[], #[.slice none 0 0, .int .i64 0], []⟩ 8 (by kernel_rfl) (by kernel_rfl) (by kernel_rfl) (by kernel_rfl)) ?_
  intro W base args ds gs before hval0 hW hcnd _
  have hval : ∀ (j : Nat) t v, Try.f7.params[j]? = some t → args[j]? = some v → Value.okWide Try.prog W .any base t v := hval0
  have hW' := hW
  obtain ⟨p, q, hA0, hV, rfl, hfz, hnd⟩ := hW
  have hA : DataW.TrodAll enc Try.prog W 0 (fun _ => true) true Try.f7.params.toList args.toList ds p := hA0
  rw [Try.params7] at hA hval
  obtain ⟨v0, vs0, d0, ds0, p0, q0, hargs, rfl, rfl, h0, r0⟩ := trodAll_cons hA
  obtain ⟨v1, vs1, d1, ds1, p1, q1, rfl, rfl, rfl, h1, r1⟩ := trodAll_cons r0
  obtain ⟨rfl, rfl, rfl⟩ := trodAll_nil r1
  obtain rfl : args = #[v0, v1] := by cases args; simp_all
  obtain ⟨rfl, rfl⟩ := trodVars_none hV
  obtain ⟨a0, len0, cap0, rfl⟩ := okWide_slice Try.underlying22 (hval 0 22 v0 rfl rfl)
  have lt0 : ∀ x ∈ p0, x.block < W.heap.size := by obtain ⟨m, hm⟩ := h0; exact DataW.trod_lt m _ _ _ hm
  obtain ⟨z0, w0⟩ := open_raws h0
  obtain ⟨a1, rfl, rfl, rfl, w1⟩ := open_int Try.underlying3 (hval 1 3 v1 rfl rfl) h1
  have b1 := bounds_i64 w1
  clear hA0 hval0
  refine (room_any W a0 len0 cap0 z0 a1 w0 b1.1 b1.2).mono fun e W' ⟨he, bel⟩ => ?_
  subst he
  exact ⟨_, rfl, _, _, _, [], _, [], hW', trodAll_mk1 (shut_bool Try.underlying4 _), (trodAll_cons_mk (Below.trod laidOut0 (by kernel_rfl) (of_decide_eq_true (by kernel_rfl)) h0 bel lt0) (trodAll_cons_mk (shut_int Try.underlying3 w1) trodAll_mk0)), rfl, bel.frame _, fun h => by cases h⟩

/-- LeafRoom, for every input. -/
theorem leafRoom_holds : Rows.LeafRoomSaid :=
  OpenClaim.holds_of_wide 7 Try.f7 rfl rfl rfl rfl rfl rfl rfl ⟨rfl, rfl, rfl, rfl, rfl⟩ rfl rfl rfl rfl rfl (by kernel_rfl) Try.func7 (by kernel_rfl)
    (of_decide_eq_true (by kernel_rfl)) (by unfold Func.isWrapper; first | (rw [if_pos (by decide +kernel)]; kernel_rfl) | (rw [if_neg (by decide +kernel)]; exact ⟨rfl, rfl⟩))
    (fun os started H enc _ => room_lifted os started H enc)
#print axioms leafRoom_holds

end Go.Proofs.Ytfencmidjolgfaa
