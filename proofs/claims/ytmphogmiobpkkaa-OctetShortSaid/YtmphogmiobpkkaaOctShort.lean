/-
  OctetShort holds: for every number and every count the law returns true, and its arguments read as they did. No condition beyond the row's own. Own work; the frame is the guide's.
-/
import Derived.Test.YtmphogmiobpkkaaOctI
import Derived.Test.YtmphogmiobpkkaaOctX
import Derived.ProofKit
import Derived.OpenShut
import Derived.ShutString
import Derived.ChangeOld
namespace Go.Proofs.Ytmphogmiobpkkaa
open Go.RowKit

theorem seq_own {base n : Nat} {w : World} {v : Value} {bs : List Int} (h : w.ownsRow base 5 1 v n (bs.map (Value.int .u8))) : n = bs.length ∧ Seq w.heap.size w v bs := by
  have hn : n = bs.length := by have := h.1; simp at this; omega
  subst hn
  exact ⟨rfl, Seq.owned h⟩

set_option maxHeartbeats 2000000 in
theorem short_any (x m : Int) (w : World) (hx0 : 0 ≤ x) (hx1 : x ≤ 18446744073709551615) (hm0 : 0 ≤ m) (hm1 : m ≤ 255) :
    Calls Try.prog 5 #[.int .u64 x, .int .u8 m] w fun r w' => r = .returned (.bool true) ∧ Below w.heap.size w w' := by
  obtain ⟨i0, hi, hz0, hz1, hz2⟩ := info_parts infoU8
  obtain ⟨X, rfl⟩ := Int.eq_ofNat_of_zero_le hx0
  have hXb : X < 18446744073709551616 := by omega
  have HX := Lib.hid hXb
  obtain ⟨L, hL⟩ : ∃ L, vlen X = L := ⟨_, rfl⟩
  have hL10 : L ≤ 10 := by rw [← hL]; exact vlen_le X (by omega)
  have hL1 : 1 ≤ L := by rw [← hL]; exact vlen_pos X
  have HLV := Lib.hid (show (varB X).length = L by rw [varB_len, hL])
  have HL := Lib.hid hL
  clear hL
  go_enter Try.func5, Try.ntmps5
  go_wp2_with (first
    | (go_at_call 8; refine (awake_any _).mono ?_; rintro r wA ⟨rfl, hgA⟩)
    | (go_at_call 9; refine (newW_any _).mono ?_; rintro r w1 ⟨rfl, hw1, hg1⟩)
    | (go_at_call 12; refine (wvar_any _ _ (X : Int) _ hw1 (by omega) (by omega) (by simp)).mono ?_; rintro r w2 ⟨rfl, hw2, hf2⟩; have hb2 := hf2.below hw1)
    | (go_at_call 17; refine (out_len (bs := varB X) (by simpa using hw2) HLV.out (by omega)).mono ?_; rintro r w3 ⟨ao, c, rfl, ho3, hs3, hg3⟩))
  have hsA := hgA.size
  have hs1 := hg1.size
  have hs2 := hb2.size
  have HG := Lib.hid (show Below w.heap.size w w3 from (gbelow hgA).trans (((gbelow hg1).mono hsA).trans ((hb2.mono hsA).trans ((gbelow hg3).mono (by omega)))))
  have HZ := Lib.hid (show w.heap.size ≤ w3.heap.size by have := hg3.size; omega)
  have HS := Lib.hid hs3
  obtain ⟨ao', c', hv, q1, q2, q3, q4⟩ := hs3
  rw [HLV.out] at hv q1
  obtain ⟨b, o, rfl, hbB, _⟩ := q4 (by intro h; have := congrArg List.length h; rw [HLV.out] at this; simp at this; omega)
  injection hv with hv1 hv2 hv3
  subst hv1; subst hv3
  clear hgA hg1 hw1 hw2 hf2 hb2 ho3 hg3 hsA hs1 hs2 hXb q3 q4 hv2
  unfold maxLen at q2
  go_loop [8, 9] (fun n y => ∃ N Y : Nat, n = .int .i64 N ∧ y = .int .u64 Y ∧ Y ≤ 18446744073709551615 ∧ N + (if Y = 0 then 0 else vlen Y) = L) (fun _ y => (intOf y).toNat)
  case atStart =>
    refine ⟨1, X / 128, rfl, rfl, by omega, ?_⟩
    rw [← HL.out]
    rcases Nat.lt_or_ge X 128 with h | h
    · rw [if_pos (by omega), vlen_small h]
    · rw [if_neg (by omega), vlen_big h]
  case round =>
    obtain ⟨N, Y, rfl, rfl, hYb, hN⟩ := hrel
    by_cases hY : 0 < Y
    · have hstep : N + 1 + (if Y / 128 = 0 then 0 else vlen (Y / 128)) = L := by
        rw [if_neg (by omega)] at hN
        rcases Nat.lt_or_ge Y 128 with h | h
        · rw [if_pos (by omega)]; rw [vlen_small h] at hN; omega
        · rw [if_neg (by omega)]; rw [vlen_big h] at hN; omega
      have hNb : N ≤ 10 := by omega
      have HN := Lib.hid hstep
      clear hstep hN
      go_wp2
      go_round
      case rel => exact ⟨N + 1, Y / 128, by go_num, by go_num, by omega, HN.out⟩
      case measure => simp [intOf]; omega
    · obtain rfl : Y = 0 := by omega
      rw [if_pos rfl, Nat.add_zero] at hN
      subst hN
      obtain ⟨M, hM⟩ : ∃ M : Nat, (M : Int) = m % 12 + 1 := ⟨(m % 12 + 1).toNat, by omega⟩
      have hM1 : 1 ≤ M := by omega
      have hM12 : M ≤ 12 := by omega
      go_wp2
      go_loopw [10, 11] (fun v i wr => ∃ k : Nat, k ≤ M ∧ i = .int .i64 k ∧ wr.ownsRow w3.heap.size 5 1 v k (List.replicate k (.int .u8 128)) ∧ Below w3.heap.size w3 wr) (fun _ i _ => M - (intOf i).toNat)
      case atStart => exact ⟨0, Nat.zero_le _, rfl, World.ownsRow_nil _ _ _ _, Below.refl _ _⟩
      case round =>
        obtain ⟨k, hk, rfl, hown, hbl⟩ := hrel
        obtain ⟨a1, c1, rfl⟩ := own_shape hown
        by_cases hlt : k < M
        · have hlt' : (k : Int) < m % 12 + 1 := by omega
          have HB := Lib.hid hbl
          have hz := hbl.size
          clear hbl hM
          go_wp2_with (at_builtin; refine wpList_append_own _ rfl (.tmp 39) (.tmp 40) 27 rfl w3.heap.size 5 i0 (.int .u8 0) 1 1 Try.underlying27 hi hz0 hz1 hz2 rfl (by decide) _ _ _ rfl (hown.alloc _) ⟨wr.heap.size, 0, none⟩ 1 1 [.int .u8 128] rfl rfl (cell_one_new _ _ _) (one_cell _ rfl) (by unfold maxLen; omega) (by omega) (by simp; omega) ?_)
          intro v' w' hown' hgrow _
          have R := Lib.hid (show w'.ownsRow w3.heap.size 5 1 v' (k + 1) (List.replicate (k + 1) (.int .u8 128)) ∧ Below w3.heap.size w3 w' from
            ⟨by rw [List.replicate_succ']; exact hown', (HB.out.alloc hz _).grown hgrow (by simp; omega) (fun j hj => (hown.lt j hj).1)⟩)
          obtain ⟨a2, c2, rfl⟩ := own_shape hown'
          clear hown hown' hgrow
          go_wp2
          go_roundw
          case rel => exact ⟨k + 1, by omega, by go_num, R.out.1, R.out.2⟩
          case measure => simp [intOf]; omega
        · obtain rfl : k = M := by omega
          have hge : ¬ ((k : Int) < m % 12 + 1) := by omega
          have HB := Lib.hid hbl
          have hz := hbl.size
          obtain ⟨-, hcb⟩ := (HS.out.below hbl.block).cells
          clear hbl hM
          go_wp2_with (at_builtin; refine wpList_append_own _ rfl (.tmp 42) (.tmp 43) 27 rfl w3.heap.size 5 i0 (.int .u8 0) 1 1 Try.underlying27 hi hz0 hz1 hz2 rfl (by decide) _ _ _ rfl hown ⟨b, o, none⟩ N c ((varB X).map (Value.int .u8)) rfl (by rw [List.length_map, HLV.out, Nat.mul_one]) ?d1 bcell1 ?d3 ?d4 ?d5 ?_)
          case d1 => exact fun j y h => by have := hcb j y h; rwa [show (⟨b, o, none⟩ : Addr).add j = ⟨b, o + j, none⟩ by unfold Addr.add; split <;> simp_all] at this
          case d3 => unfold maxLen; omega
          case d4 => omega
          · intro v' w4 hown' hgrow _
            have e0 : List.replicate k (Value.int .u8 128) ++ (varB X).map (Value.int .u8) = (List.replicate k (128 : Int) ++ varB X).map (Value.int .u8) := by simp
            rw [e0] at hown'
            obtain ⟨a2, c2, rfl⟩ := own_shape hown'
            obtain ⟨hlb, hs4⟩ := seq_own hown'
            have HB4 := Lib.hid (HB.out.grown hgrow hz (fun j hj => (hown.lt j hj).1))
            have HLB := Lib.hid (show (List.replicate k (128 : Int) ++ varB X).length ≤ 140737488355328 by omega)
            have HV1 := Lib.hid (vx_longer X k HX.out hM1)
            have HV2 := Lib.hid (vx_cut X HX.out)
            have HBY := Lib.hid (show Byt (List.replicate k (128 : Int) ++ varB X) from Byt.app (fun y hy => by have := List.eq_of_mem_replicate hy; omega) (varB_byt X))
            have HBH := Lib.hid (show Byt (hiB X) from fun y hy => by have := hiB_high X y hy; omega)
            have HLH := Lib.hid (show (hiB X).length ≤ 140737488355328 by have := hiB_short X HX.out; omega)
            have HP := Lib.hid (show ∀ w', Below w3.heap.size w3 w' → Seq w3.heap.size w' (.slice (some ⟨b, o, none⟩) (N - 1) c) (hiB X) from fun w' hb => by
              have := (HS.out.below hb.block).pre (N - 1) (by rw [HLV.out]; omega)
              rwa [← HL.out, varB_pred, HL.out] at this)
            have hz4 := HB4.out.size
            generalize List.replicate k (128 : Int) ++ varB X = LB at *
            clear hown hown' hgrow hcb e0 hlb hbB q2 hz hY hYb
            go_wp2_with (first
              | (go_at_call 18; ((with_reducible refine (newR_any w4 _ _ LB hs4 (Nat.le_refl _) HLB.out).mono ?_); rintro r w5 ⟨g1, rfl, hg1, hr5, hgr5⟩; have hz5 := hr5.lt; clear hs4))
              | (go_at_call 18; have K := newR_new w5 _ _ (hiB X) (HP.out w5 (HB4.out.trans ((gbelow hgr5).mono hz4))) (by have := hgr5.size; omega) HLH.out; ((with_reducible refine K.mono ?_); clear K; rintro r w6 ⟨g2, rfl, hg2, hr6, hgr6⟩))
              | (go_at_call 19; have K := rvar_at (hr5.kept (w' := w6) (fun i hi => hgr6.block i (by omega) (by simp))) HV1.out HBY.out HLB.out; ((with_reducible refine K.mono ?_); clear K; rintro r w7 ⟨rfl, hr7, hgr7⟩))
              | (go_at_call 23; ((with_reducible refine (err_any w7 g1 _ _ hr7).mono ?_); rintro r w8 ⟨rfl, rfl⟩))
              | (go_at_call 19; have K := rvar_at (hr6.kept (w' := w7) (fun i h1 h2 => hgr7.block i (by have := hr6.rd.lt; omega) (by intro e; injection e with e; omega)) hg2).rd HV2.out HBH.out HLH.out; ((with_reducible refine K.mono ?_); clear K; rintro r w9 ⟨rfl, hr9, hgr9⟩))
              | (go_at_call 23; ((with_reducible refine (err_any w9 g2 _ _ hr9).mono ?_); rintro r w10 ⟨rfl, rfl⟩)))
            go_ret
            have z5 := hgr5.size
            have z6 := hgr6.size
            have z7 := hgr7.size
            have hz0 := HZ.out
            exact ⟨rfl, ((((HG.out.trans (HB4.out.mono hz0)).grown hgr5 (by omega) (by simp)).grown hgr6 (by omega) (by simp)).grown hgr7 (by omega) (by intro j e; injection e with e; omega)).grown hgr9 (by omega) (by intro j e; injection e with e; omega)⟩

theorem ownKnob0 : ownKnob Try.prog.godebug = none := by kernel_rfl
theorem laidOut0 : laidOutB Try.prog = true := by kernel_rfl

open Go.ChangeShapes Go.WideShapes Go.ChangeAt
set_option linter.unusedVariables false
set_option maxRecDepth 100000 in
theorem short_lifted (os : Os) (started : os.Started) (H : Type) (enc : TypeId × Value → H) :
    ReturnsInHanded {} Try.checked os 5 .any (Rows.octetShortSpec.pre6 enc Try.prog Try.f5 Rows.octetShortRow.domain false) (Rows.octetShortSpec.post enc Try.prog Try.f5 false true false false) := by
  refine returnsInHanded_of_change (C := Try.checked) ownKnob0 started (by kernel_rfl) Try.func5
    (ChangeSpec.witness6 (enc := enc) (C := Try.checked) false ⟨#[], #[.int .u64 0, .int .u8 0], []⟩ 8 (by kernel_rfl) (by kernel_rfl) (by kernel_rfl) (by kernel_rfl)) ?_
  intro W base args ds gs before hval0 hW hcnd _
  have hval : ∀ (j : Nat) t v, Try.f5.params[j]? = some t → args[j]? = some v → Value.okWide Try.prog W .any base t v := hval0
  have hW' := hW
  obtain ⟨p, q, hA0, hV, rfl, hfz, hnd⟩ := hW
  have hA : DataW.TrodAll enc Try.prog W 0 (fun _ => true) true Try.f5.params.toList args.toList ds p := hA0
  rw [Try.params5] at hA hval
  obtain ⟨v0, vs0, d0, ds0, p0, q0, hargs, rfl, rfl, h0, r0⟩ := trodAll_cons hA
  obtain ⟨v1, vs1, d1, ds1, p1, q1, rfl, rfl, rfl, h1, r1⟩ := trodAll_cons r0
  obtain ⟨rfl, rfl, rfl⟩ := trodAll_nil r1
  obtain rfl : args = #[v0, v1] := by cases args; simp_all
  obtain ⟨rfl, rfl⟩ := trodVars_none hV
  obtain ⟨a0, rfl, rfl, rfl, w0⟩ := open_int Try.underlying26 (hval 0 26 v0 rfl rfl) h0
  obtain ⟨a1, rfl, rfl, rfl, w1⟩ := open_int Try.underlying5 (hval 1 5 v1 rfl rfl) h1
  clear hA0 hval0
  have b0 := bounds_u64 w0
  have b1 := bounds_u8 w1
  refine (short_any a0 a1 W b0.1 b0.2 b1.1 b1.2).mono fun e W' ⟨he, bel⟩ => ?_
  subst he
  exact ⟨_, rfl, _, _, _, [], _, [], hW', trodAll_mk1 (shut_bool Try.underlying4 _), (trodAll_cons_mk (shut_int Try.underlying26 w0) (trodAll_cons_mk (shut_int Try.underlying5 w1) trodAll_mk0)), rfl, bel.frame _, fun h => by cases h⟩

/-- OctetShort, for every input. -/
theorem octetShort_holds : Rows.OctetShortSaid :=
  OpenClaim.holds_of_wide 5 Try.f5 rfl rfl rfl rfl rfl rfl rfl ⟨rfl, rfl, rfl, rfl, rfl⟩ rfl rfl rfl rfl rfl (by kernel_rfl) Try.func5 (by kernel_rfl)
    (of_decide_eq_true (by kernel_rfl)) (by unfold Func.isWrapper; first | (rw [if_pos (by decide +kernel)]; kernel_rfl) | (rw [if_neg (by decide +kernel)]; exact ⟨rfl, rfl⟩))
    (fun os started H enc _ => short_lifted os started H enc)
#print axioms octetShort_holds

end Go.Proofs.Ytmphogmiobpkkaa
