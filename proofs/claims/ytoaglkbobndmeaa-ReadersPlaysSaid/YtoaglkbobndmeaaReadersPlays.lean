/-
  ReadersPlays: whoever begins, ends, is declared dead and cleared, what is told is the document's, step by step. Proved for every input, no condition.
-/
import Derived.Test.YtoaglkbobndmeaaRdX
namespace Go.Proofs.Ytoaglkbobndmeaa
open Go.RowKit

set_option maxRecDepth 1000000 in
set_option maxHeartbeats 8000000 in
theorem plays_bad (W : World) (N : Int) (hb : N < 1 ∨ 126 < N) (ao : Option Addr) (n c : Nat) :
    Calls Try.prog 3 #[.int .i64 N, .slice ao n c] W fun r w' => r = .returned (.bool true) ∧ Below W.heap.size W w' := by
  have HB := Lib.hid hb
  clear hb
  go_enter Try.func3, Try.ntmps3
  go_upto_block 0 with (first
    | (go_at_call 8; (with_reducible refine (awake9_any W).mono ?_); rintro r w1 ⟨rfl, hg⟩; have HG1 := Lib.hid hg; clear hg)
    | (go_at_call 9; (with_reducible refine (new9_bad w1 N HB.out).mono ?_); rintro r w2 ⟨rfl, rfl⟩)
    | (go_at_call 10; (with_reducible refine (rnew_bad w1 N HB.out).mono ?_); rintro r w3 ⟨rfl, rfl⟩)
    | go_in)
  go_cut [] from 293 (fun wx => W.grownBy wx none)
  case first =>
    go_wp2_with fail
    go_loopw [11] (fun i wr => i = .int .i64 0 ∧ W.grownBy wr none) (fun _ _ => 0)
    case atStart => exact ⟨rfl, HG1.out⟩
    case round =>
      obtain ⟨rfl, hg⟩ := hrel
      have HG := Lib.hid hg
      clear hg
      by_cases h0 : (0 : Int) < (n : Int)
      · go_wp2
        go_meet
        case rel => exact HG.out
      · go_wp2
        go_meet
        case rel => exact HG.out
  case rest =>
    have HG := Lib.hid hcut
    clear hcut
    go_wp2_with (first
      | (go_at_call 11; (with_reducible refine (begin_nil _ 1).mono ?_); rintro r w5 ⟨rfl, hg5⟩; have HG5 := Lib.hid (gtrans (gtrans HG.out hg5) (World.grownBy_alloc w5 (.cells #[.int .i64 0, .int .u64 0] 36) none)); clear hg5)
      | (go_at_call 19; have K : Calls Try.prog 19 #[.pointer none, .agg #[.int .i64 0, .int .u64 0]] _ _ := txn_nil (w5.alloc (.cells #[.int .i64 0, .int .u64 0] 36)) 0 0; (with_reducible refine K.mono ?_); clear K; rintro r w6 ⟨rfl, hg6⟩; have HG6 := Lib.hid (gtrans HG5.out hg6); clear hg6)
      | (go_at_call 13; have K : Calls Try.prog 13 #[.pointer none, .agg #[.int .i64 0, .int .u64 0]] _ _ := end9_nil w6 0 0; (with_reducible refine K.mono ?_); clear K; rintro r w7 ⟨rfl, hg7⟩; have HG7 := Lib.hid (gtrans HG6.out hg7); clear hg7)
      | (go_at_call 15; (with_reducible refine (dead_nil _ 0).mono ?_); rintro r w8 ⟨rfl, rfl⟩)
      | (go_at_call 17; (with_reducible refine (clear_nil _).mono ?_); rintro r w9 ⟨rfl, rfl⟩)
      | (go_at_call 23; (with_reducible refine (live_nil _).mono ?_); rintro r w10 ⟨rfl, rfl⟩)
      | (go_at_call 21; (with_reducible refine (oldest_nil _ 4).mono ?_); rintro r w11 ⟨rfl, rfl⟩)
      | go_in)
    go_ret
    exact ⟨rfl, gbelow HG7.out⟩


theorem plays_any (W : World) (N : Int) (ao : Option Addr) (n c : Nat) (acs : List A9) (_h1 : -9223372036854775808 ≤ N) (_h2 : N ≤ 9223372036854775807) (h : A9q W.heap.size W (.slice ao n c) acs) :
    Calls Try.prog 3 #[.int .i64 N, .slice ao n c] W fun r w' => r = .returned (.bool true) ∧ Below W.heap.size W w' := by
  by_cases hb : N < 1 ∨ 126 < N
  · exact plays_bad W N hb ao n c
  · obtain ⟨k, rfl⟩ : ∃ k : Nat, N = (k : Int) := ⟨N.toNat, by omega⟩
    exact plays_good W k (by omega) (by omega) ao n c acs h

open Go.ChangeShapes Go.WideShapes Go.ChangeAt
set_option linter.unusedVariables false
set_option maxRecDepth 100000 in
theorem plays_lifted (os : Os) (started : os.Started) (H : Type) (enc : TypeId × Value → H) :
    ReturnsInHanded {} Try.checked os 3 .any (Rows.readersPlaysSpec.pre6 enc Try.prog Try.f3 Rows.readersPlaysRow.domain false) (Rows.readersPlaysSpec.post enc Try.prog Try.f3 false true false false) := by
  refine returnsInHanded_of_change (C := Try.checked) ownKnob0 started (by kernel_rfl) Try.func3
    (ChangeSpec.witness6 (enc := enc) (C := Try.checked) false ⟨#[], #[.int .i64 0, .slice none 0 0], []⟩ 8 (by kernel_rfl) (by kernel_rfl) (by kernel_rfl) (by kernel_rfl)) ?_
  intro W base args ds gs before hval0 hW hcnd _
  have hval : ∀ (j : Nat) t v, Try.f3.params[j]? = some t → args[j]? = some v → Value.okWide Try.prog W .any base t v := hval0
  have hW' := hW
  obtain ⟨p, q, hA0, hV, rfl, hfz, hnd⟩ := hW
  have hA : DataW.TrodAll enc Try.prog W 0 (fun _ => true) true Try.f3.params.toList args.toList ds p := hA0
  rw [Try.params3] at hA hval
  obtain ⟨v0, vs0, d0, ds0, p0, q0, hargs, rfl, rfl, h0, r0⟩ := trodAll_cons hA
  obtain ⟨v1, vs1, d1, ds1, p1, q1, rfl, rfl, rfl, h1, r1⟩ := trodAll_cons r0
  obtain ⟨rfl, rfl, rfl⟩ := trodAll_nil r1
  obtain rfl : args = #[v0, v1] := by cases args; simp_all
  obtain ⟨rfl, rfl⟩ := trodVars_none hV
  obtain ⟨a0, rfl, rfl, rfl, w0⟩ := open_int Try.underlying3 (hval 0 3 v0 rfl rfl) h0
  have b0 := bounds_i64 w0
  obtain ⟨a1, len1, cap1, rfl⟩ := okWide_slice Try.underlying22 (hval 1 22 v1 rfl rfl)
  have lt1 : ∀ x ∈ p1, x.block < W.heap.size := by obtain ⟨m, hm⟩ := h1; exact DataW.trod_lt m _ _ _ hm
  obtain ⟨z1, w1⟩ := open_acts9 h1
  clear hA0 hval0
  refine (plays_any W a0 a1 len1 cap1 z1 b0.1 b0.2 w1).mono fun e W' ⟨he, bel⟩ => ?_
  subst he
  exact ⟨_, rfl, _, _, _, [], _, [], hW', trodAll_mk1 (shut_bool Try.underlying4 _), (trodAll_cons_mk (shut_int Try.underlying3 w0) (trodAll_cons_mk (Below.trod laidOut0 (by kernel_rfl) (of_decide_eq_true (by kernel_rfl)) h1 bel lt1) trodAll_mk0)), rfl, bel.frame _, fun h => by cases h⟩

/-- ReadersPlays, for every input. -/
theorem readersPlays_holds : Rows.ReadersPlaysSaid :=
  OpenClaim.holds_of_wide 3 Try.f3 rfl rfl rfl rfl rfl rfl rfl ⟨rfl, rfl, rfl, rfl, rfl⟩ rfl rfl rfl rfl rfl (by kernel_rfl) Try.func3 (by kernel_rfl)
    (of_decide_eq_true (by kernel_rfl)) (by unfold Func.isWrapper; first | (rw [if_pos (by decide +kernel)]; kernel_rfl) | (rw [if_neg (by decide +kernel)]; exact ⟨rfl, rfl⟩))
    (fun os started H enc _ => plays_lifted os started H enc)
#print axioms readersPlays_holds

end Go.Proofs.Ytoaglkbobndmeaa
