/-
  CrcOf holds: for any row of bytes and any place to cut it at the law returns true, and its arguments read as they did. No condition beyond the row's own. Own work; the frame is the guide's.
-/
import Derived.Test.YtjcaeadeogdppaaCrcC
import Derived.Test.YtjcaeadeogdppaaCrcR
import Derived.Deep.RegionHeld3
namespace Go.Proofs.Ytjcaeadeogdppaa
open Go.RowKit

set_option maxHeartbeats 1000000 in
theorem law_any (w : World) (ao : Option Addr) (n c : Nat) (bs : List Int) (t : Int) (hs : Seq w.heap.size w (.slice ao n c) bs) (hb : Byt bs) (ht0 : 0 ≤ t) (ht1 : t ≤ 65535) :
    Calls Try.prog 3 #[.slice ao n c, .int .u16 t] w fun r w' => r = .returned (.bool true) ∧ Below w.heap.size w w' := by
  have hn : n = bs.length := by obtain ⟨_, _, hv, _⟩ := hs; injection hv
  have hcc : n ≤ c ∧ c ≤ maxLen := by obtain ⟨_, _, hv, h1, h2, _⟩ := hs; cases hv; exact ⟨by omega, h2⟩
  have hc1 := hcc.1
  have hc2 : c ≤ 9223372036854775807 := hcc.2
  clear hcc
  have HL := Lib.hid hn
  clear hn
  by_cases hb1 : 500 < n
  · clear hs
    go_enter Try.func3, Try.ntmps3
    go_wp2_with (go_at_call 8; refine (awake_any _).mono ?_; rintro r wA ⟨rfl, hgA⟩)
    go_ret
    exact ⟨rfl, gbelow hgA⟩
  · obtain ⟨K, hK⟩ : ∃ K : Nat, t % ((n : Int) + 1) = K := ⟨(t % ((n : Int) + 1)).toNat, by have := Int.emod_nonneg t (show (n : Int) + 1 ≠ 0 by omega); omega⟩
    have hKn : K ≤ n := by have := Int.emod_lt_of_pos t (show 0 < (n : Int) + 1 by omega); omega
    have HS := Lib.hid hs
    have HB := Lib.hid hb
    obtain ⟨x, hx⟩ : ∃ x, x = crcN bs := ⟨_, rfl⟩
    have HX := Lib.hid hx
    obtain ⟨S, hS⟩ : ∃ S, S = strOfNums bs := ⟨_, rfl⟩
    have hsz : S.size ≤ 500 := by rw [hS, strOfNums_size, ← HL.out]; omega
    have HStr := Lib.hid hS
    clear hs hb hx hS
    go_enter Try.func3, Try.ntmps3
    go_wp2_with (first
      | (go_at_call 8; refine (awake_any _).mono ?_; rintro r wA ⟨rfl, hgA⟩; have HS1 := Lib.hid (HS.out.grown hgA); have cS := seq_string HS1.out; rw [← HStr.out] at cS)
      | (go_at_call 9; have K := ref_any wA bs HB.out (by rw [← HL.out]; omega); rw [← HStr.out] at K; ((with_reducible refine K.mono ?_); clear K; rintro r wB ⟨rfl, rfl⟩; rw [← HX.out])))
    have hKc : K ≤ c := by omega
    obtain ⟨A, hA⟩ : ∃ A, (if c = K then ao else ao.map (·.add K)) = A := ⟨_, rfl⟩
    have HA := Lib.hid hA
    have HS2 : Hid (Seq wA.drew.heap.size wA.drew (.slice ao n c) bs) := Lib.hid (show Seq wA.heap.size wA.drew (.slice ao n c) bs from HS1.out.below (fun i hi => rfl))
    go_region_held3 (fun _ => True) (trivial) (first
      | (go_at_call 10; rw [drew_alloc]; have K := of1 (w := wA.drew) (t := 22) (q := wA.heap.size) rfl HS2.out HB.out; ((with_reducible refine K.mono ?_); clear K; rintro r wC ⟨rfl, hgC⟩; rw [← HX.out]; have HSC := Lib.hid (HS2.out.grown hgC)))
      | (go_at_call 10; have HP := HSC.out.post hKn; rw [HA.out] at HP; have K2 := of2 (w := wC) (t := 22) (q := wC.heap.size) rfl (HSC.out.pre K (by rw [← HL.out]; exact hKn)) HP (Byt.take HB.out K) (Byt.drop HB.out K); rw [List.take_append_drop] at K2; clear HP; ((with_reducible refine K2.mono ?_); clear K2; rintro r wD ⟨rfl, hgD⟩; rw [← HX.out])))
    go_wp2
    go_ret
    exact ⟨rfl, gbelow (gtrans hgA (gtrans (gdrew _) (gtrans hgC hgD)))⟩

open Go.ChangeShapes Go.WideShapes Go.ChangeAt
set_option linter.unusedVariables false
set_option maxRecDepth 100000 in
theorem law_lifted (os : Os) (started : os.Started) (H : Type) (enc : TypeId × Value → H) :
    ReturnsInHanded {} Try.checked os 3 .any (Rows.crcOfSpec.pre6 enc Try.prog Try.f3 Rows.crcOfRow.domain false) (Rows.crcOfSpec.post enc Try.prog Try.f3 false true false false) := by
  refine returnsInHanded_of_change (C := Try.checked) ownKnob0 started (by kernel_rfl) Try.func3
    (ChangeSpec.witness6 (enc := enc) (C := Try.checked) false ⟨#[], #[.slice none 0 0, .int .u16 0], []⟩ 8 (by kernel_rfl) (by kernel_rfl) (by kernel_rfl) (by kernel_rfl)) ?_
  intro W base args ds gs before hval0 hW hcnd _
  have hval : ∀ (j : Nat) t v, Try.f3.params[j]? = some t → args[j]? = some v → Value.okWide Try.prog W .any base t v := hval0
  have hW' := hW
  obtain ⟨p, q, hA0, hV, rfl, hfz, hnd⟩ := hW
  have hA : DataW.TrodAll enc Try.prog W 0 (fun _ => true) true Try.f3.params.toList args.toList ds p := hA0
  rw [Try.params3] at hA hval
  obtain ⟨v0, vs0, d0, ds0, p0, q0, hargs, rfl, rfl, h0, r0⟩ := trodAll_cons hA
  obtain ⟨v1, vs1, d1, ds1, p1, q1, rfl, rfl, rfl, h1, r1⟩ := trodAll_cons r0
  obtain ⟨rfl, rfl, rfl⟩ := trodAll_nil r1
  obtain rfl : args = #[v0, v1] := by cases args; simp_all
  obtain ⟨rfl, rfl⟩ := trodVars_none hV
  obtain ⟨a0, len0, cap0, rfl⟩ := okWide_slice Try.underlying22 (hval 0 22 v0 rfl rfl)
  have lt0 : ∀ x ∈ p0, x.block < W.heap.size := by obtain ⟨m, hm⟩ := h0; exact DataW.trod_lt m _ _ _ hm
  obtain ⟨z0, w0, y0⟩ := open_bytes h0
  obtain ⟨a1, rfl, rfl, rfl, w1⟩ := open_int Try.underlying23 (hval 1 23 v1 rfl rfl) h1
  clear hA0 hval0
  have b1 := bounds_u16 w1
  refine (law_any W a0 len0 cap0 z0 a1 w0 y0 b1.1 b1.2).mono fun e W' ⟨he, bel⟩ => ?_
  subst he
  exact ⟨_, rfl, _, _, _, [], _, [], hW', trodAll_mk1 (shut_bool Try.underlying4 _), (trodAll_cons_mk (Below.trod laidOut0 (by kernel_rfl) (of_decide_eq_true (by kernel_rfl)) h0 bel lt0) (trodAll_cons_mk (shut_int Try.underlying23 w1) trodAll_mk0)), rfl, bel.frame _, fun h => by cases h⟩

/-- CrcOf, for every input. -/
theorem crcOf_holds : Rows.CrcOfSaid :=
  OpenClaim.holds_of_wide 3 Try.f3 rfl rfl rfl rfl rfl rfl rfl ⟨rfl, rfl, rfl, rfl, rfl⟩ rfl rfl rfl rfl rfl (by kernel_rfl) Try.func3 (by kernel_rfl)
    (of_decide_eq_true (by kernel_rfl)) (by unfold Func.isWrapper; first | (rw [if_pos (by decide +kernel)]; kernel_rfl) | (rw [if_neg (by decide +kernel)]; exact ⟨rfl, rfl⟩))
    (fun os started H enc _ => law_lifted os started H enc)
#print axioms crcOf_holds

end Go.Proofs.Ytjcaeadeogdppaa
