/-
  'MetaSpoiled' returns true for every input: a page of which one bit is another one tells nothing. No condition. Own work; the frame is the guide's.
-/
import Derived.Test.YtnggebohefbopaaMetX
import Derived.OwnWalk
import Derived.ProofKit
import Derived.OpenShut
import Derived.ShutString
import Derived.ChangeOld
namespace Go.Proofs.Ytnggebohefbopaa
open Go.RowKit

theorem pow8M (p : Nat) : (2 : Int) ^ (p % 8) % 256 = ((2 ^ (p % 8) : Nat) : Int) := by
  have h : ((2 ^ (p % 8) : Nat) : Int) = (2 : Int) ^ (p % 8) := Int.natCast_pow 2 (p % 8)
  have hp := pow_lt8 p
  rw [← h]
  generalize (2 : Nat) ^ (p % 8) = x at hp
  omega
set_option maxRecDepth 30000 in
set_option maxHeartbeats 4000000 in
theorem spoiled_no (w : World) (M : Mt) (size at' : Int) (h : ¬ (mright M = true ∧ 512 ≤ size ∧ size ≤ 4096)) :
    Calls Try.prog 9 #[.agg (mtC M), .int .i64 size, .int .u16 at'] w fun r w' => r = .returned (.bool true) ∧ Below w.heap.size w w' := by
  have hmc : mtC M = #[.int .u64 (M.t : Int), .int .u32 (M.e : Int), .int .u32 (M.m : Int), .int .u32 (M.f : Int)] := rfl
  have HN := Lib.hid h
  clear h
  go_enter Try.func9, Try.ntmps9
  go_wp2_with (first
    | (go_at_call 10; have K := awake7_any (w.alloc (.cells #[.int .u64 (M.t : Int), .int .u32 (M.e : Int), .int .u32 (M.m : Int), .int .u32 (M.f : Int)] 25)); ((with_reducible refine K.mono ?_); clear K; rintro r wA ⟨rfl, hgA⟩); have GA := Lib.hid (gtrans (World.grownBy_alloc _ _ _) hgA); have BX := Lib.hid ((hgA.block w.heap.size (by simp) (by simp)).trans (heap_alloc_new _ _)); obtain ⟨x0, x1, x2, x3⟩ := mt_cells BX.out; clear hgA)
    | (go_at_call 11; have K := of7_any wA M; rw [hmc] at K; ((with_reducible refine K.mono ?_); clear K; rintro r w2 ⟨rfl, hg⟩); have hg2 := gtrans hg (two_grown w2 (.cells #[.int .u64 (M.t : Int), .int .u32 (M.e : Int), .int .u32 (M.m : Int), .int .u32 (M.f : Int)] 29) (.cells #[.int .u64 (M.t : Int), .int .u32 (M.e : Int), .int .u32 (M.m : Int), .int .u32 (M.f : Int)] 30)); have G2 := Lib.hid (gtrans GA.out hg2); have M2 := Lib.hid (two_lit0 w2 (.cells #[.int .u64 (M.t : Int), .int .u32 (M.e : Int), .int .u32 (M.m : Int), .int .u32 (M.f : Int)] 29) (.cells #[.int .u64 (M.t : Int), .int .u32 (M.e : Int), .int .u32 (M.m : Int), .int .u32 (M.f : Int)] 30)); have K2 := Lib.hid (two_lit1 w2 (.cells #[.int .u64 (M.t : Int), .int .u32 (M.e : Int), .int .u32 (M.m : Int), .int .u32 (M.f : Int)] 29) (.cells #[.int .u64 (M.t : Int), .int .u32 (M.e : Int), .int .u32 (M.m : Int), .int .u32 (M.f : Int)] 30)); clear hg hg2 x0 x1 x2 x3)
    | (go_at_call 12; have K := mput_no ((w2.alloc (.cells #[.int .u64 (M.t : Int), .int .u32 (M.e : Int), .int .u32 (M.m : Int), .int .u32 (M.f : Int)] 29)).alloc (.cells #[.int .u64 (M.t : Int), .int .u32 (M.e : Int), .int .u32 (M.m : Int), .int .u32 (M.f : Int)] 30)) M size HN.out; rw [hmc] at K; ((with_reducible refine K.mono ?_); clear K; rintro r w3 ⟨rfl, hg⟩); have G3 := Lib.hid (gtrans G2.out hg); clear hg))
  go_ret
  exact ⟨rfl, gbelow G3.out⟩

set_option maxRecDepth 30000 in
set_option maxHeartbeats 4000000 in
theorem spoiled_yes (w : World) (M : Mt) (S : Nat) (hG : Good M S) (at' : Int) (ha0 : 0 ≤ at') (ha1 : at' ≤ 65535) :
    Calls Try.prog 9 #[.agg (mtC M), .int .i64 (S : Int), .int .u16 at'] w fun r w' => r = .returned (.bool true) ∧ Below w.heap.size w w' := by
  have hmc : mtC M = #[.int .u64 (M.t : Int), .int .u32 (M.e : Int), .int .u32 (M.m : Int), .int .u32 (M.f : Int)] := rfl
  have h1 := hG.lo
  have h2 := hG.hi
  obtain ⟨k, hk⟩ : ∃ k : Nat, at' % (8 * (S : Int)) = k := ⟨(at' % (8 * (S : Int))).toNat, by have := Int.emod_nonneg at' (show 8 * (S : Int) ≠ 0 by omega); omega⟩
  have hk8 : k < 8 * S := by have := Int.emod_lt_of_pos at' (show 0 < 8 * (S : Int) by omega); omega
  have hkS : k / 8 < S := by omega
  have hkSi : (k : Int) / 8 < (S : Int) := by omega
  have hTE := get_turned hG.ok hG.right h1 h2 hk8
  have hL := hG.len
  have HPut := Lib.hid (fun W => mput_ok W M hG.ok hG.right S h1 h2)
  rw [hmc] at HPut
  have hB := mpage_byt M S
  obtain ⟨p, hp⟩ : ∃ p, p = mpage M S := ⟨_, rfl⟩
  rw [← hp] at hTE hL HPut hB
  have HT := Lib.hid hTE
  have HL := Lib.hid hL
  have HB := Lib.hid hB
  have hw8 : IntKind.i64.wrap (8 * (S : Int)) = 8 * (S : Int) := IntWalk.i64_in _ (by omega)
  clear hG hTE hp hL hB
  obtain ⟨z, hz⟩ : ∃ z : Nat, p.getD (k / 8) 0 = (z : Int) := ⟨(p.getD (k / 8) 0).toNat, by have := HB.out.get (k / 8); omega⟩
  have hz8 : z < 256 := by have := HB.out.get (k / 8); omega
  have hz' : p[k / 8]? = some (z : Int) := by
    have hjl : k / 8 < p.length := by rw [HL.out]; exact hkS
    rw [List.getD_eq_getElem?_getD, List.getElem?_eq_getElem hjl] at hz
    rw [List.getElem?_eq_getElem hjl]
    simpa using hz
  have HTurn := Lib.hid (show (turn p k).map (Value.int .u8) = (p.map (Value.int .u8)).set (k / 8) (.int .u8 ((z ^^^ 2 ^ (k % 8) : Nat) : Int)) by
    unfold turn
    rw [hz, Int.toNat_natCast, List.map_set])
  have HXr := Lib.hid (show bits .xor .u8 (z : Int) ((2 : Int) ^ (k % 8) % 256) = ((z ^^^ 2 ^ (k % 8) : Nat) : Int) by
    rw [pow8M]
    exact u8_xor_nat z _ hz8 (pow_lt8 k))
  have HTB := Lib.hid (show Byt (turn p k) from turn_byt HB.out k)
  have HZ' := Lib.hid hz'
  clear hz hz'
  have hcode : mgetE (turn p k) = 11 ∨ mgetE (turn p k) = 14 := by
    rcases mget_codes (turn p k) with h | h | h
    · exact absurd h HT.out
    · exact .inl h
    · exact .inr h
  have HMZ := Lib.hid (mgetM_no HT.out)
  rcases hcode with hcode | hcode
  · have HCo := Lib.hid hcode
    clear hcode
    go_enter Try.func9, Try.ntmps9
    go_wp2_with (first
    | (go_at_call 10; have K := awake7_any (w.alloc (.cells #[.int .u64 (M.t : Int), .int .u32 (M.e : Int), .int .u32 (M.m : Int), .int .u32 (M.f : Int)] 25)); ((with_reducible refine K.mono ?_); clear K; rintro r wA ⟨rfl, hgA⟩); have GA := Lib.hid (gtrans (World.grownBy_alloc _ _ _) hgA); have BX := Lib.hid ((hgA.block w.heap.size (by simp) (by simp)).trans (heap_alloc_new _ _)); obtain ⟨x0, x1, x2, x3⟩ := mt_cells BX.out; clear hgA)
    | (go_at_call 11; have K := of7_any wA M; rw [hmc] at K; ((with_reducible refine K.mono ?_); clear K; rintro r w2 ⟨rfl, hg⟩); have hg2 := gtrans hg (two_grown w2 (.cells #[.int .u64 (M.t : Int), .int .u32 (M.e : Int), .int .u32 (M.m : Int), .int .u32 (M.f : Int)] 29) (.cells #[.int .u64 (M.t : Int), .int .u32 (M.e : Int), .int .u32 (M.m : Int), .int .u32 (M.f : Int)] 30)); have G2 := Lib.hid (gtrans GA.out hg2); have M2 := Lib.hid (two_lit0 w2 (.cells #[.int .u64 (M.t : Int), .int .u32 (M.e : Int), .int .u32 (M.m : Int), .int .u32 (M.f : Int)] 29) (.cells #[.int .u64 (M.t : Int), .int .u32 (M.e : Int), .int .u32 (M.m : Int), .int .u32 (M.f : Int)] 30)); have K2 := Lib.hid (two_lit1 w2 (.cells #[.int .u64 (M.t : Int), .int .u32 (M.e : Int), .int .u32 (M.m : Int), .int .u32 (M.f : Int)] 29) (.cells #[.int .u64 (M.t : Int), .int .u32 (M.e : Int), .int .u32 (M.m : Int), .int .u32 (M.f : Int)] 30)); clear hg hg2 x0 x1 x2 x3)
      | (go_at_call 12; have K := HPut.out ((w2.alloc (.cells #[.int .u64 (M.t : Int), .int .u32 (M.e : Int), .int .u32 (M.m : Int), .int .u32 (M.f : Int)] 29)).alloc (.cells #[.int .u64 (M.t : Int), .int .u32 (M.e : Int), .int .u32 (M.m : Int), .int .u32 (M.f : Int)] 30)); ((with_reducible refine K.mono ?_); clear K; rintro r w3 ⟨ao, c, rfl, ho, hg⟩); have G3 := Lib.hid (gtrans G2.out hg); have HO := Lib.hid ho; obtain ⟨bb, cc, hv, hbw, hq⟩ := own_at ho (by omega); clear hq; injection hv with e1 e2 e3; subst e1 e3; have HBB := Lib.hid (show w.heap.size ≤ bb from Nat.le_trans G2.out.size (by rcases ho.2 with ⟨h0, _⟩ | ⟨g, cap, cur, h0, hb, _⟩; (cases h0); (cases h0; exact hb))); have hcJ := HO.out.cellAt (k / 8) (by omega); rw [List.getElem?_map, HZ'.out] at hcJ; simp only [Option.map_some] at hcJ; have hfJ := HO.out.frozenAt (k / 8); have HSt := Lib.hid (HO.out.stored (k / 8) (.int .u8 ((z ^^^ 2 ^ (k % 8) : Nat) : Int))); clear hg ho)
      | (go_at_call 17; rw [HXr.out]; have hso := HSt.out.1; rw [← HTurn.out] at hso; have K : Calls Try.prog 17 #[.slice (some ⟨bb, 0, none⟩) S c] (w3.setCell ⟨bb, k / 8, none⟩ (.int .u8 ((z ^^^ 2 ^ (k % 8) : Nat) : Int))) (fun r w' => r = .returned (.tuple #[.agg #[.int .u64 0, .int .u32 0, .int .u32 0, .int .u32 0], .int .i64 11]) ∧ (w3.setCell ⟨bb, k / 8, none⟩ (.int .u8 ((z ^^^ 2 ^ (k % 8) : Nat) : Int))).grownBy w' none) := mget_as (Seq.owned1 (by rw [turn_len]; exact HL.out) hso) HTB.out (X := mt0) HMZ.out.symm (E := 11) HCo.out.symm; ((with_reducible refine K.mono ?_); clear K; rintro r w4 ⟨rfl, hg⟩); have B4 := Lib.hid ((((gbelow G3.out).setCell (p := ⟨bb, k / 8, none⟩) HBB.out (.int .u8 ((z ^^^ 2 ^ (k % 8) : Nat) : Int)))).trans ((gbelow (gtrans hg (World.grownBy_alloc w4 (.cells #[.int .u64 0, .int .u32 0, .int .u32 0, .int .u32 0] 29) none))).mono (by have := G3.out.size; simp [World.setCell]; omega))); clear hso hg))
    go_ret
    exact ⟨rfl, B4.out⟩
  · have HCo := Lib.hid hcode
    clear hcode
    go_enter Try.func9, Try.ntmps9
    go_wp2_with (first
    | (go_at_call 10; have K := awake7_any (w.alloc (.cells #[.int .u64 (M.t : Int), .int .u32 (M.e : Int), .int .u32 (M.m : Int), .int .u32 (M.f : Int)] 25)); ((with_reducible refine K.mono ?_); clear K; rintro r wA ⟨rfl, hgA⟩); have GA := Lib.hid (gtrans (World.grownBy_alloc _ _ _) hgA); have BX := Lib.hid ((hgA.block w.heap.size (by simp) (by simp)).trans (heap_alloc_new _ _)); obtain ⟨x0, x1, x2, x3⟩ := mt_cells BX.out; clear hgA)
    | (go_at_call 11; have K := of7_any wA M; rw [hmc] at K; ((with_reducible refine K.mono ?_); clear K; rintro r w2 ⟨rfl, hg⟩); have hg2 := gtrans hg (two_grown w2 (.cells #[.int .u64 (M.t : Int), .int .u32 (M.e : Int), .int .u32 (M.m : Int), .int .u32 (M.f : Int)] 29) (.cells #[.int .u64 (M.t : Int), .int .u32 (M.e : Int), .int .u32 (M.m : Int), .int .u32 (M.f : Int)] 30)); have G2 := Lib.hid (gtrans GA.out hg2); have M2 := Lib.hid (two_lit0 w2 (.cells #[.int .u64 (M.t : Int), .int .u32 (M.e : Int), .int .u32 (M.m : Int), .int .u32 (M.f : Int)] 29) (.cells #[.int .u64 (M.t : Int), .int .u32 (M.e : Int), .int .u32 (M.m : Int), .int .u32 (M.f : Int)] 30)); have K2 := Lib.hid (two_lit1 w2 (.cells #[.int .u64 (M.t : Int), .int .u32 (M.e : Int), .int .u32 (M.m : Int), .int .u32 (M.f : Int)] 29) (.cells #[.int .u64 (M.t : Int), .int .u32 (M.e : Int), .int .u32 (M.m : Int), .int .u32 (M.f : Int)] 30)); clear hg hg2 x0 x1 x2 x3)
      | (go_at_call 12; have K := HPut.out ((w2.alloc (.cells #[.int .u64 (M.t : Int), .int .u32 (M.e : Int), .int .u32 (M.m : Int), .int .u32 (M.f : Int)] 29)).alloc (.cells #[.int .u64 (M.t : Int), .int .u32 (M.e : Int), .int .u32 (M.m : Int), .int .u32 (M.f : Int)] 30)); ((with_reducible refine K.mono ?_); clear K; rintro r w3 ⟨ao, c, rfl, ho, hg⟩); have G3 := Lib.hid (gtrans G2.out hg); have HO := Lib.hid ho; obtain ⟨bb, cc, hv, hbw, hq⟩ := own_at ho (by omega); clear hq; injection hv with e1 e2 e3; subst e1 e3; have HBB := Lib.hid (show w.heap.size ≤ bb from Nat.le_trans G2.out.size (by rcases ho.2 with ⟨h0, _⟩ | ⟨g, cap, cur, h0, hb, _⟩; (cases h0); (cases h0; exact hb))); have hcJ := HO.out.cellAt (k / 8) (by omega); rw [List.getElem?_map, HZ'.out] at hcJ; simp only [Option.map_some] at hcJ; have hfJ := HO.out.frozenAt (k / 8); have HSt := Lib.hid (HO.out.stored (k / 8) (.int .u8 ((z ^^^ 2 ^ (k % 8) : Nat) : Int))); clear hg ho)
      | (go_at_call 17; rw [HXr.out]; have hso := HSt.out.1; rw [← HTurn.out] at hso; have K : Calls Try.prog 17 #[.slice (some ⟨bb, 0, none⟩) S c] (w3.setCell ⟨bb, k / 8, none⟩ (.int .u8 ((z ^^^ 2 ^ (k % 8) : Nat) : Int))) (fun r w' => r = .returned (.tuple #[.agg #[.int .u64 0, .int .u32 0, .int .u32 0, .int .u32 0], .int .i64 14]) ∧ (w3.setCell ⟨bb, k / 8, none⟩ (.int .u8 ((z ^^^ 2 ^ (k % 8) : Nat) : Int))).grownBy w' none) := mget_as (Seq.owned1 (by rw [turn_len]; exact HL.out) hso) HTB.out (X := mt0) HMZ.out.symm (E := 14) HCo.out.symm; ((with_reducible refine K.mono ?_); clear K; rintro r w4 ⟨rfl, hg⟩); have B4 := Lib.hid ((((gbelow G3.out).setCell (p := ⟨bb, k / 8, none⟩) HBB.out (.int .u8 ((z ^^^ 2 ^ (k % 8) : Nat) : Int)))).trans ((gbelow (gtrans hg (World.grownBy_alloc w4 (.cells #[.int .u64 0, .int .u32 0, .int .u32 0, .int .u32 0] 29) none))).mono (by have := G3.out.size; simp [World.setCell]; omega))); clear hso hg))
    go_ret
    exact ⟨rfl, B4.out⟩

theorem spoiled_any (w : World) (M : Mt) (size at' : Int) (hM : MtOk M) (_z0 : -9223372036854775808 ≤ size) (_z1 : size ≤ 9223372036854775807) (ha0 : 0 ≤ at') (ha1 : at' ≤ 65535) :
    Calls Try.prog 9 #[.agg (mtC M), .int .i64 size, .int .u16 at'] w fun r w' => r = .returned (.bool true) ∧ Below w.heap.size w w' := by
  rcases gput_or w M hM size with h | ⟨S, rfl, hG⟩
  · exact spoiled_no w M size at' h
  · exact spoiled_yes w M S hG at' ha0 ha1

open Go.ChangeShapes Go.WideShapes Go.ChangeAt
set_option linter.unusedVariables false
set_option maxRecDepth 100000 in
theorem spoiled_lifted (os : Os) (started : os.Started) (H : Type) (enc : TypeId × Value → H) :
    ReturnsInHanded {} Try.checked os 9 .any (Rows.metaSpoiledSpec.pre6 enc Try.prog Try.f9 Rows.metaSpoiledRow.domain false) (Rows.metaSpoiledSpec.post enc Try.prog Try.f9 false true false false) := by
  refine returnsInHanded_of_change (C := Try.checked) ownKnob0 started (by kernel_rfl) Try.func9
    (ChangeSpec.witness6 (enc := enc) (C := Try.checked) false ⟨#[], #[.agg #[.int .u64 0, .int .u32 0, .int .u32 0, .int .u32 0], .int .i64 0, .int .u16 0], []⟩ 8 (by kernel_rfl) (by kernel_rfl) (by kernel_rfl) (by kernel_rfl)) ?_
  intro W base args ds gs before hval0 hW hcnd _
  have hval : ∀ (j : Nat) t v, Try.f9.params[j]? = some t → args[j]? = some v → Value.okWide Try.prog W .any base t v := hval0
  have hW' := hW
  obtain ⟨p, q, hA0, hV, rfl, hfz, hnd⟩ := hW
  have hA : DataW.TrodAll enc Try.prog W 0 (fun _ => true) true Try.f9.params.toList args.toList ds p := hA0
  rw [Try.params9] at hA hval
  obtain ⟨v0, vs0, d0, ds0, p0, q0, hargs, rfl, rfl, h0, r0⟩ := trodAll_cons hA
  obtain ⟨v1, vs1, d1, ds1, p1, q1, rfl, rfl, rfl, h1, r1⟩ := trodAll_cons r0
  obtain ⟨v2, vs2, d2, ds2, p2, q2, rfl, rfl, rfl, h2, r2⟩ := trodAll_cons r1
  obtain ⟨rfl, rfl, rfl⟩ := trodAll_nil r2
  obtain rfl : args = #[v0, v1, v2] := by cases args; simp_all
  obtain ⟨rfl, rfl⟩ := trodVars_none hV
  have lt0 : ∀ x ∈ p0, x.block < W.heap.size := by obtain ⟨m, hm⟩ := h0; exact DataW.trod_lt m _ _ _ hm
  obtain ⟨M0, w0, rfl⟩ := open_raw7 (hval 0 25 v0 rfl rfl) h0
  obtain ⟨a1, rfl, rfl, rfl, w1⟩ := open_int Try.underlying3 (hval 1 3 v1 rfl rfl) h1
  have b1 := bounds_i64 w1
  obtain ⟨a2, rfl, rfl, rfl, w2⟩ := open_int Try.underlying46 (hval 2 46 v2 rfl rfl) h2
  have b2 := bounds_u16 w2
  clear hA0 hval0
  refine (spoiled_any W M0 a1 a2 w0 b1.1 b1.2 b2.1 b2.2).mono fun e W' ⟨he, bel⟩ => ?_
  subst he
  exact ⟨_, rfl, _, _, _, [], _, [], hW', trodAll_mk1 (shut_bool Try.underlying4 _), (trodAll_cons_mk (Below.trod laidOut0 (by kernel_rfl) (of_decide_eq_true (by kernel_rfl)) h0 bel lt0) (trodAll_cons_mk (shut_int Try.underlying3 w1) (trodAll_cons_mk (shut_int Try.underlying46 w2) trodAll_mk0))), rfl, bel.frame _, fun h => by cases h⟩

/-- MetaSpoiled, for every input. -/
theorem metaSpoiled_holds : Rows.MetaSpoiledSaid :=
  OpenClaim.holds_of_wide 9 Try.f9 rfl rfl rfl rfl rfl rfl rfl ⟨rfl, rfl, rfl, rfl, rfl⟩ rfl rfl rfl rfl rfl (by kernel_rfl) Try.func9 (by kernel_rfl)
    (of_decide_eq_true (by kernel_rfl)) (by unfold Func.isWrapper; first | (rw [if_pos (by decide +kernel)]; kernel_rfl) | (rw [if_neg (by decide +kernel)]; exact ⟨rfl, rfl⟩))
    (fun os started H enc _ => spoiled_lifted os started H enc)
#print axioms metaSpoiled_holds

end Go.Proofs.Ytnggebohefbopaa
