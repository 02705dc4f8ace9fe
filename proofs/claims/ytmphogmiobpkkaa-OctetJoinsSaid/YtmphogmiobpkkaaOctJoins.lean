/-
  OctetJoins holds: for any two rows of bytes and any place the law returns true, and its arguments read as they did. No condition beyond the row's own. Own work; the frame is the guide's.
-/
import Derived.Test.YtmphogmiobpkkaaOctY
namespace Go.Proofs.Ytmphogmiobpkkaa
open Go.RowKit

theorem strOf_app (a b : List Int) : strOfNums (a ++ b) = strOfNums a ++ strOfNums b := by
  apply ByteArray.ext
  simp [strOfNums, List.map_append]

theorem nx_some (bs : List Int) (k : Nat) (hk : k ≤ bs.length) : nx bs 0 (k : Int) (decide (0 ≤ (k : Int))) = (bs.drop k, 0, bs.take k) := by
  have h : ¬ (bs.length : Int) < k := by omega
  simp [nx, h]

theorem raw_len {w : World} {g m : Nat} {bs b1 out : List Int} {e e1 n : Int} (h : RdAt w g bs e) (hx : nx bs e n (decide (0 ≤ n)) = (b1, e1, out)) (hm : out.length = m) (hl : bs.length ≤ 140737488355328) :
    Calls Try.prog 25 #[.pointer (some ⟨g, 0, none⟩), .int .i64 n] w fun r w' => ∃ ao c, r = .returned (.slice ao m c) ∧
      w'.ownsRow w.heap.size 5 1 (.slice ao m c) m (out.map (Value.int .u8)) ∧ RdAt w' g b1 e1 ∧ w.grownBy w' (some g) := by
  subst hm
  exact raw_at h hx hl
theorem own_kept {w w' : World} {base n g : Nat} {v : Value} {xs : List Value} (h : w.ownsRow base 5 1 v n xs) (k : w.grownBy w' (some g)) (hg : g < base) : w'.ownsRow base 5 1 v n xs :=
  h.kept k (Or.inr (own_row h hg))
theorem seq_own0 {base n : Nat} {w : World} {v : Value} {bs : List Int} (h : w.ownsRow base 5 1 v n (bs.map (Value.int .u8))) : Seq w.heap.size w v bs := by
  have hn : n = bs.length := by have := h.1; simp at this; omega
  subst hn
  exact Seq.owned h

set_option maxHeartbeats 2000000 in
theorem joins_any (w : World) (a1 a2 : Option Addr) (n1 n2 c1 c2 : Nat) (xs ys : List Int) (t : Int) (h1 : Seq w.heap.size w (.slice a1 n1 c1) xs) (h2 : Seq w.heap.size w (.slice a2 n2 c2) ys) (ht0 : 0 ≤ t) (ht1 : t ≤ 65535) :
    Calls Try.prog 7 #[.slice a1 n1 c1, .slice a2 n2 c2, .int .u16 t] w fun r w' => r = .returned (.bool true) ∧ Below w.heap.size w w' := by
  have hl1 : n1 = xs.length := by obtain ⟨_, _, hv, _⟩ := h1; injection hv
  have hl2 : n2 = ys.length := by obtain ⟨_, _, hv, _⟩ := h2; injection hv
  have HL1 := Lib.hid hl1
  have HL2 := Lib.hid hl2
  clear hl1 hl2
  by_cases hb1 : 300 < n1
  · clear h1 h2
    go_enter Try.func7, Try.ntmps7
    go_wp2_with (go_at_call 8; refine (awake_any _).mono ?_; rintro r wA ⟨rfl, hgA⟩)
    go_ret
    exact ⟨rfl, gbelow hgA⟩
  · by_cases hb2 : 300 < n2
    · clear h1 h2
      go_enter Try.func7, Try.ntmps7
      go_wp2_with (go_at_call 8; refine (awake_any _).mono ?_; rintro r wA ⟨rfl, hgA⟩)
      go_ret
      exact ⟨rfl, gbelow hgA⟩
    · obtain ⟨n, hn⟩ : ∃ n, n = n1 + n2 := ⟨_, rfl⟩
      have HN := Lib.hid (show (xs ++ ys).length = n by rw [List.length_append, ← HL1.out, ← HL2.out, hn])
      have hn6 : n ≤ 600 := by omega
      clear hn
      obtain ⟨K, hK⟩ : ∃ K : Nat, t % ((n : Int) + 1) = K := ⟨(t % ((n : Int) + 1)).toNat, by have := Int.emod_nonneg t (show (n : Int) + 1 ≠ 0 by omega); omega⟩
      have hKn : K ≤ n := by have := Int.emod_lt_of_pos t (show 0 < (n : Int) + 1 by omega); omega
      obtain ⟨SA, hSA⟩ : ∃ S, S = strOfNums xs := ⟨_, rfl⟩
      obtain ⟨SB, hSB⟩ : ∃ S, S = strOfNums ys := ⟨_, rfl⟩
      obtain ⟨SX, hSX⟩ : ∃ S, S = strOfNums ((xs ++ ys).take K) := ⟨_, rfl⟩
      obtain ⟨SY, hSY⟩ : ∃ S, S = strOfNums ((xs ++ ys).drop K) := ⟨_, rfl⟩
      have zA : SA.size ≤ 300 := by rw [hSA, strOfNums_size, ← HL1.out]; omega
      have zB : SB.size ≤ 300 := by rw [hSB, strOfNums_size, ← HL2.out]; omega
      have zX : SX.size ≤ 600 := by rw [hSX, strOfNums_size, List.length_take, HN.out]; omega
      have zY : SY.size ≤ 600 := by rw [hSY, strOfNums_size, List.length_drop, HN.out]; omega
      have EAB := Lib.hid (show strOfNums (xs ++ ys) = SA ++ SB by rw [strOf_app, hSA, hSB])
      have EXY := Lib.hid (show strOfNums (xs ++ ys) = SX ++ SY by rw [hSX, hSY, ← strOf_app, List.take_append_drop])
      have EA := Lib.hid hSA
      have EB := Lib.hid hSB
      have EX := Lib.hid hSX
      have EY := Lib.hid hSY
      have HLx := Lib.hid (show xs.length ≤ 300 by rw [← HL1.out]; omega)
      have HLy := Lib.hid (show ys.length ≤ 300 by rw [← HL2.out]; omega)
      have HLa := Lib.hid (show (xs ++ ys).length ≤ 140737488355328 by rw [HN.out]; omega)
      have N1 := Lib.hid (nx_some (xs ++ ys) K (by rw [HN.out]; exact hKn))
      have N2 := Lib.hid (show nx ((xs ++ ys).drop K) 0 ((n : Int) - (K : Int)) (decide (0 ≤ (n : Int) - (K : Int))) = ([], 0, (xs ++ ys).drop K) by
        have e : (n : Int) - (K : Int) = ((n - K : Nat) : Int) := by omega
        have hd : ((xs ++ ys).drop K).length = n - K := by rw [List.length_drop, HN.out]
        rw [e, nx_some _ _ (by omega), List.take_of_length_le (by omega), List.drop_eq_nil_of_le (by omega)])
      have N3 := Lib.hid (show nx [] 0 0 (decide ((0 : Int) ≤ 0)) = ([], 0, []) by decide)
      have HT := Lib.hid (show ((xs ++ ys).take K).length = K by rw [List.length_take, HN.out]; omega)
      have HD := Lib.hid (show ((xs ++ ys).drop K).length = n - K by rw [List.length_drop, HN.out])
      have H1 := Lib.hid h1
      have H2 := Lib.hid h2
      clear h1 h2 hSA hSB hSX hSY
      go_enter Try.func7, Try.ntmps7
      go_wp2_with (first
        | (go_at_call 8; refine (awake_any _).mono ?_; rintro r wA ⟨rfl, hgA⟩; have HbA := Lib.hid (gbelow hgA); have hzA := hgA.size)
        | (go_at_call 9; refine (newW_any _).mono ?_; rintro r w1 ⟨rfl, hw1, hg1⟩; have HbB := Lib.hid (HbA.out.trans ((gbelow hg1).mono hzA)))
        | (go_at_call 16; have Kc := wraw_any w1 _ _ _ xs _ hw1 (H1.out.below HbB.out.block) (by have := HLx.out; simp; omega); ((with_reducible refine Kc.mono ?_); clear Kc; rintro r w2 ⟨rfl, hw2, hf2⟩; have HbC := Lib.hid (HbB.out.trans ((hf2.below hw1).mono hzA))))
        | (go_at_call 16; have Kc := wraw_any w2 _ _ _ ys _ hw2 (H2.out.below HbC.out.block) (by have := HLx.out; have := HLy.out; simp; omega); ((with_reducible refine Kc.mono ?_); clear Kc; rintro r w3 ⟨rfl, hw3, hf3⟩; have HbD := Lib.hid (HbC.out.trans ((hf3.below hw2).mono hzA))))
        | (go_at_call 17; refine (out_len (bs := xs ++ ys) (by simpa using hw3) HN.out (by omega)).mono ?_; rintro r w4 ⟨ao, c, rfl, ho4, hs4, hg4⟩; have HbE := Lib.hid (HbD.out.trans ((gbelow hg4).mono (by have := HbD.out.size; omega))); have cA := seq_string (H1.out.below HbE.out.block); have cB := seq_string (H2.out.below HbE.out.block); have cAll := seq_string hs4; rw [← EA.out] at cA; rw [← EB.out] at cB; rw [EAB.out] at cAll)
        | (go_at_call 18; have Kc := newR_any w4 _ _ (xs ++ ys) hs4 (Nat.le_refl _) HLa.out; ((with_reducible refine Kc.mono ?_); clear Kc cA cB cAll; rintro r w5 ⟨gr, rfl, hgr, hr5, hg5⟩; have hz5 := hr5.lt))
        | (go_at_call 25; have Kc := raw_len hr5 N1.out HT.out HLa.out; ((with_reducible refine Kc.mono ?_); clear Kc; rintro r w6 ⟨ax, cx, rfl, ho6, hr6, hg6⟩; have hz6 := hr6.lt))
        | (go_at_call 25; have Kc := raw_len hr6 N2.out HD.out (by have := HLa.out; rw [List.length_drop]; omega); ((with_reducible refine Kc.mono ?_); clear Kc; rintro r w7 ⟨ay, cy, rfl, ho7, hr7, hg7⟩; have cX := seq_string (seq_own0 (own_kept ho6 hg7 hz5)); have cY := seq_string (seq_own0 ho7); have cAll := seq_string (hs4.below (w' := w7) (fun i hi => (hg7.block i (by have := hg6.size; have := hg5.size; omega) (by intro e; injection e with e; omega)).trans ((hg6.block i (by have := hg5.size; omega) (by intro e; injection e with e; omega)).trans (hg5.block i hi (by simp))))); rw [← EX.out] at cX; rw [← EY.out] at cY; rw [EXY.out] at cAll))
        | (go_at_call 22; have Kc := end_any w7 gr [] 0 hr7; ((with_reducible refine Kc.mono ?_); clear Kc; rintro r w8 ⟨rfl, rfl⟩; rw [show endOf [] 0 = 0 from rfl]))
        | (go_at_call 25; have Kc := raw_len hr7 N3.out rfl (by simp); ((with_reducible refine Kc.mono ?_); clear Kc; rintro r w9 ⟨az, cz, rfl, ho9, hr9, hg9⟩))
        | (go_at_call 23; have Kc := err_any w9 gr _ _ hr9; ((with_reducible refine Kc.mono ?_); clear Kc; rintro r w10 ⟨rfl, rfl⟩)))
      go_ret
      have z4 := HbE.out.size
      have z5 := hg5.size
      have z6 := hg6.size
      have z7 := hg7.size
      exact ⟨rfl, (((HbE.out.grown hg5 (by omega) (by simp)).grown hg6 (by omega) (by intro j e; injection e with e; omega)).grown hg7 (by omega) (by intro j e; injection e with e; omega)).grown hg9 (by omega) (by intro j e; injection e with e; omega)⟩

open Go.ChangeShapes Go.WideShapes Go.ChangeAt
set_option linter.unusedVariables false
set_option maxRecDepth 100000 in
theorem joins_lifted (os : Os) (started : os.Started) (H : Type) (enc : TypeId × Value → H) :
    ReturnsInHanded {} Try.checked os 7 .any (Rows.octetJoinsSpec.pre6 enc Try.prog Try.f7 Rows.octetJoinsRow.domain false) (Rows.octetJoinsSpec.post enc Try.prog Try.f7 false true false false) := by
  refine returnsInHanded_of_change (C := Try.checked) ownKnob0 started (by kernel_rfl) Try.func7
    (ChangeSpec.witness6 (enc := enc) (C := Try.checked) false ⟨#[], #[.slice none 0 0, .slice none 0 0, .int .u16 0], []⟩ 8 (by kernel_rfl) (by kernel_rfl) (by kernel_rfl) (by kernel_rfl)) ?_
  intro W base args ds gs before hval0 hW hcnd _
  have hval : ∀ (j : Nat) t v, Try.f7.params[j]? = some t → args[j]? = some v → Value.okWide Try.prog W .any base t v := hval0
  have hW' := hW
  obtain ⟨p, q, hA0, hV, rfl, hfz, hnd⟩ := hW
  have hA : DataW.TrodAll enc Try.prog W 0 (fun _ => true) true Try.f7.params.toList args.toList ds p := hA0
  rw [Try.params7] at hA hval
  obtain ⟨v0, vs0, d0, ds0, p0, q0, hargs, rfl, rfl, h0, r0⟩ := trodAll_cons hA
  obtain ⟨v1, vs1, d1, ds1, p1, q1, rfl, rfl, rfl, h1, r1⟩ := trodAll_cons r0
  obtain ⟨v2, vs2, d2, ds2, p2, q2, rfl, rfl, rfl, h2, r2⟩ := trodAll_cons r1
  obtain ⟨rfl, rfl, rfl⟩ := trodAll_nil r2
  obtain rfl : args = #[v0, v1, v2] := by cases args; simp_all
  obtain ⟨rfl, rfl⟩ := trodVars_none hV
  obtain ⟨a0, len0, cap0, rfl⟩ := okWide_slice Try.underlying27 (hval 0 27 v0 rfl rfl)
  have lt0 : ∀ x ∈ p0, x.block < W.heap.size := by obtain ⟨m, hm⟩ := h0; exact DataW.trod_lt m _ _ _ hm
  obtain ⟨z0, w0, _⟩ := open_bytes h0
  obtain ⟨a1, len1, cap1, rfl⟩ := okWide_slice Try.underlying27 (hval 1 27 v1 rfl rfl)
  have lt1 : ∀ x ∈ p1, x.block < W.heap.size := by obtain ⟨m, hm⟩ := h1; exact DataW.trod_lt m _ _ _ hm
  obtain ⟨z1, w1, _⟩ := open_bytes h1
  obtain ⟨a2, rfl, rfl, rfl, w2⟩ := open_int Try.underlying51 (hval 2 51 v2 rfl rfl) h2
  clear hA0 hval0
  have b2 := bounds_u16 w2
  refine (joins_any W a0 a1 len0 len1 cap0 cap1 z0 z1 a2 w0 w1 b2.1 b2.2).mono fun e W' ⟨he, bel⟩ => ?_
  subst he
  exact ⟨_, rfl, _, _, _, [], _, [], hW', trodAll_mk1 (shut_bool Try.underlying4 _), (trodAll_cons_mk (Below.trod laidOut0 (by kernel_rfl) (of_decide_eq_true (by kernel_rfl)) h0 bel lt0) (trodAll_cons_mk (Below.trod laidOut0 (by kernel_rfl) (of_decide_eq_true (by kernel_rfl)) h1 bel lt1) (trodAll_cons_mk (shut_int Try.underlying51 w2) trodAll_mk0))), rfl, bel.frame _, fun h => by cases h⟩

/-- OctetJoins, for every input. -/
theorem octetJoins_holds : Rows.OctetJoinsSaid :=
  OpenClaim.holds_of_wide 7 Try.f7 rfl rfl rfl rfl rfl rfl rfl ⟨rfl, rfl, rfl, rfl, rfl⟩ rfl rfl rfl rfl rfl (by kernel_rfl) Try.func7 (by kernel_rfl)
    (of_decide_eq_true (by kernel_rfl)) (by unfold Func.isWrapper; first | (rw [if_pos (by decide +kernel)]; kernel_rfl) | (rw [if_neg (by decide +kernel)]; exact ⟨rfl, rfl⟩))
    (fun os started H enc _ => joins_lifted os started H enc)
#print axioms octetJoins_holds

end Go.Proofs.Ytmphogmiobpkkaa
