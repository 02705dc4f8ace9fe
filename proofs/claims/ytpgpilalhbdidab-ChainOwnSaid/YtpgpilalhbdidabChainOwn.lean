/-
  'ChainOwn' returns true for every input: parts and what is got can be changed, and the bytes and the page stay as they are. No condition. Own work; the frame is the guide's.
-/
import Derived.Test.YtpgpilalhbdidabChaK
import Derived.Deep.LoopGhost
import Derived.Deep.Cut
import Derived.ProofKit
import Derived.OpenShut
import Derived.ShutString
import Derived.ChangeOld
namespace Go.Proofs.Ytpgpilalhbdidab
open Go.RowKit

theorem COwns.rowAt2 {base : Nat} {w : World} {la : Option Addr} {n lc : Nat} {es : List (Value × List Int)} (h : COwns base w (.slice la n lc) es) (hn : n = es.length) {i : Nat} {y : Value × List Int} (hy : es[i]? = some y) :
    ∃ g, la = some ⟨g, 0, none⟩ ∧ w.cell? ⟨g, i, none⟩ = some y.1 ∧ OwnB base w y.1 y.2 := by
  have hi : i < es.length := (List.getElem?_eq_some_iff.1 hy).1
  have h1 := h.1
  obtain ⟨g, hg⟩ : ∃ g, la = some ⟨g, 0, none⟩ := by
    rcases h.1.2 with ⟨_, h0⟩ | ⟨g, cap, cur, hv, _⟩
    · omega
    · injection hv with e; exact ⟨g, e⟩
  subst hg
  have hc := h1.cells (g := g) rfl i y.1 (by rw [List.getElem?_map, hy]; rfl)
  rw [Addr.add_lit, Nat.zero_add] at hc
  exact ⟨g, rfl, hc, h.2 y (List.mem_of_getElem? hy)⟩
/-- The first byte of what the call owns. -/
theorem own_zero {base : Nat} {w : World} {v : Value} {bs : List Int} (h : OwnB base w v bs) (hp : 0 < bs.length) :
    ∃ g c cs, v = .slice (some ⟨g, 0, none⟩) bs.length c ∧ base ≤ g ∧ w.heap[g]? = some (.cells cs 5 (0, 0)) ∧ cs[0]? = some (.int .u8 (bs.getD 0 0)) := by
  rcases h.2 with ⟨_, h0⟩ | ⟨g, cap, cur, rfl, hb, hg, h1, h2, h3, h4⟩
  · omega
  · refine ⟨g, cap, cur, rfl, hb, hg, ?_⟩
    have e : (cur.toList.take (bs.length * 1))[0]? = some (.int .u8 (bs.getD 0 0)) := by
      rw [h4, List.getElem?_map, List.getD_eq_getElem?_getD, List.getElem?_eq_getElem hp]; rfl
    rw [List.getElem?_take, if_pos (by omega)] at e
    simpa using e
theorem zero_cell {w : World} {g : Nat} {cs : Array Value} {v : Value} (h : w.heap[g]? = some (.cells cs 5 (0, 0))) (hv : cs[0]? = some v) : w.cell? ⟨g, 0, none⟩ = some v ∧ w.frozen? ⟨g, 0, none⟩ = false :=
  ⟨by simp [World.cell?, h, hv], by simp [World.frozen?, h]⟩
theorem cell_grown {w w' : World} {a : Addr} {v : Value} (k : w.grownBy w' none) (h : w.cell? a = some v) : w'.cell? a = some v :=
  (World.cell?_of_block (w := w) (k.block _ (World.block_lt_of_cell? _ _ h) (by simp))).trans h
theorem cut_at (w : World) (B len c : Nat) (ao : Option Addr) (p : List Int) (S : Nat) (Si : Int) (hSi : Si = (S : Int)) (h : Seq B w (.slice ao len c) p) (hB : B ≤ w.heap.size) (hl : len ≤ 9000) (h1 : 512 ≤ S) (h2 : S ≤ 4096) :
    Calls Try.prog 10 #[.slice ao len c, .int .i64 Si] w fun r w' => ∃ lv es M, r = .returned lv ∧ COwns (w.heap.size + 3) w' lv es ∧ es.map (·.2) = (List.range M).map (partC p (S - 8)) ∧ len ≤ M * (S - 8) ∧ (∀ k, k < M → k * (S - 8) < len) ∧ w.grownBy w' none := by
  subst hSi; exact cut_any w B len c ao p S h hB hl h1 h2
/-- The first part, as it lies. -/
theorem COwns.first {base : Nat} {w : World} {la : Option Addr} {M lc n : Nat} {es : List (Value × List Int)} {p : List Int} (h : COwns base w (.slice la M lc) es) (hel : es.length = M) (hes : es.map (·.2) = (List.range M).map (partC p (512 - 8))) (hn : n = p.length) (h1 : 1 ≤ n) (hM : n ≤ M * (512 - 8)) :
    ∃ g b1 c1 cs E q, la = some ⟨g, 0, none⟩ ∧ 1 ≤ M ∧ q = p.take 504 ∧ E = q.length ∧ 1 ≤ E ∧ E ≤ 504 ∧ w.cell? ⟨g, 0, none⟩ = some (.slice (some ⟨b1, 0, none⟩) E c1) ∧ OwnB base w (.slice (some ⟨b1, 0, none⟩) E c1) q ∧ base ≤ b1 ∧ w.heap[b1]? = some (.cells cs 5 (0, 0)) ∧ cs[0]? = some (.int .u8 (q.getD 0 0)) := by
  have hM1 : 1 ≤ M := by rcases Nat.eq_zero_or_pos M with e | e; subst e; omega; exact e
  obtain ⟨y, hy⟩ : ∃ y, es[0]? = some y := ⟨_, List.getElem?_eq_getElem (by omega)⟩
  have hyp : y.2 = p.take 504 := by
    have := congrArg (fun l => l[0]?) hes
    simp [hy, show 0 < M from hM1, partC] at this
    exact this
  obtain ⟨g, e, hc, ho⟩ := h.rowAt2 hel.symm hy
  have hq : (p.take 504).length = min 504 p.length := List.length_take
  rw [hyp] at ho
  obtain ⟨b1, c1, cs, hv, hb, hh, hz⟩ := own_zero ho (by omega)
  rw [hv] at hc ho
  exact ⟨g, b1, c1, cs, (p.take 504).length, p.take 504, e, hM1, rfl, rfl, by omega, by omega, hc, ho, hb, hh, hz⟩

set_option maxRecDepth 100000 in
set_option maxHeartbeats 8000000 in
theorem cown_any (w : World) (ao : Option Addr) (n c : Nat) (p : List Int) (x0 : Int) (h : Seq w.heap.size w (.slice ao n c) p) (hb : Byt p) (h0 : 0 ≤ x0) (h9 : x0 ≤ 255) :
    Calls Try.prog 8 #[.slice ao n c, .int .u8 x0] w fun r w' => r = .returned (.bool true) ∧ Below w.heap.size w w' := by
  have hn : n = p.length := by obtain ⟨_, _, hv, _⟩ := h; injection hv
  have HN := Lib.hid hn
  have H := Lib.hid h
  have HB := Lib.hid hb
  by_cases k0 : n = 0
  · subst k0
    clear h hb hn
    go_enter Try.func8, Try.ntmps8
    go_wp2_with (go_at_call 9; refine (awake6_any _).mono ?_; rintro r wA ⟨rfl, hgA⟩; have HGA := Lib.hid hgA; clear hgA)
    go_ret
    exact ⟨rfl, gbelow HGA.out⟩
  have hz0 : ((n : Int) == 0) = false := by simp; omega
  have hz1 : ¬ (n : Int) = 0 := by omega
  have hz2 : (n == 0) = false := by simp; omega
  by_cases k1 : n ≤ 2000
  · have hd0 : decide ((2000 : Int) < (n : Int)) = false := by simp; omega
    have hd0' : decide (2000 < n) = false := by simp; omega
    obtain ⟨b0, o0, rfl, hb0, hi0⟩ : ∃ b0 o0, ao = some ⟨b0, o0, none⟩ ∧ b0 < w.heap.size ∧ w.cell? ⟨b0, o0, none⟩ = some (.int .u8 (p.getD 0 0)) := by
      obtain ⟨ao', c', hv, _, _, _, g4⟩ := id h
      obtain ⟨b, o, e1, e2, e3⟩ := g4 (by rintro rfl; simp at hn; omega)
      injection hv with e
      have := e3 0 (by omega)
      exact ⟨b, o, e.trans e1, e2, by simpa using this⟩
    obtain ⟨T, hT⟩ : ∃ T, T = strOfNums p := ⟨_, rfl⟩
    have HCV := Lib.hid (show ∀ w' : World, Below w.heap.size w w' → (convert 22 9 (.slice (some ⟨b0, o0, none⟩) n c)).run Try.prog w' = .ok (.string T) w' from fun w' hg => by
      rw [hT]; exact seq_string (H.out.below (w' := w') (fun i hi => hg.block i hi)))
    obtain ⟨X, hX⟩ : ∃ X, X = p.getD 0 0 := ⟨_, rfl⟩
    rw [← hX] at hi0
    have HX := Lib.hid hX
    have HI0 := Lib.hid hi0
    have HTK := Lib.hid (show (p.take 504).getD 0 0 = X by
      rw [hX]
      cases p with
      | nil => rfl
      | cons a t => rfl)
    clear h hb hn hT hX hi0
    go_enter Try.func8, Try.ntmps8
    go_upto_region 15 with (first
      | (go_at_call 9; refine (awake6_any _).mono ?_; rintro r wA ⟨rfl, hgA⟩; have HGA := Lib.hid hgA; have hcv := HCV.out wA (gbelow hgA); clear hgA)
      | (go_at_call 10; have Kc := cut_at wA w.heap.size n c (some ⟨b0, o0, none⟩) p 512 512 rfl (H.out.below (fun i hi => HGA.out.block i hi (by simp))) HGA.out.size (by omega) (by omega) (by omega); ((with_reducible refine Kc.mono ?_); clear Kc; rintro r wC ⟨lv, es, M, rfl, hco, hes, hM1, hM2, hgC⟩); obtain ⟨la, lc, rfl⟩ := own_shape hco.1; have hel : es.length = M := (by have := congrArg List.length hes; simpa using this); rw [hel] at hco ⊢; obtain ⟨g, b1, c1, cs1, E, q, rfl, hM0, hq, hE, hE1, hE9, hcell, hoy, hbb1, hh1, hcs1⟩ := hco.first hel hes HN.out (by omega) hM1; have hMz : ((M : Int) == 0) = false := (by simp; omega); have hMz1 : ¬ (M : Int) = 0 := (by omega); have hMz2 : ¬ M = 0 := (by omega); have hM0i : (0 : Int) < (M : Int) := (by omega); have hEz : ((E : Int) == 0) = false := (by simp; omega); have hEz1 : ¬ (E : Int) = 0 := (by omega); have hEz2 : ¬ E = 0 := (by omega); have hE0i : (0 : Int) < (E : Int) := (by omega); have HQ := Lib.hid hq; have HE := Lib.hid hE; have HCELL := Lib.hid hcell; have HSQ := Lib.hid (show Seq wC.heap.size wC (.slice (some ⟨b1, 0, none⟩) E c1) q from Seq.owned hoy); have HB1 := Lib.hid (show w.heap.size ≤ b1 by have := HGA.out.size; omega); have HH1 := Lib.hid hh1; have HC1 := Lib.hid (show cs1[0]? = some (.int .u8 X) by rw [hcs1, hq, HTK.out]); have HGC := Lib.hid (gtrans HGA.out hgC); clear hco hes hM1 hM2 hgC hel hq hE hoy hbb1 hh1 hcs1 hcv)
      | (go_at_call 14; have Kc := cput_at wC wC.heap.size (some ⟨b1, 0, none⟩) E c1 q 9 512 512 rfl HSQ.out (Nat.le_refl _) (by omega) (by omega) ⟨by omega, by omega, by omega, by omega⟩; ((with_reducible refine Kc.mono ?_); clear Kc; rintro r w2 ⟨bb, rfl, hbb, hpb, hg⟩); have HBB := Lib.hid hbb; have G2 := Lib.hid hg; have HPB := Lib.hid hpb; clear hg hpb hbb)
      | (go_at_call 16; have Kc := cget_back (w := w2) (B := w2.heap.size) (p := q) (x := 9) (S := 512) (seq_page HPB.out (chB_len (by have := HE.out; omega)) (by decide)) (Nat.le_refl _) (show Byt q by rw [HQ.out]; exact HB.out.take _) (by omega) (by omega) ⟨by omega, by omega, by have := HE.out; omega, by have := HE.out; omega⟩; ((with_reducible refine Kc.mono ?_); clear Kc; rintro r w3 ⟨pv, rfl, ho, hg⟩); obtain ⟨bq, qc, cs2, rfl, hbq, hh2, hcs2⟩ := own_zero ho (by rw [← HE.out]; exact hE1); rw [← HE.out]; have G3 := Lib.hid (gtrans G2.out hg); have G23 := Lib.hid hg; have HBQ := Lib.hid hbq; have HH2 := Lib.hid hh2; have HC2 := Lib.hid (show cs2[0]? = some (.int .u8 X) by rw [hcs2, HQ.out, HTK.out]); have l1 := cell_grown G3.out HCELL.out; have l2 := (zero_cell ((G3.out.block _ (lt_of_block HH1.out) (by simp)).trans HH1.out) HC1.out).1; have l3 := (zero_cell ((G3.out.block _ (lt_of_block HH1.out) (by simp)).trans HH1.out) HC1.out).2; clear ho hg hbq hh2 hcs2))
    obtain ⟨t1, ht1⟩ : ∃ t, t = bits BinOp.xor IntKind.u8 X x0 := ⟨_, rfl⟩
    rw [← ht1]
    have s1 := lt_of_block HH1.out
    have s2 := HBB.out
    have s3 := lt_of_block HPB.out
    have s4 := HBQ.out
    have s5 := G2.out.size
    have s6 := HGC.out.size
    have s7 := HB1.out
    have HP4 := Lib.hid ((Below.heap_setCell w3 ⟨b1, 0, none⟩ (.int .u8 t1) bb (by simp; omega)).trans ((G23.out.block _ s3 (by simp)).trans HPB.out))
    have hh4 := (Below.heap_setCell w3 ⟨b1, 0, none⟩ (.int .u8 t1) bq (by simp; omega)).trans HH2.out
    have HB4 := Lib.hid (((gbelow HGC.out).trans ((gbelow G3.out).mono HGC.out.size)).setCell (p := ⟨b1, 0, none⟩) HB1.out (.int .u8 t1))
    obtain ⟨l4, l5⟩ := zero_cell hh4 HC2.out
    clear l1 l2 l3 ht1
    generalize w3.setCell ⟨b1, 0, none⟩ (.int .u8 t1) = w4 at *
    go_upto_region 16 with (fail)
    obtain ⟨t2, ht2⟩ : ∃ t, t = bits BinOp.xor IntKind.u8 X x0 := ⟨_, rfl⟩
    rw [← ht2]
    have HP5 := Lib.hid ((Below.heap_setCell w4 ⟨bq, 0, none⟩ (.int .u8 t2) bb (by simp; omega)).trans HP4.out)
    have HB5 := Lib.hid (HB4.out.setCell (p := ⟨bq, 0, none⟩) (show w.heap.size ≤ bq by omega) (.int .u8 t2))
    clear l4 l5 ht2 hh4
    generalize w4.setCell ⟨bq, 0, none⟩ (.int .u8 t2) = w5 at *
    clear s1 s2 s3 s4 s5 s6 s7
    go_wp2_with (go_at_call 16; have Kc := cget_back (w := w5) (B := w5.heap.size) (p := q) (x := 9) (S := 512) (seq_page HP5.out (chB_len (by have := HE.out; omega)) (by decide)) (Nat.le_refl _) (show Byt q by rw [HQ.out]; exact HB.out.take _) (by omega) (by omega) ⟨by omega, by omega, by have := HE.out; omega, by have := HE.out; omega⟩; ((with_reducible refine Kc.mono ?_); clear Kc; rintro r w6 ⟨pv, rfl, ho, hg⟩); obtain ⟨br, rc, cs3, rfl, hbr, hh3, hcs3⟩ := own_zero ho (by rw [← HE.out]; exact hE1); rw [← HE.out]; have HB6 := Lib.hid (HB5.out.trans ((gbelow hg).mono HB5.out.size)); have m1 := (zero_cell hh3 (show cs3[0]? = some (.int .u8 X) by rw [hcs3, HQ.out, HTK.out])).1; have m2 := ((HB6.out.cell (p := ⟨b0, o0, none⟩) hb0).trans HI0.out); have v1 := (fun j => HCV.out (w6.drewN j) (HB6.out.trans ((gbelow (show w6.grownBy (w6.drewN j) none from ⟨rfl, rfl, rfl, Nat.le_refl _, fun _ _ _ => rfl⟩)).mono HB6.out.size))); clear ho hg hbr hh3 hcs3)
    go_quiet (fail)
    go_wp2
    go_ret
    exact ⟨rfl, HB6.out.trans ((gbelow (show w6.grownBy (w6.drewN _) none from ⟨rfl, rfl, rfl, Nat.le_refl _, fun _ _ _ => rfl⟩)).mono HB6.out.size)⟩
  · have hd0 : decide ((2000 : Int) < (n : Int)) = true := by simp; omega
    have hd0' : decide (2000 < n) = true := by simp; omega
    clear k1 h hb hn
    go_enter Try.func8, Try.ntmps8
    go_wp2_with (go_at_call 9; refine (awake6_any _).mono ?_; rintro r wA ⟨rfl, hgA⟩; have HGA := Lib.hid hgA; clear hgA)
    go_ret
    exact ⟨rfl, gbelow HGA.out⟩

open Go.ChangeShapes Go.WideShapes Go.ChangeAt
set_option linter.unusedVariables false
set_option maxRecDepth 100000 in
theorem cown_lifted (os : Os) (started : os.Started) (H : Type) (enc : TypeId × Value → H) :
    ReturnsInHanded {} Try.checked os 8 .any (Rows.chainOwnSpec.pre6 enc Try.prog Try.f8 Rows.chainOwnRow.domain false) (Rows.chainOwnSpec.post enc Try.prog Try.f8 false true false false) := by
  refine returnsInHanded_of_change (C := Try.checked) ownKnob0 started (by kernel_rfl) Try.func8
    (ChangeSpec.witness6 (enc := enc) (C := Try.checked) false ⟨#[], #[.slice none 0 0, .int .u8 0], []⟩ 8 (by kernel_rfl) (by kernel_rfl) (by kernel_rfl) (by kernel_rfl)) ?_
  intro W base args ds gs before hval0 hW hcnd _
  have hval : ∀ (j : Nat) t v, Try.f8.params[j]? = some t → args[j]? = some v → Value.okWide Try.prog W .any base t v := hval0
  have hW' := hW
  obtain ⟨p, q, hA0, hV, rfl, hfz, hnd⟩ := hW
  have hA : DataW.TrodAll enc Try.prog W 0 (fun _ => true) true Try.f8.params.toList args.toList ds p := hA0
  rw [Try.params8] at hA hval
  obtain ⟨v0, vs0, d0, ds0, p0, q0, hargs, rfl, rfl, h0, r0⟩ := trodAll_cons hA
  obtain ⟨v1, vs1, d1, ds1, p1, q1, rfl, rfl, rfl, h1, r1⟩ := trodAll_cons r0
  obtain ⟨rfl, rfl, rfl⟩ := trodAll_nil r1
  obtain rfl : args = #[v0, v1] := by cases args; simp_all
  obtain ⟨rfl, rfl⟩ := trodVars_none hV
  obtain ⟨a0, len0, cap0, rfl⟩ := okWide_slice Try.underlying22 (hval 0 22 v0 rfl rfl)
  have lt0 : ∀ x ∈ p0, x.block < W.heap.size := by obtain ⟨m, hm⟩ := h0; exact DataW.trod_lt m _ _ _ hm
  obtain ⟨z0, w0, y0⟩ := open_bytes h0
  obtain ⟨a1, rfl, rfl, rfl, w1⟩ := open_int Try.underlying5 (hval 1 5 v1 rfl rfl) h1
  have b1 := bounds_u8 w1
  clear hA0 hval0
  refine (cown_any W a0 len0 cap0 z0 a1 w0 y0 b1.1 b1.2).mono fun e W' ⟨he, bel⟩ => ?_
  subst he
  exact ⟨_, rfl, _, _, _, [], _, [], hW', trodAll_mk1 (shut_bool Try.underlying4 _), (trodAll_cons_mk (Below.trod laidOut0 (by kernel_rfl) (of_decide_eq_true (by kernel_rfl)) h0 bel lt0) (trodAll_cons_mk (shut_int Try.underlying5 w1) trodAll_mk0)), rfl, bel.frame _, fun h => by cases h⟩

/-- ChainOwn, for every input. -/
theorem chainOwn_holds : Rows.ChainOwnSaid :=
  OpenClaim.holds_of_wide 8 Try.f8 rfl rfl rfl rfl rfl rfl rfl ⟨rfl, rfl, rfl, rfl, rfl⟩ rfl rfl rfl rfl rfl (by kernel_rfl) Try.func8 (by kernel_rfl)
    (of_decide_eq_true (by kernel_rfl)) (by unfold Func.isWrapper; first | (rw [if_pos (by decide +kernel)]; kernel_rfl) | (rw [if_neg (by decide +kernel)]; exact ⟨rfl, rfl⟩))
    (fun os started H enc _ => cown_lifted os started H enc)
#print axioms chainOwn_holds

end Go.Proofs.Ytpgpilalhbdidab
