/-
  'LeafOwn' returns true for every input: what is got can be changed, and the page stays as it is. No condition. Own work; the frame is the guide's.
-/
import Derived.Test.YtfencmidjolgfaaLawM
import Derived.Deep.LoopGhost
import Derived.Deep.Cut
namespace Go.Proofs.Ytfencmidjolgfaa
open Go.RowKit

/-- Bytes of the call's own, whatever they are. -/
def ByR (base : Nat) (w : World) (v : Value) (n : Nat) : Prop :=
  (∃ a c, v = .slice a n c) ∧ (0 < n → ∃ g c cs, v = .slice (some ⟨g, 0, none⟩) n c ∧ base ≤ g ∧ w.heap[g]? = some (.cells cs 5 (0, 0)) ∧ ∀ j, j < n → ∃ a, cs[j]? = some (.int .u8 a))
theorem ByR.of {base : Nat} {w : World} {v : Value} {bs : List Int} (h : OwnB base w v bs) : ByR base w v bs.length := by
  refine ⟨own_shape h, fun hp => ?_⟩
  rcases h.2 with ⟨_, h0⟩ | ⟨g, cap, cur, rfl, hb, hg, h1, h2, h3, h4⟩
  · omega
  · refine ⟨g, cap, cur, rfl, hb, hg, fun j hj => ⟨bs.getD j 0, ?_⟩⟩
    have hj2 : j < (cur.toList.take (bs.length * 1)).length := by rw [h4]; simpa using hj
    have e : (cur.toList.take (bs.length * 1))[j]? = some (.int .u8 (bs.getD j 0)) := by
      rw [h4, List.getElem?_map, List.getD_eq_getElem?_getD, List.getElem?_eq_getElem hj]; rfl
    rw [List.getElem?_take, if_pos (by omega)] at e
    simpa using e
theorem ByR.set {base q : Nat} {w : World} {v : Value} {n : Nat} {t : Int} (h : ByR base w v n) : ByR base (w.setCell ⟨q, 0, none⟩ (.int .u8 t)) v n := by
  refine ⟨h.1, fun hp => ?_⟩
  obtain ⟨g, c, cs, hv, hb, hg, hc⟩ := h.2 hp
  by_cases e : g = q
  · subst e
    refine ⟨g, c, _, hv, hb, set_in _ hg, fun j hj => ?_⟩
    obtain ⟨a, ha⟩ := hc j hj
    have hjs := (Array.getElem?_eq_some_iff.1 ha).1
    by_cases e0 : j = 0
    · subst e0; exact ⟨t, by simp [hjs]⟩
    · exact ⟨a, by rw [Array.getElem?_setIfInBounds_ne (Ne.symm e0)]; exact ha⟩
  · exact ⟨g, c, cs, hv, hb, (Below.heap_setCell _ _ _ _ (by simpa using e)).trans hg, hc⟩
theorem ByR.at {base : Nat} {w : World} {v : Value} {n : Nat} (h : ByR base w v n) (hp : 0 < n) : ∃ g c a, v = .slice (some ⟨g, 0, none⟩) n c ∧ base ≤ g ∧ w.cell? ⟨g, 0, none⟩ = some (.int .u8 a) ∧ w.frozen? ⟨g, 0, none⟩ = false ∧ ∃ cs, w.heap[g]? = some (.cells cs 5 (0, 0)) := by
  obtain ⟨g, c, cs, hv, hb, hg, hc⟩ := h.2 hp
  obtain ⟨a, ha⟩ := hc 0 hp
  exact ⟨g, c, a, hv, hb, by simp [World.cell?, hg, ha], by simp [World.frozen?, hg], cs, hg⟩
/-- What stands while what was got is changed. -/
structure Chg (base : Nat) (w : World) (lv : Value) (es : List (Value × Value × En)) : Prop where
  row : w.ownsRow base 43 4 lv es.length (es.flatMap ecl)
  each : ∀ y ∈ es, ByR base w y.1 y.2.2.key.length ∧ ByR base w y.2.1 y.2.2.val.length
theorem Chg.of {base : Nat} {w : World} {lv : Value} {es : List (Value × Value × En)} (h : EOwns base w lv es) : Chg base w lv es :=
  ⟨h.row, fun y hy => ⟨ByR.of (h.each y hy).1, ByR.of (h.each y hy).2.1⟩⟩
theorem Chg.set {base q : Nat} {w : World} {lv : Value} {es : List (Value × Value × En)} {cs : Array Value} {t : Int} (h : Chg base w lv es) (hq : w.heap[q]? = some (.cells cs 5 (0, 0))) : Chg base (w.setCell ⟨q, 0, none⟩ (.int .u8 t)) lv es := by
  refine ⟨?_, fun y hy => ⟨(h.each y hy).1.set, (h.each y hy).2.set⟩⟩
  refine World.ownsRow.kept h.row (gset w ⟨q, 0, none⟩ (.int .u8 t)) ?_
  rcases h.row.2 with ⟨hv, _⟩ | ⟨g, cap, cur, hv, _, hg, _⟩
  · rw [hv]; exact .inl rfl
  · rw [hv]; right
    intro e
    have e2 : g = q := by injection e
    subst e2
    rw [hq] at hg
    injection hg with hg
    injection hg with _ ht
    exact absurd ht (by decide)

set_option maxRecDepth 100000 in
set_option maxHeartbeats 8000000 in
theorem own_any' (w : World) (ao : Option Addr) (n c : Nat) (l : List En) (x0 : Int) (h : Raws w (.slice ao n c) l) (h0 : 0 ≤ x0) (h9 : x0 ≤ 255) :
    Calls Try.prog 8 #[.slice ao n c, .int .u8 x0] w fun r w' => r = .returned (.bool true) ∧ Below w.heap.size w w' := by
  have H := Lib.hid h
  clear h
  by_cases hf : FewP l
  · have HF := Lib.hid hf
    clear hf
    go_enter Try.func8, Try.ntmps8
    go_wp2_with (first
      | (go_at_call 14; refine (awake4_any _).mono ?_; rintro r wA ⟨rfl, hgA⟩; have HGA := Lib.hid hgA; clear hgA)
      | (go_at_call 15; refine (few_yes H.out (gbelow HGA.out) HF.out).mono ?_; rintro r w1 ⟨rfl, rfl⟩)
      | (go_at_call 16; refine (ents_s H.out (gbelow HGA.out) HF.out).mono ?_; rintro r w1 ⟨la, m, lc, rv, X, rfl, hm, hm30, hfi, hen, hrr, hg1⟩; obtain ⟨ra, rc, rfl⟩ := hrr.shape; have HM := Lib.hid hm; have HFI := Lib.hid hfi; have HEN := Lib.hid hen; have HRR := Lib.hid hrr; have HG1 := Lib.hid (gtrans HGA.out hg1); clear hm hfi hen hrr hg1))
    by_cases hr : RightP X 512
    · by_cases hle : fillL leafY X ≤ 512
      · have HR := Lib.hid hr
        have HLE := Lib.hid hle
        have HOK := Lib.hid (fun x hx => (HFI.out.ok x hx).1)
        clear hr hle
        go_wp2_with (first
          | (go_at_call 17; have Kc := put_ok w1 w1.heap.size la m lc X 512 HEN.out (Nat.le_refl _) HR.out HLE.out; refine Kc.mono ?_; clear Kc; rintro r w2 ⟨gb, rfl, _, hp, hg2⟩; have HP := Lib.hid hp; have HG2 := Lib.hid hg2; clear hp hg2)
          | (go_at_call 25; have Kc := get_back (w := w2) (B := w2.heap.size) (l := X) (S := 512) (seq_page HP.out (pageB_len (Y := leafY) HLE.out) (by decide)) (Nat.le_refl _) HOK.out HR.out HLE.out; refine Kc.mono ?_; clear Kc; rintro r w3 ⟨lv, es, rfl, hes, heo, hl, hg3⟩; obtain ⟨ya, yc, hyv⟩ := own_shape heo.row; subst hyv; have HES := Lib.hid hes; have HCH := Lib.hid (Chg.of heo); have HB3 := Lib.hid (gbelow hg3); have hem : es.length = m := (by have := congrArg List.length hes; rw [List.length_map] at this; rw [this]; exact HM.out.symm); have HEM := Lib.hid hem; rw [hem]; clear hes heo hl hg3 hem))
        have HKL := Lib.hid (show ∀ y ∈ es, 0 < y.2.2.key.length from fun y hy => by
          obtain ⟨i, hi⟩ := List.getElem?_of_mem hy
          have hx : X[i]? = some y.2.2 := by rw [← HES.out, List.getElem?_map, hi]; rfl
          exact (HR.out.2.2 i _ (List.getElem?_eq_some_iff.1 hx).1 hx).1.1)
        go_loopg [13] m (fun q i wr => ∃ (k : Nat), k + q = m ∧ i = .int .i64 (k : Int) ∧ Chg w2.heap.size wr (.slice ya m yc) es ∧ Below w2.heap.size w2 wr)
        case atStart => exact ⟨0, by omega, rfl, by have h := HCH.out; rw [HEM.out] at h; exact h, HB3.out⟩
        case round =>
          obtain ⟨k, hkq, rfl, hch, hbel⟩ := hrel
          by_cases hlt : k < m
          · obtain ⟨q, rfl⟩ : ∃ q, gk = q + 1 := ⟨gk - 1, by omega⟩
            have hki : (k : Int) < (m : Int) := by omega
            obtain ⟨y, hy⟩ : ∃ y, es[k]? = some y := ⟨_, List.getElem?_eq_getElem (by have := HEM.out; omega)⟩
            obtain ⟨c0, c1, _, _⟩ := flat4 es k y hy
            obtain ⟨lb, hlb, hcc, cse, hle⟩ : ∃ lb, ya = some ⟨lb, 0, none⟩ ∧ (∀ (j : Nat) (u : Value), (es.flatMap ecl)[j]? = some u → wr.cell? ⟨lb, j, none⟩ = some u) ∧ ∃ cs, wr.heap[lb]? = some (.cells cs 43 (0, 0)) := by
              have hr := hch.row
              rcases hr.2 with ⟨hv, h0⟩ | ⟨q, cap, cur, hv, _, hq, _⟩
              · have := HEM.out; omega
              · injection hv with e1 e2 e3
                refine ⟨q, e1, fun j u hu => ?_, _, hq⟩
                have := hr.cells (g := q) (by rw [e1]; rfl) j u hu
                rwa [Addr.add_lit, Nat.zero_add] at this
            subst hlb
            have z0 := hcc _ _ c0
            have z1 := hcc _ _ c1
            obtain ⟨hk1, hv1⟩ := hch.each y (List.mem_of_getElem? hy)
            obtain ⟨g1, d1, x1, e1, hg1, f1, f2, cs1, hh1⟩ := hk1.at (HKL.out y (List.mem_of_getElem? hy))
            have hn1 : 0 < y.2.2.key.length := HKL.out y (List.mem_of_getElem? hy)
            have hne1 : ¬ lb = g1 := fun e => by
              subst e; rw [hle] at hh1; injection hh1 with hh1; injection hh1 with _ ht; exact absurd ht (by decide)
            have HCS := Lib.hid (hch.set (t := 0) hh1)
            obtain ⟨N1, hN1⟩ : ∃ N, N = y.2.2.key.length := ⟨_, rfl⟩
            rw [e1, ← hN1] at z0
            rw [← hN1] at hn1
            have hn1i : (0 : Int) < (N1 : Int) := by omega
            go_upto_region 16 with (fail)
            obtain ⟨t1, ht1⟩ : ∃ t, t = bits BinOp.xor IntKind.u8 x1 x0 := ⟨_, rfl⟩
            rw [← ht1]
            have hch5 := hch.set (t := t1) hh1
            have hbel5 := hbel.setCell (p := ⟨g1, 0, none⟩) hg1 (.int .u8 t1)
            have z5 : (wr.setCell ⟨g1, 0, none⟩ (.int .u8 t1)).cell? ⟨lb, k * 4 + 1, none⟩ = some y.2.1 := (World.cell?_of_block (w := wr) (Below.heap_setCell _ _ _ _ (by simpa using hne1))).trans z1
            have hle5 : ∃ cs, (wr.setCell ⟨g1, 0, none⟩ (.int .u8 t1)).heap[lb]? = some (.cells cs 43 (0, 0)) := ⟨cse, (Below.heap_setCell _ _ _ _ (by simpa using hne1)).trans hle⟩
            clear hch hbel z0 z1 hcc hle hk1 hv1 f1 f2 hh1 e1 hne1 HCS ht1 hg1 HCH
            generalize wr.setCell ⟨g1, 0, none⟩ (.int .u8 t1) = w5 at *
            obtain ⟨_, hv1⟩ := hch5.each y (List.mem_of_getElem? hy)
            obtain ⟨va2, vc2, hvv⟩ := hv1.1
            obtain ⟨N2, hN2⟩ : ∃ N, N = y.2.2.val.length := ⟨_, rfl⟩
            rw [← hN2] at hv1 hvv
            rw [hvv] at z5
            clear hN1 hN2
            by_cases hn2 : 0 < N2
            · obtain ⟨g2, d2, x2, e2, hg2, f3, f4, cs2, hh2⟩ := hv1.at hn2
              rw [hvv] at e2
              injection e2 with e3 e4 e5
              subst e3
              subst e5
              have hn2i : (0 : Int) < (N2 : Int) := by omega
              have hd2 : decide ((0 : Int) < (N2 : Int)) = true := by simpa using hn2i
              have HCH5 := Lib.hid (fun t => hch5.set (t := t) hh2)
              have HB5 := Lib.hid (fun u => hbel5.setCell (p := ⟨g2, 0, none⟩) hg2 u)
              clear hch5 hbel5 hv1 hvv hh2 hy c0 c1
              go_wp2
              go_roundg q
              case measure => omega
              case rel => exact ⟨k + 1, by omega, by go_num, HCH5.out _, HB5.out _⟩
            · obtain rfl : N2 = 0 := by omega
              have HCH5 := Lib.hid hch5
              have HB5 := Lib.hid hbel5
              clear hch5 hbel5 hv1 hvv hy c0 c1
              go_wp2
              go_roundg q
              case measure => omega
              case rel => exact ⟨k + 1, by omega, by go_num, HCH5.out, HB5.out⟩
          · obtain rfl : k = m := by omega
            have HGZ := Lib.hid (show w2.grownBy wr none from gof hbel none)
            have HPZ := Lib.hid ((HGZ.out.block gb (lt_of_block HP.out) (by simp)).trans HP.out)
            have HBZ := Lib.hid hbel
            clear hch hbel HCH
            go_wp2_with (first
              | (go_at_call 25; have Kc := get_back (w := wr) (B := wr.heap.size) (l := X) (S := 512) (seq_page HPZ.out (pageB_len (Y := leafY) HLE.out) (by decide)) (Nat.le_refl _) HOK.out HR.out HLE.out; refine Kc.mono ?_; clear Kc; rintro r w6 ⟨lv6, es6, rfl, hes6, heo6, hl6, hg6⟩; have he6 := heo6.ents (by omega); rw [hes6] at he6; obtain ⟨ya6, yc6, hyv6⟩ := own_shape heo6.row; subst hyv6; have HE6 := Lib.hid he6; have HRR6 := Lib.hid (HRR.out.grown (gtrans HG2.out (gtrans HGZ.out hg6))); have HG6 := Lib.hid (gtrans HGZ.out hg6); clear hes6 heo6 hl6 hg6 he6)
              | (go_at_call 26; refine (same_any w6 _ _ _ _ _ _ _ X HE6.out (Nat.le_refl _) HRR6.out).mono ?_; rintro r w7 ⟨rfl, hg7⟩; have HG7 := Lib.hid (gtrans HG6.out hg7); clear hg7))
            go_ret
            exact ⟨rfl, gbelow (gtrans HG1.out (gtrans HG2.out HG7.out))⟩
      · have hlt1 : (512 : Int) < (fillL leafY X : Int) := by omega
        have HR := Lib.hid hr
        have HLT := Lib.hid hlt1
        clear hr hlt1 hle
        go_wp2_with (go_at_call 17; refine (put_full w1 w1.heap.size la m lc X 512 HEN.out (Nat.le_refl _) HR.out HLT.out).mono ?_; rintro r w3 ⟨rfl, hg3⟩; have HG3 := Lib.hid (gtrans HG1.out hg3); clear hg3)
        go_ret
        exact ⟨rfl, gbelow HG3.out⟩
    · have HR := Lib.hid hr
      clear hr
      go_wp2_with (go_at_call 17; refine (put_arg w1 w1.heap.size la m lc X 512 HEN.out (Nat.le_refl _) HR.out).mono ?_; rintro r w3 ⟨rfl, hg3⟩; have HG3 := Lib.hid (gtrans HG1.out hg3); clear hg3)
      go_ret
      exact ⟨rfl, gbelow HG3.out⟩
  · have HF := Lib.hid hf
    clear hf
    go_enter Try.func8, Try.ntmps8
    go_wp2_with (first
      | (go_at_call 14; refine (awake4_any _).mono ?_; rintro r wA ⟨rfl, hgA⟩; have HGA := Lib.hid hgA; clear hgA)
      | (go_at_call 15; refine (few_no H.out (gbelow HGA.out) HF.out).mono ?_; rintro r w1 ⟨rfl, rfl⟩))
    go_ret
    exact ⟨rfl, gbelow HGA.out⟩

open Go.ChangeShapes Go.WideShapes Go.ChangeAt
set_option linter.unusedVariables false
set_option maxRecDepth 100000 in
theorem own_lifted (os : Os) (started : os.Started) (H : Type) (enc : TypeId × Value → H) :
    ReturnsInHanded {} Try.checked os 8 .any (Rows.leafOwnSpec.pre6 enc Try.prog Try.f8 Rows.leafOwnRow.domain false) (Rows.leafOwnSpec.post enc Try.prog Try.f8 false true false false) := by
  refine returnsInHanded_of_change (C := Try.checked) ownKnob0 started (by kernel_rfl) Try.func8
    (ChangeSpec.witness6 (enc := enc) (C := Try.checked) false ⟨#[], #[.slice none 0 0, .int .u8 0], []⟩ 8 (by kernel_rfl) (by kernel_rfl) (by kernel_rfl) (by kernel_rfl)) ?_
  intro W base args ds gs before hval0 hW hcnd _
  have hval : ∀ (j : Nat) t v, Try.f8.params[j]? = some t → args[j]? = some v → Value.okWide Try.prog W .any base t v := hval0
  have hW' := hW
  obtain ⟨p, q, hA0, hV, rfl, hfz, hnd⟩ := hW
  have hA : DataW.TrodAll enc Try.prog W 0 (fun _ => true) true Try.f8.params.toList args.toList ds p := hA0
  rw [Try.params8] at hA hval
  obtain ⟨v0, vs0, d0, ds0, p0, q0, hargs, rfl, rfl, h0, r0⟩ := trodAll_cons hA
  obtain ⟨v1, vs1, d1, ds1, p1, q1, rfl, rfl, rfl, h1, r1⟩ := trodAll_cons r0
  obtain ⟨rfl, rfl, rfl⟩ := trodAll_nil r1
  obtain rfl : args = #[v0, v1] := by cases args; simp_all
  obtain ⟨rfl, rfl⟩ := trodVars_none hV
  obtain ⟨a0, len0, cap0, rfl⟩ := okWide_slice Try.underlying22 (hval 0 22 v0 rfl rfl)
  have lt0 : ∀ x ∈ p0, x.block < W.heap.size := by obtain ⟨m, hm⟩ := h0; exact DataW.trod_lt m _ _ _ hm
  obtain ⟨z0, w0⟩ := open_raws h0
  obtain ⟨a1, rfl, rfl, rfl, w1⟩ := open_int Try.underlying5 (hval 1 5 v1 rfl rfl) h1
  have b1 := bounds_u8 w1
  clear hA0 hval0
  refine (own_any' W a0 len0 cap0 z0 a1 w0 b1.1 b1.2).mono fun e W' ⟨he, bel⟩ => ?_
  subst he
  exact ⟨_, rfl, _, _, _, [], _, [], hW', trodAll_mk1 (shut_bool Try.underlying4 _), (trodAll_cons_mk (Below.trod laidOut0 (by kernel_rfl) (of_decide_eq_true (by kernel_rfl)) h0 bel lt0) (trodAll_cons_mk (shut_int Try.underlying5 w1) trodAll_mk0)), rfl, bel.frame _, fun h => by cases h⟩

/-- LeafOwn, for every input. -/
theorem leafOwn_holds : Rows.LeafOwnSaid :=
  OpenClaim.holds_of_wide 8 Try.f8 rfl rfl rfl rfl rfl rfl rfl ⟨rfl, rfl, rfl, rfl, rfl⟩ rfl rfl rfl rfl rfl (by kernel_rfl) Try.func8 (by kernel_rfl)
    (of_decide_eq_true (by kernel_rfl)) (by unfold Func.isWrapper; first | (rw [if_pos (by decide +kernel)]; kernel_rfl) | (rw [if_neg (by decide +kernel)]; exact ⟨rfl, rfl⟩))
    (fun os started H enc _ => own_lifted os started H enc)
#print axioms leafOwn_holds

end Go.Proofs.Ytfencmidjolgfaa
