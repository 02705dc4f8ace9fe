/-
  OctetErrs holds: for any bytes and any script the law returns true, and its arguments read as they did. No condition beyond the row's own. Own work; the frame is the guide's.
-/
import Derived.Test.YtmphogmiobpkkaaOctN
namespace Go.Proofs.Ytmphogmiobpkkaa
open Go.RowKit

/-- What is left of a Reader behind any call. -/
def Later (w w' : World) (g : Nat) (bs : List Int) : Prop := ∃ b1 e1, RdAt w' g b1 e1 ∧ w.grownBy w' (some g) ∧ Byt b1 ∧ b1.length ≤ bs.length
def SomeNum (w w' : World) (g : Nat) (bs : List Int) (r : Ending) : Prop := ∃ y : Int, r = .returned (.int .u64 y) ∧ Later w w' g bs
def SomeRow (w w' : World) (g : Nat) (bs : List Int) (r : Ending) : Prop := ∃ (ao : Option Addr) (m c : Nat), r = .returned (.slice ao m c) ∧ Later w w' g bs
def NoRow (w w' : World) (g : Nat) (bs : List Int) (e : Int) (r : Ending) : Prop := ∃ (ao : Option Addr) (c : Nat), r = .returned (.slice ao 0 c) ∧ RdAt w' g bs e ∧ w.grownBy w' (some g)

theorem num_live {w : World} {g : Nat} {bs : List Int} {e n : Int} (h : RdAt w g bs e) (hb : Byt bs) (hl : bs.length ≤ 300) :
    Calls Try.prog 20 #[.pointer (some ⟨g, 0, none⟩), .int .i64 n] w fun r w' => SomeNum w w' g bs r :=
  (num_any w g bs e n h hb (by omega)).mono fun r w' ⟨hr, hd, hg⟩ => ⟨_, hr, _, _, hd, hg, (nx_byt hb _ _ _).1, nx_rest _ _ _ _⟩
theorem var_live {w : World} {g : Nat} {bs : List Int} {e : Int} (h : RdAt w g bs e) (hb : Byt bs) (hl : bs.length ≤ 300) :
    Calls Try.prog 19 #[.pointer (some ⟨g, 0, none⟩)] w fun r w' => SomeNum w w' g bs r :=
  (rvar_any w g bs e h hb (by omega)).mono fun r w' ⟨hr, hd, hg⟩ => ⟨_, hr, _, _, hd, hg, vx_byt hb _, vx_rest _ _⟩
theorem raw_live {w : World} {g : Nat} {bs : List Int} {e n : Int} (h : RdAt w g bs e) (hb : Byt bs) (hl : bs.length ≤ 300) :
    Calls Try.prog 25 #[.pointer (some ⟨g, 0, none⟩), .int .i64 n] w fun r w' => SomeRow w w' g bs r :=
  (raw_any w g bs e n h (by omega)).mono fun r w' ⟨ao, c, hr, _, hd, hg⟩ => ⟨ao, _, c, hr, _, _, hd, hg, (nx_byt hb _ _ _).1, nx_rest _ _ _ _⟩
theorem bx_rest (bs : List Int) (e m : Int) : (bx bs e m).1.length ≤ bs.length := by
  have h := vx_rest bs e
  unfold bx; split
  · exact h
  · split
    · exact h
    · exact Nat.le_trans (nx_rest _ _ _ _) h
theorem bx_byt {bs : List Int} (hb : Byt bs) (e m : Int) : Byt (bx bs e m).1 := by
  have h := vx_byt hb e
  unfold bx; split
  · exact h
  · split
    · exact h
    · exact (nx_byt h _ _ _).1
theorem bytes_live {w : World} {g : Nat} {bs : List Int} {e n : Int} (h : RdAt w g bs e) (hb : Byt bs) (hl : bs.length ≤ 300) (hn : -9223372036854775808 ≤ n ∧ n ≤ 9223372036854775807) :
    Calls Try.prog 21 #[.pointer (some ⟨g, 0, none⟩), .int .i64 n] w fun r w' => SomeRow w w' g bs r :=
  (rbytes_any w g bs e n h hb (by omega) hn.1 hn.2).mono fun r w' ⟨ao, c, hr, _, hd, hg⟩ => ⟨ao, _, c, hr, _, _, hd, hg, bx_byt hb _ _, bx_rest _ _ _⟩
theorem num_dead {w : World} {g : Nat} {bs : List Int} {e n : Int} (h : RdAt w g bs e) (he : ¬ e = 0) (hb : Byt bs) (hl : bs.length ≤ 300) :
    Calls Try.prog 20 #[.pointer (some ⟨g, 0, none⟩), .int .i64 n] w fun r w' => r = .returned (.int .u64 0) ∧ RdAt w' g bs e ∧ w.grownBy w' (some g) :=
  num_at (out := []) h (by simp [nx, he]) hb (by omega)
theorem var_dead {w : World} {g : Nat} {bs : List Int} {e : Int} (h : RdAt w g bs e) (he : ¬ e = 0) (hb : Byt bs) (hl : bs.length ≤ 300) :
    Calls Try.prog 19 #[.pointer (some ⟨g, 0, none⟩)] w fun r w' => r = .returned (.int .u64 0) ∧ RdAt w' g bs e ∧ w.grownBy w' (some g) :=
  rvar_at h (by simp [vx, he]) hb (by omega)
theorem raw_dead {w : World} {g : Nat} {bs : List Int} {e n : Int} (h : RdAt w g bs e) (he : ¬ e = 0) (hl : bs.length ≤ 300) :
    Calls Try.prog 25 #[.pointer (some ⟨g, 0, none⟩), .int .i64 n] w fun r w' => NoRow w w' g bs e r :=
  (raw_at (out := []) h (by simp [nx, he]) (by omega)).mono fun r w' ⟨ao, c, hr, _, hd, hg⟩ => ⟨ao, c, hr, hd, hg⟩
theorem bytes_dead {w : World} {g : Nat} {bs : List Int} {e n : Int} (h : RdAt w g bs e) (he : ¬ e = 0) (hb : Byt bs) (hl : bs.length ≤ 300) (hn : -9223372036854775808 ≤ n ∧ n ≤ 9223372036854775807) :
    Calls Try.prog 21 #[.pointer (some ⟨g, 0, none⟩), .int .i64 n] w fun r w' => NoRow w w' g bs e r :=
  (rbytes_at (out := []) h (by simp [bx, vx, he]) hb (by omega) hn.1 hn.2).mono fun r w' ⟨ao, c, hr, _, hd, hg⟩ => ⟨ao, c, hr, hd, hg⟩

theorem four_new (w : World) (C : Array Value) (t : TypeId) (j : Nat) (v : Value) (h : C[j]? = some v) : (w.alloc (.cells C t)).cell? ⟨w.heap.size, j, none⟩ = some v := by
  rw [World.cell?_alloc_mark]; exact h

set_option maxHeartbeats 8000000 in
theorem errs_any (w : World) (a1 a2 : Option Addr) (n1 n2 c1 c2 : Nat) (xs : List Int) (h1 : Seq w.heap.size w (.slice a1 n1 c1) xs) (hby : Byt xs) (h2 : Acts w (.slice a2 n2 c2) n2) (hn2 : n2 ≤ 9223372036854775807) :
    Calls Try.prog 6 #[.slice a1 n1 c1, .slice a2 n2 c2] w fun r w' => r = .returned (.bool true) ∧ Below w.heap.size w w' := by
  have hl1 : n1 = xs.length := by obtain ⟨_, _, hv, _⟩ := h1; injection hv
  have HL1 := Lib.hid hl1
  clear hl1
  by_cases hb1 : 300 < n1
  · clear h1 h2 hby
    go_enter Try.func6, Try.ntmps6
    go_wp2_with (go_at_call 8; refine (awake_any _).mono ?_; rintro r wA ⟨rfl, hgA⟩)
    go_ret
    exact ⟨rfl, gbelow hgA⟩
  · have HX300 := Lib.hid (show xs.length ≤ 300 by rw [← HL1.out]; omega)
    have H1 := Lib.hid h1
    have H2 := Lib.hid h2
    have HBY := Lib.hid hby
    clear h1 h2 hby
    go_enter Try.func6, Try.ntmps6
    go_wp2_with (first
      | (go_at_call 8; refine (awake_any _).mono ?_; rintro r wA ⟨rfl, hgA⟩; have HbA := Lib.hid (gbelow hgA); have hzA := hgA.size)
      | (go_at_call 18; have K := newR_any wA _ _ xs (H1.out.below HbA.out.block) hzA (by have := HX300.out; omega); ((with_reducible refine K.mono ?_); clear K; rintro r w1 ⟨gr, rfl, hgr, hr1, hg1⟩; have HB1 := Lib.hid (HbA.out.trans ((gbelow hg1).mono hzA)))))
    have HGR := Lib.hid (show w.heap.size ≤ gr by omega)
    have HR1 := Lib.hid hr1
    clear hr1 hg1 hgA hgr
    go_loopw [7, 8] (fun f i wr => ∃ (k : Nat) (bs : List Int) (e : Int), k ≤ n2 ∧ i = .int .i64 k ∧ f = .int .i64 e ∧ RdAt wr gr bs e ∧ Byt bs ∧ bs.length ≤ 300 ∧ Below w.heap.size w wr) (fun _ i _ => n2 - (intOf i).toNat)
    case atStart => exact ⟨0, xs, 0, Nat.zero_le _, rfl, rfl, HR1.out, HBY.out, HX300.out, HB1.out⟩
    case round =>
      obtain ⟨k, bs, e, hk, rfl, rfl, hrd, hbb, hbl, hbq⟩ := hrel
      by_cases hlt : k < n2 ∧ k < 40
      · obtain ⟨hlt, hlt40⟩ := hlt
        obtain ⟨ao, c, hv, hcs⟩ := H2.out
        obtain ⟨b, o, rfl, hbB, hacts⟩ := hcs (by omega)
        injection hv with hv1 hv2 hv3
        subst hv1
        obtain ⟨K, X, N, ya, yn, yc, ys, q0, q1, q2, q3, hKb, hXb, hNb, _, _⟩ := hacts k hlt
        have cc0 := (hbq.cell (p := ⟨b, o + k * 4, none⟩) hbB).trans q0
        have cc1 := (hbq.cell (p := ⟨b, o + k * 4 + 1, none⟩) hbB).trans q1
        have cc2 := (hbq.cell (p := ⟨b, o + k * 4 + 2, none⟩) hbB).trans q2
        have cc3 := (hbq.cell (p := ⟨b, o + k * 4 + 3, none⟩) hbB).trans q3
        clear q0 q1 q2 q3 hacts hcs hv2 hv3
        have HRD := Lib.hid hrd
        have HBB := Lib.hid hbb
        have HBQ := Lib.hid hbq
        clear hrd hbb hbq
        go_wp2_with fail
        have d0 := four_new wr #[.int .u8 K, .int .u64 X, .int .i64 N, .slice ya yn yc] 29 0 _ rfl
        have d2 := four_new wr #[.int .u8 K, .int .u64 X, .int .i64 N, .slice ya yn yc] 29 2 _ rfl
        have hrd := HRD.out.kept (w' := wr.alloc (.cells #[.int .u8 K, .int .u64 X, .int .i64 N, .slice ya yn yc] 29)) (fun i hi => Below.heap_alloc _ _ _ (by have := HRD.out.lt; omega))
        have hbq := HBQ.out.alloc (HBQ.out.size) (.cells #[.int .u8 K, .int .u64 X, .int .i64 N, .slice ya yn yc] 29)
        generalize wr.alloc (.cells #[.int .u8 K, .int .u64 X, .int .i64 N, .slice ya yn yc] 29) = WA at *
        clear cc0 cc1 cc2 cc3 HRD HBQ
        have HBQ := Lib.hid hbq
        have HND := Lib.hid hNb
        have hand := and3 K hKb.1 hKb.2
        have HB := fun (w2 : World) (hg : WA.grownBy w2 (some gr)) => hbq.grown hg hbq.size (by intro i e; injection e with e; have := HGR.out; omega)
        clear hbq hNb
        by_cases he : e = 0
        · subst he
          rcases (show K % 4 = 0 ∨ K % 4 = 1 ∨ K % 4 = 2 ∨ K % 4 = 3 by omega) with hq | hq | hq | hq
          all_goals
            rw [hq] at hand
            clear hq hKb
            have HH := Lib.hid HB
            clear HB
            go_wp2_with (first
              | (go_at_call 24; ((with_reducible refine (left_any WA gr bs 0 hrd).mono ?_); rintro r w1 ⟨rfl, rfl⟩))
              | (go_at_call 20; have K := num_live (n := N) hrd HBB.out hbl; ((with_reducible refine K.mono ?_); clear K; rintro r w2 ⟨y, rfl, b1, e1, hr2, hg2, hb2, hl2⟩))
              | (go_at_call 19; have K := var_live hrd HBB.out hbl; ((with_reducible refine K.mono ?_); clear K; rintro r w2 ⟨y, rfl, b1, e1, hr2, hg2, hb2, hl2⟩))
              | (go_at_call 21; have K := bytes_live (n := N) hrd HBB.out hbl HND.out; ((with_reducible refine K.mono ?_); clear K; rintro r w2 ⟨az, mz, cz, rfl, b1, e1, hr2, hg2, hb2, hl2⟩))
              | (go_at_call 25; have K := raw_live (n := N) hrd HBB.out hbl; ((with_reducible refine K.mono ?_); clear K; rintro r w2 ⟨az, mz, cz, rfl, b1, e1, hr2, hg2, hb2, hl2⟩))
              | (go_at_call 23; ((with_reducible refine (err_any w2 gr b1 e1 hr2).mono ?_); rintro r w3 ⟨rfl, rfl⟩)))
            go_roundw
            case rel => exact ⟨k + 1, b1, e1, by omega, by go_num, rfl, hr2, hb2, by omega, HH.out w2 hg2⟩
            case measure => simp [intOf]; omega
        · have HE := Lib.hid he
          rcases (show K % 4 = 0 ∨ K % 4 = 1 ∨ K % 4 = 2 ∨ K % 4 = 3 by omega) with hq | hq | hq | hq
          all_goals
            rw [hq] at hand
            clear hq hKb
            have HH := Lib.hid HB
            clear HB
            go_wp2_with (first
              | (go_at_call 24; ((with_reducible refine (left_any WA gr bs e hrd).mono ?_); rintro r w1 ⟨rfl, rfl⟩))
              | (go_at_call 20; have K := num_dead (n := N) hrd HE.out HBB.out hbl; ((with_reducible refine K.mono ?_); clear K; rintro r w2 ⟨rfl, hr2, hg2⟩))
              | (go_at_call 19; have K := var_dead hrd HE.out HBB.out hbl; ((with_reducible refine K.mono ?_); clear K; rintro r w2 ⟨rfl, hr2, hg2⟩))
              | (go_at_call 21; have K := bytes_dead (n := N) hrd HE.out HBB.out hbl HND.out; ((with_reducible refine K.mono ?_); clear K; rintro r w2 ⟨az, cz, rfl, hr2, hg2⟩))
              | (go_at_call 25; have K := raw_dead (n := N) hrd HE.out hbl; ((with_reducible refine K.mono ?_); clear K; rintro r w2 ⟨az, cz, rfl, hr2, hg2⟩))
              | (go_at_call 23; ((with_reducible refine (err_any w2 gr bs e hr2).mono ?_); rintro r w3 ⟨rfl, rfl⟩))
              | (go_at_call 24; ((with_reducible refine (left_any w2 gr bs e hr2).mono ?_); rintro r w1 ⟨rfl, rfl⟩)))
            go_roundw
            case rel => exact ⟨k + 1, bs, e, by omega, by go_num, rfl, hr2, HBB.out, hbl, HH.out w2 hg2⟩
            case measure => simp [intOf]; omega
      · have HBQ := Lib.hid hbq
        clear hbq hrd hbb
        by_cases hlt2 : k < n2
        · have h40 : 40 ≤ k := by omega
          clear hlt
          go_wp2
          go_ret
          exact ⟨rfl, HBQ.out⟩
        · obtain rfl : k = n2 := by omega
          clear hlt
          go_wp2
          go_ret
          exact ⟨rfl, HBQ.out⟩

open Go.ChangeShapes Go.WideShapes Go.ChangeAt
set_option linter.unusedVariables false
set_option maxRecDepth 100000 in
theorem errs_lifted (os : Os) (started : os.Started) (H : Type) (enc : TypeId × Value → H) :
    ReturnsInHanded {} Try.checked os 6 .any (Rows.octetErrsSpec.pre6 enc Try.prog Try.f6 Rows.octetErrsRow.domain false) (Rows.octetErrsSpec.post enc Try.prog Try.f6 false true false false) := by
  refine returnsInHanded_of_change (C := Try.checked) ownKnob0 started (by kernel_rfl) Try.func6
    (ChangeSpec.witness6 (enc := enc) (C := Try.checked) false ⟨#[], #[.slice none 0 0, .slice none 0 0], []⟩ 8 (by kernel_rfl) (by kernel_rfl) (by kernel_rfl) (by kernel_rfl)) ?_
  intro W base args ds gs before hval0 hW hcnd _
  have hval : ∀ (j : Nat) t v, Try.f6.params[j]? = some t → args[j]? = some v → Value.okWide Try.prog W .any base t v := hval0
  have hW' := hW
  obtain ⟨p, q, hA0, hV, rfl, hfz, hnd⟩ := hW
  have hA : DataW.TrodAll enc Try.prog W 0 (fun _ => true) true Try.f6.params.toList args.toList ds p := hA0
  rw [Try.params6] at hA hval
  obtain ⟨v0, vs0, d0, ds0, p0, q0, hargs, rfl, rfl, h0, r0⟩ := trodAll_cons hA
  obtain ⟨v1, vs1, d1, ds1, p1, q1, rfl, rfl, rfl, h1, r1⟩ := trodAll_cons r0
  obtain ⟨rfl, rfl, rfl⟩ := trodAll_nil r1
  obtain rfl : args = #[v0, v1] := by cases args; simp_all
  obtain ⟨rfl, rfl⟩ := trodVars_none hV
  obtain ⟨a0, len0, cap0, rfl⟩ := okWide_slice Try.underlying27 (hval 0 27 v0 rfl rfl)
  have lt0 : ∀ x ∈ p0, x.block < W.heap.size := by obtain ⟨m, hm⟩ := h0; exact DataW.trod_lt m _ _ _ hm
  obtain ⟨z0, w0, u0⟩ := open_bytes h0
  obtain ⟨a1, len1, cap1, rfl⟩ := okWide_slice Try.underlying22 (hval 1 22 v1 rfl rfl)
  have lt1 : ∀ x ∈ p1, x.block < W.heap.size := by obtain ⟨m, hm⟩ := h1; exact DataW.trod_lt m _ _ _ hm
  obtain ⟨w1, u1⟩ := open_acts h1
  clear hA0 hval0
  refine (errs_any W a0 a1 len0 len1 cap0 cap1 z0 w0 u0 w1 u1).mono fun e W' ⟨he, bel⟩ => ?_
  subst he
  exact ⟨_, rfl, _, _, _, [], _, [], hW', trodAll_mk1 (shut_bool Try.underlying4 _), (trodAll_cons_mk (Below.trod laidOut0 (by kernel_rfl) (of_decide_eq_true (by kernel_rfl)) h0 bel lt0) (trodAll_cons_mk (Below.trod laidOut0 (by kernel_rfl) (of_decide_eq_true (by kernel_rfl)) h1 bel lt1) trodAll_mk0)), rfl, bel.frame _, fun h => by cases h⟩

/-- OctetErrs, for every input. -/
theorem octetErrs_holds : Rows.OctetErrsSaid :=
  OpenClaim.holds_of_wide 6 Try.f6 rfl rfl rfl rfl rfl rfl rfl ⟨rfl, rfl, rfl, rfl, rfl⟩ rfl rfl rfl rfl rfl (by kernel_rfl) Try.func6 (by kernel_rfl)
    (of_decide_eq_true (by kernel_rfl)) (by unfold Func.isWrapper; first | (rw [if_pos (by decide +kernel)]; kernel_rfl) | (rw [if_neg (by decide +kernel)]; exact ⟨rfl, rfl⟩))
    (fun os started H enc _ => errs_lifted os started H enc)
#print axioms octetErrs_holds

end Go.Proofs.Ytmphogmiobpkkaa
