/-
  PagerNone: of no file and no change there is nothing; a change that ended does nothing more; a page that there isn't isn't read, nor let go of. Proved for every input, no condition.
-/
import Derived.Test.YtildjdhoeilcfaaGreatPagerNoneAA
import Derived.ProofKit
import Derived.OpenShut
import Derived.ShutString
import Derived.ChangeOld

namespace Go.Proofs.YtildjdhoeilcfaaGreat
open Go.RowKit Go.Maps

set_option maxRecDepth 100000 in
set_option maxHeartbeats 16000000 in
theorem pnone_any (W : World) (p x : Int) (hp0 : 0 ≤ p) (hp1 : p ≤ 4294967295) (hx0 : 0 ≤ x) (hx1 : x ≤ 255) :
    Calls Tryz.prog 6 #[.int .u32 p, .int .u8 x] W fun r w' => r = .returned (.bool true) ∧ Below W.heap.size W w' := by
  have hmay : May ((512 : Nat) : Int) ((30 : Nat) : Int) := by decide
  obtain ⟨P, rfl⟩ : ∃ P : Nat, p = (P : Int) := ⟨p.toNat, by omega⟩
  obtain ⟨X, rfl⟩ : ∃ X : Nat, x = (X : Int) := ⟨x.toNat, by omega⟩
  have hP : P < 4294967296 := by omega
  obtain ⟨k, hk⟩ : ∃ k : Nat, k = X % 20 := ⟨_, rfl⟩
  have hk20 : k < 20 := by omega
  have hXk : (X : Int).tmod 20 = (k : Int) := by rw [hk]; rfl
  have hwk : IntKind.u8.wrap (k : Int) = (k : Int) := by rw [show IntKind.u8.wrap (k : Int) = (k : Int) % 256 from rfl]; omega
  have hwk2 : IntKind.i64.wrap (k : Int) = (k : Int) := IntWalk.i64_in _ (by omega)
  clear hk hp0 hp1 hx0 hx1
  go_enter Tryz.func6, Tryz.ntmps6
  go_wp2_with (first
    | (go_at_call 9; (with_reducible refine (awake11_any W).mono ?_); rintro r w1 ⟨rfl, hg⟩; have HG1 := Lib.hid (kt_new (B := W.heap.size) hg); clear hg)
    | (go_at_call 11; ((with_reducible refine (open_nil _).mono ?_); rintro r w' ⟨rfl, rfl⟩))
    | (go_at_call 35; ((with_reducible refine (fread_nil _ 2).mono ?_); rintro r w' ⟨rfl, rfl⟩))
    | (go_at_call 12; ((with_reducible refine (begin_nil _ 1).mono ?_); rintro r w' ⟨rfl, rfl⟩))
    | (go_at_call 36; ((with_reducible refine (tread_nil _ 2).mono ?_); rintro r w' ⟨rfl, rfl⟩))
    | (go_at_call 14; ((with_reducible refine (tnew_nil _ _).mono ?_); rintro r w' ⟨rfl, rfl⟩))
    | (go_at_call 17; ((with_reducible refine (tfree_nil _ 2).mono ?_); rintro r w' ⟨rfl, rfl⟩))
    | (go_at_call 19; ((with_reducible refine (tcommit_nil 0 _).mono ?_); rintro r w' ⟨rfl, rfl⟩))
    | (go_at_call 37; ((with_reducible refine (over_nil _).mono ?_); rintro r w' ⟨rfl, rfl⟩))
    | (go_at_call 34; ((with_reducible refine (fnil_gets _).1.mono ?_); rintro r w' ⟨rfl, rfl⟩))
    | (go_at_call 38; ((with_reducible refine (tsize_nil _).mono ?_); rintro r w' ⟨rfl, rfl⟩))
    | (go_at_call 13; ((with_reducible refine (fmeta_nil _).mono ?_); rintro r w2 ⟨he, hg⟩; obtain rfl : r = .returned (.agg #[.int .u64 0, .int .u32 0, .int .u32 0, .int .u32 0]) := he; have HG2 := Lib.hid (HG1.out.trans (kt_new hg)); clear hg))
    | (go_at_call 32; ((with_reducible refine (fnil_gets _).2.2.1.mono ?_); rintro r w' ⟨rfl, rfl⟩))
    | (go_at_call 29; ((with_reducible refine (fnil_gets _).2.2.2.mono ?_); rintro r w' ⟨rfl, rfl⟩))
    | (go_at_call 24; ((with_reducible refine (fnil_gets _).2.1.mono ?_); rintro r w' ⟨rfl, rfl⟩))
    | (go_at_call 10; refine (new_good _ 512 30 hmay).mono ?_; rintro e w3 ⟨rfl, hw0⟩; have hpn := pd_new (B := W.heap.size) HG2.out.size hw0; have HP3 := Lib.hid hpn.1; have HG3 := Lib.hid (HG2.out.trans (kt_new (B := W.heap.size) hpn.2)); clear hpn hw0)
    | (go_at_call 11; refine (law_open (fun _ => []) HP3.out (by decide) (by decide)).mono ?_; rintro e w4 ⟨f, M4, rfl, hl, hd⟩; have HL4 := Lib.hid hl; have HG4 := Lib.hid (HG3.out.trans (kt_dfr hd)); clear hl hd HP3)
    | (go_at_call 12; refine (law_begin HL4.out (by decide) (o := 5) (by decide) (fun _ => []) _ rfl).mono ?_; rintro e w5 ⟨t, y, rfl, hl, hd⟩; have HL5 := Lib.hid hl; have HG5 := Lib.hid (HG4.out.trans (kt_new hd)); clear hl hd HL4))
  have HS : Hid (∃ T V I E, PnI W.heap.size w2.heap.size f t y w5 30 35 M4 (fun _ => []) T V I E 0) := Lib.hid ⟨_, _, _, _, HL5.out, rfl, rfl, fun q => ⟨fun h => (by cases h), fun h => (by omega)⟩⟩
  clear HL5
  go_loopg [25] k (fun gk i wr => ∃ j : Nat, j + gk = k ∧ i = .int .i64 j ∧ Hid ((∃ T V I E, PnI W.heap.size w2.heap.size f t y wr 30 35 M4 (fun _ => []) T V I E j) ∧ Kfr KT W.heap.size W wr))
  case atStart => exact ⟨0, by omega, rfl, Lib.hid ⟨HS.out, HG5.out⟩⟩
  case round =>
    obtain ⟨j, hj, rfl, hh⟩ := hrel
    have HI := Lib.hid hh.out.1
    have HG6 := Lib.hid hh.out.2
    clear hh HS HG5
    by_cases hlt : j < k
    · obtain ⟨g, rfl⟩ : ∃ g, gk = g + 1 := ⟨gk - 1, by omega⟩
      have hki : (j : Int) < (k : Int) := by omega
      have hw8 : IntKind.u8.wrap (j : Int) = (j : Int) := by rw [show IntKind.u8.wrap (j : Int) = (j : Int) % 256 from rfl]; omega
      have hwc : IntKind.i64.wrap ((2 + j : Nat) : Int) = ((2 + j : Nat) : Int) := IntWalk.i64_in _ (by omega)
      have hwd : IntKind.i64.wrap ((j : Int) + 2) = ((2 + j : Nat) : Int) := by rw [show ((j : Int) + 2) = ((2 + j : Nat) : Int) by omega]; exact hwc
      generalize hq : ((2 + j : Nat) : Int) = q at hwc hwd
      have HQ := Lib.hid hq
      clear hq
      go_wp2_with (first
        | (go_at_call 15; refine (page_any _ 512 (j : Int) (by decide)).mono ?_; rintro e w7 ⟨b, rfl, ho, hg⟩; have HO7 := Lib.hid ho; have HG7 := Lib.hid (HG6.out.trans (kt_new hg)); have HN7 := Lib.hid hg; clear ho hg)
        | (go_at_call 14; obtain ⟨T, V, I, E, hi⟩ := HI.out; refine (pn_new ⟨hi.lt.new HN7.out, hi.us, hi.en, hi.i⟩ (by omega) HO7.out (by intro z hz; have := List.eq_of_mem_replicate hz; omega)).mono ?_; rintro e w8 ⟨rfl, hk8, hi8⟩; rw [HQ.out]; have HI8 := Lib.hid hi8; have HG8 := Lib.hid (HG7.out.trans hk8.any); clear hi hk8 hi8))
      go_roundg g
      case measure => omega
      case rel => exact ⟨j + 1, by omega, by go_num, Lib.hid ⟨HI8.out, HG8.out⟩⟩
    · obtain rfl : k = j := by omega
      have hwP : IntKind.i64.wrap (P : Int) = (P : Int) := IntWalk.i64_in _ (by omega)
      have hw2 : IntKind.i64.wrap ((k : Int) + 2) = (k : Int) + 2 := IntWalk.i64_in _ (by omega)
      obtain ⟨i0, hi, hz0, hz1, hz2⟩ := info_parts infoU8
      obtain ⟨T, V, I, E, hi5⟩ := HI.out
      have H5 := Lib.hid hi5
      clear hi5 HI
      have HUP : ∀ {w' w'' : World} {U : TV}, Kfr KS W.heap.size w' w'' → True := fun _ => trivial
      clear HUP
      rcases (show (2 ≤ P ∧ P < 2 + k) ∨ P < 2 ∨ 2 + k ≤ P by omega) with hin | hin | hin
      all_goals
        have hf0 := (meta_fields (.int .u64 1) (.int .u32 2) (.int .u32 0) (.int .u32 0)).1
        first
          | (have hcode : (if 2 ≤ P ∧ P < 2 + k then (0 : Int) else 24) = 0 := if_pos hin; have h1 : (2 : Int) ≤ (P : Int) := (by omega); have h1' : ¬ (P : Int) < 2 := (by omega); have h2 : (P : Int) < (k : Int) + 2 := (by omega))
          | (have hcode : (if 2 ≤ P ∧ P < 2 + k then (0 : Int) else 24) = 24 := if_neg (by omega); have h1 : (2 : Int) ≤ (P : Int) := (by omega); have h1' : ¬ (P : Int) < 2 := (by omega); have h2 : ¬ (P : Int) < (k : Int) + 2 := (by omega))
          | (have hcode : (if 2 ≤ P ∧ P < 2 + k then (0 : Int) else 24) = 24 := if_neg (by omega); have h1 : ¬ (2 : Int) ≤ (P : Int) := (by omega); have h1' : (P : Int) < 2 := (by omega))
        have HC := Lib.hid hcode
        clear hcode
        go_wp2_with (first
          | (go_at_call 36; (with_reducible refine (pn_read H5.out (by decide) P hP _ rfl).mono ?_); rintro r w7 ⟨v7, rfl, hg⟩; rw [HC.out]; have H7 := Lib.hid (PnI.mk (H5.out.lt.new hg) H5.out.us H5.out.en H5.out.i); have HG7 := Lib.hid (HG6.out.trans (kt_new hg)); clear hg)
          | (go_at_call 17; (with_reducible refine (pn_free H7.out P hP _ rfl).mono ?_); rintro r w8 ⟨rfl, hk8, U, hU, hD⟩; rw [HC.out]; have HU := Lib.hid hU; have HD8 := Lib.hid hD; have HL8 := Lib.hid (H7.out.lt.ls.ks hk8); have HT8 := Lib.hid (H7.out.lt.tx.kfr hk8 (not_KS (by decide))); have HG8 := Lib.hid (HG7.out.trans hk8.any); clear hk8 hU hD)
          | (at_make; refine wpList_make_full _ rfl _ _ 32 rfl w8.heap.size 5 i0 (.int .u8 0) 1 Tryz.underlying32 hi hz0 hz1 .i64 .i64 _ _ 511 rfl rfl ?c1 ?c2 ?c3 ?c4 (Nat.le_refl _) ?_; (case c1 => rfl); (case c2 => rfl); (case c3 => rw [hz2]; decide); (case c4 => unfold maxLen; decide); intro w9 hown hgM; have HD9 := Lib.hid (HD8.out.new hgM); have HL9 := Lib.hid (HL8.out.new hgM); have HT9 := Lib.hid (HT8.out.new hgM); have HG9 := Lib.hid (HG8.out.trans (kt_new hgM)); clear hown hgM)
          | (go_at_call 14; refine (tnew_len HT9.out HL9.out.fl HL9.out.pd (by rw [HL9.out.re.sz]; decide)).mono ?_; rintro r w' ⟨rfl, rfl⟩)
          | (go_at_call 19; (with_reducible refine (tcommit_one HT9.out HL9.out.fl HD9.out HU.out).mono ?_); rintro r w10 ⟨rfl, ht, hk⟩; have HT10 := Lib.hid ht; have HL10 := Lib.hid (HL9.out.kfr hk (by simp) (by simp) (by simp) (by simp) (by simp) (by simp) (by simp)); have HG10 := Lib.hid (HG9.out.trans hk.any); clear ht hk)
          | (go_at_call 15; refine (page_any _ 512 1 (by decide)).mono ?_; rintro e w11 ⟨b, rfl, ho, hg⟩; have HL11 := Lib.hid (HL10.out.new hg); have HT11 := Lib.hid (HT10.out.new hg); have HG11 := Lib.hid (HG10.out.trans (kt_new hg)); clear ho hg)
          | (go_at_call 14; (with_reducible refine (tnew_after HT11.out HL11.out.fl HL11.out.pd HL11.out.re).mono ?_); rintro r w' ⟨rfl, rfl⟩)
          | (go_at_call 36; (with_reducible refine (tread_over HT11.out _).mono ?_); rintro r w' ⟨rfl, rfl⟩)
          | (go_at_call 17; (with_reducible refine (tfree_over HT11.out _).mono ?_); rintro r w' ⟨rfl, rfl⟩)
          | (go_at_call 19; (with_reducible refine (tcommit_over HT11.out _).mono ?_); rintro r w' ⟨rfl, rfl⟩)
          | (go_at_call 13; (with_reducible refine (fmeta_any HL11.out.fl).mono ?_); rintro e w12 ⟨he, hg⟩; obtain rfl : e = .returned (.agg #[.int .u64 1, .int .u32 2, .int .u32 0, .int .u32 0]) := he; have HG12 := Lib.hid (HG11.out.trans (kt_new hg)); clear hg))
        go_ret
        exact ⟨rfl, HG12.out.below (Nat.le_refl _)⟩

open Go.ChangeShapes Go.WideShapes Go.ChangeAt
set_option linter.unusedVariables false
set_option maxRecDepth 100000 in
theorem pnone_lifted (os : Os) (started : os.Started) (H : Type) (enc : TypeId × Value → H) :
    ReturnsInHanded {} Tryz.checked os 6 .any (Rows.pagerNoneSpec.pre6 enc Tryz.prog Tryz.f6 Rows.pagerNoneRow.domain false) (Rows.pagerNoneSpec.post enc Tryz.prog Tryz.f6 false true false false) := by
  refine returnsInHanded_of_change (C := Tryz.checked) ownKnob0 started (by kernel_rfl) Tryz.func6
    (ChangeSpec.witness6 (enc := enc) (C := Tryz.checked) false ⟨#[], #[.int .u32 0, .int .u8 0], []⟩ 8 (by kernel_rfl) (by kernel_rfl) (by kernel_rfl) (by kernel_rfl)) ?_
  intro W base args ds gs before hval0 hW hcnd _
  have hval : ∀ (j : Nat) t v, Tryz.f6.params[j]? = some t → args[j]? = some v → Value.okWide Tryz.prog W .any base t v := hval0
  have hW' := hW
  obtain ⟨p, q, hA0, hV, rfl, hfz, hnd⟩ := hW
  have hA : DataW.TrodAll enc Tryz.prog W 0 (fun _ => true) true Tryz.f6.params.toList args.toList ds p := hA0
  rw [Tryz.params6] at hA hval
  obtain ⟨v0, vs0, d0, ds0, p0, q0, hargs, rfl, rfl, h0, r0⟩ := trodAll_cons hA
  obtain ⟨v1, vs1, d1, ds1, p1, q1, rfl, rfl, rfl, h1, r1⟩ := trodAll_cons r0
  obtain ⟨rfl, rfl, rfl⟩ := trodAll_nil r1
  obtain rfl : args = #[v0, v1] := by cases args; simp_all
  obtain ⟨rfl, rfl⟩ := trodVars_none hV
  obtain ⟨a0, rfl, rfl, rfl, w0⟩ := open_int Tryz.underlying41 (hval 0 41 v0 rfl rfl) h0
  have b0 := bounds_u32 w0
  obtain ⟨a1, rfl, rfl, rfl, w1⟩ := open_int Tryz.underlying5 (hval 1 5 v1 rfl rfl) h1
  have b1 := bounds_u8 w1
  clear hA0 hval0
  refine (pnone_any W a0 a1 b0.1 b0.2 b1.1 b1.2).mono fun e W' ⟨he, bel⟩ => ?_
  subst he
  exact ⟨_, rfl, _, _, _, [], _, [], hW', trodAll_mk1 (shut_bool Tryz.underlying4 _), (trodAll_cons_mk (shut_int Tryz.underlying41 w0) (trodAll_cons_mk (shut_int Tryz.underlying5 w1) trodAll_mk0)), rfl, bel.frame _, fun h => by cases h⟩

/-- PagerNone, for every input. -/
theorem pagerNone_holds : Rows.PagerNoneSaid :=
  OpenClaim.holds_of_wide 6 Tryz.f6 rfl rfl rfl rfl rfl rfl rfl ⟨rfl, rfl, rfl, rfl, rfl⟩ rfl rfl rfl rfl rfl (by kernel_rfl) Tryz.func6 (by kernel_rfl)
    (of_decide_eq_true (by kernel_rfl)) (by unfold Func.isWrapper; first | (rw [if_pos (by decide +kernel)]; kernel_rfl) | (rw [if_neg (by decide +kernel)]; exact ⟨rfl, rfl⟩))
    (fun os started H enc _ => pnone_lifted os started H enc)
#print axioms pagerNone_holds

end Go.Proofs.YtildjdhoeilcfaaGreat
