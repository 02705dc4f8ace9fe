/-
  Layer 5: four entries with whatever keys. Own work.
-/
import Derived.Test.YtfencmidjolgfaaBrT
import Derived.Test.YtfencmidjolgfaaLefU
import Derived.Deep.Cut
namespace Go.Proofs.Ytfencmidjolgfaa
open Go.RowKit

/-- The i-th behind the first one: its key of kl bytes. -/
def bX (i kl : Nat) (ch : Int) : En := ⟨((i : Int) + 1) :: List.replicate (kl - 1) 0, [], 0, ch⟩
def b0X (ch : Int) : En := ⟨[], [], 0, ch⟩
theorem bX_ok {i kl : Nat} {ch : Int} (hi : i < 3) (h1 : 1 ≤ kl) (h2 : kl ≤ 96) (c0 : 0 ≤ ch) (c1 : ch ≤ 4294967295) : BOk (bX i kl ch) := by
  refine ⟨⟨fun x hx => ?_, (fun y hy => by cases hy), by simp [bX]; omega, by simp [bX], by simp [bX], by simp [bX], c0, c1⟩, rfl, rfl⟩
  rcases List.mem_cons.1 hx with rfl | hx
  · omega
  · rw [List.eq_of_mem_replicate hx]; omega
theorem b0X_ok {ch : Int} (c0 : 0 ≤ ch) (c1 : ch ≤ 4294967295) : BOk (b0X ch) :=
  ⟨⟨(fun y hy => by cases hy), (fun y hy => by cases hy), by simp [b0X], by simp [b0X], by simp [b0X], by simp [b0X], c0, c1⟩, rfl, rfl⟩
theorem bX_key (i kl : Nat) (ch : Int) (h1 : 1 ≤ kl) : (bX i kl ch).key.length = kl := by simp [bX]; omega
/-- The first one, and k behind it. -/
def bfours (kl : Nat → Nat) (ch : Int) (k : Nat) : List En := b0X ch :: (List.range k).map fun i => bX i (kl i) ch
theorem bfours_snoc (kl : Nat → Nat) (ch : Int) (k : Nat) : bfours kl ch (k + 1) = bfours kl ch k ++ [bX k (kl k) ch] := by simp [bfours, List.range_succ]
theorem bfours_len (kl : Nat → Nat) (ch : Int) (k : Nat) : (bfours kl ch k).length = k + 1 := by simp [bfours]
theorem bfours_get {kl : Nat → Nat} {ch : Int} {k i : Nat} (h : i < k) : (bfours kl ch k)[i + 1]? = some (bX i (kl i) ch) := by simp [bfours, h]
theorem bfours_right {kl : Nat → Nat} {ch S : Int} (hS1 : 512 ≤ S) (hS2 : S ≤ 4096) (hc : 2 ≤ ch) (hk : ∀ i, i < 3 → 1 ≤ kl i ∧ kl i ≤ 96) : BRightP (bfours kl ch 3) S := by
  refine ⟨hS1, hS2, by rw [bfours_len]; decide, fun x hx => ?_, fun j x hj hx => ?_⟩
  · have : x = b0X ch := by simpa [bfours] using hx.symm
    subst this; rfl
  · rw [bfours_len] at hj
    cases j with
    | zero =>
      have : x = b0X ch := by simpa [bfours] using hx.symm
      subst this
      exact ⟨hc, fun i y hi _ => by omega⟩
    | succ j =>
      rw [bfours_get (show j < 3 by omega)] at hx
      cases hx
      refine ⟨hc, fun i y hi hy => ⟨by rw [bX_key _ _ _ (hk j (by omega)).1]; exact (hk j (by omega)).1, by rw [bX_key _ _ _ (hk j (by omega)).1]; exact (hk j (by omega)).2, ?_⟩⟩
      obtain rfl : i = j := by omega
      cases i with
      | zero =>
        have : y = b0X ch := by simpa [bfours] using hy.symm
        subst this
        simp [b0X, bX, cmpL]
      | succ i =>
        rw [bfours_get (show i < 3 by omega)] at hy
        cases hy
        simp only [bX, cmpL]
        rw [if_pos (by push_cast; omega)]
        decide
theorem bfours_fill {kl : Nat → Nat} {ch : Int} (hk : ∀ i, i < 3 → 1 ≤ kl i ∧ kl i ≤ 96) : fillL brY (bfours kl ch 3) ≤ 512 := by
  unfold fillL fillK
  rw [bfours_len]
  have c0 : cs brY (bfours kl ch 3) 1 = _ := bcs_snoc (k := 0) (x := b0X ch) rfl
  have c1 : cs brY (bfours kl ch 3) 2 = _ := bcs_snoc (bfours_get (kl := kl) (ch := ch) (k := 3) (i := 0) (by decide))
  have c2 : cs brY (bfours kl ch 3) 3 = _ := bcs_snoc (bfours_get (kl := kl) (ch := ch) (k := 3) (i := 1) (by decide))
  have c3 : cs brY (bfours kl ch 3) 4 = _ := bcs_snoc (bfours_get (kl := kl) (ch := ch) (k := 3) (i := 2) (by decide))
  have k0 := hk 0 (by decide)
  have k1 := hk 1 (by decide)
  have k2 := hk 2 (by decide)
  unfold bcl at c0 c1 c2 c3
  rw [bX_key _ _ _ k0.1] at c1
  rw [bX_key _ _ _ k1.1] at c2
  rw [bX_key _ _ _ k2.1] at c3
  have z0 : (b0X ch).key.length = 0 := rfl
  have z : cs brY (bfours kl ch 3) 0 = 0 := rfl
  show 4 + 2 * (3 + 1) + cs brY (bfours kl ch 3) 4 ≤ 512
  omega
theorem bkey_set (k kl : Nat) (h : 1 ≤ kl) : ((List.replicate kl (0 : Int)).map (Value.int .u8)).toArray.setIfInBounds 0 (.int .u8 ((k : Int) + 1)) = ((((k : Int) + 1) :: List.replicate (kl - 1) 0).map (Value.int .u8)).toArray := by
  obtain ⟨m, rfl⟩ : ∃ m, kl = m + 1 := ⟨kl - 1, by omega⟩
  simp [List.replicate_succ]
theorem blitc (w : World) (k : Value) (x : En) : ∀ j u, (becl (k, x))[j]? = some u → (w.alloc (.cells (bcs k x.first) 79)).cell? ((⟨w.heap.size, 0, none⟩ : Addr).add j) = some u := by
  intro j u hj
  rw [Addr.add_lit, Nat.zero_add, World.cell?_alloc_mark]
  simpa [becl] using hj
theorem BEOwns.one {w : World} {base : Nat} (ch : Int) (hb : base ≤ w.heap.size) (c0 : 0 ≤ ch) (c1 : ch ≤ 4294967295) : BEOwns base (w.alloc (.cells (bcs (.slice none 0 0) ch) 79)) (.slice (some ⟨w.heap.size, 0, none⟩) 1 1) [(.slice none 0 0, b0X ch)] := by
  refine ⟨⟨rfl, .inr ⟨w.heap.size, 1, bcs (.slice none 0 0) ch, rfl, hb, heap_alloc_new _ _, Nat.le_refl _, by decide, rfl, rfl⟩⟩, fun y hy => ?_⟩
  have : y = (.slice none 0 0, b0X ch) := by simpa using hy
  subst this
  exact ⟨OwnB.nil _ _, b0X_ok c0 c1⟩
theorem BEOwns.sep {base r : Nat} {w w' : World} {lv : Value} {es : List (Value × En)} (h : BEOwns base w lv es) (k : w.grownBy w' (some r)) (hr : w.heap.size ≤ r) : BEOwns base w' lv es :=
  h.grown ⟨k.os, k.tape, k.output, k.size, fun i hi _ => k.block i hi (by intro e; injection e with e; omega)⟩
theorem short_not {l : List En} {S : Int} (h : l.length < 2) : ¬ BRightP l S := fun hr => by have := hr.2.2.1; omega
theorem first_not {l : List En} {S : Int} {x : En} (hx : l[0]? = some x) (h : 1 ≤ x.key.length) : ¬ BRightP l S := fun hr => by
  have := hr.2.2.2.1 x hx
  rw [this] at h; simp at h

set_option maxRecDepth 100000 in
set_option maxHeartbeats 8000000 in
theorem bfour_any (w : World) (size : Int) (a1 : Option Addr) (n1 c1 : Nat) (ks : List Int) (ch : Int) (h0 : -9223372036854775808 ≤ size) (h9 : size ≤ 9223372036854775807) (h1 : Seq w.heap.size w (.slice a1 n1 c1) ks) (b1 : Byt ks) (q0 : 0 ≤ ch) (q9 : ch ≤ 4294967295) :
    Calls Try.prog 11 #[.int .i64 size, .slice a1 n1 c1, .int .u32 ch] w fun r w' => r = .returned (.bool true) ∧ Below w.heap.size w w' := by
  have e1 : n1 = ks.length := by obtain ⟨_, _, hv, _⟩ := h1; injection hv
  by_cases hc : 512 ≤ size ∧ size ≤ 4096 ∧ 3 ≤ n1 ∧ 2 ≤ ch
  · obtain ⟨hs1, hs2, hn1, hch⟩ := hc
    obtain ⟨S, rfl⟩ : ∃ S : Nat, size = (S : Int) := ⟨size.toNat, by omega⟩
    obtain ⟨i0, hi, hz0, hz1, hz2⟩ := info_parts infoU8
    obtain ⟨j0, hj, hw0, hw1, hw2⟩ := info_parts infoBEntry
    have hd1 : decide ((S : Int) < 512) = false := by simp; omega
    have hd2 : decide (4096 < (S : Int)) = false := by simp; omega
    have hd3 : decide ((n1 : Int) < 3) = false := by simp; omega
    have hd4 : decide (n1 < 3) = false := by simp; omega
    have hd5 : decide (ch < 2) = false := by simp; omega
    obtain ⟨KL, hKL⟩ : ∃ f : Nat → Nat, f = fun i => (ks.getD i 0).toNat % 96 + 1 := ⟨_, rfl⟩
    have HKL := Lib.hid hKL
    have E1 := Lib.hid e1
    have H1 := Lib.hid h1
    have B1 := Lib.hid b1
    clear e1 h1 b1 hKL
    go_enter Try.func11, Try.ntmps11
    go_wp2_with (go_at_call 30; refine (awake5_any _).mono ?_; rintro r wA ⟨rfl, hgA⟩; have HGA := Lib.hid hgA; clear hgA)
    have HE0 := Lib.hid (BEOwns.one (w := wA) (base := w.heap.size) ch HGA.out.size q0 q9)
    have HG0 := Lib.hid (gtrans HGA.out (World.grownBy_alloc wA (.cells (bcs (.slice none 0 0) ch) 79) none))
    generalize wA.alloc (.cells (bcs (.slice none 0 0) ch) 79) = wB at *
    generalize wA.heap.size = qA at *
    go_loopg [8, 9] 3 (fun q v e wr => ∃ (k : Nat) (es : List (Value × En)), k + q = 3 ∧ e = .int .i64 (k : Int) ∧ Hid (bxsOf es = bfours KL ch k) ∧ BEOwns w.heap.size wr v es ∧ w.grownBy wr none)
    case atStart => exact ⟨0, _, by omega, rfl, Lib.hid rfl, HE0.out, HG0.out⟩
    case round =>
      obtain ⟨k, es, hkq, rfl, HX, heo, hg⟩ := hrel
      obtain ⟨la, lc, rfl⟩ := own_shape heo.row
      have HEO := Lib.hid heo
      have HG := Lib.hid hg
      have hel : es.length = k + 1 := by have := congrArg List.length HX.out; rw [List.length_map, bfours_len] at this; exact this
      have HEL := Lib.hid hel
      clear heo hg hel HE0
      by_cases hlt : k < 3
      · obtain ⟨q, rfl⟩ : ∃ q, gk = q + 1 := ⟨gk - 1, by omega⟩
        obtain ⟨ba, oa, hva, hca⟩ := (H1.out.below (fun i hi => HG.out.block i hi (by simp))).cellAt k (by have := E1.out; omega)
        subst hva
        have y1 := B1.out.get k
        obtain ⟨x1, hx1⟩ : ∃ x : Nat, (x : Int) = ks.getD k 0 := ⟨(ks.getD k 0).toNat, by omega⟩
        rw [← hx1] at hca y1
        obtain ⟨kl, hkl⟩ : ∃ a : Nat, a = x1 % 96 + 1 := ⟨_, rfl⟩
        have HKk := Lib.hid (show KL k = kl by rw [HKL.out, hkl]; show (ks.getD k 0).toNat % 96 + 1 = _; rw [← hx1]; simp)
        have hki : (k : Int) < 3 := by omega
        have hkn1 : (k : Int) < (n1 : Int) := by omega
        have hkl2 : 1 ≤ kl ∧ kl ≤ 96 := by omega
        have hr1 : (x1 : Int) % 96 + 1 = (kl : Int) := by omega
        have hwk : IntKind.u8.wrap ((k : Int) + 1) = (k : Int) + 1 := IntWalk.u8_in _ (by omega)
        clear hx1 hkl
        go_upto_region 12 with (at_make; refine wpList_make_full _ rfl _ _ 29 rfl wr.heap.size 5 i0 (.int .u8 0) 1 Try.underlying29 hi hz0 hz1 .i64 .i64 _ _ kl rfl rfl ?c1 ?c2 ?c3 ?c4 (Nat.le_refl _) ?_; (case c1 => rfl); (case c2 => rfl); (case c3 => rw [hz2]; omega); (case c4 => unfold maxLen; omega); intro wM hown hgM; have hh := made_heap hown; obtain ⟨hk0, hf0⟩ := made_cell hh (by omega); have HH := Lib.hid hh; have HGM := Lib.hid hgM; clear hown hgM hh)
        have hq := set_in (i := 0) (.int .u8 ((k : Int) + 1)) HH.out
        rw [bkey_set k kl hkl2.1] at hq
        have HG2 := Lib.hid (gnew HG.out (gtrans (gwide HGM.out) (gset wM ⟨wr.heap.size, 0, none⟩ (.int .u8 ((k : Int) + 1)))) HG.out.size)
        have HEO2 := Lib.hid (HEO.out.sep (gtrans (gwide HGM.out) (gset wM ⟨wr.heap.size, 0, none⟩ (.int .u8 ((k : Int) + 1)))) (Nat.le_refl _))
        have HKL2 := Lib.hid (show (((k : Int) + 1) :: List.replicate (kl - 1) 0).length = kl by simp; omega)
        have hov : OwnB w.heap.size (wM.setCell ⟨wr.heap.size, 0, none⟩ (.int .u8 ((k : Int) + 1))) (.slice (some ⟨wr.heap.size, 0, none⟩) kl kl) (bX k kl ch).key := own_heap hq HG.out.size HKL2.out (by unfold maxLen; omega)
        have HOV := Lib.hid hov
        have HBO := Lib.hid (bX_ok (i := k) (kl := kl) (ch := ch) hlt hkl2.1 hkl2.2 q0 q9)
        clear hca hk0 hf0 hq hov HH HKL2 HGM
        generalize wM.setCell ⟨wr.heap.size, 0, none⟩ (.int .u8 ((k : Int) + 1)) = w2 at *
        generalize wr.heap.size = g2 at *
        go_wp2_with (at_builtin; have hga := World.grownBy_alloc w2 (.cells (bcs (.slice (some ⟨g2, 0, none⟩) kl kl) ch) 79) none; refine wpList_append_own2 _ rfl _ _ 64 rfl w.heap.size 79 j0 (.agg #[.slice none 0 0, .int .u32 0]) 2 32 Try.underlying64 hj hw0 hw1 hw2 rfl (by decide) (.slice la es.length lc) es.length (es.flatMap becl) rfl (HEO2.out.grown hga).row ⟨w2.heap.size, 0, none⟩ 1 1 (becl (.slice (some ⟨g2, 0, none⟩) kl kl, bX k kl ch)) rfl rfl (blitc _ _ (bX k kl ch)) (bone2 _ _ _ _) (by have := HEL.out; unfold maxLen; omega) (by have := HEL.out; omega) (by have := HG2.out.size; simp; omega) ?_; intro v' w5 hown' hgrow _; have HEO3 := Lib.hid ((HEO2.out.grown hga).push (y := (.slice (some ⟨g2, 0, none⟩) kl kl, bX k kl ch)) (HOV.out.grown hga) HBO.out hown' hgrow); have HG3 := Lib.hid (grow_row (gtrans HG2.out hga) (HEO2.out.grown hga).row hgrow); clear hown' hgrow hga)
        go_roundg q
        case measure => omega
        case rel => exact ⟨k + 1, es ++ [(.slice (some ⟨g2, 0, none⟩) kl kl, bX k kl ch)], by omega, by go_num, Lib.hid (by rw [bfours_snoc, ← HX.out, HKk.out]; simp), HEO3.out, HG3.out⟩
      · obtain rfl : k = 3 := by omega
        have h4 := HEL.out
        have HRt := Lib.hid (show ∀ i, i < 3 → 1 ≤ KL i ∧ KL i ≤ 96 from fun i _ => by
          rw [HKL.out]; show 1 ≤ (ks.getD i 0).toNat % 96 + 1 ∧ (ks.getD i 0).toNat % 96 + 1 ≤ 96; omega)
        have hEn := HEO.out.ents (by omega)
        rw [HX.out] at hEn
        rw [h4] at hEn ⊢
        have HR := Lib.hid (bfours_right (S := (S : Int)) hs1 hs2 hch HRt.out)
        have HF := Lib.hid (Nat.le_trans (bfours_fill (ch := ch) HRt.out) (show 512 ≤ S by omega))
        obtain ⟨b, o, rfl, hb, _⟩ := hEn.at 0 (b0X ch) rfl
        have hcap : 4 ≤ lc := by obtain ⟨_, _, hv, hc, _⟩ := hEn; injection hv with _ e1 e2; rw [bfours_len] at hc; omega
        have hc9 : lc ≤ 9223372036854775807 := by obtain ⟨_, _, hv, _, hc, _⟩ := hEn; injection hv with _ e1 e2; unfold maxLen at hc; omega
        have hne : ¬ lc = 1 := by omega
        have hle1 : (1 : Int) ≤ (lc : Int) := by omega
        have hle2 : ¬ (lc : Int) < 1 := by omega
        have HE1 := Lib.hid (hEn.take 1 (by rw [bfours_len]; omega))
        have HE2 := Lib.hid (show BEnts wr.heap.size wr (.slice (some ⟨b, o + 2, none⟩) 3 (lc - 1)) ((bfours KL ch 3).drop 1) from hEn.tail (by omega))
        have HN1 := Lib.hid (short_not (S := (S : Int)) (l := (bfours KL ch 3).take 1) (by rw [List.length_take, bfours_len]; decide))
        have HN2 := Lib.hid (first_not (S := (S : Int)) (l := (bfours KL ch 3).drop 1) (x := bX 0 (KL 0) ch) (by rw [List.getElem?_drop]; exact bfours_get (i := 0) (by decide)) (by rw [bX_key _ _ _ (HRt.out 0 (by decide)).1]; exact (HRt.out 0 (by decide)).1))
        have HEn := Lib.hid hEn
        clear hEn h4 hb HX HEO HEL HRt
        go_wp2_with (first
          | (go_at_call 33; have Kc := bput_ok wr wr.heap.size _ 4 lc _ S HEn.out (Nat.le_refl _) HR.out HF.out; ((with_reducible refine Kc.mono ?_); clear Kc); rintro r wP ⟨gb, rfl, hgb, hp, hg⟩; have HGP := Lib.hid hg; clear hgb hp hg)
          | (go_at_call 33; have Kc := bput_arg wP wr.heap.size _ 1 lc _ (S : Int) (HE1.out.grown HGP.out (Nat.le_refl _)) HGP.out.size HN1.out; ((with_reducible refine Kc.mono ?_); clear Kc; rintro r wQ ⟨rfl, hg⟩); have HGQ := Lib.hid (gtrans HGP.out hg); clear hg)
          | (go_at_call 33; have Kc := bput_arg wQ wr.heap.size _ 3 (lc - 1) _ (S : Int) (HE2.out.grown HGQ.out (Nat.le_refl _)) HGQ.out.size HN2.out; ((with_reducible refine Kc.mono ?_); clear Kc; rintro r wR ⟨rfl, hg⟩); have HGR := Lib.hid (gtrans HGQ.out hg); clear hg))
        go_ret
        exact ⟨by simp, gbelow (gtrans HG.out HGR.out)⟩
  · have HC := Lib.hid hc
    clear hc
    have hor : size < 512 ∨ (512 ≤ size ∧ 4096 < size) ∨ (512 ≤ size ∧ size ≤ 4096 ∧ n1 < 3) ∨ (512 ≤ size ∧ size ≤ 4096 ∧ 3 ≤ n1 ∧ ch < 2) := by have := HC.out; omega
    rcases hor with h | ⟨h, k⟩ | ⟨h, k, l⟩ | ⟨h, k, l, m⟩
    all_goals
      go_enter Try.func11, Try.ntmps11
      go_wp2_with (go_at_call 30; refine (awake5_any _).mono ?_; rintro r wA ⟨rfl, hgA⟩)
      go_ret
      exact ⟨rfl, gbelow hgA⟩

end Go.Proofs.Ytfencmidjolgfaa
