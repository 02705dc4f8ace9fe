/-
  Layer 5: the contracts of layout's Put of branch's entries, and of branch's Put. Own work.
-/
import Derived.Test.YtfencmidjolgfaaBrD
import Derived.Test.YtfencmidjolgfaaLayC
import Derived.Test.YtfencmidjolgfaaLayH
import Derived.Deep.LoopGhost
namespace Go.Proofs.Ytfencmidjolgfaa
open Go.RowKit

/-- What stands while a page is put. -/
structure BPS (B gb g : Nat) (w0 w : World) (lv : Value) (l : List En) (bs hd : List Int) : Prop where
  hp : w.heap[gb]? = some (.cells (bs.map (Value.int .u8)).toArray 5 (0, 0))
  wr : WrAt w g hd
  en : BEnts B w lv l
  Bgb : B ≤ gb
  gg : gb < g
  bel : Below w0.heap.size w0 w
  q0 : w0.heap.size ≤ gb
theorem BPS.lt {B gb g : Nat} {w0 w : World} {lv : Value} {l : List En} {bs hd : List Int} (h : BPS B gb g w0 w lv l bs hd) : g < w.heap.size := h.wr.lt
theorem BPS.grown {B gb g : Nat} {w0 w w' : World} {lv : Value} {l : List En} {bs hd : List Int} (h : BPS B gb g w0 w lv l bs hd) (k : w.grownBy w' none) : BPS B gb g w0 w' lv l bs hd :=
  ⟨(k.block gb (lt_of_block h.hp) (by simp)).trans h.hp, h.wr.kept k, h.en.grown k (by have := h.lt; have := h.Bgb; have := h.gg; omega), h.Bgb, h.gg, h.bel.trans ((gbelow k).mono h.bel.size), h.q0⟩
theorem BPS.put {B gb g : Nat} {w0 w : World} {lv : Value} {l : List En} {bs hd : List Int} (h : BPS B gb g w0 w lv l bs hd) (bs' : List Int) : BPS B gb g w0 (w.setRow gb (bs'.map (Value.int .u8)).toArray) lv l bs' hd := by
  refine ⟨setRow_heap w gb _ _ 5 _ h.hp, ?_, h.en.below fun i hi => setRow_other' _ _ _ _ (by have := h.Bgb; omega), h.Bgb, h.gg, below_setRow h.bel h.q0 _, h.q0⟩
  obtain ⟨v, hv, hh⟩ := h.wr
  exact ⟨v, ownsRow_setRow hv (by have := h.gg; omega) _, (setRow_other' _ _ _ _ (by have := h.gg; omega)).trans hh⟩
theorem BPS.num {B gb g : Nat} {w0 w : World} {lv : Value} {l : List En} {bs hd : List Int} (h : BPS B gb g w0 w lv l bs hd) (X : Int) (n : Nat) (m : Int) (hm : m = (n : Int)) (h0 : 0 ≤ X) (h1 : X ≤ 18446744073709551615) (hn1 : 1 ≤ n) (hn8 : n ≤ 8) (hl : hd.length ≤ 1000000) :
    Calls Try.prog 63 #[.pointer (some ⟨g, 0, none⟩), .int .u64 X, .int .i64 m] w fun r w' => r = .returned (.tuple #[]) ∧ BPS B gb g w0 w' lv l bs (hd ++ numB X n n) := by
  subst hm
  refine (wnum_in w g n X hd h.wr h0 h1 hn1 hn8 (by omega)).mono fun r w' ⟨e, hw, hf⟩ => ⟨e, ?_⟩
  exact ⟨fw_heap hf h.wr h.gg h.hp, hw, h.en.below fun i hi => (hf.below h.wr).block i (by have := h.Bgb; have := h.gg; omega), h.Bgb, h.gg, h.bel.trans ((hf.below h.wr).mono (by have := h.q0; have := h.gg; omega)), h.q0⟩

theorem bright_yes {w : World} {B : Nat} {ao : Option Addr} {n c : Nat} {l : List En} {size : Int} (h : BEnts B w (.slice ao n c) l) (hB : B ≤ w.heap.size) (hr : BRightP l size) :
    Calls Try.prog 36 #[.slice ao n c, .int .i64 size] w fun r w' => r = .returned (.bool true) ∧ w.grownBy w' none :=
  (bright_any w B ao n c l size h hB).mono fun r w' ⟨b, e, hb, hg⟩ => ⟨by rw [e, hb.2 hr], hg⟩
theorem bright_no {w : World} {B : Nat} {ao : Option Addr} {n c : Nat} {l : List En} {size : Int} (h : BEnts B w (.slice ao n c) l) (hB : B ≤ w.heap.size) (hr : ¬ BRightP l size) :
    Calls Try.prog 36 #[.slice ao n c, .int .i64 size] w fun r w' => r = .returned (.bool false) ∧ w.grownBy w' none :=
  (bright_any w B ao n c l size h hB).mono fun r w' ⟨b, e, hb, hg⟩ => ⟨by
    have : b = false := by
      cases b with
      | false => rfl
      | true => exact absurd (hb.1 rfl) hr
    rw [e, this], hg⟩

set_option maxHeartbeats 1000000 in
theorem bput_arg (w : World) (B : Nat) (ao : Option Addr) (n c : Nat) (l : List En) (size : Int) (h : BEnts B w (.slice ao n c) l) (hB : B ≤ w.heap.size) (hr : ¬ BRightP l size) :
    Calls Try.prog 33 #[.slice ao n c, .int .i64 size] w fun r w' => r = .returned (.tuple #[.slice none 0 0, .int .i64 1]) ∧ w.grownBy w' none := by
  have H := Lib.hid h
  have HR := Lib.hid hr
  clear h hr
  go_enter Try.func33, Try.ntmps33
  go_wp2_with (go_at_call 36; refine (bright_no H.out hB HR.out).mono ?_; rintro r w1 ⟨rfl, hg⟩)
  go_ret2
  exact ⟨rfl, hg⟩
set_option maxHeartbeats 1000000 in
theorem bput_full (w : World) (B : Nat) (ao : Option Addr) (n c : Nat) (l : List En) (size : Int) (h : BEnts B w (.slice ao n c) l) (hB : B ≤ w.heap.size) (hr : BRightP l size) (hf : size < (fillL brY l : Int)) :
    Calls Try.prog 33 #[.slice ao n c, .int .i64 size] w fun r w' => r = .returned (.tuple #[.slice none 0 0, .int .i64 21]) ∧ w.grownBy w' none := by
  have H := Lib.hid h
  have HR := Lib.hid hr
  clear h hr
  go_enter Try.func33, Try.ntmps33
  go_wp2_with (first
    | (go_at_call 36; refine (bright_yes H.out hB HR.out).mono ?_; rintro r w1 ⟨rfl, hg⟩; have HE := Lib.hid (H.out.grown hg hB); have hs1 := hg.size)
    | (go_at_call 37; refine (bfill_any _ B _ _ _ l HE.out (by omega)).mono ?_; rintro r w2 ⟨rfl, hg2⟩))
  go_ret2
  exact ⟨rfl, gtrans hg hg2⟩

set_option maxRecDepth 100000 in
set_option maxHeartbeats 8000000 in
theorem bputT_any (w : World) (B : Nat) (ao : Option Addr) (n c : Nat) (l : List En) (S : Nat) (h : BEnts B w (.slice ao n c) l) (hB : B ≤ w.heap.size) (hS1 : 512 ≤ S) (hS2 : S ≤ 4096) (hf : fillL brY l ≤ S) :
    Calls Try.prog 55 #[.int .u8 2, .slice ao n c, .func (.func 56) #[] #[], .int .i64 S] w fun r w' => ∃ b, r = .returned (.slice (some ⟨b, 0, none⟩) S S) ∧ w.heap.size ≤ b ∧
      w'.heap[b]? = some (.cells ((pageB brY l S).map (Value.int .u8)).toArray 5 (0, 0)) ∧ w.grownBy w' none := by
  obtain ⟨i0, hi, hz0, hz1, hz2⟩ := info_parts infoU8
  have hn : n = l.length := h.len
  have hn1 : n ≤ 100000 := by have := h.few; omega
  have HN := Lib.hid hn
  have H := Lib.hid h
  have HF := Lib.hid hf
  clear hn h hf
  go_enter Try.func55, Try.ntmps55
  go_wp2_with (first
    | (at_make; refine wpList_make_full _ rfl _ _ 29 rfl w.heap.size 5 i0 (.int .u8 0) 1 Try.underlying29 hi hz0 hz1 .i64 .i64 _ _ S rfl rfl ?c1 ?c2 ?c3 ?c4 (Nat.le_refl _) ?_; (case c1 => rfl); (case c2 => rfl); (case c3 => rw [hz2]; omega); (case c4 => unfold maxLen; omega); intro wM hown hgM; have HO := Lib.hid (made_heap hown); have HGM := Lib.hid hgM; have hsM := hgM.size; clear hown hgM)
    | (go_at_call 62; have K := whead_any wM 2 n (by decide) (by decide) (by omega); ((with_reducible refine K.mono ?_); clear K; rintro r wn ⟨gh, rfl, hh⟩); have hg3 := gof hh.bel none; have HP : Hid (BPS B w.heap.size gh w wn (.slice ao n c) l (bdB brY l S 0) ((([] ++ numB 2 1 1) ++ numB 0 1 1) ++ numB (n : Int) 2 2)) := Lib.hid ⟨(hg3.block _ (lt_of_block HO.out) (by simp)).trans (HO.out.trans (by simp [bdB, cs, tlB])), hh.wr, (H.out.grown HGM.out (by omega)).grown hg3 (by omega), by omega, by have := lt_of_block HO.out; have := hh.g0; omega, gbelow (gtrans HGM.out hg3), Nat.le_refl _⟩; clear hh hg3))
  have HQ0 := Lib.hid HP.out.q0
  have HP0 : Hid (BPS B w.heap.size gh w wn (.slice ao n c) l (bdB brY l S 0) (hdB brY l S 0)) := Lib.hid (by have h := HP.out; rw [HN.out] at h ⊢; exact h)
  clear HP HO HGM hsM H
  obtain ⟨gb, hgb⟩ : ∃ q, q = w.heap.size := ⟨_, rfl⟩
  rw [← hgb] at HP0 HQ0 ⊢
  have HGB := Lib.hid hgb
  clear hgb
  go_loopg [11, 24] n (fun g e i wr => ∃ (k E : Nat), k + g = n ∧ i = .int .i64 (k : Int) ∧ e = .int .i64 (E : Int) ∧ Hid (E = S - cs brY l k) ∧ BPS B gb gh w wr (.slice ao n c) l (bdB brY l S k) (hdB brY l S k))
  case atStart => exact ⟨0, S, by omega, rfl, rfl, Lib.hid (by simp [cs]), HP0.out⟩
  case round =>
    obtain ⟨k, E, hkg, rfl, rfl, HE, hp⟩ := hrel
    have HP := Lib.hid hp
    clear hp HP0
    by_cases hlt : k < n
    · obtain ⟨g, rfl⟩ : ∃ g, gk = g + 1 := ⟨gk - 1, by omega⟩
      have hki : (k : Int) < (n : Int) := by omega
      obtain ⟨x, hx⟩ : ∃ x, l[k]? = some x := ⟨_, List.getElem?_eq_getElem (by have := HN.out; omega)⟩
      have hsc := bcs_snoc hx
      have hcm := cs_mono (Y := brY) l (show k + 1 ≤ n by omega)
      have hcp := bcl_pos x
      obtain ⟨z, hz⟩ : ∃ z, z = bcl x := ⟨_, rfl⟩
      have hzE : z ≤ E := by
        have h1 := HF.out
        have h2 := HE.out
        unfold fillL fillK at h1
        rw [← HN.out] at h1
        omega
      obtain ⟨E', rfl⟩ : ∃ E', E = E' + z := ⟨E - z, by omega⟩
      have HE' := Lib.hid (show E' = S - cs brY l (k + 1) by have := HE.out; omega)
      have HCZ := Lib.hid (show cs brY l k + bcl x ≤ S by
        have h1 := HF.out
        unfold fillL fillK at h1
        rw [← HN.out] at h1
        omega)
      have HBD := Lib.hid (show (bdB brY l S k).take E' ++ bcellB x ++ (bdB brY l S k).drop (E' + z) = bdB brY l S (k + 1) by rw [HE'.out, hz]; exact bdB_snoc (Y := brY) hx HCZ.out)
      have hES : E' + z ≤ S := by have := HE.out; omega
      have hz4 : 5 ≤ z := by omega
      obtain ⟨b, o, rfl, hb, a1, c1, h1, h3, q0, q1⟩ := HP.out.en.at k x hx
      have HX := Lib.hid hx
      have hga := World.grownBy_alloc wr (.cells (bcs (.slice a1 x.key.length c1) x.first) 79) none
      have hbw : B ≤ wr.heap.size := by have := HP.out.lt; have := HP.out.Bgb; have := HP.out.gg; omega
      have S1 := Lib.hid (h1.below (fun i hi => hga.block i (by omega) (by simp)))
      have HPz := Lib.hid (HP.out.grown hga)
      have HBZ := Lib.hid (Nat.le_trans hbw hga.size)
      have H3 := Lib.hid h3
      have HZ := Lib.hid hz
      have hne : ¬ S = E' := by omega
      have e1 : (E' : Int) ≤ (S : Int) := by omega
      have hpz : 0 < z := by omega
      have hdl : z ≤ S - E' := by omega
      have hbl : E' + z ≤ (bdB brY l S k).length := by rw [bdB_len (Y := brY) (by have := HCZ.out; omega)]; exact hES
      have HBL := Lib.hid hbl
      clear hsc hcm hcp hz hx h1 h3 hga hbw hbl
      go_wp2_with (first
        | (go_at_call 56; refine (bcellOf_any _ B a1 c1 x H3.out S1.out HBZ.out).mono ?_; rw [← HZ.out]; rintro r w5 ⟨ac, cc, rfl, ho, hg5⟩; have HP5 := Lib.hid (HPz.out.grown hg5); have HCP := Lib.hid (copy_run (off := E') (dLen := S - E') (dCap := S - E') HP5.out.hp ho hpz hdl HBL.out); rw [HBD.out] at HCP; have HP6 := Lib.hid (HP5.out.put (bdB brY l S (k + 1))); clear ho hg5)
        | (refine wpList_copy_at rfl (.tmp 37) (.tmp 38) 29 29 rfl (.slice (some ⟨gb, E', none⟩) (S - E') (S - E')) (.slice ac z cc) z (by simp [go_sem]) (by simp [go_sem]) HCP.out ?_; generalize w5.setRow gb ((bdB brY l S (k + 1)).map (Value.int .u8)).toArray = w6 at *)
        | (go_at_call 63; have K := HP6.out.num (E' : Int) 2 2 rfl (by omega) (by omega) (by omega) (by omega) (by rw [hdB_len]; omega); ((with_reducible refine K.mono ?_); clear K; rintro r wn ⟨rfl, hs⟩); have HP7 := Lib.hid hs; clear hs))
      go_roundg g
      case measure => omega
      case rel => exact ⟨k + 1, E', by omega, by go_num, by go_num, HE', by have h := HP7.out; rw [HE'.out] at h; exact h⟩
    · obtain rfl : k = n := by omega
      have HK := Lib.hid (show k = l.length from HN.out)
      have HHL := Lib.hid (hdB_len (Y := brY) l S k)
      have HPG := Lib.hid (show (bdB brY l S k).take 0 ++ hdB brY l S k ++ (bdB brY l S k).drop (0 + (4 + 2 * k)) = pageB brY l S by have h := page_last HF.out; rw [hdB_len, ← HK.out] at h; exact h)
      have h42 : 4 + 2 * k ≤ S := by
        have h1 := HF.out
        unfold fillL fillK at h1
        rw [← HN.out] at h1
        omega
      have hp42 : 0 < 4 + 2 * k := by omega
      have HBL := Lib.hid (show 0 + (4 + 2 * k) ≤ (bdB brY l S k).length by
        have h1 := HF.out
        unfold fillL fillK at h1
        rw [← HN.out] at h1
        rw [bdB_len (Y := brY) (by omega)]; omega)
      obtain ⟨T, hT⟩ : ∃ T, T = 4 + 2 * k := ⟨_, rfl⟩
      rw [← hT] at HHL HPG h42 hp42 HBL
      clear hT
      go_wp2_with (first
        | (go_at_call 64; have K := bout_len HP.out.wr HHL.out (by omega); ((with_reducible refine K.mono ?_); clear K; rintro r w5 ⟨ac, cc, rfl, ho, hg5⟩); have HP5 := Lib.hid (HP.out.grown hg5); have HCP := Lib.hid (copy_run (off := 0) (dLen := S) (dCap := S) HP5.out.hp ho hp42 h42 HBL.out); rw [HPG.out] at HCP; have HP6 := Lib.hid (HP5.out.put (pageB brY l S)); clear ho hg5)
        | (refine wpList_copy_at rfl (.tmp 45) (.tmp 47) 29 29 rfl (.slice (some ⟨gb, 0, none⟩) S S) (.slice ac T cc) T (by simp [go_sem]) (by simp [go_sem]) HCP.out ?_))
      go_ret
      exact ⟨gb, rfl, by rw [HGB.out]; exact Nat.le_refl _, HP6.out.hp, gof HP6.out.bel none⟩

set_option maxHeartbeats 1000000 in
theorem bput_ok (w : World) (B : Nat) (ao : Option Addr) (n c : Nat) (l : List En) (S : Nat) (h : BEnts B w (.slice ao n c) l) (hB : B ≤ w.heap.size) (hr : BRightP l S) (hf : fillL brY l ≤ S) :
    Calls Try.prog 33 #[.slice ao n c, .int .i64 S] w fun r w' => ∃ b, r = .returned (.tuple #[.slice (some ⟨b, 0, none⟩) S S, .int .i64 0]) ∧ w.heap.size ≤ b ∧
      w'.heap[b]? = some (.cells ((pageB brY l S).map (Value.int .u8)).toArray 5 (0, 0)) ∧ w.grownBy w' none := by
  have hS1 : 512 ≤ S := by have := hr.1; omega
  have hS2 : S ≤ 4096 := by have := hr.2.1; omega
  have hff : (fillL brY l : Int) ≤ (S : Int) := by omega
  have H := Lib.hid h
  have HR := Lib.hid hr
  have HF := Lib.hid hf
  clear h hr hf
  go_enter Try.func33, Try.ntmps33
  go_wp2_with (first
    | (go_at_call 36; refine (bright_yes H.out hB HR.out).mono ?_; rintro r w1 ⟨rfl, hg⟩; have HE := Lib.hid (H.out.grown hg hB); have hs1 := hg.size; have HG1 := Lib.hid hg; clear hg)
    | (go_at_call 37; refine (bfill_any _ B _ _ _ l HE.out (by omega)).mono ?_; rintro r w2 ⟨rfl, hg2⟩; have HG2 := Lib.hid (gtrans HG1.out hg2); have HE2 := Lib.hid (HE.out.grown hg2 (by omega)); clear hg2)
    | (go_at_call 55; refine (bputT_any _ B _ _ _ l S HE2.out (by have := HG2.out.size; omega) hS1 hS2 HF.out).mono ?_; rintro r w3 ⟨b, rfl, hb, hp, hg3⟩; have HG3 := Lib.hid (gtrans HG2.out hg3); have HPB := Lib.hid hp; have HBB := Lib.hid (Nat.le_trans HG2.out.size hb); clear hg3 hp hb))
  go_ret2
  exact ⟨b, rfl, HBB.out, HPB.out, HG3.out⟩

end Go.Proofs.Ytfencmidjolgfaa
