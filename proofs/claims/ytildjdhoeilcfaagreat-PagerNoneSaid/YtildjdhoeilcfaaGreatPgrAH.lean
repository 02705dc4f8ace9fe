/-
  Layer 8: Give, lowest and Take. Own work.
-/
import Derived.Test.YtildjdhoeilcfaaGreatPgrAG
import Derived.Test.YtildjdhoeilcfaaGreatPgrAD
import Derived.Test.YtildjdhoeilcfaaGreatPgrAF

namespace Go.Proofs.YtildjdhoeilcfaaGreat
open Go.RowKit Go.Maps

/-- A page laid as a row of one. -/
theorem one_page (w : World) (p : Nat) (hp : p < 4294967296) : PSq (fun _ => True) (w.alloc (.cells #[.int .u32 (p : Int)] 42)) (.slice (some ⟨w.heap.size, 0, none⟩) 1 1) [p] := by
  refine ⟨some ⟨w.heap.size, 0, none⟩, 1, rfl, Nat.le_refl _, by decide, fun x hx => ?_, fun _ => ⟨w.heap.size, 0, rfl, trivial, fun j hj => ?_⟩⟩
  · have : x = p := by simpa using hx
    rw [this]; exact hp
  · have hj0 : j = 0 := by simp at hj; omega
    subst hj0
    rw [Nat.zero_add, World.cell?_alloc_mark]
    rfl
theorem insAll_one (p : Nat) (L : List Nat) : insAll [p] L = ins p L := rfl
def OpR (B : Nat) (H : Nat → Prop) (w : World) (M' : Sp) (v : Value) (r : Ending) (w' : World) : Prop := r = .returned v ∧ SpAt B H w' M' ∧ Sfr B w w'

set_option maxHeartbeats 1000000 in
theorem give_any {H : Nat → Prop} (w : World) (B : Nat) (M : Sp) (h : SpAt B H w M) (p : Nat) (hp : p < 4294967296) :
    Calls Tryz.prog 103 #[.pointer (some ⟨B + 4, 0, none⟩), .int .u32 (p : Int)] w fun r w' => OpR B H w (giveM M p).1 (.int .i64 (giveM M p).2) r w' := by
  have HA := Lib.hid h
  obtain ⟨wv, h1, h2⟩ := h
  obtain ⟨f0, f1, f2, f3, f4, f5, f6, f7⟩ := h1.cells
  have HF := Lib.hid h1
  have HR := Lib.hid h2
  clear h1 h2 f7
  by_cases hin : p ∈ M.fr
  · have hd : decide (p ∈ M.fr) = true := by simpa using hin
    have HD := Lib.hid hd
    have HM := Lib.hid (show giveM M p = ({ M with fr := del p M.fr, us := ins p M.us, low := min M.low p }, 0) by unfold giveM; rw [if_pos hin])
    rw [HM.out]
    clear hin hd f0 f1 f5 f6
    by_cases hlt : p < M.low
    · have hlt2 : (p : Int) < (M.low : Int) := by omega
      have HL := Lib.hid (show min M.low p = p by omega)
      go_enter Tryz.func103, Tryz.ntmps103
      go_wp2_with (first
        | (go_at_call 77; (with_reducible refine (has_g w (B + 1) p M.fr HF.out.fr hp true HD.out).mono ?_); rintro r w1 ⟨rfl, hg⟩; have HG1 := Lib.hid hg; have HF1 := Lib.hid (HF.out.grown hg); obtain ⟨-, -, -, g3, g4, -, -, -⟩ := (HF.out.grown hg).cells; have hown := HF1.out.fr.1; clear hg)
        | (at_delete; refine wpList_delete_own _ rfl _ _ 157 42 rfl 97 lawP Tryz.underlying157 (unitElem (H := Unit)) (B + 1) _ _ rfl hown _ _ rfl (keyP hp) ?_; intro w2 hown2 hturn2; rw [setD_del] at hown2; have hs2 : SetAt w2 (B + 1) (del p M.fr) := ⟨own_tight hown2, srt_del HF1.out.fr.2.1, fun x hx => HF1.out.fr.2.2 x (mem_del.1 hx).1⟩; have hf2 := HF1.out.fr' hturn2 hs2; obtain ⟨-, -, -, k3, -, -, -, -⟩ := hf2.cells; have HF2 := Lib.hid hf2; have HT2 := Lib.hid hturn2; clear hown2 hturn2 hs2 hf2)
        | (go_at_call 78; (with_reducible refine (setAdd_any (w2.alloc (.cells #[.int .u32 (p : Int)] 42)) B M.us [p] (fun _ => True) (some ⟨w2.heap.size, 0, none⟩) 1 1 (HF2.out.us.grown (World.grownBy_alloc _ _ _)) (one_page w2 p hp)).mono ?_); rintro r w3 ⟨rfl, hs3, ht3⟩; have hf3 := (HF2.out.grown (World.grownBy_alloc w2 (.cells #[.int .u32 (p : Int)] 42) none)).us' ht3 hs3; obtain ⟨-, -, l2, -, -, -, -, -⟩ := hf3.cells; have l9 := free_row hf3.box 2; have HF3 := Lib.hid hf3; have HT3 := Lib.hid ht3; clear hs3 ht3 hf3))
      go_ret
      have hsf := ((((Sfr.of (B := B) HG1.out).trans (Sfr.turn HT2.out (by omega) (by omega))).trans (Sfr.of (World.grownBy_alloc _ _ none))).trans (Sfr.turn HT3.out (by omega) (by omega)))
      refine ⟨rfl, ⟨wv, ?_, ?_⟩, hsf.trans (Sfr.row (gset _ ⟨B + 4, 2, none⟩ _) (by simp) (by simp))⟩
      · have := HF3.out.set (low' := p) 2 (.int .u32 (p : Int)) rfl
        rw [HL.out]
        exact this
      · exact HR.out.sfr (hsf.trans (Sfr.row (gset _ ⟨B + 4, 2, none⟩ _) (by simp) (by simp)))
    · have hlt2 : ¬ (p : Int) < (M.low : Int) := by omega
      have HL := Lib.hid (show min M.low p = M.low by omega)
      go_enter Tryz.func103, Tryz.ntmps103
      go_wp2_with (first
        | (go_at_call 77; (with_reducible refine (has_g w (B + 1) p M.fr HF.out.fr hp true HD.out).mono ?_); rintro r w1 ⟨rfl, hg⟩; have HG1 := Lib.hid hg; have HF1 := Lib.hid (HF.out.grown hg); obtain ⟨-, -, -, g3, g4, -, -, -⟩ := (HF.out.grown hg).cells; have hown := HF1.out.fr.1; clear hg)
        | (at_delete; refine wpList_delete_own _ rfl _ _ 157 42 rfl 97 lawP Tryz.underlying157 (unitElem (H := Unit)) (B + 1) _ _ rfl hown _ _ rfl (keyP hp) ?_; intro w2 hown2 hturn2; rw [setD_del] at hown2; have hs2 : SetAt w2 (B + 1) (del p M.fr) := ⟨own_tight hown2, srt_del HF1.out.fr.2.1, fun x hx => HF1.out.fr.2.2 x (mem_del.1 hx).1⟩; have hf2 := HF1.out.fr' hturn2 hs2; obtain ⟨-, -, -, k3, -, -, -, -⟩ := hf2.cells; have HF2 := Lib.hid hf2; have HT2 := Lib.hid hturn2; clear hown2 hturn2 hs2 hf2)
        | (go_at_call 78; (with_reducible refine (setAdd_any (w2.alloc (.cells #[.int .u32 (p : Int)] 42)) B M.us [p] (fun _ => True) (some ⟨w2.heap.size, 0, none⟩) 1 1 (HF2.out.us.grown (World.grownBy_alloc _ _ _)) (one_page w2 p hp)).mono ?_); rintro r w3 ⟨rfl, hs3, ht3⟩; have hf3 := (HF2.out.grown (World.grownBy_alloc w2 (.cells #[.int .u32 (p : Int)] 42) none)).us' ht3 hs3; obtain ⟨-, -, l2, -, -, -, -, -⟩ := hf3.cells; have l9 := free_row hf3.box 2; have HF3 := Lib.hid hf3; have HT3 := Lib.hid ht3; clear hs3 ht3 hf3))
      go_ret
      have hsf := ((((Sfr.of (B := B) HG1.out).trans (Sfr.turn HT2.out (by omega) (by omega))).trans (Sfr.of (World.grownBy_alloc _ _ none))).trans (Sfr.turn HT3.out (by omega) (by omega)))
      refine ⟨rfl, ⟨wv, ?_, ?_⟩, hsf.trans (Sfr.row (gset _ ⟨B + 4, 2, none⟩ _) (by simp) (by simp))⟩
      · have := HF3.out.set (low' := M.low) 2 (.int .u32 (M.low : Int)) rfl
        rw [HL.out]
        exact this
      · exact HR.out.sfr (hsf.trans (Sfr.row (gset _ ⟨B + 4, 2, none⟩ _) (by simp) (by simp)))
  · have hd : decide (p ∈ M.fr) = false := by simpa using hin
    have HD := Lib.hid hd
    clear hd f0 f1 f2 f3 f6
    cases hu : inUseM M p with
    | true =>
      have HU := Lib.hid hu
      have HM := Lib.hid (show giveM M p = ({ M with go := ins p M.go }, 0) by unfold giveM; rw [if_neg hin, if_pos hu])
      rw [HM.out]
      clear hin hu
      go_enter Tryz.func103, Tryz.ntmps103
      go_wp2_with (first
        | (go_at_call 77; (with_reducible refine (has_g w (B + 1) p M.fr HF.out.fr hp false HD.out).mono ?_); rintro r w1 ⟨rfl, hg⟩; have HG1 := Lib.hid hg; clear hg)
        | (go_at_call 142; (with_reducible refine (inUse_any w1 B M (HA.out.grown HG1.out) p hp true HU.out).mono ?_); rintro r w2 ⟨rfl, hg⟩; have hg2 := gtrans HG1.out hg; obtain ⟨-, -, -, -, -, k5, -, -⟩ := (HF.out.grown hg2).cells; have HG2 := Lib.hid hg2; clear hg hg2)
        | (go_at_call 78; (with_reducible refine (setAdd_any (w2.alloc (.cells #[.int .u32 (p : Int)] 42)) (B + 2) M.go [p] (fun _ => True) (some ⟨w2.heap.size, 0, none⟩) 1 1 ((HF.out.grown HG2.out).go.grown (World.grownBy_alloc _ _ _)) (one_page w2 p hp)).mono ?_); rintro r w3 ⟨rfl, hs3, ht3⟩; have HS3 := Lib.hid hs3; have HT3 := Lib.hid ht3; clear hs3 ht3))
      go_ret
      have hg3 := gtrans HG2.out (World.grownBy_alloc w2 (.cells #[.int .u32 (p : Int)] 42) none)
      have hsf := (Sfr.of (B := B) hg3).trans (Sfr.turn HT3.out (by omega) (by omega))
      exact ⟨rfl, ⟨wv, (HF.out.grown hg3).go' HT3.out HS3.out, HR.out.sfr hsf⟩, hsf⟩
    | false =>
      have HU := Lib.hid hu
      have HM := Lib.hid (show giveM M p = (M, 1) by unfold giveM; rw [if_neg hin, if_neg (by rw [hu]; decide)])
      rw [HM.out]
      clear hin hu
      go_enter Tryz.func103, Tryz.ntmps103
      go_wp2_with (first
        | (go_at_call 77; (with_reducible refine (has_g w (B + 1) p M.fr HF.out.fr hp false HD.out).mono ?_); rintro r w1 ⟨rfl, hg⟩; have HG1 := Lib.hid hg; clear hg)
        | (go_at_call 142; (with_reducible refine (inUse_any w1 B M (HA.out.grown HG1.out) p hp false HU.out).mono ?_); rintro r w2 ⟨rfl, hg⟩; have HG2 := Lib.hid (gtrans HG1.out hg); clear hg))
      go_ret
      exact ⟨rfl, HA.out.grown HG2.out, Sfr.of HG2.out⟩
theorem give_nil (w : World) (p : Int) : Calls Tryz.prog 103 #[.pointer none, .int .u32 p] w fun r w' => r = .returned (.int .i64 1) ∧ w = w' := by
  go_enter Tryz.func103, Tryz.ntmps103
  go_wp2
  go_ret
  exact ⟨rfl, rfl⟩

set_option maxHeartbeats 1000000 in
/-- The lowest usable page: 'low' goes up to it. -/
theorem lowest_any {H : Nat → Prop} (w : World) (B : Nat) (M : Sp) (h : SpAt B H w M) (p : Nat) (r : List Nat) (hu : M.us = p :: r) (hlow : M.low ≤ p) :
    Calls Tryz.prog 102 #[.pointer (some ⟨B + 4, 0, none⟩)] w fun r w' => OpR B H w { M with low := p } (.int .u32 (p : Int)) r w' := by
  obtain ⟨wv, h1, h2⟩ := h
  have HF := Lib.hid h1
  have HR := Lib.hid h2
  have hp : p < 4294967296 := h1.us.2.2 p (by rw [hu]; simp)
  have HU := Lib.hid hu
  have HS := Lib.hid h1.us.2.1
  clear h1 h2 hu
  go_enter Tryz.func102, Tryz.ntmps102
  go_wp2
  go_loopg [3] (p - M.low) (fun g _ wr => ∃ j : Nat, j + g = p ∧ M.low ≤ j ∧ Fiv B wr M.en M.lim j M.us M.fr M.go M.wa wv ∧ Sfr B w wr)
  case atStart => exact ⟨M.low, by omega, Nat.le_refl _, HF.out, Sfr.refl _ _⟩
  case round =>
    obtain ⟨j, hj, hjl, hF, hsf⟩ := hrel
    have HF1 := Lib.hid hF
    have HF1d := Lib.hid (hF.grown (gdrew _))
    have HS1 := Lib.hid hsf
    have HS1d := Lib.hid (hsf.trans (Sfr.of (gdrew _)))
    obtain ⟨-, -, f2, f3, -⟩ := hF.cells
    have hj32 : j < 4294967296 := by omega
    clear hF hsf
    by_cases hg0 : j = p
    · subst hg0
      have HD := Lib.hid (show decide (j ∈ M.us) = true by rw [HU.out]; simp)
      clear hj hjl
      go_wp2_with fail
      go_region_with (go_at_call 77; (with_reducible refine (has_g wr.drew B j M.us HF1d.out.us hj32 true HD.out).mono ?_); rintro r w1 ⟨rfl, hg⟩; have HG1 := Lib.hid hg; have HF2 := Lib.hid (HF1d.out.grown hg); obtain ⟨-, -, g2, g3, -⟩ := (HF1d.out.grown hg).cells; clear hg)
      all_goals
        go_wp2
        go_ret
        have hsf := HS1d.out.trans (Sfr.of HG1.out)
        exact ⟨rfl, ⟨wv, HF2.out, HR.out.sfr hsf⟩, hsf⟩
    · have HD := Lib.hid (show decide (j ∈ M.us) = false by
        have hs := HS.out
        rw [HU.out] at hs ⊢
        simp only [decide_eq_false_iff_not]
        intro hm
        have := srt_head hs hm
        omega)
      go_wp2_with fail
      go_region_with (go_at_call 77; (with_reducible refine (has_g wr.drew B j M.us HF1d.out.us hj32 false HD.out).mono ?_); rintro r w1 ⟨rfl, hg⟩; have HG1 := Lib.hid hg; have HF2 := Lib.hid (HF1d.out.grown hg); obtain ⟨-, -, g2, g3, -⟩ := (HF1d.out.grown hg).cells; have g9 := free_row (HF1d.out.grown hg).box 2; clear hg)
      all_goals
        go_wp2
        have hsf := HS1d.out.trans (Sfr.of HG1.out)
        go_roundg (gk - 1)
        case rel => exact ⟨j + 1, by omega, by omega, HF2.out.set 2 _ rfl, hsf.trans (Sfr.row (gset _ ⟨B + 4, 2, none⟩ _) (by simp) (by simp))⟩
        case measure => omega

end Go.Proofs.YtildjdhoeilcfaaGreat

namespace Go.Proofs.YtildjdhoeilcfaaGreat
open Go.RowKit Go.Maps

theorem del_head {p : Nat} {r : List Nat} (h : Srt (p :: r)) : del p (p :: r) = r := by
  have h1 := (List.pairwise_cons.1 h).1
  unfold del
  rw [List.filter_cons]
  simp only [beq_self_eq_true, Bool.not_true, Bool.false_eq_true, if_false]
  refine List.filter_eq_self.2 fun x hx => ?_
  have := h1 x hx
  simp
  omega
theorem take_nil (w : World) : Calls Tryz.prog 59 #[.pointer none] w fun r w' => r = .returned (.tuple #[.int .u32 0, .int .i64 1]) ∧ w = w' := by
  go_enter Tryz.func59, Tryz.ntmps59
  go_wp2
  go_ret2
  exact ⟨rfl, rfl⟩

set_option maxHeartbeats 2000000 in
theorem stake_any {H : Nat → Prop} (w : World) (B : Nat) (M : Sp) (h : SpAt B H w M) (hlow : ∀ x ∈ M.us, M.low ≤ x) (hen : M.en ≤ M.lim) (hlim : M.lim ≤ 65536) :
    Calls Tryz.prog 59 #[.pointer (some ⟨B + 4, 0, none⟩)] w fun r w' => OpR B H w (takeM M).1 (.tuple #[.int .u32 ((takeM M).2.1 : Int), .int .i64 (takeM M).2.2]) r w' := by
  have HA := Lib.hid h
  obtain ⟨wv, h1, h2⟩ := h
  obtain ⟨f0, f1, f2, f3, f4, f5, f6, f7⟩ := h1.cells
  have hown := h1.us.1
  have HF := Lib.hid h1
  have HR := Lib.hid h2
  clear h1 h2 f7
  cases hu : M.us with
  | cons p r =>
    have hp : p < 4294967296 := HF.out.us.2.2 p (by rw [hu]; simp)
    have hlp := hlow p (by rw [hu]; simp)
    have HM := Lib.hid (show takeM M = ({ M with low := p, us := r, fr := ins p M.fr }, p, 0) by unfold takeM; rw [hu])
    rw [HM.out]
    have HU := Lib.hid hu
    have HDL := Lib.hid (show del p M.us = r by rw [hu]; exact del_head (hu ▸ HF.out.us.2.1))
    have hsz : 0 < Maps.size (setD M.us) := by rw [size_setD, hu]; simp
    have hszi : (0 : Int) < (Maps.size (setD M.us) : Int) := by omega
    clear hlow hu f0 f1 f2 f4 f5 f6
    go_enter Tryz.func59, Tryz.ntmps59
    go_wp2_with (first
      | (at_len; refine wpList_len_own _ rfl _ 157 rfl 42 97 Tryz.underlying157 _ B _ _ rfl hown ?_)
      | (go_at_call 102; (with_reducible refine (lowest_any w B M HA.out p r HU.out hlp).mono ?_); rintro r1 w1 ⟨rfl, ha1, hs1⟩; obtain ⟨wv1, hf1, hr1⟩ := ha1; obtain ⟨-, -, -, g3, g4, -, -, -⟩ := hf1.cells; have hown1 := hf1.us.1; have HF1 := Lib.hid hf1; have HR1 := Lib.hid hr1; have HS1 := Lib.hid hs1; clear hf1 hr1 hs1)
      | (at_delete; refine wpList_delete_own _ rfl _ _ 157 42 rfl 97 lawP Tryz.underlying157 (unitElem (H := Unit)) B _ _ rfl hown1 _ _ rfl (keyP hp) ?_; intro w2 hown2 hturn2; rw [setD_del] at hown2; have hs2 : SetAt w2 B (del p M.us) := ⟨own_tight hown2, srt_del HF1.out.us.2.1, fun x hx => HF1.out.us.2.2 x (mem_del.1 hx).1⟩; have hf2 := HF1.out.us' hturn2 hs2; obtain ⟨-, -, -, -, k4, -, -, -⟩ := hf2.cells; have HF2 := Lib.hid hf2; have HT2 := Lib.hid hturn2; clear hown2 hturn2 hs2 hf2)
      | (go_at_call 78; (with_reducible refine (setAdd_any (w2.alloc (.cells #[.int .u32 (p : Int)] 42)) (B + 1) M.fr [p] (fun _ => True) (some ⟨w2.heap.size, 0, none⟩) 1 1 (HF2.out.fr.grown (World.grownBy_alloc _ _ _)) (one_page w2 p hp)).mono ?_); rintro r3 w3 ⟨rfl, hs3, ht3⟩; have HS3 := Lib.hid hs3; have HT3 := Lib.hid ht3; clear hs3 ht3)
      | go_in)
    go_ret2
    have hsf := ((HS1.out.trans (Sfr.turn HT2.out (by omega) (by omega))).trans (Sfr.of (World.grownBy_alloc _ _ none))).trans (Sfr.turn HT3.out (by omega) (by omega))
    refine ⟨rfl, ⟨wv1, ?_, ?_⟩, hsf⟩
    · have := (HF2.out.grown (World.grownBy_alloc w2 (.cells #[.int .u32 (p : Int)] 42) none)).fr' HT3.out HS3.out
      rw [HDL.out] at this
      exact this
    · exact HR1.out.sfr (((Sfr.turn HT2.out (by omega) (by omega)).trans (Sfr.of (World.grownBy_alloc _ _ none))).trans (Sfr.turn HT3.out (by omega) (by omega)))
  | nil =>
    have HU := Lib.hid hu
    have hsz : Maps.size (setD M.us) = 0 := by rw [size_setD, hu]; rfl
    clear hlow f2 f5 f6 f3
    have f3 := HF.out.cells.2.2.2.1
    by_cases he : M.en = M.lim
    · have HM := Lib.hid (show takeM M = (M, 0, 21) by unfold takeM; rw [hu]; simp [he])
      rw [HM.out]
      have f0' := f0
      rw [he] at f0'
      clear hu f0
      go_enter Tryz.func59, Tryz.ntmps59
      go_wp2_with (first
        | (at_len; refine wpList_len_own _ rfl _ 157 rfl 42 97 Tryz.underlying157 _ B _ _ rfl hown ?_)
        | go_in)
      go_region
      go_wp2
      go_ret2
      exact ⟨rfl, HA.out.grown (gdrew _), Sfr.of (gdrew _)⟩
    · have HM := Lib.hid (show takeM M = ({ M with en := M.en + 1, fr := ins M.en M.fr }, M.en, 0) by unfold takeM; rw [hu]; simp [he])
      rw [HM.out]
      have hne : ¬ (M.en : Int) = (M.lim : Int) := by omega
      have hen32 : M.en < 4294967296 := by omega
      have hbq : ((M.en : Int) == (M.lim : Int)) = false := by simpa using hne
      have f9 := free_row HF.out.box 0
      clear hu
      go_enter Tryz.func59, Tryz.ntmps59
      go_wp2_with (first
        | (at_len; refine wpList_len_own _ rfl _ 157 rfl 42 97 Tryz.underlying157 _ B _ _ rfl hown ?_)
        | go_in)
      go_region
      have hz : (w.setCell ⟨B + 4, 0, none⟩ (.int .u32 ((M.en : Int) + 1))).heap.size = w.heap.size := by simp [World.setCell]
      have hP := (one_page (w.setCell ⟨B + 4, 0, none⟩ (.int .u32 ((M.en : Int) + 1))) M.en hen32).grown (gdrew _)
      rw [hz] at hP
      have hF := ((HF.out.set (en' := M.en + 1) 0 (.int .u32 ((M.en : Int) + 1)) rfl).grown (World.grownBy_alloc _ (.cells #[.int .u32 (M.en : Int)] 42) none)).grown (gdrew _)
      have hsf := ((Sfr.row (B := B) (gset w ⟨B + 4, 0, none⟩ (.int .u32 ((M.en : Int) + 1))) (by simp) (by simp)).trans (Sfr.of (World.grownBy_alloc _ (.cells #[.int .u32 (M.en : Int)] 42) none))).trans (Sfr.of (gdrew _))
      have HP := Lib.hid hP
      have HFq := Lib.hid hF
      have HSf := Lib.hid hsf
      clear hP hF hsf hz
      go_wp2_with (first
        | (go_at_call 78; (with_reducible refine (setAdd_any _ (B + 1) M.fr [M.en] (fun _ => True) (some ⟨w.heap.size, 0, none⟩) 1 1 HFq.out.fr HP.out).mono ?_); rintro r3 w3 ⟨rfl, hs3, ht3⟩; have HS3 := Lib.hid hs3; have HT3 := Lib.hid ht3; clear hs3 ht3))
      go_ret2
      have hsf := HSf.out.trans (Sfr.turn HT3.out (by omega) (by omega))
      exact ⟨rfl, ⟨wv, HFq.out.fr' HT3.out HS3.out, HR.out.sfr hsf⟩, hsf⟩

end Go.Proofs.YtildjdhoeilcfaaGreat

namespace Go.Proofs.YtildjdhoeilcfaaGreat
open Go.RowKit Go.Maps

/-- What a block's cells are of; none: no cells. -/
def ek (w : World) (k : Nat) : Option TypeId := match w.heap[k]? with
  | some (.cells _ t _) => some t
  | _ => none
theorem ek_of {w : World} {k : Nat} {cs : Array Value} {t : TypeId} {f : Nat × Nat} (h : w.heap[k]? = some (.cells cs t f)) : ek w k = some t := by simp [ek, h]
theorem ek_tag {w : World} {k : Nat} {t : TypeId} (h : TagIs w k t) : ek w k = some t := by obtain ⟨cs, f, h⟩ := h; exact ek_of h
theorem ek_lt {w : World} {k : Nat} {t : TypeId} (h : ek w k = some t) : k < w.heap.size := by
  unfold ek at h
  cases e : w.heap[k]? with
  | none => simp [e] at h
  | some o => exact lt_of_block e
theorem ek_same {w w' : World} {k : Nat} (h : w'.heap[k]? = w.heap[k]?) : ek w' k = ek w k := by simp [ek, h]
theorem ek_map {w : World} {k : Nat} {es : Array MapEntry} {c : Nat} (h : w.heap[k]? = some (.map es c)) : ek w k = none := by simp [ek, h]

/-- All below B, and all blocks of other kinds than P's, are as they were. -/
structure Kfr (P : Option TypeId → Prop) (B : Nat) (w w' : World) : Prop where
  os : w'.os = w.os
  tape : w'.tape = w.tape
  output : w'.output = w.output
  size : w.heap.size ≤ w'.heap.size
  block : ∀ k, k < w.heap.size → (k < B ∨ ¬ P (ek w k)) → w'.heap[k]? = w.heap[k]?
section
variable {P Q : Option TypeId → Prop} {B : Nat} {a b c w w' : World}
theorem Kfr.refl (P : Option TypeId → Prop) (B : Nat) (w : World) : Kfr P B w w := ⟨rfl, rfl, rfl, Nat.le_refl _, fun _ _ _ => rfl⟩
theorem Kfr.trans (h : Kfr P B a b) (k : Kfr P B b c) : Kfr P B a c := by
  refine ⟨k.os.trans h.os, k.tape.trans h.tape, k.output.trans h.output, Nat.le_trans h.size k.size, fun i hi hp => ?_⟩
  have e := h.block i hi hp
  exact (k.block i (Nat.lt_of_lt_of_le hi h.size) (hp.imp id fun n => by rw [ek_same e]; exact n)).trans e
theorem Kfr.mono {B' : Nat} (h : Kfr P B w w') (k : B' ≤ B) : Kfr P B' w w' := ⟨h.os, h.tape, h.output, h.size, fun i hi hp => h.block i hi (hp.imp (fun x => by omega) id)⟩
theorem Kfr.imp (h : Kfr P B w w') (k : ∀ t, P t → Q t) : Kfr Q B w w' := ⟨h.os, h.tape, h.output, h.size, fun i hi hp => h.block i hi (hp.imp id fun n x => n (k _ x))⟩
theorem Kfr.of (h : w.grownBy w' none) : Kfr P B w w' := ⟨h.os, h.tape, h.output, h.size, fun i hi _ => h.block i hi (by simp)⟩
theorem Kfr.row {r : Nat} (h : w.grownBy w' (some r)) (hB : B ≤ r) (hp : P (ek w r)) : Kfr P B w w' := ⟨h.os, h.tape, h.output, h.size, fun i hi hn => h.block i hi (by
  intro e; injection e with e; subst e
  exact hn.elim (fun x => absurd hB (by omega)) (fun x => x hp))⟩
theorem Kfr.below (h : Kfr P B w w') (hB : B ≤ w.heap.size) : Below B w w' := ⟨h.os, h.tape, h.output, h.size, fun k hk => h.block k (by omega) (.inl hk)⟩
theorem Kfr.ek {k : Nat} (h : Kfr P B w w') (hk : k < w.heap.size) (hp : k < B ∨ ¬ P (ek w k)) : Proofs.YtildjdhoeilcfaaGreat.ek w' k = Proofs.YtildjdhoeilcfaaGreat.ek w k := ek_same (h.block k hk hp)
theorem Kfr.own {base size n : Nat} {e : TypeId} {v : Value} {xs : List Value} (hd : Kfr P B w w') (h : w.ownsRow base e size v n xs) (ht : ¬ P (some e)) : w'.ownsRow base e size v n xs := by
  refine ⟨h.1, ?_⟩
  rcases h.2 with hn | ⟨g, cap, cur, rfl, hb, hgg, rest⟩
  · exact .inl hn
  · exact .inr ⟨g, cap, cur, rfl, hb, (hd.block g (lt_of_block hgg) (.inr (by rw [ek_of hgg]; exact ht))).trans hgg, rest⟩
theorem Kfr.own8 {base n : Nat} {v : Value} {bs : List Int} (hd : Kfr P B w w') (h : Own8 base w n v bs) (ht : ¬ P (some 5)) : Own8 base w' n v bs := hd.own h ht
theorem Kfr.cells {q : Nat} {cs : Array Value} {t : TypeId} {f : Nat × Nat} (hd : Kfr P B w w') (h : w.heap[q]? = some (.cells cs t f)) (ht : ¬ P (some t)) : w'.heap[q]? = some (.cells cs t f) := (hd.block q (lt_of_block h) (.inr (by rw [ek_of h]; exact ht))).trans h
end

/-- The kinds that a disk's call writes to. -/
def KD (t : Option TypeId) : Prop := t = some 112 ∨ t = some 146 ∨ t = some 143
theorem kfr_dfr {B : Nat} {w w' : World} (h : Dfr B w w') : Kfr KD B w w' := ⟨h.os, h.tape, h.output, h.size, fun k hk hp => h.block k hk (hp.imp id fun n hd => by
  obtain ⟨t, ht, e⟩ := hd
  apply n
  rw [ek_tag ht]
  rcases e with rfl | rfl | rfl
  · exact .inl rfl
  · exact .inr (.inl rfl)
  · exact .inr (.inr rfl))⟩
theorem not_KD {t : TypeId} (h : ¬ (t = 112 ∨ t = 146 ∨ t = 143)) : ¬ KD (some t) := by
  rintro (e | e | e) <;> (injection e with e; subst e; simp at h)

theorem Rws.kfr {P : Option TypeId → Prop} {B B' n : Nat} {w w' : World} {pv lv nv : Value} {ps : List PgV} {ls : List LoV} {once : Bool} (h : Rws B w n pv lv nv ps ls once) (hd : Kfr P B' w w') (h1 : ¬ P (some 146)) (h2 : ¬ P (some 143)) (h3 : ¬ P (some 5)) : Rws B w' n pv lv nv ps ls once where
  pown := hd.own h.pown h1
  pall := fun y hy => ⟨hd.own8 (h.pall y hy).1 h3, hd.own8 (h.pall y hy).2 h3⟩
  lown := hd.own h.lown h2
  lall := fun y hy => hd.own8 (h.lall y hy) h3
  nown := by
    have := h.nown
    split at this
    · rw [if_pos ‹_›]; exact hd.own8 this h3
    · rw [if_neg ‹_›]; exact this

/-- The disk, but for whether its page of noughts was made. -/
def PD (B : Nat) (w : World) (d : Nat) (M : SM) : Prop := ∃ o, DskAt B w d { M with once := o }
theorem DskAt.pd {B d : Nat} {w : World} {M : SM} (h : DskAt B w d M) : PD B w d M := ⟨M.once, h⟩
theorem PD.kfr {P : Option TypeId → Prop} {B B' d : Nat} {w w' : World} {M : SM} (h : PD B w d M) (hd : Kfr P B' w w') (h0 : ¬ P (some 112)) (h1 : ¬ P (some 146)) (h2 : ¬ P (some 143)) (h3 : ¬ P (some 5)) : PD B w' d M := by
  obtain ⟨o, pv, lv, nv, ps, ls, hB, hb, hr, e1, e2⟩ := h
  exact ⟨o, pv, lv, nv, ps, ls, hB, hd.cells hb h0, hr.kfr hd h1 h2 h3, e1, e2⟩
theorem PD.new {B d : Nat} {w w' : World} {M : SM} (h : PD B w d M) (hg : w.grownBy w' none) : PD B w' d M := by
  obtain ⟨o, h⟩ := h
  exact ⟨o, h.new hg⟩
theorem PD.lt {B d : Nat} {w : World} {M : SM} (h : PD B w d M) : d < w.heap.size ∧ B ≤ d := by
  obtain ⟨o, h⟩ := h
  exact ⟨h.lt, by obtain ⟨_, _, _, _, _, hB, _⟩ := h; exact hB⟩
theorem PD.ek {B d : Nat} {w : World} {M : SM} (h : PD B w d M) : ek w d = some 112 := by
  obtain ⟨o, pv, lv, nv, ps, ls, hB, hb, _⟩ := h
  exact ek_of hb
theorem PD.mono {B B' d : Nat} {w : World} {M : SM} (h : PD B w d M) (k : B' ≤ B) : PD B' w d M := by
  obtain ⟨o, h⟩ := h
  exact ⟨o, h.mono k⟩
theorem PD.dlen {B d : Nat} {w : World} {M : SM} (h : PD B w d M) : Calls Tryz.prog 33 #[.pointer (some ⟨d, 0, none⟩)] w fun r w' => r = .returned (.int .i64 (M.pg.length : Int)) ∧ w = w' := by
  obtain ⟨o, h⟩ := h
  obtain ⟨ao, c, hc⟩ := h.len
  exact dlen_any w d ao M.pg.length c hc
theorem PD.dsize {B d : Nat} {w : World} {M : SM} (h : PD B w d M) : Calls Tryz.prog 80 #[.pointer (some ⟨d, 0, none⟩)] w fun r w' => r = .returned (.int .i64 (M.size : Int)) ∧ w = w' := by
  obtain ⟨o, h⟩ := h
  exact size_any w d _ h.lim.1
theorem PD.dlimit {B d : Nat} {w : World} {M : SM} (h : PD B w d M) : Calls Tryz.prog 57 #[.pointer (some ⟨d, 0, none⟩)] w fun r w' => r = .returned (.int .i64 (M.limit : Int)) ∧ w = w' := by
  obtain ⟨o, h⟩ := h
  exact limit_any w d _ h.lim.2.1

theorem Dfr.nset {B q : Nat} {w w' : World} (h : Dfr B w w') (hq : w.heap.size ≤ q) (j : Nat) (u : Value) : Dfr B w (w'.setCell ⟨q, j, none⟩ u) :=
  ⟨h.os, h.tape, h.output, by rw [World.size_setCell]; exact h.size, fun k hk hp => (Below.heap_setCell _ _ _ _ (show k ≠ q by omega)).trans (h.block k hk hp)⟩
theorem Kfr.nset {P : Option TypeId → Prop} {B q : Nat} {w w' : World} (h : Kfr P B w w') (hq : w.heap.size ≤ q) (j : Nat) (u : Value) : Kfr P B w (w'.setCell ⟨q, j, none⟩ u) :=
  ⟨h.os, h.tape, h.output, by rw [World.size_setCell]; exact h.size, fun k hk hp => (Below.heap_setCell _ _ _ _ (show k ≠ q by omega)).trans (h.block k hk hp)⟩
/-- One block of one kind may have changed. -/
theorem kfr_set {w : World} {q : Nat} {cs : Array Value} {t : TypeId} {f : Nat × Nat} (h : w.heap[q]? = some (.cells cs t f)) (j : Nat) (u : Value) : Kfr (fun x => x = some t) 0 w (w.setCell ⟨q, j, none⟩ u) :=
  Kfr.row (gset w ⟨q, j, none⟩ u) (Nat.zero_le _) (ek_of h)
theorem PD.set4 {B d q : Nat} {w : World} {M : SM} {x0 x1 x2 x3 : Value} (h : PD B w d M) (hq : w.heap[q]? = some (.cells #[x0, x1, x2, x3] 44 (0, 0))) (a b c e : Value) : PD B ((((w.setCell ⟨q, 0, none⟩ a).setCell ⟨q, 1, none⟩ b).setCell ⟨q, 2, none⟩ c).setCell ⟨q, 3, none⟩ e) d M := by
  have h1 : _ = some (Obj.cells #[a, x1, x2, x3] 44 (0, 0)) := heap_setCell_same _ q 0 _ 44 a hq
  have h2 : _ = some (Obj.cells #[a, b, x2, x3] 44 (0, 0)) := heap_setCell_same _ q 1 _ 44 b h1
  have h3 : _ = some (Obj.cells #[a, b, c, x3] 44 (0, 0)) := heap_setCell_same _ q 2 _ 44 c h2
  have k := (((kfr_set hq 0 a).trans (kfr_set h1 1 b)).trans (kfr_set h2 2 c)).trans (kfr_set h3 3 e)
  exact h.kfr k (by simp) (by simp) (by simp) (by simp)
theorem Dfr.set4 {B q : Nat} {w w' : World} (h : Dfr B w w') (hq : w.heap.size ≤ q) (a b c e : Value) : Dfr B w ((((w'.setCell ⟨q, 0, none⟩ a).setCell ⟨q, 1, none⟩ b).setCell ⟨q, 2, none⟩ c).setCell ⟨q, 3, none⟩ e) := (((h.nset hq 0 a).nset hq 1 b).nset hq 2 c).nset hq 3 e

/-- An error of the disk, as the pager tells it. -/
def deE (e : Int) : Int := if e = 0 ∨ e = 20 ∨ e = 21 then e else 24
set_option maxHeartbeats 400000 in
theorem diskError_any (e : Int) (w : World) : Calls Tryz.prog 52 #[.int .i64 e] w fun r w' => r = .returned (.int .i64 (deE e)) ∧ w = w' := by
  by_cases h0 : e = 0
  · subst h0
    go_enter Tryz.func52, Tryz.ntmps52
    go_wp2
    go_ret
    exact ⟨rfl, rfl⟩
  · by_cases h1 : e = 20
    · subst h1
      go_enter Tryz.func52, Tryz.ntmps52
      go_wp2
      go_ret
      exact ⟨rfl, rfl⟩
    · by_cases h2 : e = 21
      · subst h2
        go_enter Tryz.func52, Tryz.ntmps52
        go_wp2
        go_ret
        exact ⟨rfl, rfl⟩
      · have hd : Hid (deE e = 24) := Lib.hid (by unfold deE; rw [if_neg (by omega)])
        have b0 : (e == 0) = false := by simpa using h0
        have b1 : (e == 20) = false := by simpa using h1
        have b2 : (e == 21) = false := by simpa using h2
        rw [hd.out]
        go_enter Tryz.func52, Tryz.ntmps52
        go_wp2
        go_ret
        exact ⟨rfl, rfl⟩

theorem diskError_as (e x : Int) (h : deE e = x) (w : World) : Calls Tryz.prog 52 #[.int .i64 e] w fun r w' => r = .returned (.int .i64 x) ∧ w = w' := h ▸ diskError_any e w

set_option maxHeartbeats 1000000 in
theorem readPage_ok {B d i : Nat} {w : World} {M : SM} (h : PD B w d M) (hF : Fine M) (hi : i < M.pg.length) (hn : M.size ≤ 4096) (h0 : cE M.fails M.ahead = 0) (x : Int) (hx : x = (i : Int)) :
    Calls Tryz.prog 81 #[.pointer (some ⟨d, 0, none⟩), .int .i64 x] w fun r w' => ∃ ao c, r = .returned (.tuple #[.slice ao M.size c, .int .i64 0]) ∧ PD B w' d (cntM M) ∧ Own8 w.heap.size w' M.size (.slice ao M.size c) (lastM M i) ∧ Dfr B w w' := by
  subst hx
  obtain ⟨o, h⟩ := h
  have K := DskAt.readN (n := M.size) h rfl hF hi hn h0
  have HK : Hid (Calls Tryz.prog 113 #[.pointer (some ⟨d, 0, none⟩), .int .i64 (i : Int)] w fun r w' => ∃ ao c, r = .returned (.tuple #[.slice ao M.size c, .int .i64 0]) ∧ PD B w' d (cntM M) ∧ Own8 w.heap.size w' M.size (.slice ao M.size c) (lastM M i) ∧ Dfr B w w') := Lib.hid (K.mono fun r w' ⟨wc, ao, c, e, hd, hz, hf, hg, ho⟩ => ⟨ao, c, e, ⟨o, hd.new hg⟩, by rw [hz] at ho; exact ho, hf.trans (dfr_new (B := B) hg)⟩)
  clear K h
  go_enter Tryz.func81, Tryz.ntmps81
  go_wp2_with (first
    | (go_at_call 113; ((with_reducible refine (HK.out).mono ?_)); clear HK; rintro e w1 ⟨ao, c, rfl, hd, ho, hf⟩; have HD := Lib.hid hd; have HO := Lib.hid ho; have HG := Lib.hid hf; clear hd hf ho)
    | (go_at_call 52; ((with_reducible refine (diskError_as 0 0 (by decide) _).mono ?_)); rintro e w2 ⟨rfl, rfl⟩))
  go_ret2
  exact ⟨ao, c, rfl, HD.out, HO.out, HG.out⟩
set_option maxHeartbeats 1000000 in
theorem readPage_io {B d i : Nat} {w : World} {M : SM} (h : PD B w d M) (hF : Fine M) (hi : i < M.pg.length) (h0 : cE M.fails M.ahead = 20) (x : Int) (hx : x = (i : Int)) :
    Calls Tryz.prog 81 #[.pointer (some ⟨d, 0, none⟩), .int .i64 x] w fun r w' => r = .returned (.tuple #[.slice none 0 0, .int .i64 20]) ∧ PD B w' d (cntM M) ∧ Dfr B w w' := by
  subst hx
  obtain ⟨o, h⟩ := h
  have HK := Lib.hid (DskAt.read_io h hF hi h0)
  clear h
  go_enter Tryz.func81, Tryz.ntmps81
  go_wp2_with (first
    | (go_at_call 113; ((with_reducible refine (HK.out).mono ?_)); clear HK; rintro e w1 ⟨rfl, hd, hf⟩; have HD := Lib.hid (show PD B w1 d (cntM M) from ⟨o, hd⟩); have HG := Lib.hid hf; clear hd hf)
    | (go_at_call 52; ((with_reducible refine (diskError_as 20 20 (by decide) _).mono ?_)); rintro e w2 ⟨rfl, rfl⟩))
  go_ret2
  exact ⟨rfl, HD.out, HG.out⟩
set_option maxHeartbeats 1000000 in
theorem readPage_out {B d : Nat} {w : World} {M : SM} (h : PD B w d M) (x : Int) (hx : x < 0 ∨ (M.pg.length : Int) ≤ x) :
    Calls Tryz.prog 81 #[.pointer (some ⟨d, 0, none⟩), .int .i64 x] w fun r w' => r = .returned (.tuple #[.slice none 0 0, .int .i64 24]) ∧ w = w' := by
  obtain ⟨o, h⟩ := h
  have HK := Lib.hid (DskAt.read_out h hx)
  clear h
  go_enter Tryz.func81, Tryz.ntmps81
  go_wp2_with (first
    | (go_at_call 113; ((with_reducible refine (HK.out).mono ?_)); clear HK; rintro e w1 ⟨rfl, rfl⟩)
    | (go_at_call 52; ((with_reducible refine (diskError_as 15 24 (by decide) _).mono ?_)); rintro e w2 ⟨rfl, rfl⟩))
  go_ret2
  exact ⟨rfl, rfl⟩

end Go.Proofs.YtildjdhoeilcfaaGreat

namespace Go.Proofs.YtildjdhoeilcfaaGreat
open Go.RowKit

set_option maxHeartbeats 400000 in
theorem out_any (w : World) (g : Nat) (bs : List Int) (h : WrAt w g bs) (hl : bs.length ≤ 140737488355328) :
    Calls Tryz.prog 71 #[.pointer (some ⟨g, 0, none⟩)] w fun r w' => ∃ ao c, r = .returned (.slice ao bs.length c) ∧
      w'.ownsRow w.heap.size 5 1 (.slice ao bs.length c) bs.length (bs.map (Value.int .u8)) ∧ w.grownBy w' none := by
  obtain ⟨v, hown, hv⟩ := h
  obtain ⟨ao, c, rfl⟩ := own_shape hown
  have hc0 := cell_of_one hv
  have H := Lib.hid (clone_any w _ _ bs (Seq.owned hown) (Nat.le_refl _) hl)
  clear hown hv
  go_enter Tryz.func71, Tryz.ntmps71
  go_wp2_with (go_at_call 60; refine H.out.mono ?_; rintro r w2 ⟨ao, c, rfl, ho2, hg2⟩)
  go_ret
  exact ⟨_, _, rfl, ho2, hg2⟩

set_option maxHeartbeats 400000 in
theorem out_nil (w : World) :
    Calls Tryz.prog 71 #[.pointer none] w fun r w' => r = .returned (.slice none 0 0) ∧ w = w' := by
  go_enter Tryz.func71, Tryz.ntmps71
  go_wp2
  go_ret
  exact ⟨rfl, rfl⟩

/-- Behind an append onto the writer's row: its own cell still holds what it held. -/
theorem wr_still {w w' : World} {g : Nat} {t : TypeId} {u : Value} {row : Option Nat} (hv : w.heap[g]? = some (.cells #[u] t (0, 0))) (hg : w.grownBy w' row) (hr : row ≠ some g) : w'.heap[g]? = some (.cells #[u] t (0, 0)) :=
  (hg.block g (lt_of_block hv) (fun e => hr e.symm)).trans hv

theorem own_row {w : World} {base size n : Nat} {e : TypeId} {v : Value} {xs : List Value} (h : w.ownsRow base e size v n xs) {g : Nat} (hg : g < base) : v.ownBlock ≠ some g := by
  intro e
  have := (h.lt g e).1
  omega

theorem rightSize_yes (n : Int) (w : World) (h1 : 1 ≤ n) (h2 : n ≤ 8) :
    Calls Tryz.prog 108 #[.int .i64 n] w fun r w' => r = .returned (.bool true) ∧ w = w' :=
  (rightSize_any n w).mono fun r w' h => by simpa [h1, h2] using h
theorem rightSize_no (n : Int) (w : World) (h : n < 1 ∨ 8 < n) :
    Calls Tryz.prog 108 #[.int .i64 n] w fun r w' => r = .returned (.bool false) ∧ w = w' :=
  (rightSize_any n w).mono fun r w' k => by
    have e : (decide (1 ≤ n) && decide (n ≤ 8)) = false := by simp; omega
    simpa [e] using k

/-- The bytes of a number, k of size many. -/
def numB (x : Int) (size k : Nat) : List Int := (List.range k).map fun i => x / 256 ^ (size - 1 - i) % 256

theorem numB_snoc (x : Int) (n k : Nat) : numB x n (k + 1) = numB x n k ++ [x / 256 ^ (n - 1 - k) % 256] := by simp [numB, List.range_succ]

theorem cell_one_drew (w : World) (v : Value) (t : TypeId) : ∀ j u, [v][j]? = some u → ((w.alloc (.cells #[v] t)).drew).cell? ((⟨w.heap.size, 0, none⟩ : Addr).add j) = some u := cell_one_new w v t
theorem one_cell (v : Value) (h : v.oneCell' = true) : ∀ u ∈ [v], u.oneCell' = true := by intro u hu; simp at hu; subst hu; exact h

theorem drew_still {w : World} {g : Nat} {x : Obj} (hv : w.heap[g]? = some x) (o : Obj) : ((w.alloc o).drew).heap[g]? = some x :=
  (Below.heap_alloc w o g (lt_of_block hv)).trans hv

theorem WrAt.own {w : World} {g : Nat} {bs : List Int} (h : WrAt w g bs) : ∃ ao c, w.ownsRow (g + 1) 5 1 (.slice ao bs.length c) bs.length (bs.map (Value.int .u8)) ∧ w.heap[g]? = some (.cells #[.slice ao bs.length c] 202 (0, 0)) := by
  obtain ⟨u, hown, hv⟩ := h
  obtain ⟨ao, c, rfl⟩ := own_shape hown
  exact ⟨ao, c, hown, hv⟩

set_option maxHeartbeats 800000 in
theorem wnum_in (w : World) (g n : Nat) (x : Int) (bs : List Int) (h : WrAt w g bs) (_hx0 : 0 ≤ x) (_hx1 : x ≤ 18446744073709551615) (h1 : 1 ≤ n) (h8 : n ≤ 8) (hl : bs.length + n ≤ 140737488355328) :
    Calls Tryz.prog 69 #[.pointer (some ⟨g, 0, none⟩), .int .u64 x, .int .i64 n] w fun r w' => r = .returned (.tuple #[]) ∧ WrAt w' g (bs ++ numB x n n) ∧ Fw g w w' := by
  obtain ⟨i0, hi, hz0, hz1, hz2⟩ := info_parts infoU8
  go_enter Tryz.func69, Tryz.ntmps69
  go_wp2_with (go_at_call 108; refine (rightSize_yes _ _ (by omega) (by omega)).mono ?_; rintro r w1 ⟨rfl, rfl⟩)
  go_loopw [15] (fun i wr => ∃ k : Nat, k ≤ n ∧ i = .int .i64 k ∧ WrAt wr g (bs ++ numB x n k) ∧ Fw g w wr) (fun i _ => n - (intOf i).toNat)
  case atStart => exact ⟨0, Nat.zero_le _, rfl, by simpa [numB] using h, Fw.refl _ _⟩
  case round =>
    obtain ⟨k, hk, rfl, hwr, hbl⟩ := hrel
    by_cases hlt : k < n
    · have hlen : (bs ++ numB x n k).length = bs.length + k := by simp [numB]
      have hsn : bs ++ numB x n (k + 1) = (bs ++ numB x n k) ++ [x / 256 ^ (n - 1 - k) % 256] := by rw [numB_snoc, List.append_assoc]
      generalize bs ++ numB x n k = l at *
      have HS := Lib.hid hsn
      have HL := Lib.hid hlen
      clear hsn hlen h
      have hgl := hwr.lt
      obtain ⟨ao, c, hown, hv⟩ := hwr.own
      have HR := Lib.hid (own_row hown (Nat.lt_succ_self g))
      have hc0 := cell_of_one hv
      have HO := Lib.hid hown
      have HV := Lib.hid hv
      clear hown hv hwr
      go_wp2
      have e1 : IntKind.i64.wrap ((n : Int) - 1) = (n : Int) - 1 := IntWalk.i64_in _ (by omega)
      have e2 : IntKind.i64.wrap ((n : Int) - 1 - (k : Int)) = (n : Int) - 1 - (k : Int) := IntWalk.i64_in _ (by omega)
      have e3 : IntKind.i64.wrap (8 * ((n : Int) - 1 - (k : Int))) = 8 * ((n : Int) - 1 - (k : Int)) := IntWalk.i64_in _ (by omega)
      have hs0 : 0 ≤ 8 * ((n : Int) - 1 - (k : Int)) := by omega
      have HX := Lib.hid (show IntKind.u8.wrap (x / 2 ^ (8 * ((n : Int) - 1 - (k : Int))).toNat) = x / 256 ^ (n - 1 - k) % 256 by
        rw [IntKind.wrap_u8', show (8 * ((n : Int) - 1 - (k : Int))).toNat = 8 * (n - 1 - k) by omega, Int.pow_mul]; rfl)
      have hs1 : 8 * ((n : Int) - 1 - (k : Int)) ≤ 64 := by omega
      go_region_law (refine step_append_own2 rfl (.tmp 22) (.tmp 31) 32 rfl (g + 1) 5 i0 (.int .u8 0) 1 1 Tryz.underlying32 hi hz0 hz1 hz2 rfl (by decide) _ _ _ rfl (HO.out.alloc _) ⟨wr.heap.size, 0, none⟩ 1 1 [.int .u8 (IntKind.u8.wrap (x / 2 ^ (8 * ((n : Int) - 1 - (k : Int))).toNat))] rfl rfl (cell_one_drew _ _ _) (one_cell _ rfl) (by rw [HL.out]; unfold maxLen; omega) (by rw [HL.out]; omega) (by simp; omega) ?_; intro v' w1 hown' hgrow hfr; obtain ⟨ao', c', rfl⟩ := own_shape hown'; have hv1 := wr_still (drew_still HV.out _) hgrow HR.out; have k0 := cell_of_one hv1; have e0 := free_of_one hv1; have R := Lib.hid (wr_put HO.out HV.out (g_alloc_drew wr _) (xs := [_]) hown' hgrow hfr (congrArg (fun y => [y]) HX.out)); clear hown' hgrow hv1 hfr)
      all_goals
        go_wp2
        go_roundw
        case rel => exact ⟨k + 1, by omega, by go_num, by rw [HS.out]; exact R.out.1, hbl.trans R.out.2⟩
        case measure => simp [intOf]; omega
    · obtain rfl : k = n := by omega
      go_wp2
      go_end0
      exact ⟨rfl, hwr, hbl⟩

end Go.Proofs.YtildjdhoeilcfaaGreat
