/-
  Layer 8: Give, lowest and Take. Own work.
-/
import Derived.Test.YtoaglkbobndmeabSpcH
namespace Go.Proofs.Ytoaglkbobndmeab
open Go.RowKit Go.Maps

/-- A page laid as a row of one. -/
theorem one_page (w : World) (p : Nat) (hp : p < 4294967296) : PSq (fun _ => True) (w.alloc (.cells #[.int .u32 (p : Int)] 36)) (.slice (some ⟨w.heap.size, 0, none⟩) 1 1) [p] := by
  refine ⟨some ⟨w.heap.size, 0, none⟩, 1, rfl, Nat.le_refl _, by decide, fun x hx => ?_, fun _ => ⟨w.heap.size, 0, rfl, trivial, fun j hj => ?_⟩⟩
  · have : x = p := by simpa using hx
    rw [this]; exact hp
  · have hj0 : j = 0 := by simp at hj; omega
    subst hj0
    rw [Nat.zero_add, World.cell?_alloc_mark]
    rfl
theorem insAll_one (p : Nat) (L : List Nat) : insAll [p] L = ins p L := rfl
theorem ret_int {k : IntKind} {a b : Int} (h : a = b) : Ending.returned (.int k a) = .returned (.int k b) := by rw [h]

def giveM (M : Sp) (p : Nat) : Sp × Int :=
  if p ∈ M.fr then ({ M with fr := del p M.fr, us := ins p M.us, low := min M.low p }, 0)
  else if inUseM M p = true then ({ M with go := ins p M.go }, 0) else (M, 1)
def OpR (B H : Nat) (w : World) (M' : Sp) (v : Value) (r : Ending) (w' : World) : Prop := r = .returned v ∧ SpAt B H w' M' ∧ Sfr B w w'

set_option maxHeartbeats 1000000 in
theorem give_any {H : Nat} (w : World) (B : Nat) (M : Sp) (h : SpAt B H w M) (p : Nat) (hp : p < 4294967296) :
    Calls Try.prog 14 #[.pointer (some ⟨B + 4, 0, none⟩), .int .u32 (p : Int)] w fun r w' => OpR B H w (giveM M p).1 (.int .i64 (giveM M p).2) r w' := by
  have HA := Lib.hid h
  obtain ⟨wv, h1, h2⟩ := h
  obtain ⟨f0, f1, f2, f3, f4, f5, f6, f7⟩ := h1.cells
  have HF := Lib.hid h1
  have HR := Lib.hid h2
  clear h1 h2 f7
  by_cases hin : p ∈ M.fr
  · have hd : decide (p ∈ M.fr) = true := by simpa using hin
    have HD := Lib.hid hd
    have HM := Lib.hid (show giveM M p = ({ M with fr := del p M.fr, us := ins p M.us, low := min M.low p }, 0) by unfold giveM; rw [if_pos hin])
    rw [HM.out]
    clear hin hd f0 f1 f5 f6
    by_cases hlt : p < M.low
    · have hlt2 : (p : Int) < (M.low : Int) := by omega
      have HL := Lib.hid (show min M.low p = p by omega)
      go_enter Try.func14, Try.ntmps14
      go_wp2_with (first
        | (go_at_call 26; (with_reducible refine (has_g w (B + 1) p M.fr HF.out.fr hp true HD.out).mono ?_); rintro r w1 ⟨rfl, hg⟩; have HG1 := Lib.hid hg; have HF1 := Lib.hid (HF.out.grown hg); obtain ⟨-, -, -, g3, g4, -, -, -⟩ := (HF.out.grown hg).cells; have hown := HF1.out.fr.1; clear hg)
        | (at_delete; refine wpList_delete_own _ rfl _ _ 69 36 rfl 79 lawP Try.underlying69 (unitElem (H := Unit)) (B + 1) _ _ rfl hown _ _ rfl (keyP hp) ?_; intro w2 hown2 hturn2; rw [setD_del] at hown2; have hs2 : SetAt w2 (B + 1) (del p M.fr) := ⟨own_tight hown2, srt_del HF1.out.fr.2.1, fun x hx => HF1.out.fr.2.2 x (mem_del.1 hx).1⟩; have hf2 := HF1.out.fr' hturn2 hs2; obtain ⟨-, -, -, k3, -, -, -, -⟩ := hf2.cells; have HF2 := Lib.hid hf2; have HT2 := Lib.hid hturn2; clear hown2 hturn2 hs2 hf2)
        | (go_at_call 22; (with_reducible refine (add_any (w2.alloc (.cells #[.int .u32 (p : Int)] 36)) B M.us [p] (fun _ => True) (some ⟨w2.heap.size, 0, none⟩) 1 1 (HF2.out.us.grown (World.grownBy_alloc _ _ _)) (one_page w2 p hp)).mono ?_); rintro r w3 ⟨rfl, hs3, ht3⟩; have hf3 := (HF2.out.grown (World.grownBy_alloc w2 (.cells #[.int .u32 (p : Int)] 36) none)).us' ht3 hs3; obtain ⟨-, -, l2, -, -, -, -, -⟩ := hf3.cells; have l9 := free_row hf3.box 2; have HF3 := Lib.hid hf3; have HT3 := Lib.hid ht3; clear hs3 ht3 hf3))
      go_ret
      have hsf := ((((Sfr.of (B := B) HG1.out).trans (Sfr.turn HT2.out (by omega) (by omega))).trans (Sfr.of (World.grownBy_alloc _ _ none))).trans (Sfr.turn HT3.out (by omega) (by omega)))
      refine ⟨rfl, ⟨wv, ?_, ?_⟩, hsf.trans (Sfr.row (gset _ ⟨B + 4, 2, none⟩ _) (by simp) (by simp))⟩
      · have := HF3.out.set (low' := p) 2 (.int .u32 (p : Int)) rfl
        rw [HL.out]
        exact this
      · exact HR.out.sfr (hsf.trans (Sfr.row (gset _ ⟨B + 4, 2, none⟩ _) (by simp) (by simp)))
    · have hlt2 : ¬ (p : Int) < (M.low : Int) := by omega
      have HL := Lib.hid (show min M.low p = M.low by omega)
      go_enter Try.func14, Try.ntmps14
      go_wp2_with (first
        | (go_at_call 26; (with_reducible refine (has_g w (B + 1) p M.fr HF.out.fr hp true HD.out).mono ?_); rintro r w1 ⟨rfl, hg⟩; have HG1 := Lib.hid hg; have HF1 := Lib.hid (HF.out.grown hg); obtain ⟨-, -, -, g3, g4, -, -, -⟩ := (HF.out.grown hg).cells; have hown := HF1.out.fr.1; clear hg)
        | (at_delete; refine wpList_delete_own _ rfl _ _ 69 36 rfl 79 lawP Try.underlying69 (unitElem (H := Unit)) (B + 1) _ _ rfl hown _ _ rfl (keyP hp) ?_; intro w2 hown2 hturn2; rw [setD_del] at hown2; have hs2 : SetAt w2 (B + 1) (del p M.fr) := ⟨own_tight hown2, srt_del HF1.out.fr.2.1, fun x hx => HF1.out.fr.2.2 x (mem_del.1 hx).1⟩; have hf2 := HF1.out.fr' hturn2 hs2; obtain ⟨-, -, -, k3, -, -, -, -⟩ := hf2.cells; have HF2 := Lib.hid hf2; have HT2 := Lib.hid hturn2; clear hown2 hturn2 hs2 hf2)
        | (go_at_call 22; (with_reducible refine (add_any (w2.alloc (.cells #[.int .u32 (p : Int)] 36)) B M.us [p] (fun _ => True) (some ⟨w2.heap.size, 0, none⟩) 1 1 (HF2.out.us.grown (World.grownBy_alloc _ _ _)) (one_page w2 p hp)).mono ?_); rintro r w3 ⟨rfl, hs3, ht3⟩; have hf3 := (HF2.out.grown (World.grownBy_alloc w2 (.cells #[.int .u32 (p : Int)] 36) none)).us' ht3 hs3; obtain ⟨-, -, l2, -, -, -, -, -⟩ := hf3.cells; have l9 := free_row hf3.box 2; have HF3 := Lib.hid hf3; have HT3 := Lib.hid ht3; clear hs3 ht3 hf3))
      go_ret
      have hsf := ((((Sfr.of (B := B) HG1.out).trans (Sfr.turn HT2.out (by omega) (by omega))).trans (Sfr.of (World.grownBy_alloc _ _ none))).trans (Sfr.turn HT3.out (by omega) (by omega)))
      refine ⟨rfl, ⟨wv, ?_, ?_⟩, hsf.trans (Sfr.row (gset _ ⟨B + 4, 2, none⟩ _) (by simp) (by simp))⟩
      · have := HF3.out.set (low' := M.low) 2 (.int .u32 (M.low : Int)) rfl
        rw [HL.out]
        exact this
      · exact HR.out.sfr (hsf.trans (Sfr.row (gset _ ⟨B + 4, 2, none⟩ _) (by simp) (by simp)))
  · have hd : decide (p ∈ M.fr) = false := by simpa using hin
    have HD := Lib.hid hd
    clear hd f0 f1 f2 f3 f6
    cases hu : inUseM M p with
    | true =>
      have HU := Lib.hid hu
      have HM := Lib.hid (show giveM M p = ({ M with go := ins p M.go }, 0) by unfold giveM; rw [if_neg hin, if_pos hu])
      rw [HM.out]
      clear hin hu
      go_enter Try.func14, Try.ntmps14
      go_wp2_with (first
        | (go_at_call 26; (with_reducible refine (has_g w (B + 1) p M.fr HF.out.fr hp false HD.out).mono ?_); rintro r w1 ⟨rfl, hg⟩; have HG1 := Lib.hid hg; clear hg)
        | (go_at_call 29; (with_reducible refine (inUse_any w1 B M (HA.out.grown HG1.out) p hp true HU.out).mono ?_); rintro r w2 ⟨rfl, hg⟩; have hg2 := gtrans HG1.out hg; obtain ⟨-, -, -, -, -, k5, -, -⟩ := (HF.out.grown hg2).cells; have HG2 := Lib.hid hg2; clear hg hg2)
        | (go_at_call 22; (with_reducible refine (add_any (w2.alloc (.cells #[.int .u32 (p : Int)] 36)) (B + 2) M.go [p] (fun _ => True) (some ⟨w2.heap.size, 0, none⟩) 1 1 ((HF.out.grown HG2.out).go.grown (World.grownBy_alloc _ _ _)) (one_page w2 p hp)).mono ?_); rintro r w3 ⟨rfl, hs3, ht3⟩; have HS3 := Lib.hid hs3; have HT3 := Lib.hid ht3; clear hs3 ht3))
      go_ret
      have hg3 := gtrans HG2.out (World.grownBy_alloc w2 (.cells #[.int .u32 (p : Int)] 36) none)
      have hsf := (Sfr.of (B := B) hg3).trans (Sfr.turn HT3.out (by omega) (by omega))
      exact ⟨rfl, ⟨wv, (HF.out.grown hg3).go' HT3.out HS3.out, HR.out.sfr hsf⟩, hsf⟩
    | false =>
      have HU := Lib.hid hu
      have HM := Lib.hid (show giveM M p = (M, 1) by unfold giveM; rw [if_neg hin, if_neg (by rw [hu]; decide)])
      rw [HM.out]
      clear hin hu
      go_enter Try.func14, Try.ntmps14
      go_wp2_with (first
        | (go_at_call 26; (with_reducible refine (has_g w (B + 1) p M.fr HF.out.fr hp false HD.out).mono ?_); rintro r w1 ⟨rfl, hg⟩; have HG1 := Lib.hid hg; clear hg)
        | (go_at_call 29; (with_reducible refine (inUse_any w1 B M (HA.out.grown HG1.out) p hp false HU.out).mono ?_); rintro r w2 ⟨rfl, hg⟩; have HG2 := Lib.hid (gtrans HG1.out hg); clear hg))
      go_ret
      exact ⟨rfl, HA.out.grown HG2.out, Sfr.of HG2.out⟩
theorem give_nil (w : World) (p : Int) : Calls Try.prog 14 #[.pointer none, .int .u32 p] w fun r w' => r = .returned (.int .i64 1) ∧ w = w' := by
  go_enter Try.func14, Try.ntmps14
  go_wp2
  go_ret
  exact ⟨rfl, rfl⟩

set_option maxHeartbeats 1000000 in
/-- The lowest usable page: 'low' goes up to it. -/
theorem lowest_any {H : Nat} (w : World) (B : Nat) (M : Sp) (h : SpAt B H w M) (p : Nat) (r : List Nat) (hu : M.us = p :: r) (hlow : M.low ≤ p) :
    Calls Try.prog 27 #[.pointer (some ⟨B + 4, 0, none⟩)] w fun r w' => OpR B H w { M with low := p } (.int .u32 (p : Int)) r w' := by
  obtain ⟨wv, h1, h2⟩ := h
  have HF := Lib.hid h1
  have HR := Lib.hid h2
  have hp : p < 4294967296 := h1.us.2.2 p (by rw [hu]; simp)
  have HU := Lib.hid hu
  have HS := Lib.hid h1.us.2.1
  clear h1 h2 hu
  go_enter Try.func27, Try.ntmps27
  go_wp2
  go_loopg [3] (p - M.low) (fun g _ wr => ∃ j : Nat, j + g = p ∧ M.low ≤ j ∧ Fiv B wr M.en M.lim j M.us M.fr M.go M.wa wv ∧ Sfr B w wr)
  case atStart => exact ⟨M.low, by omega, Nat.le_refl _, HF.out, Sfr.refl _ _⟩
  case round =>
    obtain ⟨j, hj, hjl, hF, hsf⟩ := hrel
    have HF1 := Lib.hid hF
    have HF1d := Lib.hid (hF.grown (gdrew _))
    have HS1 := Lib.hid hsf
    have HS1d := Lib.hid (hsf.trans (Sfr.of (gdrew _)))
    obtain ⟨-, -, f2, f3, -⟩ := hF.cells
    have hj32 : j < 4294967296 := by omega
    clear hF hsf
    by_cases hg0 : j = p
    · subst hg0
      have HD := Lib.hid (show decide (j ∈ M.us) = true by rw [HU.out]; simp)
      clear hj hjl
      go_wp2_with fail
      go_region_with (go_at_call 26; (with_reducible refine (has_g wr.drew B j M.us HF1d.out.us hj32 true HD.out).mono ?_); rintro r w1 ⟨rfl, hg⟩; have HG1 := Lib.hid hg; have HF2 := Lib.hid (HF1d.out.grown hg); obtain ⟨-, -, g2, g3, -⟩ := (HF1d.out.grown hg).cells; clear hg)
      all_goals
        go_wp2
        go_ret
        have hsf := HS1d.out.trans (Sfr.of HG1.out)
        exact ⟨rfl, ⟨wv, HF2.out, HR.out.sfr hsf⟩, hsf⟩
    · have HD := Lib.hid (show decide (j ∈ M.us) = false by
        have hs := HS.out
        rw [HU.out] at hs ⊢
        simp only [decide_eq_false_iff_not]
        intro hm
        have := srt_head hs hm
        omega)
      go_wp2_with fail
      go_region_with (go_at_call 26; (with_reducible refine (has_g wr.drew B j M.us HF1d.out.us hj32 false HD.out).mono ?_); rintro r w1 ⟨rfl, hg⟩; have HG1 := Lib.hid hg; have HF2 := Lib.hid (HF1d.out.grown hg); obtain ⟨-, -, g2, g3, -⟩ := (HF1d.out.grown hg).cells; have g9 := free_row (HF1d.out.grown hg).box 2; clear hg)
      all_goals
        go_wp2
        have hsf := HS1d.out.trans (Sfr.of HG1.out)
        go_roundg (gk - 1)
        case rel => exact ⟨j + 1, by omega, by omega, HF2.out.set 2 _ rfl, hsf.trans (Sfr.row (gset _ ⟨B + 4, 2, none⟩ _) (by simp) (by simp))⟩
        case measure => omega

end Go.Proofs.Ytoaglkbobndmeab
