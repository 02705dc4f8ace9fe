/-
  Layer 8: Take. Own work.
-/
import Derived.Test.YtoaglkbobndmeabSpcI
namespace Go.Proofs.Ytoaglkbobndmeab
open Go.RowKit Go.Maps

def takeM (M : Sp) : Sp × Nat × Int :=
  match M.us with
  | p :: r => ({ M with low := p, us := r, fr := ins p M.fr }, p, 0)
  | [] => if M.en = M.lim then (M, 0, 21) else ({ M with en := M.en + 1, fr := ins M.en M.fr }, M.en, 0)
theorem del_head {p : Nat} {r : List Nat} (h : Srt (p :: r)) : del p (p :: r) = r := by
  have h1 := (List.pairwise_cons.1 h).1
  unfold del
  rw [List.filter_cons]
  simp only [beq_self_eq_true, Bool.not_true, Bool.false_eq_true, if_false]
  refine List.filter_eq_self.2 fun x hx => ?_
  have := h1 x hx
  simp
  omega
theorem take_nil (w : World) : Calls Try.prog 12 #[.pointer none] w fun r w' => r = .returned (.tuple #[.int .u32 0, .int .i64 1]) ∧ w = w' := by
  go_enter Try.func12, Try.ntmps12
  go_wp2
  go_ret2
  exact ⟨rfl, rfl⟩

set_option maxHeartbeats 2000000 in
theorem take_any {H : Nat} (w : World) (B : Nat) (M : Sp) (h : SpAt B H w M) (hlow : ∀ x ∈ M.us, M.low ≤ x) (hen : M.en ≤ M.lim) (hlim : M.lim ≤ 65536) :
    Calls Try.prog 12 #[.pointer (some ⟨B + 4, 0, none⟩)] w fun r w' => OpR B H w (takeM M).1 (.tuple #[.int .u32 ((takeM M).2.1 : Int), .int .i64 (takeM M).2.2]) r w' := by
  have HA := Lib.hid h
  obtain ⟨wv, h1, h2⟩ := h
  obtain ⟨f0, f1, f2, f3, f4, f5, f6, f7⟩ := h1.cells
  have hown := h1.us.1
  have HF := Lib.hid h1
  have HR := Lib.hid h2
  clear h1 h2 f7
  cases hu : M.us with
  | cons p r =>
    have hp : p < 4294967296 := HF.out.us.2.2 p (by rw [hu]; simp)
    have hlp := hlow p (by rw [hu]; simp)
    have HM := Lib.hid (show takeM M = ({ M with low := p, us := r, fr := ins p M.fr }, p, 0) by unfold takeM; rw [hu])
    rw [HM.out]
    have HU := Lib.hid hu
    have HDL := Lib.hid (show del p M.us = r by rw [hu]; exact del_head (hu ▸ HF.out.us.2.1))
    have hsz : 0 < Maps.size (setD M.us) := by rw [size_setD, hu]; simp
    have hszi : (0 : Int) < (Maps.size (setD M.us) : Int) := by omega
    clear hlow hu f0 f1 f2 f4 f5 f6
    go_enter Try.func12, Try.ntmps12
    go_wp2_with (first
      | (at_len; refine wpList_len_own _ rfl _ 69 rfl 36 79 Try.underlying69 _ B _ _ rfl hown ?_)
      | (go_at_call 27; (with_reducible refine (lowest_any w B M HA.out p r HU.out hlp).mono ?_); rintro r1 w1 ⟨rfl, ha1, hs1⟩; obtain ⟨wv1, hf1, hr1⟩ := ha1; obtain ⟨-, -, -, g3, g4, -, -, -⟩ := hf1.cells; have hown1 := hf1.us.1; have HF1 := Lib.hid hf1; have HR1 := Lib.hid hr1; have HS1 := Lib.hid hs1; clear hf1 hr1 hs1)
      | (at_delete; refine wpList_delete_own _ rfl _ _ 69 36 rfl 79 lawP Try.underlying69 (unitElem (H := Unit)) B _ _ rfl hown1 _ _ rfl (keyP hp) ?_; intro w2 hown2 hturn2; rw [setD_del] at hown2; have hs2 : SetAt w2 B (del p M.us) := ⟨own_tight hown2, srt_del HF1.out.us.2.1, fun x hx => HF1.out.us.2.2 x (mem_del.1 hx).1⟩; have hf2 := HF1.out.us' hturn2 hs2; obtain ⟨-, -, -, -, k4, -, -, -⟩ := hf2.cells; have HF2 := Lib.hid hf2; have HT2 := Lib.hid hturn2; clear hown2 hturn2 hs2 hf2)
      | (go_at_call 22; (with_reducible refine (add_any (w2.alloc (.cells #[.int .u32 (p : Int)] 36)) (B + 1) M.fr [p] (fun _ => True) (some ⟨w2.heap.size, 0, none⟩) 1 1 (HF2.out.fr.grown (World.grownBy_alloc _ _ _)) (one_page w2 p hp)).mono ?_); rintro r3 w3 ⟨rfl, hs3, ht3⟩; have HS3 := Lib.hid hs3; have HT3 := Lib.hid ht3; clear hs3 ht3)
      | go_in)
    go_ret2
    have hsf := ((HS1.out.trans (Sfr.turn HT2.out (by omega) (by omega))).trans (Sfr.of (World.grownBy_alloc _ _ none))).trans (Sfr.turn HT3.out (by omega) (by omega))
    refine ⟨rfl, ⟨wv1, ?_, ?_⟩, hsf⟩
    · have := (HF2.out.grown (World.grownBy_alloc w2 (.cells #[.int .u32 (p : Int)] 36) none)).fr' HT3.out HS3.out
      rw [HDL.out] at this
      exact this
    · exact HR1.out.sfr (((Sfr.turn HT2.out (by omega) (by omega)).trans (Sfr.of (World.grownBy_alloc _ _ none))).trans (Sfr.turn HT3.out (by omega) (by omega)))
  | nil =>
    have HU := Lib.hid hu
    have hsz : Maps.size (setD M.us) = 0 := by rw [size_setD, hu]; rfl
    clear hlow f2 f5 f6 f3
    have f3 := HF.out.cells.2.2.2.1
    by_cases he : M.en = M.lim
    · have HM := Lib.hid (show takeM M = (M, 0, 21) by unfold takeM; rw [hu]; simp [he])
      rw [HM.out]
      have f0' := f0
      rw [he] at f0'
      clear hu f0
      go_enter Try.func12, Try.ntmps12
      go_wp2_with (first
        | (at_len; refine wpList_len_own _ rfl _ 69 rfl 36 79 Try.underlying69 _ B _ _ rfl hown ?_)
        | go_in)
      go_region
      go_wp2
      go_ret2
      exact ⟨rfl, HA.out.grown (gdrew _), Sfr.of (gdrew _)⟩
    · have HM := Lib.hid (show takeM M = ({ M with en := M.en + 1, fr := ins M.en M.fr }, M.en, 0) by unfold takeM; rw [hu]; simp [he])
      rw [HM.out]
      have hne : ¬ (M.en : Int) = (M.lim : Int) := by omega
      have hen32 : M.en < 4294967296 := by omega
      have hbq : ((M.en : Int) == (M.lim : Int)) = false := by simpa using hne
      have f9 := free_row HF.out.box 0
      clear hu
      go_enter Try.func12, Try.ntmps12
      go_wp2_with (first
        | (at_len; refine wpList_len_own _ rfl _ 69 rfl 36 79 Try.underlying69 _ B _ _ rfl hown ?_)
        | go_in)
      go_region
      have hz : (w.setCell ⟨B + 4, 0, none⟩ (.int .u32 ((M.en : Int) + 1))).heap.size = w.heap.size := by simp [World.setCell]
      have hP := (one_page (w.setCell ⟨B + 4, 0, none⟩ (.int .u32 ((M.en : Int) + 1))) M.en hen32).grown (gdrew _)
      rw [hz] at hP
      have hF := ((HF.out.set (en' := M.en + 1) 0 (.int .u32 ((M.en : Int) + 1)) rfl).grown (World.grownBy_alloc _ (.cells #[.int .u32 (M.en : Int)] 36) none)).grown (gdrew _)
      have hsf := ((Sfr.row (B := B) (gset w ⟨B + 4, 0, none⟩ (.int .u32 ((M.en : Int) + 1))) (by simp) (by simp)).trans (Sfr.of (World.grownBy_alloc _ (.cells #[.int .u32 (M.en : Int)] 36) none))).trans (Sfr.of (gdrew _))
      have HP := Lib.hid hP
      have HFq := Lib.hid hF
      have HSf := Lib.hid hsf
      clear hP hF hsf hz
      go_wp2_with (first
        | (go_at_call 22; (with_reducible refine (add_any _ (B + 1) M.fr [M.en] (fun _ => True) (some ⟨w.heap.size, 0, none⟩) 1 1 HFq.out.fr HP.out).mono ?_); rintro r3 w3 ⟨rfl, hs3, ht3⟩; have HS3 := Lib.hid hs3; have HT3 := Lib.hid ht3; clear hs3 ht3))
      go_ret2
      have hsf := HSf.out.trans (Sfr.turn HT3.out (by omega) (by omega))
      exact ⟨rfl, ⟨wv, HFq.out.fr' HT3.out HS3.out, HR.out.sfr hsf⟩, hsf⟩

end Go.Proofs.Ytoaglkbobndmeab
