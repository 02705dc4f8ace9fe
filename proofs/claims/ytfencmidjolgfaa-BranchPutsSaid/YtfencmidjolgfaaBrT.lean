/-
  Layer 5: the document's example is what it says. Own work.
-/
import Derived.Test.YtfencmidjolgfaaBrG
import Derived.Test.YtfencmidjolgfaaLefT
namespace Go.Proofs.Ytfencmidjolgfaa
open Go.RowKit

def bexL : List En := [⟨[], [], 0, 5⟩, ⟨[98], [], 0, 6⟩, ⟨[99], [], 0, 7⟩]
theorem bex_ok : ∀ x ∈ bexL, BOk x := by
  intro x hx
  simp only [bexL, List.mem_cons, List.not_mem_nil, or_false] at hx
  have b0 : Byt [] := fun y hy => by cases hy
  rcases hx with rfl | rfl | rfl
  · exact ⟨⟨b0, b0, by decide, by decide, by decide, by decide, by decide, by decide⟩, rfl, rfl⟩
  · exact ⟨⟨fun y hy => by simp at hy; omega, b0, by decide, by decide, by decide, by decide, by decide, by decide⟩, rfl, rfl⟩
  · exact ⟨⟨fun y hy => by simp at hy; omega, b0, by decide, by decide, by decide, by decide, by decide, by decide⟩, rfl, rfl⟩
theorem bex_at {j : Nat} {x : En} (h : bexL[j]? = some x) : (j = 0 ∧ x = ⟨[], [], 0, 5⟩) ∨ (j = 1 ∧ x = ⟨[98], [], 0, 6⟩) ∨ (j = 2 ∧ x = ⟨[99], [], 0, 7⟩) := by
  have hj : j < 3 := (List.getElem?_eq_some_iff.1 h).1
  rcases (show j = 0 ∨ j = 1 ∨ j = 2 by omega) with rfl | rfl | rfl
  · exact .inl ⟨rfl, by simpa [bexL] using h.symm⟩
  · exact .inr (.inl ⟨rfl, by simpa [bexL] using h.symm⟩)
  · exact .inr (.inr ⟨rfl, by simpa [bexL] using h.symm⟩)
theorem bex_right : BRightP bexL 512 := by
  refine ⟨by decide, by decide, by decide, fun x hx => ?_, fun j x hj hx => ?_⟩
  · have : x = ⟨[], [], 0, 5⟩ := by simpa [bexL] using hx.symm
    subst this; rfl
  · rcases bex_at hx with ⟨rfl, rfl⟩ | ⟨rfl, rfl⟩ | ⟨rfl, rfl⟩
    · exact ⟨by decide, fun i y hi _ => by omega⟩
    · refine ⟨by decide, fun i y hi hy => ?_⟩
      rcases bex_at hy with ⟨rfl, rfl⟩ | ⟨rfl, rfl⟩ | ⟨rfl, rfl⟩
      · decide
      · omega
      · omega
    · refine ⟨by decide, fun i y hi hy => ?_⟩
      rcases bex_at hy with ⟨rfl, rfl⟩ | ⟨rfl, rfl⟩ | ⟨rfl, rfl⟩
      · omega
      · decide
      · omega
theorem bex_fill : fillL brY bexL = 27 := by decide
theorem bex_rise : Rise (bexL.drop 1) := by
  intro i j x y hij hx hy
  rw [List.getElem?_drop] at hx hy
  rcases bex_at hx with ⟨hi, rfl⟩ | ⟨hi, rfl⟩ | ⟨hi, rfl⟩ <;> rcases bex_at hy with ⟨hj, rfl⟩ | ⟨hj, rfl⟩ | ⟨hj, rfl⟩ <;> first | omega | decide
theorem bex_p1 {p : Nat} (h : LeadsTo bexL [98] p) : p = 1 := by
  obtain ⟨h1, h2, h3⟩ := h
  have h1 : p < 3 := h1
  rcases (show p = 0 ∨ p = 1 ∨ p = 2 by omega) with rfl | rfl | rfl
  · have := h3 1 _ (by decide) rfl; exact absurd this (by decide)
  · rfl
  · have := h2 2 _ (by decide) (by decide) rfl; exact absurd this (by decide)
theorem bex_p2 {p : Nat} (h : LeadsTo bexL [] p) : p = 0 := by
  obtain ⟨h1, h2, h3⟩ := h
  have h1 : p < 3 := h1
  rcases (show p = 0 ∨ p = 1 ∨ p = 2 by omega) with rfl | rfl | rfl
  · rfl
  · have := h2 1 _ (by decide) (by decide) rfl; exact absurd this (by decide)
  · have := h2 2 _ (by decide) (by decide) rfl; exact absurd this (by decide)
theorem bex_p3 {p : Nat} (h : LeadsTo bexL [98, 122] p) : p = 1 := by
  obtain ⟨h1, h2, h3⟩ := h
  have h1 : p < 3 := h1
  rcases (show p = 0 ∨ p = 1 ∨ p = 2 by omega) with rfl | rfl | rfl
  · have := h3 1 _ (by decide) rfl; exact absurd this (by decide)
  · rfl
  · have := h2 2 _ (by decide) (by decide) rfl; exact absurd this (by decide)
theorem bex_page : (pageB brY bexL 512).getD 0 0 = 2 ∧ (pageB brY bexL 512).getD 511 0 = 5 := by decide +kernel

def bO1 : Obj := .cells #[.int .u8 98] 5 (1, 2)
def bO2 : Obj := .cells #[.int .u8 99] 5 (1, 2)
theorem bex_ents (w : World) : BEnts (((w.alloc (.cells #[.int .u8 98] 5 (1, 2))).alloc (.cells #[.int .u8 99] 5 (1, 2))).alloc (.cells #[.slice none 0 0, .int .u32 5, .slice (some ⟨w.heap.size, 0, none⟩) 1 1, .int .u32 6, .slice (some ⟨w.heap.size + 1, 0, none⟩) 1 1, .int .u32 7] 79)).heap.size (((w.alloc (.cells #[.int .u8 98] 5 (1, 2))).alloc (.cells #[.int .u8 99] 5 (1, 2))).alloc (.cells #[.slice none 0 0, .int .u32 5, .slice (some ⟨w.heap.size, 0, none⟩) 1 1, .int .u32 6, .slice (some ⟨w.heap.size + 1, 0, none⟩) 1 1, .int .u32 7] 79)) (.slice (some ⟨w.heap.size + 1 + 1, 0, none⟩) 3 3) bexL := by
  have h0 := heap_alloc_new w (.cells #[.int .u8 98] 5 (1, 2))
  have h1 := heap_next (w.alloc (.cells #[.int .u8 98] 5 (1, 2))) (.cells #[.int .u8 99] 5 (1, 2)) (q := w.heap.size + 1) (by simp)
  have h2 := heap_next ((w.alloc (.cells #[.int .u8 98] 5 (1, 2))).alloc (.cells #[.int .u8 99] 5 (1, 2))) (.cells #[.slice none 0 0, .int .u32 5, .slice (some ⟨w.heap.size, 0, none⟩) 1 1, .int .u32 6, .slice (some ⟨w.heap.size + 1, 0, none⟩) 1 1, .int .u32 7] 79) (q := w.heap.size + 1 + 1) (by simp)
  have k0 := later (.cells #[.slice none 0 0, .int .u32 5, .slice (some ⟨w.heap.size, 0, none⟩) 1 1, .int .u32 6, .slice (some ⟨w.heap.size + 1, 0, none⟩) 1 1, .int .u32 7] 79) (later (.cells #[.int .u8 99] 5 (1, 2)) h0)
  have k1 := later (.cells #[.slice none 0 0, .int .u32 5, .slice (some ⟨w.heap.size, 0, none⟩) 1 1, .int .u32 6, .slice (some ⟨w.heap.size + 1, 0, none⟩) 1 1, .int .u32 7] 79) h1
  generalize ((w.alloc (.cells #[.int .u8 98] 5 (1, 2))).alloc (.cells #[.int .u8 99] 5 (1, 2))).alloc (.cells #[.slice none 0 0, .int .u32 5, .slice (some ⟨w.heap.size, 0, none⟩) 1 1, .int .u32 6, .slice (some ⟨w.heap.size + 1, 0, none⟩) 1 1, .int .u32 7] 79) = W at *
  refine ⟨_, 3, rfl, by decide, by decide, by decide, fun _ => ⟨_, 0, rfl, lt_of_block h2, fun i x hx => ?_⟩⟩
  rcases bex_at hx with ⟨rfl, rfl⟩ | ⟨rfl, rfl⟩ | ⟨rfl, rfl⟩
  · exact ⟨none, 0, seq_nil _ _, bex_ok _ (by simp [bexL]), by simp [World.cell?, h2], by simp [World.cell?, h2]⟩
  · exact ⟨_, 1, seq_lit k0 rfl rfl (by decide), bex_ok _ (by simp [bexL]), by simp [World.cell?, h2], by simp [World.cell?, h2]⟩
  · exact ⟨_, 1, seq_lit k1 rfl rfl (by decide), bex_ok _ (by simp [bexL]), by simp [World.cell?, h2], by simp [World.cell?, h2]⟩

set_option maxRecDepth 100000 in
set_option maxHeartbeats 4000000 in
theorem awake5_any (w : World) : Calls Try.prog 30 #[] w fun r w' => r = .returned (.bool true) ∧ w.grownBy w' none := by
  have kc := fun (w : World) (C : Array Value) (n c : Nat) => Lib.run_convert_bytes_const (P := Try.prog) w 29 5 C n c Try.underlying29 Try.underlying5
  have kc1 : ∀ (w : World) (o : Obj) (C : Array Value) (n c : Nat), (convert 29 29 (.slice (some ⟨w.heap.size + 1, 0, none⟩) n c)).run Try.prog ((w.alloc o).alloc (.cells C 5)) = .ok (.slice (some ⟨w.heap.size + 1, 0, none⟩) n c) ((w.alloc o).alloc (.cells C 5 (C.size, C.size + 1))) := fun w o C n c => by
    have h := kc (w.alloc o) C n c
    simpa using h
  go_enter Try.func30, Try.ntmps30
  go_wp2_with fail
  have HEn := Lib.hid (bex_ents w)
  have HGA := Lib.hid (show w.grownBy (((w.alloc (.cells #[.int .u8 98] 5 (1, 2))).alloc (.cells #[.int .u8 99] 5 (1, 2))).alloc (.cells #[.slice none 0 0, .int .u32 5, .slice (some ⟨w.heap.size, 0, none⟩) 1 1, .int .u32 6, .slice (some ⟨w.heap.size + 1, 0, none⟩) 1 1, .int .u32 7] 79)) none from gtrans (two_grown _ _ _) (World.grownBy_alloc _ _ _))
  generalize ((w.alloc (.cells #[.int .u8 98] 5 (1, 2))).alloc (.cells #[.int .u8 99] 5 (1, 2))).alloc (.cells #[.slice none 0 0, .int .u32 5, .slice (some ⟨w.heap.size, 0, none⟩) 1 1, .int .u32 6, .slice (some ⟨w.heap.size + 1, 0, none⟩) 1 1, .int .u32 7] 79) = WA at *
  generalize w.heap.size + 1 + 1 = q3 at *
  go_wp2_with (first
    | (go_at_call 33; refine (bput_ok WA WA.heap.size _ 3 3 bexL 512 HEn.out (Nat.le_refl _) bex_right (by decide)).mono ?_; rintro r w2 ⟨gb, rfl, hgb, hp, hg⟩; have HP := Lib.hid hp; have HG2 := Lib.hid hg; clear hgb hp hg)
    | (go_at_call 41; refine (bget_back (w := w2) (B := w2.heap.size) (l := bexL) (S := 512) (seq_page HP.out (pageB_len (Y := brY) (by decide)) (by decide)) (Nat.le_refl _) bex_ok bex_right (by decide)).mono ?_; rintro r w3 ⟨lv, es, rfl, hes, heo, hl, hg⟩; have e2 : es.length = 3 := (by have := congrArg List.length hes; rw [List.length_map] at this; exact this); obtain ⟨la, lc, hv⟩ := own_shape heo.row; rw [e2] at hv; have hE3 := heo.ents (by omega); rw [hes] at hE3; subst hv; have hp3 := (hg.block _ (lt_of_block HP.out) (by simp)).trans HP.out; have z0 := page_cell_at hp3 0 (by rw [pageB_len (Y := brY) (by decide)]; decide); have z5 := page_cell_at hp3 511 (by rw [pageB_len (Y := brY) (by decide)]; decide); rw [bex_page.1] at z0; rw [bex_page.2] at z5; obtain ⟨bx, ox, hla, hbx, a1, c1, _, _, _, x3⟩ := hE3.at 2 ⟨[99], [], 0, 7⟩ rfl; subst hla; have HG3 := Lib.hid (gtrans HG2.out hg); clear hl hg hE3 heo hes e2 hp3)
    | (go_at_call 39; have hga := World.grownBy_alloc w3 (.cells #[.int .u8 98] 5 (1, 2)) none; have hnew := heap_alloc_new w3 (.cells #[.int .u8 98] 5 (1, 2)); have hgo := gtrans HG3.out hga; have Kc := bfind_any _ WA.heap.size _ _ _ 3 3 1 1 bexL [98] (HEn.out.grown hgo (Nat.le_refl _)) (seq_lit hnew rfl rfl (by decide)) hgo.size (Nat.le_refl _) (by decide) bex_rise; ((with_reducible refine Kc.mono ?_); clear Kc; rintro r w4 ⟨p, rfl, hp, hg⟩); have hp1 := bex_p1 hp; subst hp1; have HG4 := Lib.hid (gtrans hgo hg); clear hp hg hga hnew hgo)
    | (go_at_call 39; have Kc := bfind_any w4 WA.heap.size w4.heap.size _ none 3 3 0 0 bexL [] (HEn.out.grown HG4.out (Nat.le_refl _)) (seq_nil _ _) HG4.out.size (Nat.le_refl _) (by decide) bex_rise; ((with_reducible refine Kc.mono ?_); clear Kc; rintro r w5 ⟨p, rfl, hp, hg⟩); have hp1 := bex_p2 hp; subst hp1; have HG5 := Lib.hid (gtrans HG4.out hg); clear hp hg)
    | (go_at_call 39; have hga := World.grownBy_alloc w5 (.cells #[.int .u8 98, .int .u8 122] 5 (2, 3)) none; have hnew := heap_alloc_new w5 (.cells #[.int .u8 98, .int .u8 122] 5 (2, 3)); have hgo := gtrans HG5.out hga; have Kc := bfind_any _ WA.heap.size _ _ _ 3 3 2 2 bexL [98, 122] (HEn.out.grown hgo (Nat.le_refl _)) (seq_lit hnew rfl rfl (by decide)) hgo.size (Nat.le_refl _) (by decide) bex_rise; ((with_reducible refine Kc.mono ?_); clear Kc; rintro r w6 ⟨p, rfl, hp, hg⟩); have hp1 := bex_p3 hp; subst hp1; have HG6 := Lib.hid (gtrans hgo hg); clear hp hg hga hnew hgo)
    | (go_at_call 37; have Kc := bfill_any w6 WA.heap.size _ 3 3 bexL (HEn.out.grown HG6.out (Nat.le_refl _)) HG6.out.size; rw [bex_fill] at Kc; refine Kc.mono ?_; clear Kc; rintro r w7 ⟨rfl, hg7⟩))
  go_ret
  exact ⟨rfl, gtrans HGA.out (gtrans HG6.out hg7)⟩

end Go.Proofs.Ytfencmidjolgfaa
