/-
  Layer 4: the document's example is what it says. Own work.
-/
import Derived.Test.YtfencmidjolgfaaLefO
import Derived.Lib.SlBytesConst
namespace Go.Proofs.Ytfencmidjolgfaa
open Go.RowKit

def exL : List En := [⟨[97], [120, 121], 0, 0⟩, ⟨[98], [], 3, 9⟩]
theorem ex_ok : ∀ x ∈ exL, EnOk x := by
  intro x hx
  simp only [exL, List.mem_cons, List.not_mem_nil, or_false] at hx
  have b0 : Byt [] := fun y hy => by cases hy
  rcases hx with rfl | rfl
  · exact ⟨fun y hy => by simp at hy; omega, fun y hy => by simp at hy; omega, by decide, by decide, by decide, by decide, by decide, by decide⟩
  · exact ⟨fun y hy => by simp at hy; omega, b0, by decide, by decide, by decide, by decide, by decide, by decide⟩
theorem ex_right : RightP exL 512 := by
  refine ⟨by decide, by decide, fun j x hj hx => ?_⟩
  have hj2 : j < 2 := hj
  rcases (show j = 0 ∨ j = 1 by omega) with rfl | rfl
  · have : x = ⟨[97], [120, 121], 0, 0⟩ := by simpa [exL] using hx.symm
    subst this
    exact ⟨⟨by decide, by decide, by decide, by decide⟩, fun i y hi _ => by omega⟩
  · have : x = ⟨[98], [], 3, 9⟩ := by simpa [exL] using hx.symm
    subst this
    refine ⟨⟨by decide, by decide, by decide, by decide⟩, fun i y hi hy => ?_⟩
    obtain rfl : i = 0 := by omega
    have : y = ⟨[97], [120, 121], 0, 0⟩ := by simpa [exL] using hy.symm
    subst this
    decide
theorem ex_fill : fillL leafY exL = 26 := by decide
theorem ex_rise : Rise exL := by
  intro i j x y hij hx hy
  have hj : j < 2 := (List.getElem?_eq_some_iff.1 hy).1
  obtain rfl : i = 0 := by omega
  obtain rfl : j = 1 := by omega
  have : x = ⟨[97], [120, 121], 0, 0⟩ := by simpa [exL] using hx.symm
  subst this
  have : y = ⟨[98], [], 3, 9⟩ := by simpa [exL] using hy.symm
  subst this
  decide
theorem ex_pos {p : Nat} (h : PosOf exL [98] p) : p = 1 := by
  refine h.uniq ⟨by decide, fun j x hj hx => ?_, fun j x hj hx => ?_⟩
  · obtain rfl : j = 0 := by omega
    have : x = ⟨[97], [120, 121], 0, 0⟩ := by simpa [exL] using hx.symm
    subst this; decide
  · have hj2 : j < 2 := (List.getElem?_eq_some_iff.1 hx).1
    obtain rfl : j = 1 := by omega
    have : x = ⟨[98], [], 3, 9⟩ := by simpa [exL] using hx.symm
    subst this; decide
theorem ex_found : FoundAt exL [98] 1 := ⟨⟨[98], [], 3, 9⟩, rfl, by decide⟩
theorem ex_page : (pageB leafY exL 512).getD 0 0 = 1 ∧ (pageB leafY exL 512).getD 3 0 = 2 ∧ (pageB leafY exL 512).getD 511 0 = 121 := by decide +kernel

theorem later {W : World} {q : Nat} {x : Obj} (o : Obj) (h : W.heap[q]? = some x) : (W.alloc o).heap[q]? = some x := (Below.heap_alloc W o q (lt_of_block h)).trans h
theorem heap_next (W : World) (o : Obj) {q : Nat} (h : q = W.heap.size) : (W.alloc o).heap[q]? = some o := by subst h; exact heap_alloc_new W o
theorem seq_lit {W : World} {q n : Nat} {xs : List Int} {cs : Array Value} {f : Nat × Nat} (h : W.heap[q]? = some (.cells cs 5 f)) (hc : cs = (xs.map (Value.int .u8)).toArray) (hn : n = xs.length) (hm : n ≤ maxLen) : Seq W.heap.size W (.slice (some ⟨q, 0, none⟩) n n) xs := by
  subst hc; subst hn
  refine ⟨_, xs.length, rfl, Nat.le_refl _, hm, by simp, fun _ => ⟨q, 0, rfl, lt_of_block h, fun j hj => ?_⟩⟩
  simp [World.cell?, h, hj, List.getD_eq_getElem?_getD]
theorem ex_ents (w : World) : Ents (((((w.alloc (.cells #[.int .u8 97] 5 (1, 2))).alloc (.cells #[.int .u8 120, .int .u8 121] 5 (2, 3))).alloc (.cells #[.int .u8 98] 5 (1, 2))).alloc (.cells #[.slice (some ⟨w.heap.size, 0, none⟩) 1 1, .slice (some ⟨w.heap.size + 1, 0, none⟩) 2 2, .int .i64 0, .int .u32 0, .slice (some ⟨w.heap.size + 1 + 1, 0, none⟩) 1 1, .slice none 0 0, .int .i64 3, .int .u32 9] 43))).heap.size ((((w.alloc (.cells #[.int .u8 97] 5 (1, 2))).alloc (.cells #[.int .u8 120, .int .u8 121] 5 (2, 3))).alloc (.cells #[.int .u8 98] 5 (1, 2))).alloc (.cells #[.slice (some ⟨w.heap.size, 0, none⟩) 1 1, .slice (some ⟨w.heap.size + 1, 0, none⟩) 2 2, .int .i64 0, .int .u32 0, .slice (some ⟨w.heap.size + 1 + 1, 0, none⟩) 1 1, .slice none 0 0, .int .i64 3, .int .u32 9] 43)) (.slice (some ⟨w.heap.size + 1 + 1 + 1, 0, none⟩) 2 2) exL := by
  have h0 := heap_alloc_new w (.cells #[.int .u8 97] 5 (1, 2))
  have h1 := heap_next (w.alloc (.cells #[.int .u8 97] 5 (1, 2))) (.cells #[.int .u8 120, .int .u8 121] 5 (2, 3)) (q := w.heap.size + 1) (by simp)
  have h2 := heap_next ((w.alloc (.cells #[.int .u8 97] 5 (1, 2))).alloc (.cells #[.int .u8 120, .int .u8 121] 5 (2, 3))) (.cells #[.int .u8 98] 5 (1, 2)) (q := w.heap.size + 1 + 1) (by simp)
  have h3 := heap_next (((w.alloc (.cells #[.int .u8 97] 5 (1, 2))).alloc (.cells #[.int .u8 120, .int .u8 121] 5 (2, 3))).alloc (.cells #[.int .u8 98] 5 (1, 2))) (.cells #[.slice (some ⟨w.heap.size, 0, none⟩) 1 1, .slice (some ⟨w.heap.size + 1, 0, none⟩) 2 2, .int .i64 0, .int .u32 0, .slice (some ⟨w.heap.size + 1 + 1, 0, none⟩) 1 1, .slice none 0 0, .int .i64 3, .int .u32 9] 43) (q := w.heap.size + 1 + 1 + 1) (by simp)
  have k0 := later (.cells #[.slice (some ⟨w.heap.size, 0, none⟩) 1 1, .slice (some ⟨w.heap.size + 1, 0, none⟩) 2 2, .int .i64 0, .int .u32 0, .slice (some ⟨w.heap.size + 1 + 1, 0, none⟩) 1 1, .slice none 0 0, .int .i64 3, .int .u32 9] 43) (later (.cells #[.int .u8 98] 5 (1, 2)) (later (.cells #[.int .u8 120, .int .u8 121] 5 (2, 3)) h0))
  have k1 := later (.cells #[.slice (some ⟨w.heap.size, 0, none⟩) 1 1, .slice (some ⟨w.heap.size + 1, 0, none⟩) 2 2, .int .i64 0, .int .u32 0, .slice (some ⟨w.heap.size + 1 + 1, 0, none⟩) 1 1, .slice none 0 0, .int .i64 3, .int .u32 9] 43) (later (.cells #[.int .u8 98] 5 (1, 2)) h1)
  have k2 := later (.cells #[.slice (some ⟨w.heap.size, 0, none⟩) 1 1, .slice (some ⟨w.heap.size + 1, 0, none⟩) 2 2, .int .i64 0, .int .u32 0, .slice (some ⟨w.heap.size + 1 + 1, 0, none⟩) 1 1, .slice none 0 0, .int .i64 3, .int .u32 9] 43) h2
  generalize ((((w.alloc (.cells #[.int .u8 97] 5 (1, 2))).alloc (.cells #[.int .u8 120, .int .u8 121] 5 (2, 3))).alloc (.cells #[.int .u8 98] 5 (1, 2))).alloc (.cells #[.slice (some ⟨w.heap.size, 0, none⟩) 1 1, .slice (some ⟨w.heap.size + 1, 0, none⟩) 2 2, .int .i64 0, .int .u32 0, .slice (some ⟨w.heap.size + 1 + 1, 0, none⟩) 1 1, .slice none 0 0, .int .i64 3, .int .u32 9] 43)) = W at *
  refine ⟨_, 2, rfl, by decide, by decide, by decide, fun _ => ⟨_, 0, rfl, lt_of_block h3, fun i x hx => ?_⟩⟩
  have hi : i < 2 := (List.getElem?_eq_some_iff.1 hx).1
  rcases (show i = 0 ∨ i = 1 by omega) with rfl | rfl
  · have : x = ⟨[97], [120, 121], 0, 0⟩ := by simpa [exL] using hx.symm
    subst this
    exact ⟨_, 1, _, 2, seq_lit k0 rfl rfl (by decide), seq_lit k1 rfl rfl (by decide), ex_ok _ (by simp [exL]), by simp [World.cell?, h3], by simp [World.cell?, h3], by simp [World.cell?, h3], by simp [World.cell?, h3]⟩
  · have : x = ⟨[98], [], 3, 9⟩ := by simpa [exL] using hx.symm
    subst this
    exact ⟨_, 1, _, 0, seq_lit k2 rfl rfl (by decide), seq_nil _ _, ex_ok _ (by simp [exL]), by simp [World.cell?, h3], by simp [World.cell?, h3], by simp [World.cell?, h3], by simp [World.cell?, h3]⟩
theorem page_cell_at {w : World} {b : Nat} {l : List Int} (h : w.heap[b]? = some (.cells (l.map (Value.int .u8)).toArray 5 (0, 0))) (j : Nat) (hj : j < l.length) : w.cell? ⟨b, j, none⟩ = some (.int .u8 (l.getD j 0)) := by
  simp [World.cell?, h, hj, List.getD_eq_getElem?_getD]

set_option maxRecDepth 100000 in
set_option maxHeartbeats 4000000 in
theorem awake4_any (w : World) : Calls Try.prog 14 #[] w fun r w' => r = .returned (.bool true) ∧ w.grownBy w' none := by
  have kc := fun (w : World) (C : Array Value) (n c : Nat) => Lib.run_convert_bytes_const (P := Try.prog) w 29 5 C n c Try.underlying29 Try.underlying5
  have kc1 : ∀ (w : World) (o : Obj) (C : Array Value) (n c : Nat), (convert 29 29 (.slice (some ⟨w.heap.size + 1, 0, none⟩) n c)).run Try.prog ((w.alloc o).alloc (.cells C 5)) = .ok (.slice (some ⟨w.heap.size + 1, 0, none⟩) n c) ((w.alloc o).alloc (.cells C 5 (C.size, C.size + 1))) := fun w o C n c => by
    have h := kc (w.alloc o) C n c
    simpa using h
  have kc2 : ∀ (w : World) (o o2 : Obj) (C : Array Value) (n c : Nat), (convert 29 29 (.slice (some ⟨w.heap.size + 1 + 1, 0, none⟩) n c)).run Try.prog (((w.alloc o).alloc o2).alloc (.cells C 5)) = .ok (.slice (some ⟨w.heap.size + 1 + 1, 0, none⟩) n c) (((w.alloc o).alloc o2).alloc (.cells C 5 (C.size, C.size + 1))) := fun w o o2 C n c => by
    have h := kc ((w.alloc o).alloc o2) C n c
    simpa using h
  go_enter Try.func14, Try.ntmps14
  go_wp2_with fail
  have HEn := Lib.hid (ex_ents w)
  have HGA := Lib.hid (show w.grownBy ((((w.alloc (.cells #[.int .u8 97] 5 (1, 2))).alloc (.cells #[.int .u8 120, .int .u8 121] 5 (2, 3))).alloc (.cells #[.int .u8 98] 5 (1, 2))).alloc (.cells #[.slice (some ⟨w.heap.size, 0, none⟩) 1 1, .slice (some ⟨w.heap.size + 1, 0, none⟩) 2 2, .int .i64 0, .int .u32 0, .slice (some ⟨w.heap.size + 1 + 1, 0, none⟩) 1 1, .slice none 0 0, .int .i64 3, .int .u32 9] 43)) none from gtrans (two_grown _ _ _) (two_grown _ _ _))
  generalize ((((w.alloc (.cells #[.int .u8 97] 5 (1, 2))).alloc (.cells #[.int .u8 120, .int .u8 121] 5 (2, 3))).alloc (.cells #[.int .u8 98] 5 (1, 2))).alloc (.cells #[.slice (some ⟨w.heap.size, 0, none⟩) 1 1, .slice (some ⟨w.heap.size + 1, 0, none⟩) 2 2, .int .i64 0, .int .u32 0, .slice (some ⟨w.heap.size + 1 + 1, 0, none⟩) 1 1, .slice none 0 0, .int .i64 3, .int .u32 9] 43)) = WA at *
  generalize w.heap.size + 1 + 1 + 1 = q3 at *
  go_wp2_with (first
    | (go_at_call 17; refine (put_ok WA WA.heap.size _ 2 2 exL 512 HEn.out (Nat.le_refl _) ex_right (by decide)).mono ?_; rintro r w2 ⟨gb, rfl, hgb, hp, hg⟩; have HP := Lib.hid hp; have HG2 := Lib.hid hg; clear hgb hp hg)
    | (go_at_call 25; refine (get_back (w := w2) (B := w2.heap.size) (l := exL) (S := 512) (seq_page HP.out (pageB_len (Y := leafY) (by decide)) (by decide)) (Nat.le_refl _) ex_ok ex_right (by decide)).mono ?_; rintro r w3 ⟨lv, es, rfl, hes, heo, hl, hg⟩; have e2 : es.length = 2 := (by have := congrArg List.length hes; rw [List.length_map] at this; exact this); obtain ⟨la, lc, hv⟩ := own_shape heo.row; rw [e2] at hv; have hE3 := heo.ents (by omega); rw [hes] at hE3; subst hv; have HE3 := Lib.hid hE3; have HG3 := Lib.hid hg; clear hl hg hE3 heo hes e2)
    | (go_at_call 27; have hga := World.grownBy_alloc w3 (.cells #[.int .u8 98] 5 (1, 2)) none; have hnew := heap_alloc_new w3 (.cells #[.int .u8 98] 5 (1, 2)); have hgo := gtrans (gtrans HG2.out HG3.out) hga; have Kc := find_any _ WA.heap.size _ _ _ 2 2 1 1 exL [98] (HEn.out.grown hgo (Nat.le_refl _)) (seq_lit hnew rfl rfl (by decide)) hgo.size (Nat.le_refl _) ex_rise; ((with_reducible refine Kc.mono ?_); clear Kc; rintro r w4 ⟨p, f, rfl, hp, hf, hg⟩); have hp1 := ex_pos hp; subst hp1; have hf1 : f = true := hf.2 ex_found; subst hf1; have hg4 := gtrans hgo hg; have hgp := gtrans HG3.out (gtrans hga hg); have hp4 := (hgp.block _ (lt_of_block HP.out) (by simp)).trans HP.out; have z0 := page_cell_at hp4 0 (by rw [pageB_len (Y := leafY) (by decide)]; decide); have z3 := page_cell_at hp4 3 (by rw [pageB_len (Y := leafY) (by decide)]; decide); have z5 := page_cell_at hp4 511 (by rw [pageB_len (Y := leafY) (by decide)]; decide); rw [ex_page.1] at z0; rw [ex_page.2.1] at z3; rw [ex_page.2.2] at z5; obtain ⟨bx, ox, hla, hbx, a1, c1, a2, c2, _, _, _, _, _, x2, x3⟩ := (HE3.out.grown (gtrans hga hg) (Nat.le_refl _)).at 1 ⟨[98], [], 3, 9⟩ rfl; subst hla; have HG4 := Lib.hid hg4; clear hp hf hg hga hnew hgo hg4 hgp hp4)
    | (go_at_call 29; have Kc := most_any 512 w4 (by decide) (by decide); rw [show mostI 512 = 125 by decide] at Kc; refine Kc.mono ?_; clear Kc; rintro r w5 ⟨rfl, rfl⟩)
    | (go_at_call 21; have Kc := fill_any w4 WA.heap.size _ 2 2 exL (HEn.out.grown HG4.out (Nat.le_refl _)) HG4.out.size; rw [ex_fill] at Kc; refine Kc.mono ?_; clear Kc; rintro r w5 ⟨rfl, hg5⟩))
  go_ret
  exact ⟨rfl, gtrans HGA.out (gtrans HG4.out hg5)⟩

end Go.Proofs.Ytfencmidjolgfaa
