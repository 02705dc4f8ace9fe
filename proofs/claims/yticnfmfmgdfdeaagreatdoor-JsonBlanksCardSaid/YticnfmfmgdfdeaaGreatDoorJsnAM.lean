/-
  A reader of a JSON text, as it lies; blanks, words and signs cut off. Own work.
-/
import Derived.Test.YticnfmfmgdfdeaaGreatDoorJsnAJ
import Derived.Test.YticnfmfmgdfdeaaGreatDoorJsnAL

set_option linter.unusedVariables false
set_option linter.unusedSimpArgs false
namespace Go.Proofs.YticnfmfmgdfdeaaGreatDoor
open Go.RowKit

/-- A reader stands in block R: what is not read yet, how many brackets are open, the map. -/
def RC (R M : Nat) (s : Bs) (d : Int) (w : World) : Prop := w.heap[R]? = some (.cells #[.string (Sx s), .int .i64 d, .map (some M)] 66 (0, 0))
abbrev pR (R : Nat) : Value := .pointer (some ⟨R, 0, none⟩)
/-- One block may have changed, and new ones are there. -/
abbrev G1 (R : Nat) (w w' : World) : Prop := w.grownBy w' (some R)
theorem RC.gr {R M : Nat} {s : Bs} {d : Int} {w w' : World} (h : RC R M s d w) (g : Gr w w') : RC R M s d w' := (g.block R (lt_of_block h) (by simp)).trans h
theorem RC.cells {R M : Nat} {s : Bs} {d : Int} {w : World} (h : RC R M s d w) :
    w.cell? ⟨R, 0, none⟩ = some (.string (Sx s)) ∧ w.cell? ⟨R, 1, none⟩ = some (.int .i64 d) ∧ w.cell? ⟨R, 2, none⟩ = some (.map (some M)) ∧ w.frozen? ⟨R, 0, none⟩ = false ∧ w.frozen? ⟨R, 1, none⟩ = false ∧ w.frozen? ⟨R, 2, none⟩ = false := cells3 h
theorem RC.set0 {R M : Nat} {s : Bs} {d : Int} {w : World} (h : RC R M s d w) (t : Bs) : RC R M t d (w.setCell ⟨R, 0, none⟩ (.string (Sx t))) := by
  have := set_cell h 0 (.string (Sx t))
  simpa [RC] using this
theorem RC.set1 {R M : Nat} {s : Bs} {d : Int} {w : World} (h : RC R M s d w) (e : Int) : RC R M s e (w.setCell ⟨R, 1, none⟩ (.int .i64 e)) := by
  have := set_cell h 1 (.int .i64 e)
  simpa [RC] using this
theorem RC.lt {R M : Nat} {s : Bs} {d : Int} {w : World} (h : RC R M s d w) : R < w.heap.size := lt_of_block h
theorem RC.other {R M q : Nat} {s : Bs} {d : Int} {w w' : World} (h : RC R M s d w) (g : w.grownBy w' (some q)) (hne : R ≠ q) : RC R M s d w' := (g.block R (lt_of_block h) (by intro e; injection e with e; exact hne e)).trans h
theorem g1_set (R o : Nat) (v : Value) (w : World) : G1 R w (w.setCell ⟨R, o, none⟩ v) := gset w ⟨R, o, none⟩ v

theorem trimB_any (l : Bs) (w : World) :
    Calls Tryz.prog 69 #[.string (Sx l), .string ⟨#[32, 9, 10, 13]⟩] w fun r w' => r = .returned (.string (Sx (blk l))) ∧ w.grownBy w' none := by
  refine (Tryz.trimLeft (Sx l) ⟨#[32, 9, 10, 13]⟩ w (by decide) (by decide)).mono ?_
  rintro r w' ⟨rfl, h⟩
  refine ⟨?_, gof h none⟩
  have e : (fun b => ([32, 9, 10, 13] : Bs).contains b) = blankB := by
    funext b
    simp [blankB, List.contains_cons, Bool.or_assoc, Bool.beq_eq_decide_eq]
  show Ending.returned (.string (Sx (Lib.trimLeftS l [32, 9, 10, 13]))) = _
  rw [Lib.trimLeftS, e]; rfl
theorem trimN_any (l : Bs) (w : World) :
    Calls Tryz.prog 69 #[.string (Sx l), .string ⟨#[48, 49, 50, 51, 52, 53, 54, 55, 56, 57, 43, 45, 46, 101, 69]⟩] w fun r w' => r = .returned (.string (Sx (l.dropWhile numB))) ∧ w.grownBy w' none := by
  refine (Tryz.trimLeft (Sx l) ⟨#[48, 49, 50, 51, 52, 53, 54, 55, 56, 57, 43, 45, 46, 101, 69]⟩ w (by decide) (by decide)).mono ?_
  rintro r w' ⟨rfl, h⟩
  refine ⟨?_, gof h none⟩
  have e : (fun b => ([48, 49, 50, 51, 52, 53, 54, 55, 56, 57, 43, 45, 46, 101, 69] : Bs).contains b) = numB := by
    funext b
    rw [show ([48, 49, 50, 51, 52, 53, 54, 55, 56, 57, 43, 45, 46, 101, 69] : Bs) = digs10 ++ [43, 45, 46, 101, 69] from rfl]
    have := digs10_dig b
    rw [List.contains_eq_any_beq, List.any_append, ← List.contains_eq_any_beq, this]
    simp [numB, Bool.or_assoc, Bool.beq_comm (a := b)]
  show Ending.returned (.string (Sx (Lib.trimLeftS l [48, 49, 50, 51, 52, 53, 54, 55, 56, 57, 43, 45, 46, 101, 69]))) = _
  rw [Lib.trimLeftS, e]

/-- A word cut off. -/
theorem lcutP_any (p l : Bs) (w : World) (hl : l.length ≤ 140737488355328) :
    Calls Tryz.prog 172 #[.string (Sx l), .string (Sx p)] w fun r w' => r = .returned (.tuple #[.string (Sx (if Lib.hasPrefix l p then l.drop p.length else l)), .bool (Lib.hasPrefix l p)]) ∧ w' = w := by
  have K := Tryz.lHasPrefix (Sx l) (Sx p) w
  rw [show (Sx l).data.toList = l from rfl, show (Sx p).data.toList = p from rfl] at K
  have hsz := Sx_size l
  have hsp := Sx_size p
  have hd := ext_drop l p.length
  have h1 : Lib.hasPrefix l p = true → p.length ≤ l.length := by
    intro h
    exact (List.isPrefixOf_iff_prefix.1 h).length_le
  generalize p.length = m at *
  obtain ⟨n, hn⟩ : ∃ n, n = l.length := ⟨_, rfl⟩
  rw [← hn] at hsz hd hl h1
  obtain ⟨b, hb⟩ : ∃ b, b = Lib.hasPrefix l p := ⟨_, rfl⟩
  rw [← hb] at K h1 ⊢
  obtain ⟨T, hT⟩ : ∃ T, T = Sx (l.drop m) := ⟨_, rfl⟩
  have hT2 : Sx (if b then l.drop m else l) = if b then T else Sx l := by rw [hT]; split <;> rfl
  rw [← hT] at hd
  rw [hT2]
  generalize Sx l = B at *
  generalize Sx p = C at *
  clear hT hT2 hb hn
  cases b
  · go_enter Tryz.func172, Tryz.ntmps172
    go_wp2_with (go_at_call 198; ((with_reducible refine K.mono ?_); rintro r w3 ⟨rfl, rfl⟩))
    exact bodyPost_ret (results_tmp2 rfl _ _ _) rfl ⟨rfl, rfl⟩
  · have h1 := h1 rfl
    go_enter Tryz.func172, Tryz.ntmps172
    go_wp2_with (go_at_call 198; ((with_reducible refine K.mono ?_); rintro r w3 ⟨rfl, rfl⟩))
    exact bodyPost_ret (results_tmp2 rfl _ _ _) rfl ⟨rfl, rfl⟩

theorem cutP_any (p l : Bs) (w : World) (hl : l.length ≤ 140737488355328) :
    Calls Tryz.prog 144 #[.string (Sx l), .string (Sx p)] w fun r w' => r = .returned (.tuple #[.string (Sx (if Lib.hasPrefix l p then l.drop p.length else l)), .bool (Lib.hasPrefix l p)]) ∧ w' = w := by
  have K := lcutP_any p l w hl
  generalize Sx (if Lib.hasPrefix l p then l.drop p.length else l) = B at *
  generalize Lib.hasPrefix l p = b at *
  generalize Sx p = C at *
  go_enter Tryz.func144, Tryz.ntmps144
  go_wp2_with (go_at_call 172; ((with_reducible refine K.mono ?_); rintro r w3 ⟨rfl, rfl⟩))
  exact bodyPost_ret (results_tmp2 rfl _ _ _) rfl ⟨rfl, rfl⟩

theorem blanks_any (R M : Nat) (s : Bs) (d : Int) (w : World) (h : RC R M s d w) :
    Calls Tryz.prog 33 #[pR R] w fun r w' => r = .returned (.tuple #[]) ∧ RC R M (blk s) d w' ∧ G1 R w w' := by
  have K := trimB_any s w
  obtain ⟨c0, c1, c2, f0, f1, f2⟩ := h.cells
  have HC := Lib.hid (fun w' (g : Gr w w') => And.intro (h.gr g) (h.gr g).cells)
  clear h
  have HS := Lib.hid (fun w' (k : RC R M s d w') => k.set0 (blk s))
  generalize Sx (blk s) = T at *
  generalize Sx s = B at *
  go_enter Tryz.func33, Tryz.ntmps33
  go_wp2_with (go_at_call 69; ((with_reducible refine K.mono ?_); rintro r w3 ⟨rfl, hg⟩); have HG := Lib.hid hg; obtain ⟨k0, c0, c1, c2, f0, f1, f2⟩ := HC.out _ hg; have HK := Lib.hid k0; clear hg k0)
  first | go_end0 | skip
  exact ⟨rfl, HS.out _ HK.out, gtrans (gwide HG.out) (g1_set R 0 _ _)⟩

theorem cut_str (R M : Nat) (s p : Bs) (d : Int) (w : World) (h : RC R M s d w) (hl : s.length ≤ 140737488355328) :
    Calls Tryz.prog 143 #[pR R, .string (Sx p)] w fun r w' => r = .returned (.bool (Lib.hasPrefix s p)) ∧ RC R M (if Lib.hasPrefix s p then s.drop p.length else s) d w' ∧ G1 R w w' := by
  have K := cutP_any p s w hl
  obtain ⟨c0, c1, c2, f0, f1, f2⟩ := h.cells
  have HS := Lib.hid (h.set0 (if Lib.hasPrefix s p then s.drop p.length else s))
  clear h
  generalize Sx (if Lib.hasPrefix s p then s.drop p.length else s) = T at *
  generalize (if Lib.hasPrefix s p then s.drop p.length else s) = T0 at *
  generalize Lib.hasPrefix s p = b at *
  generalize Sx p = C at *
  generalize Sx s = B at *
  go_enter Tryz.func143, Tryz.ntmps143
  go_wp2_with (go_at_call 144; ((with_reducible refine K.mono ?_); rintro r w3 ⟨rfl, rfl⟩))
  go_ret
  exact ⟨rfl, HS.out, g1_set R 0 _ _⟩

theorem jsign_any (R M : Nat) (s p : Bs) (d : Int) (w : World) (h : RC R M s d w) (hl : s.length ≤ 140737488355328) :
    Calls Tryz.prog 149 #[pR R, .string (Sx p)] w fun r w' => r = .returned (.bool (Lib.hasPrefix (blk s) p)) ∧ RC R M (if Lib.hasPrefix (blk s) p then (blk s).drop p.length else blk s) d w' ∧ G1 R w w' := by
  have K1 := blanks_any R M s d w h
  have hb : (blk s).length ≤ s.length := (List.dropWhile_sublist _).length_le
  have HK2 := Lib.hid (fun w' (k : RC R M (blk s) d w') => cut_str R M (blk s) p d w' k (by omega))
  clear h
  generalize (if Lib.hasPrefix (blk s) p then (blk s).drop p.length else blk s) = T0 at *
  generalize Lib.hasPrefix (blk s) p = b at *
  generalize blk s = bs at *
  generalize Sx p = C at *
  clear hl hb
  go_enter Tryz.func149, Tryz.ntmps149
  go_wp2_with (first
    | (go_at_call 33; ((with_reducible refine K1.mono ?_); rintro r w3 ⟨rfl, hc, hg⟩); have H3 := Lib.hid hc; have G3 := Lib.hid hg; clear hc hg)
    | (go_at_call 143; ((with_reducible refine (HK2.out _ H3.out).mono ?_); rintro r w4 ⟨rfl, hc, hg⟩); have H4 := Lib.hid hc; have G4 := Lib.hid (gtrans G3.out hg); clear hc hg))
  go_ret
  exact ⟨rfl, H4.out, G4.out⟩

end Go.Proofs.YticnfmfmgdfdeaaGreatDoor
