/-
  A number, as a value is read. Own work.
-/
import Derived.Test.YticnfmfmgdfdeaaGreatDoorJsnAS
import Derived.Deep.RegionLaw

set_option linter.unusedVariables false
set_option linter.unusedSimpArgs false
namespace Go.Proofs.YticnfmfmgdfdeaaGreatDoor
open Go.RowKit

theorem take_nb (l : Bs) : l.take (l.length - (l.dropWhile numB).length) = l.takeWhile numB := by
  have h := List.takeWhile_append_dropWhile (p := numB) (l := l)
  have hl := congrArg List.length h
  rw [List.length_append] at hl
  have e : l.length - (l.dropWhile numB).length = (l.takeWhile numB).length := by omega
  rw [e]
  have k := congrArg (List.take (l.takeWhile numB).length) h
  rw [List.take_left] at k
  exact k.symm

set_option maxRecDepth 100000 in
set_option maxHeartbeats 8000000 in
theorem number_any (R M : Nat) (s : Bs) (d : Int) (w : World) (hr : RC R M s d w) (hl : s.length ≤ 100000) (n : Nat) :
    Calls Tryz.prog 68 #[pR R] w fun r w' => RdR (n + 1) (numJ s) R M d w r w' := by
  have hfar := Lib.hid (hr.far (Nat.le_refl _))
  have H0 := Lib.hid (heap_alloc_new w (.cells zeroV 28))
  have HG := Lib.hid (World.grownBy_alloc w (.cells zeroV 28) none)
  have HR := Lib.hid (hr.gr HG.out)
  have HRL := Lib.hid hr.lt
  have K1 := Lib.hid (fun w' => trimN_any s w')
  have htl : (s.takeWhile numB).length ≤ 100000 := Nat.le_trans (List.takeWhile_sublist _).length_le hl
  have K2 := Lib.hid (fun w' => parse_any (s.takeWhile numB) w' (by omega))
  have hle : (s.dropWhile numB).length ≤ s.length := (List.dropWhile_sublist _).length_le
  have hx := ext_take s (s.length - (s.dropWhile numB).length)
  rw [take_nb] at hx
  have hs1 := Sx_size s
  have hs2 := Sx_size (s.dropWhile numB)
  obtain ⟨m, hm⟩ : ∃ m, m = numJ s := ⟨_, rfl⟩
  rw [← hm]
  unfold numJ at hm
  have HT := Lib.hid (fun w' (k : RC R M s d w') => k.set0 (s.dropWhile numB))
  generalize parseM (s.takeWhile numB) = pm at *
  obtain ⟨nm, e⟩ := pm
  obtain ⟨nd, nA, ne⟩ := nm
  simp only at hm K2
  unfold valN at K2
  simp only at K2
  have HM := Lib.hid hm
  clear hm htl
  generalize Sx (s.takeWhile numB) = C at *
  obtain ⟨D, hD⟩ : ∃ D, D = Sx (s.dropWhile numB) := ⟨_, rfl⟩
  rw [← hD] at K1 hs2 HT
  have HDD := Lib.hid hD
  clear hD
  obtain ⟨B, hB⟩ : ∃ B, B = Sx s := ⟨_, rfl⟩
  rw [← hB] at K1 hs1 hx
  have hc0 : Hid (∀ w', RC R M s d w' → w'.cell? ⟨R, 0, none⟩ = some (.string B) ∧ w'.frozen? ⟨R, 0, none⟩ = false) := Lib.hid (fun w' k => by rw [hB]; exact ⟨k.cells.1, k.cells.2.2.2.1⟩)
  clear hB hr
  generalize (s.dropWhile numB).length = b at *
  generalize s.length = a at *
  obtain ⟨c0, f0⟩ := hc0.out _ HR.out
  obtain ⟨cn, hcn⟩ : ∃ cn, cn = a - b := ⟨_, rfl⟩
  rw [← hcn] at hx
  have hsub : (a : Int) - (b : Int) = (cn : Int) := by omega
  have hwr : IntKind.i64.wrap (cn : Int) = (cn : Int) := IntWalk.i64_in _ (by omega)
  have hwr2 : IntKind.i64.wrap ((a : Int) - (b : Int)) = (cn : Int) := by rw [hsub]; exact hwr
  have hle2 : (cn : Int) ≤ (a : Int) := by omega
  have hle3 : (0 : Int) ≤ (cn : Int) := by omega
  have hle4 : cn ≤ a := by omega
  clear hcn hle
  have HAL := Lib.hid (fun (W : World) (x y z : Value) => World.grownBy_alloc W (.cells #[x, y, z] 24) none)
  go_enter Tryz.func68, Tryz.ntmps68
  go_wp2_with (go_at_call 69; ((with_reducible refine (K1.out _).mono ?_); rintro r w3 ⟨rfl, hg⟩); have HG1 := Lib.hid hg; clear hg; obtain ⟨c0, f0⟩ := hc0.out _ (HR.out.gr HG1.out))
  have ca := (hc0.out _ (HR.out.gr (gtrans HG1.out (World.grownBy_alloc w3 (.cells #[.bool false, .string ⟨#[]⟩, .int .i64 0] 24) none)))).1
  have cb := (hc0.out _ (HR.out.gr (gtrans HG1.out (gtrans (World.grownBy_alloc w3 (.cells #[.bool false, .string ⟨#[]⟩, .int .i64 0] 24) none) (gdrew _))))).1
  have cd := (hc0.out _ (HR.out.gr (gtrans HG1.out (gdrew _)))).1
  go_region_law (go_simp; go_at_call 115; ((with_reducible refine (K2.out _).mono ?_); rintro r w4 ⟨rfl, hg⟩); have HS34 : Hid (w3.heap.size ≤ w4.heap.size) := Lib.hid (Nat.le_trans (by first | exact Nat.le_refl _ | (show w3.heap.size ≤ (World.alloc w3 _).heap.size; simp)) hg.size); first | (have HG2 := Lib.hid (gtrans HG1.out (gtrans (gdrew w3) hg))) | (have HG2 := Lib.hid (gtrans HG1.out (gtrans (gtrans (World.grownBy_alloc w3 _ none) (gdrew _)) hg)); have HN0 := Lib.hid ((hg.block _ (by simp) (by simp)).trans (heap_alloc_new w3 (.cells #[.bool false, .string ⟨#[]⟩, .int .i64 0] 24))); obtain ⟨m0, m1, m2, g0, g1, g2⟩ := cells3 HN0.out); clear hg; obtain ⟨c0, f0⟩ := hc0.out _ (HR.out.gr HG2.out))
  all_goals clear ca cb cd
  all_goals have hR3 : R < w3.heap.size := by have h8 := HRL.out; have h9 := HG1.out.size; simp at h9; omega
  all_goals have hQ3 : w.heap.size < w3.heap.size := by have h9 := HG1.out.size; simp at h9; omega
  all_goals have hs34 : w3.heap.size ≤ w4.heap.size := by first | exact HS34.out
  all_goals (first
    | (have hN := set3 (x := .bool nd) (y := .string (Sx nA)) (z := .int .i64 ne) HN0.out
       have hG := gr_set (gr_set (gr_set HG2.out HG1.out.size 0 (.bool nd)) HG1.out.size 1 (.string (Sx nA))) HG1.out.size 2 (.int .i64 ne)
       clear HN0 m0 m1 m2 g0 g1 g2 c0 f0
       generalize ((w4.setCell ⟨w3.heap.size, 0, none⟩ (.bool nd)).setCell ⟨w3.heap.size, 1, none⟩ (.string (Sx nA))).setCell ⟨w3.heap.size, 2, none⟩ (.int .i64 ne) = W at *
       obtain ⟨q, hq⟩ : ∃ q, q = w3.heap.size := ⟨_, rfl⟩
       rw [← hq] at hN hR3 hQ3 ⊢
       clear hq)
    | (have hN := heap_alloc_new w4 (.cells #[.bool nd, .string (Sx nA), .int .i64 ne] 24)
       have hG := gtrans HG2.out (World.grownBy_alloc w4 (.cells #[.bool nd, .string (Sx nA), .int .i64 ne] 24) none)
       clear c0 f0
       generalize w4.alloc (.cells #[.bool nd, .string (Sx nA), .int .i64 ne] 24) = W at *
       have hR4 := Nat.lt_of_lt_of_le hR3 hs34
       have hQ4 := Nat.lt_of_lt_of_le hQ3 hs34
       clear hR3 hQ3
       have hR3 := hR4
       have hQ3 := hQ4
       clear hR4 hQ4
       obtain ⟨q, hq⟩ : ∃ q, q = w4.heap.size := ⟨_, rfl⟩
       rw [← hq] at hN hR3 hQ3 ⊢
       clear hq))
  all_goals (
    have HN := Lib.hid hN
    have HGW := Lib.hid hG
    have n1 : ¬ R = q := by omega
    have n2 : ¬ q = R := by omega
    have n3 : ¬ w.heap.size = q := by omega
    have n4 : ¬ q = w.heap.size := by omega
    have n5 : ¬ R = w.heap.size := hfar.out
    have n6 : ¬ w.heap.size = R := fun e => hfar.out e.symm
    obtain ⟨c0, f0⟩ := hc0.out _ (HR.out.gr hG)
    obtain ⟨m0, m1, m2, g0, g1, g2⟩ := cells3 hN
    have hQ := (hG.block _ (lt_of_block H0.out) (by simp)).trans H0.out
    obtain ⟨y0, y1, y2, y3, y4, y5, y6, y7⟩ := cells8 hQ
    obtain ⟨z0, z1, z2, z3, z4, z5, z6, z7⟩ := unfroz8 hQ
    have HQ := Lib.hid hQ
    clear hN hG hQ hR3 hQ3 hs34)
  all_goals go_wp2
  all_goals (
    refine bodyPost_ret (results_Val2 rfl _ _ w.heap.size _ _ rfl rfl (set8 ((set_other hfar.out 0 _).trans HQ.out)) rfl) rfl ⟨.num ⟨nd, nA, ne⟩, nilS, nilS, e, s.dropWhile numB, rfl, JV.flat _ rfl rfl n, (set8_other hfar.out.symm _ _ _ _ _ _ _ _).trans (HT.out W (HR.out.gr HGW.out)), gr_set8 (gtrans (gwide (gtrans HG.out HGW.out)) (g1_set R 0 _ _)) (Nat.le_refl _) _ _ _ _ _ _ _ _, ?_⟩
    rw [HM.out]
    by_cases he : e = 0
    · rw [if_pos he]; exact ⟨he, rfl, rfl⟩
    · rw [if_neg he]; exact ⟨rfl, he⟩)

end Go.Proofs.YticnfmfmgdfdeaaGreatDoor
