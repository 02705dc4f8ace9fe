/-
  JsonOrders: in which order members are told changes nothing; the order of three; the law's walk. Own work. Printed by tools/mkjzorders.py.
-/
import Derived.Test.YticnfmfmgdfdeaaGreatDoorJsnBE
import Derived.Deep.RegionHeld3
import Derived.Deep.DeepCutAuto

set_option linter.unusedVariables false
set_option linter.unusedSimpArgs false
namespace Go.Proofs.YticnfmfmgdfdeaaGreatDoor
open Go.RowKit

set_option maxRecDepth 100000 in
set_option maxHeartbeats 32000000 in
theorem orders_any (W : World) (s t u : Bs) (hT : TB W) (hE : ES W) (hs : s.length ≤ 9223372036854775807) (ht : t.length ≤ 9223372036854775807) (hu : u.length ≤ 9223372036854775807) :
    Calls Tryz.prog 8 #[.string (Sx s), .string (Sx t), .string (Sx u)] W fun r w' => r = .returned (.bool true) ∧ Below W.heap.size W w' := by
  have AW := Lib.hid (awake15_any W hT hE)
  have HT := Lib.hid hT
  have HE := Lib.hid hE
  have hsz := Sx_size s
  have htz := Sx_size t
  have huz := Sx_size u
  clear hT hE
  by_cases c1 : 300 < s.length ∨ 300 < t.length ∨ 300 < u.length
  · have k1 : (300 : Int) < (s.length : Int) ∨ ¬ (300 : Int) < (s.length : Int) ∧ (300 : Int) < (t.length : Int) ∨ ¬ (300 : Int) < (s.length : Int) ∧ ¬ (300 : Int) < (t.length : Int) ∧ (300 : Int) < (u.length : Int) := by omega
    clear c1
    generalize s.length = n at *
    generalize t.length = m at *
    generalize u.length = l at *
    generalize Sx s = SS at *
    generalize Sx t = TT at *
    generalize Sx u = UU at *
    rcases k1 with k1 | ⟨k0, k1⟩ | ⟨k0, k2, k1⟩
    all_goals
      go_enter Tryz.func8, Tryz.ntmps8
      go_wp2_with (go_at_call 14; ((with_reducible refine AW.out.mono ?_); rintro r w1 ⟨rfl, hg⟩); have D1 := Lib.hid hg; clear hg)
      go_ret
      exact ⟨rfl, gbelow D1.out⟩
  · have k1 : ¬ (300 : Int) < (s.length : Int) := by omega
    have k2 : ¬ (300 : Int) < (t.length : Int) := by omega
    have k3 : ¬ (300 : Int) < (u.length : Int) := by omega
    have PA := Lib.hid (fun w (h : ES w) => parse_vb s w h)
    have PB := Lib.hid (fun w (h : ES w) => parse_vb t w h)
    have PC := Lib.hid (fun w (h : ES w) => parse_vb u w h)
    have ra := parse_right s
    have rb := parse_right t
    have rc := parse_right u
    have hlen : s.length + t.length + u.length ≤ 1000 := by omega
    clear c1 hs ht hu
    by_cases c2 : (parseJ s).2 ≠ 0 ∨ (parseJ t).2 ≠ 0 ∨ (parseJ u).2 ≠ 0
    · generalize s.length = n at *
      generalize t.length = m at *
      generalize u.length = l at *
      generalize Sx s = SS at *
      generalize Sx t = TT at *
      generalize Sx u = UU at *
      generalize (parseJ s).1 = A at *
      generalize (parseJ t).1 = B at *
      generalize (parseJ u).1 = C at *
      generalize (parseJ s).2 = ea at *
      generalize (parseJ t).2 = eb at *
      generalize (parseJ u).2 = ec at *
      clear ra rb rc hlen
      have k4 : (ea != 0) = true ∨ (ea != 0) = false ∧ (eb != 0) = true ∨ (ea != 0) = false ∧ (eb != 0) = false ∧ (ec != 0) = true := by
        by_cases h : ea = 0
        · by_cases g : eb = 0
          · rcases c2 with c2 | c2 | c2
            · exact absurd h c2
            · exact absurd g c2
            · exact .inr (.inr ⟨by simpa using h, by simpa using g, by simpa using c2⟩)
          · exact .inr (.inl ⟨by simpa using h, by simpa using g⟩)
        · exact .inl (by simpa using h)
      clear c2
      rcases k4 with k4 | ⟨k4, k5⟩ | ⟨k4, k5, k6⟩
      all_goals
        go_enter Tryz.func8, Tryz.ntmps8
        go_wp2_with (first
          | (go_at_call 14; ((with_reducible refine AW.out.mono ?_); rintro r w1 ⟨rfl, hg⟩); have D1 := Lib.hid hg; clear hg)
          | (go_at_call 15; ((with_reducible refine (PA.out _ (HE.out.gr D1.out)).mono ?_); rintro r w2 ⟨ka, ia, da, ga, xa, ta, aa6, na6, ca6, aa7, na7, ca7, rfl, hv, hg⟩); have D2 := Lib.hid (gtrans D1.out hg); have V_a := Lib.hid hv; clear hg hv)
          | (go_at_call 15; ((with_reducible refine (PB.out _ (HE.out.gr D2.out)).mono ?_); rintro r w3 ⟨kb, ib, db, gb, xb, tb, ab6, nb6, cb6, ab7, nb7, cb7, rfl, hv, hg⟩); have D3 := Lib.hid (gtrans D2.out hg); have V_b := Lib.hid hv; clear hg hv)
          | (go_at_call 15; ((with_reducible refine (PC.out _ (HE.out.gr D3.out)).mono ?_); rintro r w4 ⟨kc, ic, dc, gc, xc, tc, ac6, nc6, cc6, ac7, nc7, cc7, rfl, hv, hg⟩); have D4 := Lib.hid (gtrans D3.out hg); have V_c := Lib.hid hv; clear hg hv))
        go_ret
        exact ⟨rfl, gbelow D4.out⟩
    · have z1 : (parseJ s).2 = 0 := Classical.byContradiction fun h => c2 (.inl h)
      have z2 : (parseJ t).2 = 0 := Classical.byContradiction fun h => c2 (.inr (.inl h))
      have z3 : (parseJ u).2 = 0 := Classical.byContradiction fun h => c2 (.inr (.inr h))
      have hx := orders_parse (s := s) (t := t) (u := u) (a := (parseJ s).1) (b := (parseJ t).1) (c := (parseJ u).1) (by rw [← z1]) (by rw [← z2]) (by rw [← z3]) hlen
      have PX := Lib.hid (fun w (h : ES w) => parse_vb (obj3 107 97 122 s t u) w h)
      have PY := Lib.hid (fun w (h : ES w) => parse_vb (obj3 122 107 97 u s t) w h)
      rw [← hx] at PY
      have rx := parse_right (obj3 107 97 122 s t u)
      have lx := parseJ_len (obj3 107 97 122 s t u)
      rw [z1] at PA
      rw [z2] at PB
      rw [z3] at PC
      have pq := cmpJ_trans 16 (parseJ s).1 (parseJ t).1 (parseJ u).1 ra rb rc
      have qp := cmpJ_trans 16 (parseJ u).1 (parseJ t).1 (parseJ s).1 rc rb ra
      rw [cmpJ_anti 16 _ _ rb rc, cmpJ_anti 16 _ _ ra rb, cmpJ_anti 16 _ _ ra rc] at qp
      clear hx z1 z2 z3 c2
      generalize hA : (parseJ s).1 = A at *
      generalize hB : (parseJ t).1 = B at *
      generalize hC : (parseJ u).1 = C at *
      generalize hX : (parseJ (obj3 107 97 122 s t u)).1 = X at *
      generalize hex : (parseJ (obj3 107 97 122 s t u)).2 = ex at *
      clear hA hB hC hX hex hlen
      have hX1 : (⟨#[123, 34, 107, 34, 58]⟩ : ByteArray) ++ Sx s = Sx ([123, 34, 107, 34, 58] ++ s) := Sx_app _ _
      have lX1 : (Sx ([123, 34, 107, 34, 58] ++ s)).size = 5 + s.length := by rw [Sx_size]; simp only [List.length_append, List.length_cons, List.length_nil]
      have hX2 : Sx ([123, 34, 107, 34, 58] ++ s) ++ (⟨#[44, 34, 97, 34, 58]⟩ : ByteArray) = Sx ([123, 34, 107, 34, 58] ++ s ++ [44, 34, 97, 34, 58]) := Sx_app _ _
      have lX2 : (Sx ([123, 34, 107, 34, 58] ++ s ++ [44, 34, 97, 34, 58])).size = 5 + s.length + 5 := by rw [Sx_size]; simp only [List.length_append, List.length_cons, List.length_nil]
      have hX3 : Sx ([123, 34, 107, 34, 58] ++ s ++ [44, 34, 97, 34, 58]) ++ Sx t = Sx ([123, 34, 107, 34, 58] ++ s ++ [44, 34, 97, 34, 58] ++ t) := Sx_app _ _
      have lX3 : (Sx ([123, 34, 107, 34, 58] ++ s ++ [44, 34, 97, 34, 58] ++ t)).size = 5 + s.length + 5 + t.length := by rw [Sx_size]; simp only [List.length_append, List.length_cons, List.length_nil]
      have hX4 : Sx ([123, 34, 107, 34, 58] ++ s ++ [44, 34, 97, 34, 58] ++ t) ++ (⟨#[44, 34, 122, 34, 58]⟩ : ByteArray) = Sx ([123, 34, 107, 34, 58] ++ s ++ [44, 34, 97, 34, 58] ++ t ++ [44, 34, 122, 34, 58]) := Sx_app _ _
      have lX4 : (Sx ([123, 34, 107, 34, 58] ++ s ++ [44, 34, 97, 34, 58] ++ t ++ [44, 34, 122, 34, 58])).size = 5 + s.length + 5 + t.length + 5 := by rw [Sx_size]; simp only [List.length_append, List.length_cons, List.length_nil]
      have hX5 : Sx ([123, 34, 107, 34, 58] ++ s ++ [44, 34, 97, 34, 58] ++ t ++ [44, 34, 122, 34, 58]) ++ Sx u = Sx ([123, 34, 107, 34, 58] ++ s ++ [44, 34, 97, 34, 58] ++ t ++ [44, 34, 122, 34, 58] ++ u) := Sx_app _ _
      have lX5 : (Sx ([123, 34, 107, 34, 58] ++ s ++ [44, 34, 97, 34, 58] ++ t ++ [44, 34, 122, 34, 58] ++ u)).size = 5 + s.length + 5 + t.length + 5 + u.length := by rw [Sx_size]; simp only [List.length_append, List.length_cons, List.length_nil]
      have hX6 : Sx ([123, 34, 107, 34, 58] ++ s ++ [44, 34, 97, 34, 58] ++ t ++ [44, 34, 122, 34, 58] ++ u) ++ (⟨#[125]⟩ : ByteArray) = Sx ([123, 34, 107, 34, 58] ++ s ++ [44, 34, 97, 34, 58] ++ t ++ [44, 34, 122, 34, 58] ++ u ++ [125]) := Sx_app _ _
      have lX6 : (Sx ([123, 34, 107, 34, 58] ++ s ++ [44, 34, 97, 34, 58] ++ t ++ [44, 34, 122, 34, 58] ++ u ++ [125])).size = 5 + s.length + 5 + t.length + 5 + u.length + 1 := by rw [Sx_size]; simp only [List.length_append, List.length_cons, List.length_nil]
      have hY1 : (⟨#[123, 34, 122, 34, 58]⟩ : ByteArray) ++ Sx u = Sx ([123, 34, 122, 34, 58] ++ u) := Sx_app _ _
      have lY1 : (Sx ([123, 34, 122, 34, 58] ++ u)).size = 5 + u.length := by rw [Sx_size]; simp only [List.length_append, List.length_cons, List.length_nil]
      have hY2 : Sx ([123, 34, 122, 34, 58] ++ u) ++ (⟨#[44, 34, 107, 34, 58]⟩ : ByteArray) = Sx ([123, 34, 122, 34, 58] ++ u ++ [44, 34, 107, 34, 58]) := Sx_app _ _
      have lY2 : (Sx ([123, 34, 122, 34, 58] ++ u ++ [44, 34, 107, 34, 58])).size = 5 + u.length + 5 := by rw [Sx_size]; simp only [List.length_append, List.length_cons, List.length_nil]
      have hY3 : Sx ([123, 34, 122, 34, 58] ++ u ++ [44, 34, 107, 34, 58]) ++ Sx s = Sx ([123, 34, 122, 34, 58] ++ u ++ [44, 34, 107, 34, 58] ++ s) := Sx_app _ _
      have lY3 : (Sx ([123, 34, 122, 34, 58] ++ u ++ [44, 34, 107, 34, 58] ++ s)).size = 5 + u.length + 5 + s.length := by rw [Sx_size]; simp only [List.length_append, List.length_cons, List.length_nil]
      have hY4 : Sx ([123, 34, 122, 34, 58] ++ u ++ [44, 34, 107, 34, 58] ++ s) ++ (⟨#[44, 34, 97, 34, 58]⟩ : ByteArray) = Sx ([123, 34, 122, 34, 58] ++ u ++ [44, 34, 107, 34, 58] ++ s ++ [44, 34, 97, 34, 58]) := Sx_app _ _
      have lY4 : (Sx ([123, 34, 122, 34, 58] ++ u ++ [44, 34, 107, 34, 58] ++ s ++ [44, 34, 97, 34, 58])).size = 5 + u.length + 5 + s.length + 5 := by rw [Sx_size]; simp only [List.length_append, List.length_cons, List.length_nil]
      have hY5 : Sx ([123, 34, 122, 34, 58] ++ u ++ [44, 34, 107, 34, 58] ++ s ++ [44, 34, 97, 34, 58]) ++ Sx t = Sx ([123, 34, 122, 34, 58] ++ u ++ [44, 34, 107, 34, 58] ++ s ++ [44, 34, 97, 34, 58] ++ t) := Sx_app _ _
      have lY5 : (Sx ([123, 34, 122, 34, 58] ++ u ++ [44, 34, 107, 34, 58] ++ s ++ [44, 34, 97, 34, 58] ++ t)).size = 5 + u.length + 5 + s.length + 5 + t.length := by rw [Sx_size]; simp only [List.length_append, List.length_cons, List.length_nil]
      have hY6 : Sx ([123, 34, 122, 34, 58] ++ u ++ [44, 34, 107, 34, 58] ++ s ++ [44, 34, 97, 34, 58] ++ t) ++ (⟨#[125]⟩ : ByteArray) = Sx ([123, 34, 122, 34, 58] ++ u ++ [44, 34, 107, 34, 58] ++ s ++ [44, 34, 97, 34, 58] ++ t ++ [125]) := Sx_app _ _
      have lY6 : (Sx ([123, 34, 122, 34, 58] ++ u ++ [44, 34, 107, 34, 58] ++ s ++ [44, 34, 97, 34, 58] ++ t ++ [125])).size = 5 + u.length + 5 + s.length + 5 + t.length + 1 := by rw [Sx_size]; simp only [List.length_append, List.length_cons, List.length_nil]
      have ox : obj3 107 97 122 s t u = [123, 34, 107, 34, 58] ++ s ++ [44, 34, 97, 34, 58] ++ t ++ [44, 34, 122, 34, 58] ++ u ++ [125] := by unfold obj3; simp
      have oy : obj3 122 107 97 u s t = [123, 34, 122, 34, 58] ++ u ++ [44, 34, 107, 34, 58] ++ s ++ [44, 34, 97, 34, 58] ++ t ++ [125] := by unfold obj3; simp
      rw [ox] at PX
      rw [oy] at PY
      clear ox oy
      generalize Sx ([123, 34, 107, 34, 58] ++ s) = ZX1 at *
      generalize Sx ([123, 34, 107, 34, 58] ++ s ++ [44, 34, 97, 34, 58]) = ZX2 at *
      generalize Sx ([123, 34, 107, 34, 58] ++ s ++ [44, 34, 97, 34, 58] ++ t) = ZX3 at *
      generalize Sx ([123, 34, 107, 34, 58] ++ s ++ [44, 34, 97, 34, 58] ++ t ++ [44, 34, 122, 34, 58]) = ZX4 at *
      generalize Sx ([123, 34, 107, 34, 58] ++ s ++ [44, 34, 97, 34, 58] ++ t ++ [44, 34, 122, 34, 58] ++ u) = ZX5 at *
      generalize Sx ([123, 34, 107, 34, 58] ++ s ++ [44, 34, 97, 34, 58] ++ t ++ [44, 34, 122, 34, 58] ++ u ++ [125]) = ZX6 at *
      generalize Sx ([123, 34, 122, 34, 58] ++ u) = ZY1 at *
      generalize Sx ([123, 34, 122, 34, 58] ++ u ++ [44, 34, 107, 34, 58]) = ZY2 at *
      generalize Sx ([123, 34, 122, 34, 58] ++ u ++ [44, 34, 107, 34, 58] ++ s) = ZY3 at *
      generalize Sx ([123, 34, 122, 34, 58] ++ u ++ [44, 34, 107, 34, 58] ++ s ++ [44, 34, 97, 34, 58]) = ZY4 at *
      generalize Sx ([123, 34, 122, 34, 58] ++ u ++ [44, 34, 107, 34, 58] ++ s ++ [44, 34, 97, 34, 58] ++ t) = ZY5 at *
      generalize Sx ([123, 34, 122, 34, 58] ++ u ++ [44, 34, 107, 34, 58] ++ s ++ [44, 34, 97, 34, 58] ++ t ++ [125]) = ZY6 at *
      generalize s.length = n at *
      generalize t.length = m at *
      generalize u.length = l at *
      generalize Sx s = SS at *
      generalize Sx t = TT at *
      generalize Sx u = UU at *
      have TX : Hid (∀ u q w, VB X u q w → TB w → Calls Tryz.prog 17 #[.agg u] w fun r w' => r = .returned (.string (Sx (textJ X))) ∧ Gr w w') := Lib.hid (fun u q w h k => text_vb h k rx (by omega))
      have CAB : Hid (∀ u v p q w, VB A u p w → VB B v q w → Calls Tryz.prog 19 #[.agg u, .agg v] w fun r w' => r = .returned (.int .i64 (cmpJ A B)) ∧ Gr w w') := Lib.hid (fun u v p q w h g => cmp_vb h g ra rb)
      have CBC : Hid (∀ u v p q w, VB B u p w → VB C v q w → Calls Tryz.prog 19 #[.agg u, .agg v] w fun r w' => r = .returned (.int .i64 (cmpJ B C)) ∧ Gr w w') := Lib.hid (fun u v p q w h g => cmp_vb h g rb rc)
      have CAC : Hid (∀ u v p q w, VB A u p w → VB C v q w → Calls Tryz.prog 19 #[.agg u, .agg v] w fun r w' => r = .returned (.int .i64 (cmpJ A C)) ∧ Gr w w') := Lib.hid (fun u v p q w h g => cmp_vb h g ra rc)
      generalize Sx (textJ X) = XT at *
      generalize cmpJ A B = p at *
      generalize cmpJ B C = q at *
      generalize cmpJ A C = r0 at *
      have HPQ := Lib.hid (And.intro pq qp)
      clear pq qp rx lx ra rb rc
      have hne : (ex != ex) = false := by simp
      go_enter Tryz.func8, Tryz.ntmps8
      go_wp2_with (first
        | (go_at_call 14; ((with_reducible refine AW.out.mono ?_); rintro r w1 ⟨rfl, hg⟩); have D1 := Lib.hid hg; clear hg)
        | (go_at_call 15; ((with_reducible refine (PA.out _ (HE.out.gr D1.out)).mono ?_); rintro r w2 ⟨ka, ia, da, ga, xa, ta, aa6, na6, ca6, aa7, na7, ca7, rfl, hv, hg⟩); have D2 := Lib.hid (gtrans D1.out hg); have V_a := Lib.hid hv; clear hg hv)
        | (go_at_call 15; ((with_reducible refine (PB.out _ (HE.out.gr D2.out)).mono ?_); rintro r w3 ⟨kb, ib, db, gb, xb, tb, ab6, nb6, cb6, ab7, nb7, cb7, rfl, hv, hg⟩); have D3 := Lib.hid (gtrans D2.out hg); have V_b := Lib.hid hv; have V_a2 := Lib.hid (V_a.out.gr hg); clear hg hv)
        | (go_at_call 15; ((with_reducible refine (PC.out _ (HE.out.gr D3.out)).mono ?_); rintro r w4 ⟨kc, ic, dc, gc, xc, tc, ac6, nc6, cc6, ac7, nc7, cc7, rfl, hv, hg⟩); have D4 := Lib.hid (gtrans D3.out hg); have V_c := Lib.hid hv; have V_a3 := Lib.hid (V_a2.out.gr hg); have V_b3 := Lib.hid (V_b.out.gr hg); clear hg hv)
        | (go_at_call 15; ((with_reducible refine (PX.out _ (HE.out.gr D4.out)).mono ?_); rintro r w5 ⟨kx, ix, dx, gx, xx, tx, ax6, nx6, cx6, ax7, nx7, cx7, rfl, hv, hg⟩); have D5 := Lib.hid (gtrans D4.out hg); have V_x := Lib.hid hv; have V_a4 := Lib.hid (V_a3.out.gr hg); have V_b4 := Lib.hid (V_b3.out.gr hg); have V_c4 := Lib.hid (V_c.out.gr hg); clear hg hv)
        | (go_at_call 15; ((with_reducible refine (PY.out _ (HE.out.gr D5.out)).mono ?_); rintro r w6 ⟨ky, iy, dy, gy, xy, ty, ay6, ny6, cy6, ay7, ny7, cy7, rfl, hv, hg⟩); have D6 := Lib.hid (gtrans D5.out hg); have V_y := Lib.hid hv; have V_a5 := Lib.hid (V_a4.out.gr hg); have V_b5 := Lib.hid (V_b4.out.gr hg); have V_c5 := Lib.hid (V_c4.out.gr hg); have V_x5 := Lib.hid (V_x.out.gr hg); clear hg hv))
      generalize w6.alloc (.cells (V8 ky iy dy gy xy ty ay6 ny6 cy6 ay7 ny7 cy7) 28) = W6 at *
      have HC := Lib.hid (fun V (G : Gr W6 V) => And.intro (V_x5.out.gr G).c (V_y.out.gr G).c)
      go_region_held3 (fun v => (v.cell? ⟨w5.heap.size, 0, none⟩ = some (.int .i64 kx) ∧ v.cell? ⟨w5.heap.size, 1, none⟩ = some (.bool ix) ∧ v.cell? ⟨w5.heap.size, 2, none⟩ = some (.bool dx) ∧ v.cell? ⟨w5.heap.size, 3, none⟩ = some (.string gx) ∧ v.cell? ⟨w5.heap.size, 4, none⟩ = some (.int .i64 xx) ∧ v.cell? ⟨w5.heap.size, 5, none⟩ = some (.string tx) ∧ v.cell? ⟨w5.heap.size, 6, none⟩ = some (.slice ax6 nx6 cx6) ∧ v.cell? ⟨w5.heap.size, 7, none⟩ = some (.slice ax7 nx7 cx7)) ∧ v.cell? ⟨w6.heap.size, 0, none⟩ = some (.int .i64 ky) ∧ v.cell? ⟨w6.heap.size, 1, none⟩ = some (.bool iy) ∧ v.cell? ⟨w6.heap.size, 2, none⟩ = some (.bool dy) ∧ v.cell? ⟨w6.heap.size, 3, none⟩ = some (.string gy) ∧ v.cell? ⟨w6.heap.size, 4, none⟩ = some (.int .i64 xy) ∧ v.cell? ⟨w6.heap.size, 5, none⟩ = some (.string ty) ∧ v.cell? ⟨w6.heap.size, 6, none⟩ = some (.slice ay6 ny6 cy6) ∧ v.cell? ⟨w6.heap.size, 7, none⟩ = some (.slice ay7 ny7 cy7))
        (first | (exact HC.out _ (gdrew W6)) | (exact HC.out _ (grefl W6 none)) | (exact HC.out _ G7.out) | (exact HC.out _ G8.out))
        (first
          | (go_at_call 17; ((with_reducible refine (TX.out _ _ W6.drew (V_x5.out.gr (gdrew W6)) (HT.out.gr (gtrans D6.out (gdrew W6)))).mono ?_); rintro r w7 ⟨rfl, hg⟩); have G7 := Lib.hid (gtrans (gdrew W6) hg); clear hg)
          | (go_at_call 17; ((with_reducible refine (TX.out _ _ w7 (V_y.out.gr G7.out) (HT.out.gr (gtrans D6.out G7.out))).mono ?_); rintro r w8 ⟨rfl, hg⟩); have G8 := Lib.hid (gtrans G7.out hg); clear hg))
      have VA8 := Lib.hid (V_a5.out.gr G8.out)
      have VB8 := Lib.hid (V_b5.out.gr G8.out)
      have VC8 := Lib.hid (V_c5.out.gr G8.out)
      obtain ⟨x0, x1, x2, x3, x4, x5, x6, x7⟩ := VA8.out.c
      obtain ⟨y0, y1, y2, y3, y4, y5, y6, y7⟩ := VB8.out.c
      go_upto_region 18 with (first
        | (go_at_call 19; ((with_reducible refine (CAB.out _ _ _ _ w8 VA8.out VB8.out).mono ?_); rintro r w9 ⟨rfl, hg⟩); have G9 := Lib.hid (gtrans G8.out hg); have VA9 := Lib.hid (VA8.out.gr hg); have VB9 := Lib.hid (VB8.out.gr hg); have VC9 := Lib.hid (VC8.out.gr hg); clear x0 x1 x2 x3 x4 x5 x6 x7 y0 y1 y2 y3 y4 y5 y6 y7 hg; obtain ⟨x0, x1, x2, x3, x4, x5, x6, x7⟩ := VB9.out.c; obtain ⟨y0, y1, y2, y3, y4, y5, y6, y7⟩ := VC9.out.c)
        | (go_at_call 19; ((with_reducible refine (CBC.out _ _ _ _ w9 VB9.out VC9.out).mono ?_); rintro r w10 ⟨rfl, hg⟩); have G10 := Lib.hid (gtrans G9.out hg); have VA10 := Lib.hid (VA9.out.gr hg); have VC10 := Lib.hid (VC9.out.gr hg); clear x0 x1 x2 x3 x4 x5 x6 x7 y0 y1 y2 y3 y4 y5 y6 y7 hg; obtain ⟨x0, x1, x2, x3, x4, x5, x6, x7⟩ := VA10.out.c; obtain ⟨y0, y1, y2, y3, y4, y5, y6, y7⟩ := VC10.out.c)
        | (go_at_call 19; ((with_reducible refine (CAC.out _ _ _ _ w10 VA10.out VC10.out).mono ?_); rintro r w11 ⟨rfl, hg⟩); have G11 := Lib.hid (gtrans D6.out (gtrans G10.out hg)); clear x0 x1 x2 x3 x4 x5 x6 x7 y0 y1 y2 y3 y4 y5 y6 y7 hg))
      have key : (¬ p ≤ 0 ∧ 0 ≤ p ∧ (p != 0) = true ∧ (¬ q ≤ 0 ∧ 0 ≤ q ∧ ¬ r0 < 0 ∨ q ≤ 0 ∧ 0 ≤ q ∧ ¬ r0 < 0 ∨ ¬ 0 ≤ q)) ∨
          (p ≤ 0 ∧ ¬ 0 ≤ p ∧ (p != 0) = true ∧ (¬ q ≤ 0 ∨ q ≤ 0 ∧ ¬ 0 < r0)) ∨
          (p ≤ 0 ∧ 0 ≤ p ∧ (p != 0) = false ∧ (q ≤ 0 ∧ 0 ≤ q ∧ (q != 0) = false ∧ r0 = 0 ∨ q ≤ 0 ∧ ¬ 0 ≤ q ∧ (q != 0) = true ∧ ¬ 0 < r0 ∨ ¬ q ≤ 0 ∧ 0 ≤ q ∧ (q != 0) = true ∧ ¬ r0 < 0)) := by
        have h1 := HPQ.out.1
        have h2 := HPQ.out.2
        simp only [bne_iff_ne, ne_eq, bne_eq_false_iff_eq]
        omega
      rcases key with ⟨p1, p2, p3, ⟨q1, q2, q3⟩ | ⟨q1, q2, q3⟩ | q1⟩ | ⟨p1, p2, p3, q1 | ⟨q1, q3⟩⟩ | ⟨p1, p2, p3, ⟨q1, q2, q4, rfl⟩ | ⟨q1, q2, q4, q3⟩ | ⟨q1, q2, q4, q3⟩⟩
      all_goals
        go_wp2
        go_ret
        exact ⟨rfl, gbelow G11.out⟩

end Go.Proofs.YticnfmfmgdfdeaaGreatDoor
