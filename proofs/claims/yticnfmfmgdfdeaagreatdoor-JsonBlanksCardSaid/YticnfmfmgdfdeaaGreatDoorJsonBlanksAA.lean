/-
  JsonBlanks: blanks around a value, and around those of arrays and objects, change nothing; the law's walk. Own work. Printed by tools/mkjzblanks.py.
-/
import Derived.Test.YticnfmfmgdfdeaaGreatDoorJsnBE
import Derived.Deep.RegionHeld3
import Derived.Deep.DeepCutAuto
import Derived.Deep.CutRange

set_option linter.unusedVariables false
set_option linter.unusedSimpArgs false
namespace Go.Proofs.YticnfmfmgdfdeaaGreatDoor
open Go.RowKit

theorem and3 (n : Int) : bits .and .u8 n 3 = n % 4 := by
  have h3 : (BitVec.ofInt 8 3).toNat = 2 ^ 2 - 1 := by decide
  have key : (BitVec.ofInt 8 n &&& BitVec.ofInt 8 3).toNat = (n % ((2 ^ 8 : Nat) : Int)).toNat % 2 ^ 2 := by
    rw [BitVec.toNat_and, BitVec.toNat_ofInt, h3, Nat.and_two_pow_sub_one_eq_mod]
  show IntKind.u8.wrap ((BitVec.ofInt 8 n &&& BitVec.ofInt 8 3).toNat : Nat) = n % 4
  rw [key, IntKind.wrap_u8]
  omega
theorem seq_cells {W : World} {a0 : Option Addr} {n cap : Nat} {z : List Int} (h : Seq W.heap.size W (.slice a0 n cap) z) (wr : World) (g : Gr W wr) (k : Nat) (hk : k < n) :
    z.length = n ∧ ∃ b o, a0 = some ⟨b, o, none⟩ ∧ wr.cell? ⟨b, o + k, none⟩ = some (.int .u8 (z.getD k 0)) := by
  obtain ⟨ao, c, hv, h1, h2, h3, h4⟩ := h
  injection hv with e1 e2 e3
  subst e1
  have hne : z ≠ [] := fun e => by rw [e] at e2; simp at e2; omega
  obtain ⟨b, o, rfl, hb, hc⟩ := h4 hne
  exact ⟨e2.symm, b, o, rfl, (World.cell?_of_block (w := W) (g.block b hb (by simp))).trans (hc k (by omega))⟩
/-- The four blanks. -/
theorem gap_more {g : Bs} (h : Gap g) (b : UInt8) (hb : blankB b = true) : Gap (g ++ [b]) := h.app (by unfold Gap; simp [hb])
/-- The six texts of the law. -/
theorem blanks_all (s t g : Bs) (hs : (parseJ s).2 = 0) (ht : (parseJ t).2 = 0) (hg : Gap g) (l1 : s.length ≤ 300) (l2 : t.length ≤ 300) (l3 : g.length ≤ 20) :
    parseJ (g ++ s ++ g) = ((parseJ s).1, 0) ∧ parseJ (g ++ [91] ++ g ++ s ++ g ++ [44] ++ g ++ t ++ g ++ [93] ++ g) = parseJ ([91] ++ s ++ [44] ++ t ++ [93]) ∧ parseJ ([123] ++ g ++ [34, 97, 34] ++ g ++ [58] ++ g ++ s ++ g ++ [125]) = parseJ ([123, 34, 97, 34, 58] ++ s ++ [125]) := by
  have es : parseJ s = ((parseJ s).1, 0) := by rw [← hs]
  have et : parseJ t = ((parseJ t).1, 0) := by rw [← ht]
  refine ⟨gap_parse es hg (by simp; omega), ?_, ?_⟩
  · have e1 : g ++ [91] ++ g ++ s ++ g ++ [44] ++ g ++ t ++ g ++ [93] ++ g = g ++ 91 :: (g ++ s ++ (g ++ 44 :: (g ++ t ++ (g ++ 93 :: g)))) := by simp
    have e2 : [91] ++ s ++ [44] ++ t ++ [93] = [] ++ 91 :: ([] ++ s ++ ([] ++ 44 :: ([] ++ t ++ ([] ++ 93 :: [])))) := by simp
    rw [e1, e2, list_parse es et hg hg hg hg hg hg (by simp; omega), list_parse es et Gap.nil Gap.nil Gap.nil Gap.nil Gap.nil Gap.nil (by simp; omega)]
  · have e1 : [123] ++ g ++ [34, 97, 34] ++ g ++ [58] ++ g ++ s ++ g ++ [125] = 123 :: (g ++ 34 :: 97 :: 34 :: (g ++ 58 :: (g ++ s ++ (g ++ [125])))) := by simp
    have e2 : [123, 34, 97, 34, 58] ++ s ++ [125] = 123 :: ([] ++ 34 :: 97 :: 34 :: ([] ++ 58 :: ([] ++ s ++ ([] ++ [125])))) := by simp
    rw [e1, e2, obj_parse1 es hg hg hg hg (by simp; omega), obj_parse1 es Gap.nil Gap.nil Gap.nil Gap.nil (by simp; omega)]

set_option maxRecDepth 100000 in
set_option maxHeartbeats 64000000 in
theorem blanks_law_any (W : World) (s t : Bs) (a0 : Option Addr) (nb cap : Nat) (z : List Int) (hT : TB W) (hE : ES W) (hs : s.length ≤ 9223372036854775807) (ht : t.length ≤ 9223372036854775807) (hq : Seq W.heap.size W (.slice a0 nb cap) z) (hz : Byt z) :
    Calls Tryz.prog 7 #[.string (Sx s), .string (Sx t), .slice a0 nb cap] W fun r w' => r = .returned (.bool true) ∧ Below W.heap.size W w' := by
  have AW := Lib.hid (awake15_any W hT hE)
  have HT := Lib.hid hT
  have HE := Lib.hid hE
  have HQ := Lib.hid (fun wr g k hk => seq_cells hq wr g k hk)
  have HZ := Lib.hid (fun k => hz.get k)
  have hsz := Sx_size s
  have htz := Sx_size t
  have hnb : nb ≤ 9223372036854775807 := by
    obtain ⟨ao, c, hv, h1, h2, h3, h4⟩ := hq
    injection hv with e1 e2 e3
    have := mxl
    omega
  clear hT hE hq hz
  by_cases c1 : 300 < s.length ∨ 300 < t.length ∨ 20 < nb
  · have k1 : (300 : Int) < (s.length : Int) ∨ ¬ (300 : Int) < (s.length : Int) ∧ (300 : Int) < (t.length : Int) ∨ ¬ (300 : Int) < (s.length : Int) ∧ ¬ (300 : Int) < (t.length : Int) ∧ (20 : Int) < (nb : Int) := by omega
    clear c1
    generalize s.length = n at *
    generalize t.length = m at *
    generalize Sx s = SS at *
    generalize Sx t = TT at *
    rcases k1 with k1 | ⟨k0, k1⟩ | ⟨k0, k2, k1⟩
    all_goals
      go_enter Tryz.func7, Tryz.ntmps7
      go_wp2_with (go_at_call 14; ((with_reducible refine AW.out.mono ?_); rintro r w1 ⟨rfl, hg⟩); have D1 := Lib.hid hg; clear hg)
      go_ret
      exact ⟨rfl, gbelow D1.out⟩
  · have k1 : ¬ (300 : Int) < (s.length : Int) := by omega
    have k2 : ¬ (300 : Int) < (t.length : Int) := by omega
    have k3 : ¬ (20 : Int) < (nb : Int) := by omega
    have n20 : nb ≤ 20 := by omega
    have N300 : Hid (s.length ≤ 300 ∧ t.length ≤ 300) := Lib.hid (by omega)
    have PA := Lib.hid (fun w (h : ES w) => parse_vb s w h)
    have PT := Lib.hid (fun w (h : ES w) => parse_vb t w h)
    clear c1 hs ht hnb
    go_enter Tryz.func7, Tryz.ntmps7
    go_wp2_with (go_at_call 14; ((with_reducible refine AW.out.mono ?_); rintro r w1 ⟨rfl, hg⟩); have D1 := Lib.hid hg; clear hg)
    go_loopw [8, 9] (fun vg vi wr => ∃ (k : Nat) (g : Bs), k ≤ nb ∧ vi = .int .i64 k ∧ vg = .string (Sx g) ∧ g.length = k ∧ Hid (Gap g ∧ Gr W wr)) (fun _ vi _ => nb - (intOf vi).toNat)
    case atStart => exact ⟨0, [], by omega, rfl, rfl, rfl, Lib.hid ⟨rfl, D1.out⟩⟩
    case round =>
      obtain ⟨k, g, hk, rfl, rfl, hgl, hh⟩ := hrel
      have hgz := Sx_size g
      by_cases hlt : k < nb
      · obtain ⟨hzl, b, o, rfl, hc⟩ := HQ.out wr hh.out.2 k hlt
        obtain ⟨hb0, hb1⟩ := HZ.out k
        generalize z.getD k 0 = y at *
        have hki : (k : Int) < (nb : Int) := by omega
        have ha := and3 y
        have hy : y % 4 = 0 ∨ y % 4 = 1 ∨ y % 4 = 2 ∨ y % 4 = 3 := by omega
        have HGL := Lib.hid hgl
        rw [hgl] at hgz
        clear hgl
        rcases hy with hy | hy | hy | hy
        all_goals rw [hy] at ha
        all_goals clear hy

        · have f := Sx_app g [32]
          have hsx : (Sx [32]).size = 1 := rfl
          have hsl : (⟨#[32, 9, 10, 13]⟩ : ByteArray).extract 0 1 = Sx [32] := by decide
          go_wp2_with fail
          go_quiet (fail)
          go_wp2
          go_roundw
          case rel => exact ⟨k + 1, g ++ [32], by omega, by go_num, rfl, by rw [List.length_append, HGL.out]; rfl, Lib.hid ⟨gap_more hh.out.1 32 (by decide), by first | exact hh.out.2 | exact gtrans hh.out.2 (gdrewN _ _)⟩⟩
          case measure => simp [intOf] <;> omega
        · have f := Sx_app g [9]
          have hsx : (Sx [9]).size = 1 := rfl
          have hsl : (⟨#[32, 9, 10, 13]⟩ : ByteArray).extract 1 2 = Sx [9] := by decide
          go_wp2_with fail
          go_quiet (fail)
          go_wp2
          go_roundw
          case rel => exact ⟨k + 1, g ++ [9], by omega, by go_num, rfl, by rw [List.length_append, HGL.out]; rfl, Lib.hid ⟨gap_more hh.out.1 9 (by decide), by first | exact hh.out.2 | exact gtrans hh.out.2 (gdrewN _ _)⟩⟩
          case measure => simp [intOf] <;> omega
        · have f := Sx_app g [10]
          have hsx : (Sx [10]).size = 1 := rfl
          have hsl : (⟨#[32, 9, 10, 13]⟩ : ByteArray).extract 2 3 = Sx [10] := by decide
          go_wp2_with fail
          go_quiet (fail)
          go_wp2
          go_roundw
          case rel => exact ⟨k + 1, g ++ [10], by omega, by go_num, rfl, by rw [List.length_append, HGL.out]; rfl, Lib.hid ⟨gap_more hh.out.1 10 (by decide), by first | exact hh.out.2 | exact gtrans hh.out.2 (gdrewN _ _)⟩⟩
          case measure => simp [intOf] <;> omega
        · have f := Sx_app g [13]
          have hsx : (Sx [13]).size = 1 := rfl
          have hsl : (⟨#[32, 9, 10, 13]⟩ : ByteArray).extract 3 4 = Sx [13] := by decide
          go_wp2_with fail
          go_quiet (fail)
          go_wp2
          go_roundw
          case rel => exact ⟨k + 1, g ++ [13], by omega, by go_num, rfl, by rw [List.length_append, HGL.out]; rfl, Lib.hid ⟨gap_more hh.out.1 13 (by decide), by first | exact hh.out.2 | exact gtrans hh.out.2 (gdrewN _ _)⟩⟩
          case measure => simp [intOf] <;> omega
      · obtain rfl : k = nb := by omega
        have l1 := N300.out.1
        have l2 := N300.out.2
        have hgap := hh.out.1
        have D1 := Lib.hid hh.out.2
        by_cases c2 : (parseJ s).2 ≠ 0 ∨ (parseJ t).2 ≠ 0
        · generalize s.length = n at *
          generalize t.length = m at *
          generalize Sx s = SS at *
          generalize Sx t = TT at *
          generalize (parseJ s).1 = A at *
          generalize (parseJ t).1 = B at *
          generalize (parseJ s).2 = ea at *
          generalize (parseJ t).2 = eb at *
          have k4 : (ea != 0) = true ∨ (ea != 0) = false ∧ (eb != 0) = true := by
            by_cases h : ea = 0
            · rcases c2 with c2 | c2
              · exact absurd h c2
              · exact .inr ⟨by simpa using h, by simpa using c2⟩
            · exact .inl (by simpa using h)
          clear c2 hgap l1 l2 hgl hgz
          rcases k4 with k4 | ⟨k4, k5⟩
          all_goals
            go_wp2_with (first
              | (go_at_call 15; ((with_reducible refine (PA.out _ (HE.out.gr D1.out)).mono ?_); rintro r w2 ⟨ka, ia, da, ga, xa, ta, aa6, na6, ca6, aa7, na7, ca7, rfl, hv, hg⟩); have D2 := Lib.hid (gtrans D1.out hg); have V_a := Lib.hid hv; clear hg hv)
              | (go_at_call 15; ((with_reducible refine (PT.out _ (HE.out.gr D2.out)).mono ?_); rintro r w3 ⟨kt, it, dt, gt, xt, tt, at6, nt6, ct6, at7, nt7, ct7, rfl, hv, hg⟩); have D3 := Lib.hid (gtrans D2.out hg); have V_t := Lib.hid hv; clear hg hv))
            go_ret
            exact ⟨rfl, gbelow D3.out⟩
        · have z1 : (parseJ s).2 = 0 := Classical.byContradiction fun h => c2 (.inl h)
          have z2 : (parseJ t).2 = 0 := Classical.byContradiction fun h => c2 (.inr h)
          obtain ⟨q1, q2, q3⟩ := blanks_all s t g z1 z2 hgap l1 l2 (by omega)
          have ra := parse_right s
          have la := parseJ_len s
          have PB := Lib.hid (fun w (h : ES w) => parse_vb (g ++ s ++ g) w h)
          have PC := Lib.hid (fun w (h : ES w) => parse_vb ([91] ++ s ++ [44] ++ t ++ [93]) w h)
          have PD := Lib.hid (fun w (h : ES w) => parse_vb (g ++ [91] ++ g ++ s ++ g ++ [44] ++ g ++ t ++ g ++ [93] ++ g) w h)
          have PM := Lib.hid (fun w (h : ES w) => parse_vb ([123, 34, 97, 34, 58] ++ s ++ [125]) w h)
          have PN := Lib.hid (fun w (h : ES w) => parse_vb ([123] ++ g ++ [34, 97, 34] ++ g ++ [58] ++ g ++ s ++ g ++ [125]) w h)
          rw [q1] at PB
          rw [q2] at PD
          rw [q3] at PN
          rw [z1] at PA
          rw [z2] at PT
          have rc := parse_right ([91] ++ s ++ [44] ++ t ++ [93])
          have lc := parseJ_len ([91] ++ s ++ [44] ++ t ++ [93])
          have rm := parse_right ([123, 34, 97, 34, 58] ++ s ++ [125])
          have lm := parseJ_len ([123, 34, 97, 34, 58] ++ s ++ [125])
          clear q1 q2 q3 z1 z2 c2 hgap
          generalize (parseJ s).1 = A at *
          generalize (parseJ t).1 = B at *
          generalize (parseJ ([91] ++ s ++ [44] ++ t ++ [93])).1 = JC at *
          generalize (parseJ ([91] ++ s ++ [44] ++ t ++ [93])).2 = eC at *
          generalize (parseJ ([123, 34, 97, 34, 58] ++ s ++ [125])).1 = JM at *
          generalize (parseJ ([123, 34, 97, 34, 58] ++ s ++ [125])).2 = eM at *
          have hB1 : Sx g ++ Sx s = Sx (g ++ s) := Sx_app _ _
          have lB1 : (Sx (g ++ s)).size = g.length + s.length := by rw [Sx_size]; simp only [List.length_append, List.length_cons, List.length_nil]
          have hB2 : Sx (g ++ s) ++ Sx g = Sx (g ++ s ++ g) := Sx_app _ _
          have lB2 : (Sx (g ++ s ++ g)).size = g.length + s.length + g.length := by rw [Sx_size]; simp only [List.length_append, List.length_cons, List.length_nil]
          have hC1 : (⟨#[91]⟩ : ByteArray) ++ Sx s = Sx ([91] ++ s) := Sx_app _ _
          have lC1 : (Sx ([91] ++ s)).size = 1 + s.length := by rw [Sx_size]; simp only [List.length_append, List.length_cons, List.length_nil]
          have hC2 : Sx ([91] ++ s) ++ (⟨#[44]⟩ : ByteArray) = Sx ([91] ++ s ++ [44]) := Sx_app _ _
          have lC2 : (Sx ([91] ++ s ++ [44])).size = 1 + s.length + 1 := by rw [Sx_size]; simp only [List.length_append, List.length_cons, List.length_nil]
          have hC3 : Sx ([91] ++ s ++ [44]) ++ Sx t = Sx ([91] ++ s ++ [44] ++ t) := Sx_app _ _
          have lC3 : (Sx ([91] ++ s ++ [44] ++ t)).size = 1 + s.length + 1 + t.length := by rw [Sx_size]; simp only [List.length_append, List.length_cons, List.length_nil]
          have hC4 : Sx ([91] ++ s ++ [44] ++ t) ++ (⟨#[93]⟩ : ByteArray) = Sx ([91] ++ s ++ [44] ++ t ++ [93]) := Sx_app _ _
          have lC4 : (Sx ([91] ++ s ++ [44] ++ t ++ [93])).size = 1 + s.length + 1 + t.length + 1 := by rw [Sx_size]; simp only [List.length_append, List.length_cons, List.length_nil]
          have hD1 : Sx g ++ (⟨#[91]⟩ : ByteArray) = Sx (g ++ [91]) := Sx_app _ _
          have lD1 : (Sx (g ++ [91])).size = g.length + 1 := by rw [Sx_size]; simp only [List.length_append, List.length_cons, List.length_nil]
          have hD2 : Sx (g ++ [91]) ++ Sx g = Sx (g ++ [91] ++ g) := Sx_app _ _
          have lD2 : (Sx (g ++ [91] ++ g)).size = g.length + 1 + g.length := by rw [Sx_size]; simp only [List.length_append, List.length_cons, List.length_nil]
          have hD3 : Sx (g ++ [91] ++ g) ++ Sx s = Sx (g ++ [91] ++ g ++ s) := Sx_app _ _
          have lD3 : (Sx (g ++ [91] ++ g ++ s)).size = g.length + 1 + g.length + s.length := by rw [Sx_size]; simp only [List.length_append, List.length_cons, List.length_nil]
          have hD4 : Sx (g ++ [91] ++ g ++ s) ++ Sx g = Sx (g ++ [91] ++ g ++ s ++ g) := Sx_app _ _
          have lD4 : (Sx (g ++ [91] ++ g ++ s ++ g)).size = g.length + 1 + g.length + s.length + g.length := by rw [Sx_size]; simp only [List.length_append, List.length_cons, List.length_nil]
          have hD5 : Sx (g ++ [91] ++ g ++ s ++ g) ++ (⟨#[44]⟩ : ByteArray) = Sx (g ++ [91] ++ g ++ s ++ g ++ [44]) := Sx_app _ _
          have lD5 : (Sx (g ++ [91] ++ g ++ s ++ g ++ [44])).size = g.length + 1 + g.length + s.length + g.length + 1 := by rw [Sx_size]; simp only [List.length_append, List.length_cons, List.length_nil]
          have hD6 : Sx (g ++ [91] ++ g ++ s ++ g ++ [44]) ++ Sx g = Sx (g ++ [91] ++ g ++ s ++ g ++ [44] ++ g) := Sx_app _ _
          have lD6 : (Sx (g ++ [91] ++ g ++ s ++ g ++ [44] ++ g)).size = g.length + 1 + g.length + s.length + g.length + 1 + g.length := by rw [Sx_size]; simp only [List.length_append, List.length_cons, List.length_nil]
          have hD7 : Sx (g ++ [91] ++ g ++ s ++ g ++ [44] ++ g) ++ Sx t = Sx (g ++ [91] ++ g ++ s ++ g ++ [44] ++ g ++ t) := Sx_app _ _
          have lD7 : (Sx (g ++ [91] ++ g ++ s ++ g ++ [44] ++ g ++ t)).size = g.length + 1 + g.length + s.length + g.length + 1 + g.length + t.length := by rw [Sx_size]; simp only [List.length_append, List.length_cons, List.length_nil]
          have hD8 : Sx (g ++ [91] ++ g ++ s ++ g ++ [44] ++ g ++ t) ++ Sx g = Sx (g ++ [91] ++ g ++ s ++ g ++ [44] ++ g ++ t ++ g) := Sx_app _ _
          have lD8 : (Sx (g ++ [91] ++ g ++ s ++ g ++ [44] ++ g ++ t ++ g)).size = g.length + 1 + g.length + s.length + g.length + 1 + g.length + t.length + g.length := by rw [Sx_size]; simp only [List.length_append, List.length_cons, List.length_nil]
          have hD9 : Sx (g ++ [91] ++ g ++ s ++ g ++ [44] ++ g ++ t ++ g) ++ (⟨#[93]⟩ : ByteArray) = Sx (g ++ [91] ++ g ++ s ++ g ++ [44] ++ g ++ t ++ g ++ [93]) := Sx_app _ _
          have lD9 : (Sx (g ++ [91] ++ g ++ s ++ g ++ [44] ++ g ++ t ++ g ++ [93])).size = g.length + 1 + g.length + s.length + g.length + 1 + g.length + t.length + g.length + 1 := by rw [Sx_size]; simp only [List.length_append, List.length_cons, List.length_nil]
          have hD10 : Sx (g ++ [91] ++ g ++ s ++ g ++ [44] ++ g ++ t ++ g ++ [93]) ++ Sx g = Sx (g ++ [91] ++ g ++ s ++ g ++ [44] ++ g ++ t ++ g ++ [93] ++ g) := Sx_app _ _
          have lD10 : (Sx (g ++ [91] ++ g ++ s ++ g ++ [44] ++ g ++ t ++ g ++ [93] ++ g)).size = g.length + 1 + g.length + s.length + g.length + 1 + g.length + t.length + g.length + 1 + g.length := by rw [Sx_size]; simp only [List.length_append, List.length_cons, List.length_nil]
          have hM1 : (⟨#[123, 34, 97, 34, 58]⟩ : ByteArray) ++ Sx s = Sx ([123, 34, 97, 34, 58] ++ s) := Sx_app _ _
          have lM1 : (Sx ([123, 34, 97, 34, 58] ++ s)).size = 5 + s.length := by rw [Sx_size]; simp only [List.length_append, List.length_cons, List.length_nil]
          have hM2 : Sx ([123, 34, 97, 34, 58] ++ s) ++ (⟨#[125]⟩ : ByteArray) = Sx ([123, 34, 97, 34, 58] ++ s ++ [125]) := Sx_app _ _
          have lM2 : (Sx ([123, 34, 97, 34, 58] ++ s ++ [125])).size = 5 + s.length + 1 := by rw [Sx_size]; simp only [List.length_append, List.length_cons, List.length_nil]
          have hN1 : (⟨#[123]⟩ : ByteArray) ++ Sx g = Sx ([123] ++ g) := Sx_app _ _
          have lN1 : (Sx ([123] ++ g)).size = 1 + g.length := by rw [Sx_size]; simp only [List.length_append, List.length_cons, List.length_nil]
          have hN2 : Sx ([123] ++ g) ++ (⟨#[34, 97, 34]⟩ : ByteArray) = Sx ([123] ++ g ++ [34, 97, 34]) := Sx_app _ _
          have lN2 : (Sx ([123] ++ g ++ [34, 97, 34])).size = 1 + g.length + 3 := by rw [Sx_size]; simp only [List.length_append, List.length_cons, List.length_nil]
          have hN3 : Sx ([123] ++ g ++ [34, 97, 34]) ++ Sx g = Sx ([123] ++ g ++ [34, 97, 34] ++ g) := Sx_app _ _
          have lN3 : (Sx ([123] ++ g ++ [34, 97, 34] ++ g)).size = 1 + g.length + 3 + g.length := by rw [Sx_size]; simp only [List.length_append, List.length_cons, List.length_nil]
          have hN4 : Sx ([123] ++ g ++ [34, 97, 34] ++ g) ++ (⟨#[58]⟩ : ByteArray) = Sx ([123] ++ g ++ [34, 97, 34] ++ g ++ [58]) := Sx_app _ _
          have lN4 : (Sx ([123] ++ g ++ [34, 97, 34] ++ g ++ [58])).size = 1 + g.length + 3 + g.length + 1 := by rw [Sx_size]; simp only [List.length_append, List.length_cons, List.length_nil]
          have hN5 : Sx ([123] ++ g ++ [34, 97, 34] ++ g ++ [58]) ++ Sx g = Sx ([123] ++ g ++ [34, 97, 34] ++ g ++ [58] ++ g) := Sx_app _ _
          have lN5 : (Sx ([123] ++ g ++ [34, 97, 34] ++ g ++ [58] ++ g)).size = 1 + g.length + 3 + g.length + 1 + g.length := by rw [Sx_size]; simp only [List.length_append, List.length_cons, List.length_nil]
          have hN6 : Sx ([123] ++ g ++ [34, 97, 34] ++ g ++ [58] ++ g) ++ Sx s = Sx ([123] ++ g ++ [34, 97, 34] ++ g ++ [58] ++ g ++ s) := Sx_app _ _
          have lN6 : (Sx ([123] ++ g ++ [34, 97, 34] ++ g ++ [58] ++ g ++ s)).size = 1 + g.length + 3 + g.length + 1 + g.length + s.length := by rw [Sx_size]; simp only [List.length_append, List.length_cons, List.length_nil]
          have hN7 : Sx ([123] ++ g ++ [34, 97, 34] ++ g ++ [58] ++ g ++ s) ++ Sx g = Sx ([123] ++ g ++ [34, 97, 34] ++ g ++ [58] ++ g ++ s ++ g) := Sx_app _ _
          have lN7 : (Sx ([123] ++ g ++ [34, 97, 34] ++ g ++ [58] ++ g ++ s ++ g)).size = 1 + g.length + 3 + g.length + 1 + g.length + s.length + g.length := by rw [Sx_size]; simp only [List.length_append, List.length_cons, List.length_nil]
          have hN8 : Sx ([123] ++ g ++ [34, 97, 34] ++ g ++ [58] ++ g ++ s ++ g) ++ (⟨#[125]⟩ : ByteArray) = Sx ([123] ++ g ++ [34, 97, 34] ++ g ++ [58] ++ g ++ s ++ g ++ [125]) := Sx_app _ _
          have lN8 : (Sx ([123] ++ g ++ [34, 97, 34] ++ g ++ [58] ++ g ++ s ++ g ++ [125])).size = 1 + g.length + 3 + g.length + 1 + g.length + s.length + g.length + 1 := by rw [Sx_size]; simp only [List.length_append, List.length_cons, List.length_nil]
          generalize Sx (g ++ s ++ g) = ZB2 at *
          generalize Sx (g ++ s) = ZB1 at *
          generalize Sx ([91] ++ s ++ [44] ++ t ++ [93]) = ZC4 at *
          generalize Sx ([91] ++ s ++ [44] ++ t) = ZC3 at *
          generalize Sx ([91] ++ s ++ [44]) = ZC2 at *
          generalize Sx ([91] ++ s) = ZC1 at *
          generalize Sx (g ++ [91] ++ g ++ s ++ g ++ [44] ++ g ++ t ++ g ++ [93] ++ g) = ZD10 at *
          generalize Sx (g ++ [91] ++ g ++ s ++ g ++ [44] ++ g ++ t ++ g ++ [93]) = ZD9 at *
          generalize Sx (g ++ [91] ++ g ++ s ++ g ++ [44] ++ g ++ t ++ g) = ZD8 at *
          generalize Sx (g ++ [91] ++ g ++ s ++ g ++ [44] ++ g ++ t) = ZD7 at *
          generalize Sx (g ++ [91] ++ g ++ s ++ g ++ [44] ++ g) = ZD6 at *
          generalize Sx (g ++ [91] ++ g ++ s ++ g ++ [44]) = ZD5 at *
          generalize Sx (g ++ [91] ++ g ++ s ++ g) = ZD4 at *
          generalize Sx (g ++ [91] ++ g ++ s) = ZD3 at *
          generalize Sx (g ++ [91] ++ g) = ZD2 at *
          generalize Sx (g ++ [91]) = ZD1 at *
          generalize Sx ([123, 34, 97, 34, 58] ++ s ++ [125]) = ZM2 at *
          generalize Sx ([123, 34, 97, 34, 58] ++ s) = ZM1 at *
          generalize Sx ([123] ++ g ++ [34, 97, 34] ++ g ++ [58] ++ g ++ s ++ g ++ [125]) = ZN8 at *
          generalize Sx ([123] ++ g ++ [34, 97, 34] ++ g ++ [58] ++ g ++ s ++ g) = ZN7 at *
          generalize Sx ([123] ++ g ++ [34, 97, 34] ++ g ++ [58] ++ g ++ s) = ZN6 at *
          generalize Sx ([123] ++ g ++ [34, 97, 34] ++ g ++ [58] ++ g) = ZN5 at *
          generalize Sx ([123] ++ g ++ [34, 97, 34] ++ g ++ [58]) = ZN4 at *
          generalize Sx ([123] ++ g ++ [34, 97, 34] ++ g) = ZN3 at *
          generalize Sx ([123] ++ g ++ [34, 97, 34]) = ZN2 at *
          generalize Sx ([123] ++ g) = ZN1 at *
          generalize s.length = n at *
          generalize t.length = m at *
          generalize g.length = gl at *
          subst hgl
          clear hlt hk
          generalize Sx s = SS at *
          generalize Sx t = TT at *
          generalize Sx g = GG at *
          have TA : Hid (∀ u q w, VB A u q w → TB w → Calls Tryz.prog 17 #[.agg u] w fun r w' => r = .returned (.string (Sx (textJ A))) ∧ Gr w w') := Lib.hid (fun u q w h k => text_vb h k ra (by omega))
          have TC : Hid (∀ u q w, VB JC u q w → TB w → Calls Tryz.prog 17 #[.agg u] w fun r w' => r = .returned (.string (Sx (textJ JC))) ∧ Gr w w') := Lib.hid (fun u q w h k => text_vb h k rc (by omega))
          have TM : Hid (∀ u q w, VB JM u q w → TB w → Calls Tryz.prog 17 #[.agg u] w fun r w' => r = .returned (.string (Sx (textJ JM))) ∧ Gr w w') := Lib.hid (fun u q w h k => text_vb h k rm (by omega))
          generalize Sx (textJ A) = XA at *
          generalize Sx (textJ JC) = XC at *
          generalize Sx (textJ JM) = XM at *
          clear ra rc rm la lc lm l1 l2
          have hn1 : (eC != eC) = false := by simp
          have hn2 : (eM != eM) = false := by simp
          have LLB := Lib.hid (And.intro trivial ((And.intro lB1  lB2)))
          clear lB1 lB2
          have LLC := Lib.hid (And.intro trivial ((And.intro lC1  (And.intro lC2  (And.intro lC3  lC4)))))
          clear lC1 lC2 lC3 lC4
          have LLD := Lib.hid (And.intro trivial ((And.intro lD1  (And.intro lD2  (And.intro lD3  (And.intro lD4  (And.intro lD5  (And.intro lD6  (And.intro lD7  (And.intro lD8  (And.intro lD9  lD10)))))))))))
          clear lD1 lD2 lD3 lD4 lD5 lD6 lD7 lD8 lD9 lD10
          have LLM := Lib.hid (And.intro trivial ((And.intro lM1  lM2)))
          clear lM1 lM2
          have LLN := Lib.hid (And.intro trivial ((And.intro lN1  (And.intro lN2  (And.intro lN3  (And.intro lN4  (And.intro lN5  (And.intro lN6  (And.intro lN7  lN8)))))))))
          clear lN1 lN2 lN3 lN4 lN5 lN6 lN7 lN8
          go_upto_region 15 with (first
            | (go_at_call 15; ((with_reducible refine (PA.out _ (HE.out.gr D1.out)).mono ?_); rintro r w2 ⟨ka, ia, da, ga, xa, ta, aa6, na6, ca6, aa7, na7, ca7, rfl, hv, hg⟩); have D2 := Lib.hid (gtrans D1.out hg); have V_a := Lib.hid hv; clear hg hv)
            | (go_at_call 15; ((with_reducible refine (PT.out _ (HE.out.gr D2.out)).mono ?_); rintro r w3 ⟨kt, it, dt, gt, xt, tt, at6, nt6, ct6, at7, nt7, ct7, rfl, hv, hg⟩); have D3 := Lib.hid (gtrans D2.out hg); have V_a' := Lib.hid (V_a.out.gr hg); clear V_a; have V_a := V_a'; clear V_a'; have V_t := Lib.hid hv; clear hg hv))
          obtain ⟨-, lB1, lB2⟩ := LLB.out
          go_upto_region 16 with (go_at_call 15; ((with_reducible refine (PB.out _ (HE.out.gr D3.out)).mono ?_); rintro r w4 ⟨kb, ib, db, gb, xb, tb, ab6, nb6, cb6, ab7, nb7, cb7, rfl, hv, hg⟩); have D4 := Lib.hid (gtrans D3.out hg); have V_a' := Lib.hid (V_a.out.gr hg); clear V_a; have V_a := V_a'; clear V_a'; have V_b := Lib.hid hv; clear hg hv)
          clear lB1 lB2
          obtain ⟨-, lC1, lC2, lC3, lC4⟩ := LLC.out
          go_upto_region 17 with (go_at_call 15; ((with_reducible refine (PC.out _ (HE.out.gr D4.out)).mono ?_); rintro r w5 ⟨kc, ic, dc, gc, xc, tc, ac6, nc6, cc6, ac7, nc7, cc7, rfl, hv, hg⟩); have D5 := Lib.hid (gtrans D4.out hg); have V_a' := Lib.hid (V_a.out.gr hg); clear V_a; have V_a := V_a'; clear V_a'; have V_b' := Lib.hid (V_b.out.gr hg); clear V_b; have V_b := V_b'; clear V_b'; have V_c := Lib.hid hv; clear hg hv)
          clear lC1 lC2 lC3 lC4
          obtain ⟨-, lD1, lD2, lD3, lD4, lD5, lD6, lD7, lD8, lD9, lD10⟩ := LLD.out
          go_upto_region 18 with (go_at_call 15; ((with_reducible refine (PD.out _ (HE.out.gr D5.out)).mono ?_); rintro r w6 ⟨kd, id, dd, gd, xd, td, ad6, nd6, cd6, ad7, nd7, cd7, rfl, hv, hg⟩); have D6 := Lib.hid (gtrans D5.out hg); have V_a' := Lib.hid (V_a.out.gr hg); clear V_a; have V_a := V_a'; clear V_a'; have V_b' := Lib.hid (V_b.out.gr hg); clear V_b; have V_b := V_b'; clear V_b'; have V_c' := Lib.hid (V_c.out.gr hg); clear V_c; have V_c := V_c'; clear V_c'; have V_d := Lib.hid hv; clear hg hv)
          clear lD1 lD2 lD3 lD4 lD5 lD6 lD7 lD8 lD9 lD10
          obtain ⟨-, lM1, lM2⟩ := LLM.out
          go_upto_region 19 with (go_at_call 15; ((with_reducible refine (PM.out _ (HE.out.gr D6.out)).mono ?_); rintro r w7 ⟨km, im, dm, gm, xm, tm, am6, nm6, cm6, am7, nm7, cm7, rfl, hv, hg⟩); have D7 := Lib.hid (gtrans D6.out hg); have V_a' := Lib.hid (V_a.out.gr hg); clear V_a; have V_a := V_a'; clear V_a'; have V_b' := Lib.hid (V_b.out.gr hg); clear V_b; have V_b := V_b'; clear V_b'; have V_c' := Lib.hid (V_c.out.gr hg); clear V_c; have V_c := V_c'; clear V_c'; have V_d' := Lib.hid (V_d.out.gr hg); clear V_d; have V_d := V_d'; clear V_d'; have V_m := Lib.hid hv; clear hg hv)
          clear lM1 lM2
          obtain ⟨-, lN1, lN2, lN3, lN4, lN5, lN6, lN7, lN8⟩ := LLN.out
          go_wp2_with (go_at_call 15; ((with_reducible refine (PN.out _ (HE.out.gr D7.out)).mono ?_); rintro r w8 ⟨kq, iq, dq, gq, xq, tq, aq6, nq6, cq6, aq7, nq7, cq7, rfl, hv, hg⟩); have D8 := Lib.hid (gtrans D7.out hg); have V_a' := Lib.hid (V_a.out.gr hg); clear V_a; have V_a := V_a'; clear V_a'; have V_b' := Lib.hid (V_b.out.gr hg); clear V_b; have V_b := V_b'; clear V_b'; have V_c' := Lib.hid (V_c.out.gr hg); clear V_c; have V_c := V_c'; clear V_c'; have V_d' := Lib.hid (V_d.out.gr hg); clear V_d; have V_d := V_d'; clear V_d'; have V_m' := Lib.hid (V_m.out.gr hg); clear V_m; have V_m := V_m'; clear V_m'; have V_q := Lib.hid hv; clear hg hv)
          clear lN1 lN2 lN3 lN4 lN5 lN6 lN7 lN8
          generalize w8.alloc (.cells (V8 kq iq dq gq xq tq aq6 nq6 cq6 aq7 nq7 cq7) 28) = W8 at *
          have HC := Lib.hid (fun V (G : Gr W8 V) => And.intro (V_a.out.gr G).c (And.intro (V_b.out.gr G).c (And.intro (V_c.out.gr G).c (And.intro (V_d.out.gr G).c (And.intro (V_m.out.gr G).c (V_q.out.gr G).c)))))
          go_region_held3 (fun v => (v.cell? ⟨w2.heap.size, 0, none⟩ = some (.int .i64 ka) ∧ v.cell? ⟨w2.heap.size, 1, none⟩ = some (.bool ia) ∧ v.cell? ⟨w2.heap.size, 2, none⟩ = some (.bool da) ∧ v.cell? ⟨w2.heap.size, 3, none⟩ = some (.string ga) ∧ v.cell? ⟨w2.heap.size, 4, none⟩ = some (.int .i64 xa) ∧ v.cell? ⟨w2.heap.size, 5, none⟩ = some (.string ta) ∧ v.cell? ⟨w2.heap.size, 6, none⟩ = some (.slice aa6 na6 ca6) ∧ v.cell? ⟨w2.heap.size, 7, none⟩ = some (.slice aa7 na7 ca7)) ∧ (v.cell? ⟨w4.heap.size, 0, none⟩ = some (.int .i64 kb) ∧ v.cell? ⟨w4.heap.size, 1, none⟩ = some (.bool ib) ∧ v.cell? ⟨w4.heap.size, 2, none⟩ = some (.bool db) ∧ v.cell? ⟨w4.heap.size, 3, none⟩ = some (.string gb) ∧ v.cell? ⟨w4.heap.size, 4, none⟩ = some (.int .i64 xb) ∧ v.cell? ⟨w4.heap.size, 5, none⟩ = some (.string tb) ∧ v.cell? ⟨w4.heap.size, 6, none⟩ = some (.slice ab6 nb6 cb6) ∧ v.cell? ⟨w4.heap.size, 7, none⟩ = some (.slice ab7 nb7 cb7)) ∧ (v.cell? ⟨w5.heap.size, 0, none⟩ = some (.int .i64 kc) ∧ v.cell? ⟨w5.heap.size, 1, none⟩ = some (.bool ic) ∧ v.cell? ⟨w5.heap.size, 2, none⟩ = some (.bool dc) ∧ v.cell? ⟨w5.heap.size, 3, none⟩ = some (.string gc) ∧ v.cell? ⟨w5.heap.size, 4, none⟩ = some (.int .i64 xc) ∧ v.cell? ⟨w5.heap.size, 5, none⟩ = some (.string tc) ∧ v.cell? ⟨w5.heap.size, 6, none⟩ = some (.slice ac6 nc6 cc6) ∧ v.cell? ⟨w5.heap.size, 7, none⟩ = some (.slice ac7 nc7 cc7)) ∧ (v.cell? ⟨w6.heap.size, 0, none⟩ = some (.int .i64 kd) ∧ v.cell? ⟨w6.heap.size, 1, none⟩ = some (.bool id) ∧ v.cell? ⟨w6.heap.size, 2, none⟩ = some (.bool dd) ∧ v.cell? ⟨w6.heap.size, 3, none⟩ = some (.string gd) ∧ v.cell? ⟨w6.heap.size, 4, none⟩ = some (.int .i64 xd) ∧ v.cell? ⟨w6.heap.size, 5, none⟩ = some (.string td) ∧ v.cell? ⟨w6.heap.size, 6, none⟩ = some (.slice ad6 nd6 cd6) ∧ v.cell? ⟨w6.heap.size, 7, none⟩ = some (.slice ad7 nd7 cd7)) ∧ (v.cell? ⟨w7.heap.size, 0, none⟩ = some (.int .i64 km) ∧ v.cell? ⟨w7.heap.size, 1, none⟩ = some (.bool im) ∧ v.cell? ⟨w7.heap.size, 2, none⟩ = some (.bool dm) ∧ v.cell? ⟨w7.heap.size, 3, none⟩ = some (.string gm) ∧ v.cell? ⟨w7.heap.size, 4, none⟩ = some (.int .i64 xm) ∧ v.cell? ⟨w7.heap.size, 5, none⟩ = some (.string tm) ∧ v.cell? ⟨w7.heap.size, 6, none⟩ = some (.slice am6 nm6 cm6) ∧ v.cell? ⟨w7.heap.size, 7, none⟩ = some (.slice am7 nm7 cm7)) ∧ v.cell? ⟨w8.heap.size, 0, none⟩ = some (.int .i64 kq) ∧ v.cell? ⟨w8.heap.size, 1, none⟩ = some (.bool iq) ∧ v.cell? ⟨w8.heap.size, 2, none⟩ = some (.bool dq) ∧ v.cell? ⟨w8.heap.size, 3, none⟩ = some (.string gq) ∧ v.cell? ⟨w8.heap.size, 4, none⟩ = some (.int .i64 xq) ∧ v.cell? ⟨w8.heap.size, 5, none⟩ = some (.string tq) ∧ v.cell? ⟨w8.heap.size, 6, none⟩ = some (.slice aq6 nq6 cq6) ∧ v.cell? ⟨w8.heap.size, 7, none⟩ = some (.slice aq7 nq7 cq7))
            (first | (exact HC.out _ (gdrew W8)) | (exact HC.out _ (grefl W8 none)) | (exact HC.out _ G1.out) | (exact HC.out _ G2.out) | (exact HC.out _ G3.out) | (exact HC.out _ G4.out) | (exact HC.out _ G5.out) | (exact HC.out _ G6.out))
            (first
              | (go_at_call 17; ((with_reducible refine (TA.out _ _ W8.drew (V_a.out.gr (gdrew W8)) (HT.out.gr (gtrans D8.out (gdrew W8)))).mono ?_); rintro r u1 ⟨rfl, hg⟩); have G1 := Lib.hid (gtrans (gdrew W8) hg); clear hg)
              | (go_at_call 17; ((with_reducible refine (TA.out _ _ u1 (V_b.out.gr G1.out) (HT.out.gr (gtrans D8.out G1.out))).mono ?_); rintro r u2 ⟨rfl, hg⟩); have G2 := Lib.hid (gtrans G1.out hg); clear hg)
              | (go_at_call 17; ((with_reducible refine (TC.out _ _ u2 (V_c.out.gr G2.out) (HT.out.gr (gtrans D8.out G2.out))).mono ?_); rintro r u3 ⟨rfl, hg⟩); have G3 := Lib.hid (gtrans G2.out hg); clear hg)
              | (go_at_call 17; ((with_reducible refine (TC.out _ _ u3 (V_d.out.gr G3.out) (HT.out.gr (gtrans D8.out G3.out))).mono ?_); rintro r u4 ⟨rfl, hg⟩); have G4 := Lib.hid (gtrans G3.out hg); clear hg)
              | (go_at_call 17; ((with_reducible refine (TM.out _ _ u4 (V_m.out.gr G4.out) (HT.out.gr (gtrans D8.out G4.out))).mono ?_); rintro r u5 ⟨rfl, hg⟩); have G5 := Lib.hid (gtrans G4.out hg); clear hg)
              | (go_at_call 17; ((with_reducible refine (TM.out _ _ u5 (V_q.out.gr G5.out) (HT.out.gr (gtrans D8.out G5.out))).mono ?_); rintro r u6 ⟨rfl, hg⟩); have G6 := Lib.hid (gtrans G5.out hg); clear hg))
          go_wp2
          go_ret
          exact ⟨rfl, gbelow (gtrans D8.out G6.out)⟩

end Go.Proofs.YticnfmfmgdfdeaaGreatDoor
