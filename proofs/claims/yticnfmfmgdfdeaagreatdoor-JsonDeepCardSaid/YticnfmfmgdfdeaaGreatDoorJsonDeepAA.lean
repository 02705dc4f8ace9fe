/-
  JsonDeep: arrays within one another go as deep as may be; a text as long as may be; the law's walk. Own work.
-/
import Derived.Test.YticnfmfmgdfdeaaGreatDoorJsnBE
import Derived.Test.YticnfmfmgdfdeaaGreatDoorJsnAP
import Derived.Deep.RegionHeld3
import Derived.Deep.DeepCutAuto
import Derived.Deep.CutRange
import Derived.Deep.OwnRows

set_option linter.unusedVariables false
set_option linter.unusedSimpArgs false
namespace Go.Proofs.YticnfmfmgdfdeaaGreatDoor
open Go.RowKit

theorem dp_wrap (k : Nat) : [91] ++ dp k [] ++ [93] = dp (k + 1) [] := by
  unfold dp
  rw [List.replicate_succ, List.replicate_succ']
  simp
theorem deep_k (k : Nat) (h : k < 30) : (parseJ (dp k [])).2 = if k = 0 then 11 else if k ≤ 16 then 0 else 35 := by
  cases k with
  | zero => exact none_parse
  | succ k =>
    rw [deep_parse k (by omega)]
    by_cases h : k < 16
    · rw [if_pos h, if_neg (show ¬ k + 1 = 0 by omega), if_pos (show k + 1 ≤ 16 by omega)]
    · rw [if_neg h, if_neg (show ¬ k + 1 = 0 by omega), if_neg (show ¬ k + 1 ≤ 16 by omega)]
/-- A row of bytes of the call's own. -/
def RB (q : Nat) (l : Bs) (w : World) : Prop := w.heap[q]? = some (.cells (l.map fun b => Value.int .u8 (b.toNat : Int)).toArray 5 (0, 0))
theorem RB.set {q : Nat} {l : Bs} {w : World} (h : RB q l w) (k : Nat) (b : UInt8) : RB q (l.set k b) (w.setCell ⟨q, k, none⟩ (.int .u8 (b.toNat : Int))) := by
  have := set_cell h k (.int .u8 (b.toNat : Int))
  unfold RB
  rw [this]
  congr 2
  apply Array.ext'
  simp [List.map_set]
theorem RB.cell {q : Nat} {l : Bs} {w : World} (h : RB q l w) (k : Nat) (hk : k < l.length) : w.cell? ⟨q, k, none⟩ = some (.int .u8 (l[k].toNat : Int)) ∧ w.frozen? ⟨q, k, none⟩ = false := by
  unfold RB at h
  constructor
  · simp [World.cell?, h, hk]
  · simp [World.frozen?, h]
theorem RB.conv {q : Nat} {l : Bs} {w : World} (h : RB q l w) (n : Nat) (hn : n = l.length) : (convert 48 9 (.slice (some ⟨q, 0, none⟩) n n)).run Tryz.prog w = .ok (.string (Sx l)) w := by
  subst hn
  exact run_convert_bytes_back (P := Tryz.prog) w 48 9 5 ⟨q, 0, none⟩ l.length l Tryz.underlying48 Tryz.underlying5 Tryz.underlying9 (fun j hj => by
    have := (h.cell j hj).1
    have e : (if j = 0 then (⟨q, 0, none⟩ : Addr) else ⟨q, j, none⟩) = ⟨q, j, none⟩ := by split; subst j; rfl; rfl
    simpa [Addr.add, e] using this)
theorem made_rb (w : World) (m : Nat) (hm : m ≤ 100000) : (Instr.makeSlice 48 (.int .i64 (m : Int)) (.int .i64 (m : Int))).run Tryz.prog w = .ok (.slice (some ⟨w.heap.size, 0, none⟩) m m) (w.alloc (.cells ((List.replicate m (0 : UInt8)).map fun b => Value.int .u8 (b.toNat : Int)).toArray 5)) := by
  have h := run_make_row' (P := Tryz.prog) 48 5 (.int .u8 0) 1 Tryz.underlying48 infoU8 rfl .i64 .i64 m (by omega) (by omega) w
  have e : madeCells #[Value.int .u8 0] m = ((List.replicate m (0 : UInt8)).map fun b => Value.int .u8 (b.toNat : Int)).toArray := by
    apply Array.toList_inj.1
    rw [toList_madeCells_one]
    simp
  rw [h, e]
theorem blanks_at {l : Bs} {m : Nat} (hl : l.length = m + 1) (h : l.take (m + 1) = List.replicate (m + 1) 32) : l.set m 49 = List.replicate m 32 ++ [49] := by
  have e : l = List.replicate (m + 1) 32 := by rw [← h, List.take_of_length_le (by omega)]
  rw [e, List.replicate_succ', List.set_append_right _ _ (by simp)]
  simp

set_option maxRecDepth 100000 in
set_option maxHeartbeats 32000000 in
theorem deep_any (W : World) (a b : Int) (hT : TB W) (hE : ES W) (ha0 : 0 ≤ a) (ha1 : a ≤ 255) (hb0 : 0 ≤ b) (hb1 : b ≤ 65535) :
    Calls Tryz.prog 6 #[.int .u8 a, .int .u16 b] W fun r w' => r = .returned (.bool true) ∧ Below W.heap.size W w' := by
  have AW := Lib.hid (awake15_any W hT hE)
  have HE := Lib.hid hE
  obtain ⟨k, hk⟩ : ∃ k : Nat, a % 30 = (k : Int) := ⟨(a % 30).toNat, by omega⟩
  have hk30 : k < 30 := by omega
  obtain ⟨p, hp⟩ : ∃ p : Nat, b % 12 = (p : Int) := ⟨(b % 12).toNat, by omega⟩
  have hp12 : p < 12 := by omega
  obtain ⟨m, hm⟩ : ∃ m : Nat, (4090 : Int) + (p : Int) = (m : Int) + 1 := ⟨4089 + p, by omega⟩
  have hm1 : 4089 ≤ m := by omega
  have hm2 : m ≤ 4100 := by omega
  have PA := Lib.hid (fun w (h : ES w) => parse_vb (dp k []) w h)
  have PB := Lib.hid (fun w (h : ES w) => parse_vb (List.replicate m 32 ++ [49]) w h)
  obtain ⟨e1, hE1⟩ : ∃ e1, (parseJ (dp k [])).2 = e1 := ⟨_, rfl⟩
  obtain ⟨e2, hE2⟩ : ∃ e2, (parseJ (List.replicate m 32 ++ [49])).2 = e2 := ⟨_, rfl⟩
  have HE1 : Hid (k = 0 ∧ e1 = 11 ∨ (1 ≤ k ∧ k ≤ 16) ∧ e1 = 0 ∨ 16 < k ∧ e1 = 35) := Lib.hid (by
    rw [← hE1, deep_k k hk30]
    by_cases h0 : k = 0
    · exact .inl ⟨h0, if_pos h0⟩
    · by_cases h1 : k ≤ 16
      · exact .inr (.inl ⟨⟨by omega, h1⟩, by rw [if_neg h0, if_pos h1]⟩)
      · exact .inr (.inr ⟨by omega, by rw [if_neg h0, if_neg h1]⟩))
  have HE2 : Hid (m + 1 ≤ 4096 ∧ e2 = 0 ∨ 4096 < m + 1 ∧ e2 = 13) := Lib.hid (by
    rw [← hE2, blanks_parse]
    by_cases h0 : m + 1 ≤ 4096
    · exact .inl ⟨h0, if_pos h0⟩
    · exact .inr ⟨by omega, if_neg h0⟩)
  rw [hE1] at PA
  rw [hE2] at PB
  clear hE1 hE2
  have MK := made_rb (m := m + 1) (hm := by omega)
  rw [show ((m + 1 : Nat) : Int) = (m : Int) + 1 by omega] at MK
  generalize (parseJ (dp k [])).1 = A at *
  generalize (parseJ (List.replicate m 32 ++ [49])).1 = B at *
  have HK := Lib.hid hk30
  clear hT hE
  go_enter Tryz.func6, Tryz.ntmps6
  go_wp2_with (go_at_call 14; ((with_reducible refine AW.out.mono ?_); rintro r w1 ⟨rfl, hg⟩); have D1 := Lib.hid hg; clear hg)
  go_loopw [7, 8] (fun vs vi wr => ∃ j : Nat, j ≤ k ∧ vi = .int .i64 j ∧ vs = .string (Sx (dp j [])) ∧ w1 = wr) (fun _ vi _ => k - (intOf vi).toNat)
  case atStart => exact ⟨0, by omega, rfl, rfl, rfl⟩
  case round =>
    obtain ⟨j, hj, rfl, rfl, rfl⟩ := hrel
    have hjs : (Sx (dp j [])).size = 2 * j := by rw [Sx_size]; unfold dp; simp; omega
    by_cases hlt : j < k
    · have hji : (j : Int) < (k : Int) := by omega
      have f1 : (⟨#[91]⟩ : ByteArray) ++ Sx (dp j []) = Sx ([91] ++ dp j []) := Sx_app [91] _
      have f2 : Sx ([91] ++ dp j []) ++ (⟨#[93]⟩ : ByteArray) = Sx (dp (j + 1) []) := (Sx_app _ [93]).trans (by rw [dp_wrap])
      have g1 : (Sx ([91] ++ dp j [])).size = 2 * j + 1 := by rw [Sx_size] at hjs ⊢; simp; omega
      generalize hS : Sx ([91] ++ dp j []) = S1 at *
      generalize hS2 : Sx (dp (j + 1) []) = S2 at *
      have H2 := Lib.hid hS2
      clear hS hS2
      go_wp2
      go_round
      case rel => exact ⟨j + 1, by omega, by go_num, by first | rw [H2.out] | trivial, by first | rfl | trivial⟩
      case measure => simp [intOf]; omega
    · obtain rfl : j = k := by omega
      generalize hSk : Sx (dp j []) = SK at *
      clear hSk
      go_wp2_with (go_at_call 15; ((with_reducible refine (PA.out _ (HE.out.gr D1.out)).mono ?_); rintro r w2 ⟨ka, ia, da, ga, xa, ta, aa6, na6, ca6, aa7, na7, ca7, rfl, hv, hg⟩); have D2 := Lib.hid (gtrans D1.out hg); clear hg hv)
      have hrow : RB (w2.heap.size + 1) (List.replicate (m + 1) 0) ((w2.alloc (.cells (V8 ka ia da ga xa ta aa6 na6 ca6 aa7 na7 ca7) 28)).alloc (.cells (Array.replicate (m + 1) (.int .u8 0)) 5)) := by
        have := two_lit1 w2 (.cells (V8 ka ia da ga xa ta aa6 na6 ca6 aa7 na7 ca7) 28) (.cells (Array.replicate (m + 1) (.int .u8 0)) 5)
        unfold RB
        rw [this]
        simp
      have HROW := Lib.hid hrow
      have D3 := Lib.hid (gtrans D2.out (World.grownBy_alloc _ (.cells (Array.replicate (m + 1) (.int .u8 0)) 5) none))
      have hqs : W.heap.size ≤ w2.heap.size + 1 := by
        have := D2.out.size
        simp at this
        omega
      have HQS := Lib.hid hqs
      clear hrow hqs MK
      generalize (w2.alloc (.cells (V8 ka ia da ga xa ta aa6 na6 ca6 aa7 na7 ca7) 28)).alloc (.cells (Array.replicate (m + 1) (.int .u8 0)) 5) = W3 at *
      generalize w2.heap.size + 1 = q at *
      go_loopw [13] (fun vi wr => ∃ (i : Nat) (l : Bs), i ≤ m + 1 ∧ vi = .int .i64 i ∧ l.length = m + 1 ∧ Hid (l.take i = List.replicate i 32 ∧ RB q l wr ∧ Gr W wr)) (fun vi _ => m + 1 - (intOf vi).toNat)
      case atStart => exact ⟨0, List.replicate (m + 1) 0, by omega, rfl, by simp, Lib.hid ⟨rfl, HROW.out, D3.out⟩⟩
      case round =>
        obtain ⟨i, l, hi, rfl, hl, hh⟩ := hrel
        by_cases hlt2 : i < m + 1
        · have hii : (i : Int) < (m : Int) + 1 := by omega
          obtain ⟨c0, c1⟩ := hh.out.2.1.cell i (by omega)
          have HLL := Lib.hid hl
          have HN : Hid ((l.set i 32).take (i + 1) = List.replicate (i + 1) 32 ∧ RB q (l.set i 32) (wr.setCell ⟨q, i, none⟩ (.int .u8 32)) ∧ Gr W (wr.setCell ⟨q, i, none⟩ (.int .u8 32))) := Lib.hid ⟨by
            rw [List.take_add_one, List.take_set_of_le (Nat.le_refl i), hh.out.1, List.getElem?_set_self (by omega), List.replicate_succ']
            rfl, hh.out.2.1.set i 32, gnew hh.out.2.2 (gset _ ⟨q, i, none⟩ _) HQS.out⟩
          generalize l[i]'(by omega) = ov at *
          clear hl
          go_wp2
          go_round
          case rel => exact ⟨i + 1, l.set i 32, by omega, by go_num, by rw [List.length_set]; exact HLL.out, HN⟩
          case measure => simp [intOf]; omega
        · obtain rfl : i = m + 1 := by omega
          obtain ⟨c0, c1⟩ := hh.out.2.1.cell m (by omega)
          have hr : RB q (l.set m 49) (wr.setCell ⟨q, m, none⟩ (.int .u8 49)) := hh.out.2.1.set m 49
          have cv := hr.conv (m + 1) (by rw [List.length_set]; exact hl.symm)
          rw [blanks_at hl hh.out.1] at cv
          have D4 : Hid (Gr W (wr.setCell ⟨q, m, none⟩ (.int .u8 49))) := Lib.hid (gnew hh.out.2.2 (gset _ ⟨q, m, none⟩ _) HQS.out)
          generalize Sx (List.replicate m 32 ++ [49]) = TX at *
          generalize l[m]'(by omega) = ov at *
          clear hl hr
          go_upto_region 19 with (go_at_call 15; ((with_reducible refine (PB.out _ (HE.out.gr D4.out)).mono ?_); rintro r w5 ⟨kb, ib, db, gb, xb, tb, ab6, nb6, cb6, ab7, nb7, cb7, rfl, hv, hg⟩); have D5 := Lib.hid (gtrans D4.out hg); clear hg hv)
          have key : (((m : Int) + 1 ≤ 4096 ∧ ¬ 4096 < (m : Int) + 1 ∧ e2 = 0) ∨ (¬ (m : Int) + 1 ≤ 4096 ∧ 4096 < (m : Int) + 1 ∧ e2 = 13)) := by have := HE2.out; omega
          have key2 : (j = 0 ∧ e1 = 11) ∨ ((j : Int) ≤ 16 ∧ ((j : Int) == 0) = false ∧ e1 = 0) ∨ (¬ (j : Int) ≤ 16 ∧ ((j : Int) == 0) = false ∧ e1 = 35) := by
            rcases HE1.out with ⟨h1, h2⟩ | ⟨h1, h2⟩ | ⟨h1, h2⟩
            · exact .inl ⟨h1, h2⟩
            · exact .inr (.inl ⟨by omega, beq_eq_false_iff_ne.2 (by omega), h2⟩)
            · exact .inr (.inr ⟨by omega, beq_eq_false_iff_ne.2 (by omega), h2⟩)
          rcases key with ⟨k1, k2, rfl⟩ | ⟨k1, k2, rfl⟩
          all_goals
            rcases key2 with ⟨rfl, rfl⟩ | ⟨k3, k4, rfl⟩ | ⟨k3, k4, rfl⟩
          all_goals
            go_wp2
            go_ret
            exact ⟨rfl, gbelow D5.out⟩

end Go.Proofs.YticnfmfmgdfdeaaGreatDoor
