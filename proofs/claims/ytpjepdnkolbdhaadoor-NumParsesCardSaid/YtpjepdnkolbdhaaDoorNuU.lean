/-
  The document's own number out of the code's; whether it may be. Own work; printed by tools/mknuu.py.
-/
import Derived.Test.YtpjepdnkolbdhaaDoorNuS
set_option linter.unusedVariables false
set_option linter.unusedSimpArgs false
namespace Go.Proofs.YtpjepdnkolbdhaaDoor
open Go.RowKit

theorem results_N14 {fn : Func} {p : Tmp} (h : fn.results = #[.cell p 28]) (tmps : Array Value) (W : World) (q : Nat) (cs : Array Value) (hp : tmps.getD p undef = .pointer (some ⟨q, 0, none⟩))
    (hq : W.heap[q]? = some (.cells cs 28 (0, 0))) (hs : cs.size = 3) : (results fn tmps).run Tryd.prog W = .ok (.agg cs) W := by
  have hld := run_loadVar_row (P := Tryd.prog) W q 28 28 cs (0, 0) _ hq Tryd.underlying28 rfl (by rw [hs]; kernel_rfl)
  have hp' : tmps[p]?.getD undef = .pointer (some ⟨q, 0, none⟩) := by simpa using hp
  simp [results, h, hp', asAddr, hld]
/-- A cell like the document's number. -/
def RB (q : Nat) (d : Bool) (A : Bs) (e : Int) (w : World) : Prop := w.heap[q]? = some (.cells #[.bool d, .string (Sx A), .int .i64 e] 28 (0, 0))
theorem RB.gr {q : Nat} {d : Bool} {A : Bs} {e : Int} {w w' : World} (h : RB q d A e w) (g : Gr w w') : RB q d A e w' := (g.block q (lt_of_block h) (by simp)).trans h
theorem RB_alloc (w : World) (d : Bool) (A : Bs) (e : Int) : RB w.heap.size d A e (w.alloc (.cells #[.bool d, .string (Sx A), .int .i64 e] 28)) := heap_alloc_new _ _

set_option maxHeartbeats 2000000 in
theorem of_any (d : Bool) (A : Bs) (e : Int) (w : World) :
    Calls Tryd.prog 13 #[.agg #[.bool d, .string (Sx A), .int .i64 e]] w fun r w' => r = .returned (.agg #[.bool d, .string (Sx A), .int .i64 e]) ∧ w.grownBy w' none := by
  have HG := Lib.hid (gtrans (World.grownBy_alloc w (.cells #[.bool d, .string (Sx A), .int .i64 e] 24) none) (World.grownBy_alloc _ (.cells #[.bool d, .string (Sx A), .int .i64 e] 28) none))
  have k0 : (w.alloc (.cells #[.bool d, .string (Sx A), .int .i64 e] 24)).heap[w.heap.size]? = some (.cells #[.bool d, .string (Sx A), .int .i64 e] 24 (0, 0)) := heap_alloc_new _ _
  have k1 : ((w.alloc (.cells #[.bool d, .string (Sx A), .int .i64 e] 24)).alloc (.cells #[.bool false, .string ⟨#[]⟩, .int .i64 0] 28)).heap[w.heap.size + 1]? = some (.cells #[.bool false, .string ⟨#[]⟩, .int .i64 0] 28 (0, 0)) := by
    have := heap_alloc_new (w.alloc (.cells #[.bool d, .string (Sx A), .int .i64 e] 24)) (.cells #[.bool false, .string ⟨#[]⟩, .int .i64 0] 28)
    simpa using this
  have k2 : ((w.alloc (.cells #[.bool d, .string (Sx A), .int .i64 e] 24)).alloc (.cells #[.bool false, .string ⟨#[]⟩, .int .i64 0] 28)).heap[w.heap.size]? = some (.cells #[.bool d, .string (Sx A), .int .i64 e] 24 (0, 0)) := (((World.grownBy_alloc _ (.cells #[.bool false, .string ⟨#[]⟩, .int .i64 0] 28) none)).block _ (lt_of_block k0) (by simp)).trans k0
  obtain ⟨c0, c1, c2, -, -, -⟩ := cells3 k2
  obtain ⟨d0, d1, d2, d3, d4, d5⟩ := cells3 k1
  have K1 := Lib.hid (show ((w.alloc (.cells #[.bool d, .string (Sx A), .int .i64 e] 24)).alloc (.cells #[.bool d, .string (Sx A), .int .i64 e] 28)).heap[w.heap.size + 1]? = some (.cells #[.bool d, .string (Sx A), .int .i64 e] 28 (0, 0)) by
    have := heap_alloc_new (w.alloc (.cells #[.bool d, .string (Sx A), .int .i64 e] 24)) (.cells #[.bool d, .string (Sx A), .int .i64 e] 28)
    simpa using this)
  clear k0 k1 k2
  generalize Sx A = S at *
  go_enter Tryd.func13, Tryd.ntmps13
  go_wp2
  refine bodyPost_ret (results_N14 rfl _ _ (w.heap.size + 1) _ rfl K1.out rfl) rfl ⟨rfl, HG.out⟩

set_option maxHeartbeats 4000000 in
theorem refRight_any (d : Bool) (A : Bs) (e : Int) (w : World) (hl : A.length ≤ 1000000) :
    Calls Tryd.prog 17 #[.agg #[.bool d, .string (Sx A), .int .i64 e]] w fun r w' => r = .returned (.bool (rightM ⟨d, A, e⟩)) ∧ w.grownBy w' none := by
  rw [← refR_eq]
  have HG := Lib.hid (World.grownBy_alloc w (.cells #[.bool d, .string (Sx A), .int .i64 e] 28) none)
  obtain ⟨c0, c1, c2, -, -, -⟩ := cells3 (RB_alloc w d A e)
  have e1 := Sx_toList A
  have hsz := Sx_size A
  by_cases hA : A = []
  · have hR : refR ⟨d, A, e⟩ = (!d && (e == 0)) := by rw [refR, dif_pos hA, Bool.eq_iff_iff]; simp
    rw [hR]
    subst hA
    clear hR
    cases d
    · go_enter Tryd.func17, Tryd.ntmps17
      go_wp2
      go_ret
      exact ⟨ret_bool (by simp), HG.out⟩
    · go_enter Tryd.func17, Tryd.ntmps17
      go_wp2
      go_ret
      exact ⟨ret_bool (by simp), HG.out⟩
  · have hE : A.isEmpty = false := by cases A with
      | nil => exact absurd rfl hA
      | cons _ _ => rfl
    have hn : 0 < A.length := List.length_pos_iff.2 hA
    have hx0 : 0 < (Sx A).size := by rw [hsz]; exact hn
    obtain ⟨m, hm⟩ : ∃ m : Nat, A.length = m + 1 := ⟨A.length - 1, by omega⟩
    have hxm : m < (Sx A).size := by rw [hsz]; omega
    have q1 : (A.length : Int) - 1 = (m : Int) := by omega
    have hmn : (m : Int) < (A.length : Int) := by omega
    have hn0 : (0 : Int) < (A.length : Int) := by omega
    have hR : refR ⟨d, A, e⟩ = (A.all dig && (decide ((A.length : Int) ≤ 40) && ((((Sx A)[0]'hx0).toNat : Int) != 48) && ((((Sx A)[m]'hxm).toNat : Int) != 48) && decide (-1000 < e) && decide (e < 1000))) := by
      rw [refR, dif_neg hA]
      have h0 : ((((Sx A)[0]'hx0).toNat : Int) != 48) = decide (A.head hA ≠ 48) := by
        rw [Sx_at, ← List.head_eq_getElem hA, Bool.eq_iff_iff, bne_iff_ne, decide_eq_true_eq, ne_eq, ne_eq, ← UInt8.toNat_inj]
        constructor <;> intro h g <;> apply h
        · rw [g]; rfl
        · have : (A.head hA).toNat = 48 := by omega
          rw [this]; rfl
      have h1 : ((((Sx A)[m]'hxm).toNat : Int) != 48) = decide (A.getLast hA ≠ 48) := by
        have hg : A.getLast hA = A[m]'(by omega) := by rw [List.getLast_eq_getElem]; congr 1; omega
        rw [Sx_at, hg, Bool.eq_iff_iff, bne_iff_ne, decide_eq_true_eq, ne_eq, ne_eq, ← UInt8.toNat_inj]
        constructor <;> intro h g <;> apply h
        · rw [g]; rfl
        · have : (A[m]'(by omega)).toNat = 48 := by omega
          rw [this]; rfl
      have h2 : decide ((A.length : Int) ≤ 40) = decide (A.length ≤ 40) := decide_eq_decide.2 (by omega)
      rw [h0, h1, h2]
    have HR := Lib.hid hR
    have HJ := Lib.hid (fun (j : Nat) (h : j < A.length) => show dz A j = dig (A[j]'h) by rw [dz_nat]; exact digAt_in h)
    clear hR hm hA hn
    generalize hb0 : decide ((A.length : Int) ≤ 40) = b0 at *
    generalize hb1 : ((((Sx A)[0]'hx0).toNat : Int) != 48) = b1 at *
    generalize hb2 : ((((Sx A)[m]'hxm).toNat : Int) != 48) = b2 at *
    generalize hb3 : decide (-1000 < e) = b3 at *
    generalize hb4 : decide (e < 1000) = b4 at *
    go_enter Tryd.func17, Tryd.ntmps17
    go_wp2
    go_loop [3] (fun i => ∃ j : Nat, j ≤ A.length ∧ i = .int .i64 j ∧ (A.take j).all dig = true) (fun i => A.length - (intOf i).toNat)
    case atStart => exact ⟨0, by omega, rfl, rfl⟩
    case round =>
      obtain ⟨j, hj, rfl, hall⟩ := hrel
      have HALL := Lib.hid hall
      clear hall
      by_cases hlt : j < A.length
      · have hd := HJ.out j hlt
        have hji : (j : Int) < (A.length : Int) := by omega
        cases hg : dig (A[j]'hlt) with
        | true =>
          rw [hg] at hd
          have HT := Lib.hid (show (A.take (j + 1)).all dig = true by
            rw [List.take_succ_eq_append_getElem hlt, List.all_append, HALL.out]; simp [hg])
          clear hg
          go_wp2_with (go_at_call 26; ((with_reducible refine (digit_z A _ _ (by omega) (by omega) (by omega)).mono ?_); rintro r w1 ⟨rfl, rfl⟩))
          go_round
          case rel => exact ⟨j + 1, by omega, by go_num, HT.out⟩
          case measure => simp [intOf]; omega
        | false =>
          rw [hg] at hd
          have HF := Lib.hid (show A.all dig = false by
            cases h : A.all dig with
            | false => rfl
            | true => exact absurd (List.all_eq_true.1 h _ (List.getElem_mem hlt)) (by rw [hg]; decide))
          clear hg
          go_wp2_with (go_at_call 26; ((with_reducible refine (digit_z A _ _ (by omega) (by omega) (by omega)).mono ?_); rintro r w1 ⟨rfl, rfl⟩))
          go_ret
          exact ⟨ret_bool (by rw [HR.out, HF.out]; rfl), HG.out⟩
      · have hji : ¬ (j : Int) < (A.length : Int) := by omega
        have HF := Lib.hid (show A.all dig = true by have := HALL.out; rw [List.take_of_length_le (by omega)] at this; exact this)
        cases b0
        · go_wp2
          go_ret
          exact ⟨ret_bool (by rw [HR.out, HF.out]; rfl), HG.out⟩
        · cases b1
          · go_wp2
            go_ret
            exact ⟨ret_bool (by rw [HR.out, HF.out]; rfl), HG.out⟩
          · cases b2
            · go_wp2
              go_ret
              exact ⟨ret_bool (by rw [HR.out, HF.out]; rfl), HG.out⟩
            · cases b3
              · go_wp2
                go_ret
                exact ⟨ret_bool (by rw [HR.out, HF.out]; rfl), HG.out⟩
              · go_wp2
                go_ret
                exact ⟨ret_bool (by rw [HR.out, HF.out]; simp), HG.out⟩

end Go.Proofs.YtpjepdnkolbdhaaDoor
