/-
  Layer 10: whether pairs rise; slices.Clone of pairs. Own work.
-/
import Derived.Test.YtpgpilalhbdidaaFrB
namespace Go.Proofs.Ytpgpilalhbdidaa
open Go.RowKit

open Classical in
noncomputable def riseB (ps : List Pr) : Bool := decide (Rise ps)
theorem riseB_iff {ps : List Pr} : riseB ps = true ↔ Rise ps := by unfold riseB; simp
theorem riseB_no {ps : List Pr} : riseB ps = false ↔ ¬ Rise ps := by unfold riseB; simp

set_option maxHeartbeats 2000000 in
theorem rise_any (w : World) (R : Nat → Prop) (ao : Option Addr) (n c0 : Nat) (ps : List Pr) (h : PrSq R w (.slice ao n c0) ps) :
    Calls Try.prog 40 #[.slice ao n c0] w fun r w' => r = .returned (.bool (riseB ps)) ∧ w.grownBy w' none := by
  obtain ⟨hn, hm, hm'⟩ := h.len
  have HN := Lib.hid hn
  have Hs := Lib.hid h
  have hm2 : (n : Int) ≤ 9223372036854775807 := by have h9 : maxLen ≤ 9223372036854775807 := by decide
                                                   omega
  clear hn hm hm' h
  go_enter Try.func40, Try.ntmps40
  go_wp2
  go_loopw [6] (fun i wr => ∃ k : Nat, k ≤ n ∧ i = .int .i64 (k : Int) ∧ RiseTo ps k ∧ w.grownBy wr none) (fun i _ => n - (intOf i).toNat)
  case atStart => exact ⟨0, Nat.zero_le _, rfl, riseTo_one _ _ (by omega), grefl _ _⟩
  case round =>
    obtain ⟨k, hk, rfl, hr, hg⟩ := hrel
    have Hr := Lib.hid hr
    have HG := Lib.hid hg
    clear hr hg
    by_cases hlt : k < n
    · have hki : (k : Int) < (n : Int) := by omega
      have hkl : k < ps.length := by rw [← HN.out]; exact hlt
      by_cases hk0 : k = 0
      · subst hk0
        go_wp2_with fail
        go_quiet (fail)
        have HG2 := Lib.hid (gtrans HG.out (gdrewN wr nq))
        generalize wr.drewN nq = W at HG2 ⊢
        go_wp2
        go_roundw
        case rel => exact ⟨0 + 1, by omega, by go_num, riseTo_one _ _ (by omega), HG2.out⟩
        case measure => simp [intOf] <;> omega
      · obtain ⟨q, hq⟩ : ∃ q, q + 1 = k := ⟨k - 1, by omega⟩
        obtain ⟨p1, hp1⟩ : ∃ p, ps[q]? = some p := ⟨ps[q]'(by omega), List.getElem?_eq_getElem (by omega)⟩
        obtain ⟨p2, hp2⟩ : ∃ p, ps[k]? = some p := ⟨ps[k]'hkl, List.getElem?_eq_getElem hkl⟩
        obtain ⟨b, o, rfl, _, c0', c1'⟩ := (Hs.out.grown HG.out).at q p1 hp1
        obtain ⟨b', o', hbo, _, d0, d1⟩ := (Hs.out.grown HG.out).at k p2 hp2
        cases hbo
        have hqi : (q : Int) < (n : Int) := by omega
        have hq0 : (0 : Int) ≤ (q : Int) := by omega
        have hk1 : (0 : Int) < (k : Int) := by omega
        have hk2 : (0 : Int) ≤ (k : Int) := by omega
        have hk3 : 0 < k := by omega
        have HL := Lib.hid (show ps.getD (k - 1) (0, 0) = p1 ∧ ps.getD k (0, 0) = p2 by simp [List.getD_eq_getElem?_getD, ← hq, hp1]; simp [hq, hp2])
        obtain ⟨c, hc⟩ : ∃ c, c = cmpP p1 p2 := ⟨_, rfl⟩
        have HC := Lib.hid hc
        have K := Lib.hid (fun W : World => compareP_any W p1 p2)
        obtain ⟨a1, a2⟩ := p1
        obtain ⟨e1, e2⟩ := p2
        simp only at c0' c1' d0 d1 K
        have HB := Lib.hid (show c < 0 ↔ lexP (a1, a2) (e1, e2) by rw [hc]; exact cmpP_neg _ _)
        have hw1 : IntKind.i64.wrap ((k : Int) - 1) = (q : Int) := by rw [show (k : Int) - 1 = (q : Int) by omega]; exact IntWalk.i64_in _ (by omega)
        have HQ := Lib.hid hq
        clear hp1 hp2 hc hk0 hq
        by_cases hx : c < 0
        · have hd : decide (0 ≤ c) = false := by simp; omega
          have HX := Lib.hid (HB.out.1 hx)
          clear hx
          go_wp2_with fail
          go_region_held3 (fun W => W.cell? ⟨b, o + q * 2, none⟩ = some (.int .u64 (a1 : Int)) ∧ W.cell? ⟨b, o + q * 2 + 1, none⟩ = some (.int .u32 (a2 : Int)) ∧ W.cell? ⟨b, o + k * 2, none⟩ = some (.int .u64 (e1 : Int)) ∧ W.cell? ⟨b, o + k * 2 + 1, none⟩ = some (.int .u32 (e2 : Int))) (go_keep)
            ((go_at_call 55; (with_reducible refine (K.out _).mono ?_); rw [← HC.out]; rintro r w1 ⟨rfl, hg1⟩; have HG1 := Lib.hid hg1; have m0 := hg1.cell c0' (by simp); have m1 := hg1.cell c1' (by simp); have m2 := hg1.cell d0 (by simp); have m3 := hg1.cell d1 (by simp); clear hg1))
          all_goals
            go_wp2
            go_roundw
            case rel => exact ⟨k + 1, by omega, by go_num, riseTo_succ Hr.out (fun _ => by rw [HL.out.1, HL.out.2]; exact HX.out), gtrans HG.out (gtrans (gdrew _) HG1.out)⟩
            case measure => simp [intOf] <;> omega
        · have hd : decide (0 ≤ c) = true := by simp; omega
          have HF := Lib.hid (show riseB ps = false from riseB_no.2 (fun hr => hx (HB.out.2 (by have := hr (k - 1) (by omega); rw [show k - 1 + 1 = k by omega, HL.out.1, HL.out.2] at this; exact this))))
          clear hx
          go_wp2_with fail
          go_region_held3 (fun W => W.cell? ⟨b, o + q * 2, none⟩ = some (.int .u64 (a1 : Int)) ∧ W.cell? ⟨b, o + q * 2 + 1, none⟩ = some (.int .u32 (a2 : Int)) ∧ W.cell? ⟨b, o + k * 2, none⟩ = some (.int .u64 (e1 : Int)) ∧ W.cell? ⟨b, o + k * 2 + 1, none⟩ = some (.int .u32 (e2 : Int))) (go_keep)
            ((go_at_call 55; (with_reducible refine (K.out _).mono ?_); rw [← HC.out]; rintro r w1 ⟨rfl, hg1⟩; have HG1 := Lib.hid hg1; have m0 := hg1.cell c0' (by simp); have m1 := hg1.cell c1' (by simp); have m2 := hg1.cell d0 (by simp); have m3 := hg1.cell d1 (by simp); clear hg1))
          all_goals
            go_wp2
            go_ret
            exact ⟨by rw [HF.out]; rfl, gtrans HG.out (gtrans (gdrew _) HG1.out)⟩
    · have hki : ¬ (k : Int) < (n : Int) := by omega
      have HF := Lib.hid (show riseB ps = true from riseB_iff.2 (by have h := Hr.out; rw [show k = ps.length by rw [← HN.out]; omega] at h; exact h))
      go_wp2
      go_ret
      exact ⟨by rw [HF.out]; rfl, HG.out⟩

set_option maxHeartbeats 400000 in
theorem zclone_any (w : World) (R : Nat → Prop) (ao : Option Addr) (n c : Nat) (ps : List Pr) (hs : PrSq R w (.slice ao n c) ps) (hl : ps.length * 16 ≤ 140737488355328) :
    Calls Try.prog 39 #[.slice ao n c] w fun r w' => ∃ ao c, r = .returned (.slice ao n c) ∧ POwn 65 w.heap.size w' (.slice ao n c) ps ∧ w.grownBy w' none := by
  obtain ⟨i0, hi, hz0, hz1, hz2⟩ := info_parts infoPair
  obtain ⟨hn, hnc, hc9⟩ := hs.len
  have HO := Lib.hid hs.ok
  have HS := Lib.hid hs
  obtain ⟨ao', c', hv, _, _, _, h3, h4⟩ := hs
  cases hv
  cases ao with
  | none =>
    have hc0 := h3 rfl
    have hn0 : ps = [] := List.eq_nil_of_length_eq_zero (by omega)
    subst hn0
    subst hc0
    clear h3 h4
    have heq : ∀ w : World, (binOp .eql 31 (.slice none 0 0) (.slice none 0 0)).run Try.prog w = .ok (.bool true) w := fun w => Lib.run_eql_slice_nil w _ _ _ _ _ _ _ Try.underlying31
    go_enter Try.func39, Try.ntmps39
    go_wp2
    go_ret
    exact ⟨_, _, rfl, POwn.nil _ _ _, grefl _ _⟩
  | some a =>
    have hcell : ∀ j u, (ps.flatMap prc)[j]? = some u → w.cell? (a.add j) = some u := by
      intro j u hu
      have hne : ps ≠ [] := by rintro rfl; simp at hu
      obtain ⟨b, o, ha, _⟩ := h4 hne
      cases ha
      exact HS.out.news j u hu
    clear h3 h4
    obtain ⟨m, hm⟩ : ∃ m, m = ps.length := ⟨_, rfl⟩
    rw [← hm] at hl hnc ⊢
    have HM := Lib.hid hm
    have HC := Lib.hid hcell
    have hcm : c ≤ maxLen := hc9
    clear hm hcell hn hc9
    have heq : ∀ w : World, (binOp .eql 31 (.slice (some a) m c) (.slice none 0 0)).run Try.prog w = .ok (.bool false) w := fun w => Lib.run_eql_slice_nil w _ _ _ _ _ _ _ Try.underlying31
    go_enter Try.func39, Try.ntmps39
    go_wp2_with (at_builtin; refine wpList_append_own _ rfl _ _ 31 rfl w.heap.size 65 i0 (.agg #[.int .u64 0, .int .u32 0]) 2 16 Try.underlying31 hi hz0 hz1 hz2 rfl (by decide) _ _ _ rfl (World.ownsRow_lit w #[] 0 (Nat.le_refl _) (by simp [maxLen]) rfl) a m c (ps.flatMap prc) rfl ?c0 ?c1 (prc_one ps) ?c3 ?c4 ?c5 ?_)
    case c0 => rw [prc_len, HM.out]
    case c1 =>
      intro j u hu
      exact cell_alloc (HC.out j u hu)
    case c3 => unfold maxLen; omega
    case c4 => omega
    case c5 => simp
    · intro v' w1 hown hgrow _
      obtain ⟨ao, c', rfl⟩ := own_shape hown
      have HW := Lib.hid hown
      have HGW := Lib.hid hgrow
      clear hown hgrow
      go_wp2
      go_ret
      refine ⟨_, _, rfl, ⟨?_, HO.out⟩, gof (((Below.refl w.heap.size w).alloc (Nat.le_refl _) _).grown HGW.out (by simp) (fun k h => by simp [Value.ownBlock] at h; omega)) _⟩
      have h := HW.out
      rw [← HM.out]
      simpa using h

end Go.Proofs.Ytpgpilalhbdidaa
