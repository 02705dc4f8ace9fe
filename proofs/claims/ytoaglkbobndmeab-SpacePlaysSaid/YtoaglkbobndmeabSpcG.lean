/-
  Layer 8: New. Own work.
-/
import Derived.Test.YtoaglkbobndmeabSpcF
namespace Go.Proofs.Ytoaglkbobndmeab
open Go.RowKit Go.Maps

set_option maxHeartbeats 1000000 in
theorem new_bad (w : World) (R : Nat → Prop) (ao : Option Addr) (n c en lim old : Nat) (l : List Rc) (hs : RSq R w (.slice ao n c) l) (he : en < 4294967296) (hl : lim < 4294967296) (hno : ¬ (2 ≤ en ∧ en ≤ lim ∧ lim ≤ 65536 ∧ right l en = true)) :
    Calls Try.prog 8 #[.int .u32 (en : Int), .int .u32 (lim : Int), .slice ao n c, .int .u64 (old : Int)] w fun r w' => r = .returned (.tuple #[.pointer none, .int .i64 1]) ∧ w.grownBy w' none := by
  by_cases c1 : en < 2
  · have i1 : (en : Int) < 2 := by omega
    go_enter Try.func8, Try.ntmps8
    go_wp2
    go_ret2
    exact ⟨rfl, grefl _ _⟩
  have i1 : ¬ (en : Int) < 2 := by omega
  by_cases c2 : lim < en
  · have i2 : (lim : Int) < (en : Int) := by omega
    go_enter Try.func8, Try.ntmps8
    go_wp2
    go_ret2
    exact ⟨rfl, grefl _ _⟩
  have i2 : ¬ (lim : Int) < (en : Int) := by omega
  by_cases c3 : 65536 < lim
  · have i3 : (65536 : Int) < (lim : Int) := by omega
    go_enter Try.func8, Try.ntmps8
    go_wp2
    go_ret2
    exact ⟨rfl, grefl _ _⟩
  have i3 : ¬ (65536 : Int) < (lim : Int) := by omega
  have hr : right l en = false := by
    cases h : right l en with
    | false => rfl
    | true => exact absurd ⟨by omega, by omega, by omega, h⟩ hno
  have HR := Lib.hid hr
  have Hs := Lib.hid hs
  clear hno hr hs c1 c2 c3
  go_enter Try.func8, Try.ntmps8
  go_wp2_with (first
    | (go_at_call 10; (with_reducible refine (right_any w R ao n c l en Hs.out he).mono ?_); rw [HR.out]; rintro r w1 ⟨rfl, hg⟩; have HG := Lib.hid hg; clear hg))
  go_ret2
  exact ⟨rfl, HG.out⟩

theorem lit_cells (w : World) (a b : Value) : (w.alloc (.cells #[a, b] 65)).heap[w.heap.size]? = some (.cells #[a, b] 65 (0, 0)) := heap_alloc_new _ _
/-- What New's loop leaves: the space, its waiting records in memory of its own. -/
structure NwAt (B : Nat) (w : World) (en lim old : Nat) (l : List Rc) (wv : Value) (es : List (Value × Rc)) : Prop where
  fiv : Fiv B w en lim 2 (insAll (allOf (oldRecs old l)) []) [] [] (insAll (allOf (newRecs old l)) []) wv
  rows : RcOwns (B + 5) w wv es
  same : es.map (·.2) = newRecs old l

def NewR (w : World) (en lim old : Nat) (l : List Rc) (r : Ending) (w' : World) : Prop := ∃ B wv es, r = .returned (.tuple #[.pointer (some ⟨B + 4, 0, none⟩), .int .i64 0]) ∧ w.heap.size ≤ B ∧ NwAt B w' en lim old l wv es ∧ w.grownBy w' none

set_option maxHeartbeats 4000000 in
theorem new_good (w : World) (R : Nat → Prop) (ao : Option Addr) (n c en lim old : Nat) (l : List Rc) (hs : RSq R w (.slice ao n c) l) (h1 : 2 ≤ en) (h2 : en ≤ lim) (h3 : lim ≤ 65536) (h4 : right l en = true) (ho : old < 18446744073709551616) :
    Calls Try.prog 8 #[.int .u32 (en : Int), .int .u32 (lim : Int), .slice ao n c, .int .u64 (old : Int)] w fun r w' => NewR w en lim old l r w' := by
  have i1 : ¬ (en : Int) < 2 := by omega
  have i2 : ¬ (lim : Int) < (en : Int) := by omega
  have i3 : ¬ (65536 : Int) < (lim : Int) := by omega
  have he : en < 4294967296 := by omega
  obtain ⟨j0, hj, hw0, hw1, hw2⟩ := info_parts infoRec
  have hok := right_iff.1 h4
  have hll := okr_len hok
  have hlen : l.length ≤ 65536 := by omega
  have HOK := Lib.hid hok
  have HR := Lib.hid h4
  have Hs := Lib.hid hs
  obtain ⟨hn, hm⟩ := hs.len
  have hN := Lib.hid hn
  have hn6 : n ≤ 65536 := by omega
  have hn7 : (n : Int) ≤ 65536 := by omega
  have hmm := @run_makeMap Try.prog
  clear hs h4 hok hn hm hll hlen
  go_enter Try.func8, Try.ntmps8
  go_wp2_with (first
    | (go_at_call 10; (with_reducible refine (right_any w R ao n c l en Hs.out he).mono ?_); rw [HR.out]; rintro r w1 ⟨rfl, hg⟩; have HG := Lib.hid hg; clear hg))
  have hF : Fiv w1.heap.size (((((w1.alloc (.map #[] 0)).alloc (.map #[] 0)).alloc (.map #[] 0)).alloc (.map #[] 0)).alloc (.cells #[.int .u32 (en : Int), .int .u32 (lim : Int), .int .u32 2, .map (some w1.heap.size), .map (some (w1.heap.size + 1)), .map (some (w1.heap.size + 1 + 1)), .map (some (w1.heap.size + 1 + 1 + 1)), .slice none 0 0] 71)) en lim 2 [] [] [] [] (.slice none 0 0) := fiv_made w1 en lim
  have hG : w.grownBy (((((w1.alloc (.map #[] 0)).alloc (.map #[] 0)).alloc (.map #[] 0)).alloc (.map #[] 0)).alloc (.cells #[.int .u32 (en : Int), .int .u32 (lim : Int), .int .u32 2, .map (some w1.heap.size), .map (some (w1.heap.size + 1)), .map (some (w1.heap.size + 1 + 1)), .map (some (w1.heap.size + 1 + 1 + 1)), .slice none 0 0] 71)) none := gtrans (gtrans (gtrans (gtrans (gtrans HG.out (World.grownBy_alloc _ _ _)) (World.grownBy_alloc _ _ _)) (World.grownBy_alloc _ _ _)) (World.grownBy_alloc _ _ _)) (World.grownBy_alloc _ _ _)
  generalize (((((w1.alloc (.map #[] 0)).alloc (.map #[] 0)).alloc (.map #[] 0)).alloc (.map #[] 0)).alloc (.cells #[.int .u32 (en : Int), .int .u32 (lim : Int), .int .u32 2, .map (some w1.heap.size), .map (some (w1.heap.size + 1)), .map (some (w1.heap.size + 1 + 1)), .map (some (w1.heap.size + 1 + 1 + 1)), .slice none 0 0] 71)) = W0 at hF hG ⊢
  simp only [Nat.add_assoc, Nat.reduceAdd]
  have hB := HG.out.size
  generalize w1.heap.size = B at hF hB ⊢
  have HF := Lib.hid hF
  have HG0 := Lib.hid hG
  clear hF hG
  go_loopw [40] (fun i wr => ∃ (k : Nat) (wv : Value) (es : List (Value × Rc)), k ≤ n ∧ i = .int .i64 (k : Int) ∧ NwAt B wr en lim old (l.take k) wv es ∧ w.grownBy wr none) (fun i _ => n - (intOf i).toNat)
  case atStart => exact ⟨0, _, [], Nat.zero_le _, rfl, ⟨HF.out, RcOwns.nil _ _, rfl⟩, HG0.out⟩
  case round =>
    obtain ⟨k, wv, es, hk, rfl, hN1, hg⟩ := hrel
    have HN := Lib.hid hN1
    have HGr := Lib.hid hg
    clear hN1 hg
    by_cases hlt : k < n
    · have hki : (k : Int) < (n : Int) := by omega
      have hkl : k < l.length := by rw [← hN.out]; exact hlt
      obtain ⟨r, hr⟩ : ∃ r, l[k]? = some r := ⟨l[k], List.getElem?_eq_getElem hkl⟩
      obtain ⟨b, o, rfl, hRb, c0, hT64, a1, q1, c1, hp⟩ := Hs.out.at k r hr
      have d0 := HGr.out.cell c0 (by simp)
      have d1 := HGr.out.cell c1 (by simp)
      have hmem : r ∈ l := List.mem_of_getElem? hr
      have hpn := (HOK.out.each r hmem).2.2
      have hpl := okr_each HOK.out hmem
      have HTK := Lib.hid (take_snoc hr)
      obtain ⟨T, ps⟩ := r
      have HP := Lib.hid hp
      have HPN := Lib.hid (show ps ≠ [] from hpn)
      simp only at d0 d1 HP hpl hT64
      have HPL := Lib.hid (show ps.length ≤ 35184372088831 by omega)
      clear hp hr c0 c1 hmem hpn
      generalize hm : ps.length = m at d1
      rw [hm] at HP hpl
      have HM := Lib.hid hm
      clear hm
      have b0 := lit_cells wr (.int .u64 (T : Int)) (.slice a1 m q1)
      have hF1 := HN.out.fiv.grown (World.grownBy_alloc wr (.cells #[.int .u64 (T : Int), .slice a1 m q1] 65) none)
      have hR1 := HN.out.rows.grown (World.grownBy_alloc wr (.cells #[.int .u64 (T : Int), .slice a1 m q1] 65) none)
      have hG1 := gtrans HGr.out (World.grownBy_alloc wr (.cells #[.int .u64 (T : Int), .slice a1 m q1] 65) none)
      have hP1 := HP.out.grown hG1
      by_cases hto : T ≤ old
      · have hti : (T : Int) ≤ (old : Int) := by omega
        go_wp2_with fail
        generalize wr.alloc (.cells #[.int .u64 (T : Int), .slice a1 m q1] 65) = W1 at b0 hF1 hR1 hG1 hP1 ⊢
        obtain ⟨e0, e1, -, -⟩ := cells2 b0
        obtain ⟨f0, f1, f2, f3, f4, f5, f6, f7⟩ := hF1.cells
        have HF1 := Lib.hid hF1
        have HR1 := Lib.hid hR1
        have HG1 := Lib.hid hG1
        have HP1 := Lib.hid (hP1.grown (gdrew _))
        have HS1 := Lib.hid (hF1.us.grown (gdrew _))
        clear b0 hF1 hR1 hG1 hP1 f0 f1 f2 f4 f5 f6 f7 d0 d1
        go_region_with (go_at_call 22; (with_reducible refine (add_any W1.drew B _ ps R a1 m q1 HS1.out HP1.out).mono ?_); rintro r w2 ⟨rfl, hs2, ht2⟩; have HS2 := Lib.hid hs2; have HT2 := Lib.hid ht2; clear hs2 ht2)
        all_goals
          go_wp2
          go_roundw
          case rel =>
            refine ⟨k + 1, wv, es, by omega, by go_num, ⟨?_, (HR1.out.grown (gdrew _)).kept (fun i h5 h6 => turned_other HT2.out (by omega)), ?_⟩, turned_grown (gtrans HG1.out (gdrew _)) HT2.out hB⟩
            · rw [HTK.out, (oldRecs_yes hto).1, (oldRecs_yes hto).2, allOf_snoc, insAll_app]
              exact (HF1.out.grown (gdrew _)).us' HT2.out HS2.out
            · rw [HTK.out, (oldRecs_yes hto).2]; exact HN.out.same
          case measure => simp [intOf] <;> omega
      · have hti : ¬ (T : Int) ≤ (old : Int) := by omega
        go_wp2_with fail
        generalize wr.alloc (.cells #[.int .u64 (T : Int), .slice a1 m q1] 65) = W1 at b0 hF1 hR1 hG1 hP1 ⊢
        obtain ⟨e0, e1, -, -⟩ := cells2 b0
        obtain ⟨f0, f1, f2, f3, f4, f5, f6, f7⟩ := hF1.cells
        have HF1 := Lib.hid (hF1.grown (gdrew _))
        have HR1 := Lib.hid (hR1.grown (gdrew _))
        have HG1 := Lib.hid (gtrans hG1 (gdrew _))
        have HP1 := Lib.hid (hP1.grown (gdrew _))
        have HB1 := Lib.hid b0
        have hq1 : B + 5 ≤ wr.heap.size := HN.out.fiv.lt
        clear b0 hF1 hR1 hG1 hP1 f0 f1 f2 f3 f4 f5 f7 d0 d1
        go_region_with (go_at_call 22; (with_reducible refine (add_any W1.drew (B + 3) _ ps R a1 m q1 HF1.out.wa HP1.out).mono ?_); rintro r w2 ⟨rfl, hs2, ht2⟩; have HS2 := Lib.hid hs2; have HT2 := Lib.hid ht2; clear hs2 ht2)
        all_goals
          clear e0 e1
          have hF2 := HF1.out.wa' HT2.out HS2.out
          obtain ⟨f0, f1, f2, f3, f4, f5, f6, f7⟩ := hF2.cells
          have f8 := free_row hF2.box 7
          have HF2 := Lib.hid hF2
          have HR2 := Lib.hid ((HR1.out.kept (fun i h5 h6 => turned_other HT2.out (by omega))).grown (gdrew _))
          have HG2 := Lib.hid (gtrans (turned_grown HG1.out HT2.out (Nat.le_trans hB (by omega))) (gdrew w2))
          have hb2 : w2.heap[wr.heap.size]? = _ := (turned_other HT2.out (by omega)).trans HB1.out
          obtain ⟨e0, e1, -, -⟩ := cells2 hb2
          have HP2 := Lib.hid (HP1.out.cells (w' := w2.drew) (fun a u h => (turned_cell HT2.out a).trans h))
          clear hF2 hb2 f0 f1 f2 f3 f4 f5
          have hes : es.length ≤ 65536 := by
            have h5 := congrArg List.length HN.out.same
            have h6 : (newRecs old (l.take k)).length ≤ (l.take k).length := List.length_filter_le _ _
            simp at h5 h6
            omega
          have HW2 := Lib.hid (show B + 5 ≤ w2.drew.heap.size from HF2.out.lt)
          go_wp2_with fail
          go_region_law (first
            | (go_simp; go_at_call 23; (with_reducible refine (copied_any w2.drew R T a1 m q1 ps HP2.out HPN.out HPL.out).mono ?_); rintro r w3 ⟨a2, c2, rfl, ho3, hg3⟩; have HF3 := Lib.hid ((HF2.out.grown (gdrew _)).grown hg3); have HR3 := Lib.hid (HR2.out.grown hg3); have HO3 := Lib.hid ho3; have HG3 := Lib.hid hg3; have g7 := HF3.out.cells.2.2.2.2.2.2.2; have k7 : (w3.alloc (.cells #[.int .u64 (T : Int), .slice a2 m c2] 65)).cell? ⟨B + 4, 7, none⟩ = some wv := cell_alloc g7; clear ho3 hg3)
            | (refine step_append_own2 rfl (.tmp 66) (.tmp 69) 28 rfl (B + 5) 65 j0 (.agg #[.int .u64 0, .slice none 0 0]) 2 32 Try.underlying28 hj hw0 hw1 hw2 rfl (by decide) wv es.length (es.flatMap rcl) rfl (HR3.out.row.alloc _) ⟨w3.heap.size, 0, none⟩ 1 1 (rcl (.slice a2 m c2, (T, []))) rfl rfl (lit2 w3 T (.slice a2 m c2)) (one2 a2 m c2 T) (by unfold maxLen; omega) (by omega) (by have := HF3.out.lt; simp; omega) ?_; intro v' w4 hown' hgrow hfr; obtain ⟨ao', c', rfl⟩ := own_shape hown'; have HO4 := Lib.hid hown'; have HG4 := Lib.hid hgrow; have HF4 := Lib.hid ((HF3.out.grown (World.grownBy_alloc w3 (.cells #[.int .u64 (T : Int), .slice a2 m c2] 65) none)).kept (fun i h5 h6 => hgrow.block i (by have := HF3.out.lt; simp; omega) (by intro e; have := (HR3.out.row.lt i e.symm).1; omega))); have m7 := HF4.out.cells.2.2.2.2.2.2.2; have n7 := free_row HF4.out.box 7; clear hown' hgrow hfr))
          all_goals
            go_wp2
            have hR3b := HR3.out.grown (World.grownBy_alloc w3 (.cells #[.int .u64 (T : Int), .slice a2 m c2] 65) none)
            have hp3 : OwnP (B + 5) (w3.alloc (.cells #[.int .u64 (T : Int), .slice a2 m c2] 65)) (.slice a2 m c2) ps := (HO3.out.grown (World.grownBy_alloc w3 _ none)).mono HW2.out
            have hp4 := hR3b.push (y := (.slice a2 m c2, (T, ps))) hp3 hT64 HO4.out HG4.out
            have hg4 := grow_own (gtrans (gtrans HG2.out HG3.out) (World.grownBy_alloc w3 _ none)) hR3b.row HG4.out (Nat.le_trans hB (Nat.le_add_right B 5))
            have HP4 := Lib.hid hp4
            have HG5 := Lib.hid hg4
            clear hR3b hp3 hp4 hg4
            go_roundw
            case rel =>
              refine ⟨k + 1, _, es ++ [(.slice a2 m c2, (T, ps))], by omega, by go_num, ⟨?_, HP4.out.kept (fun i h5 h6 => set_other _ _ _ (by simp; omega)), ?_⟩, gnew HG5.out (gset _ ⟨B + 4, 7, none⟩ _) (by simp; omega)⟩
              · rw [HTK.out, (oldRecs_no hto).1, (oldRecs_no hto).2, allOf_snoc, insAll_app]
                exact HF4.out.set 7 _ rfl
              · rw [HTK.out, (oldRecs_no hto).2, List.map_append, HN.out.same]; rfl
            case measure => simp [intOf] <;> omega
    · have hki : ¬ (k : Int) < (n : Int) := by omega
      have e : k = n := by omega
      have HE := Lib.hid (show l.take k = l by rw [e, hN.out]; exact List.take_length)
      clear e
      go_wp2
      go_ret2
      have h := HN.out
      rw [HE.out] at h
      exact ⟨B, wv, es, rfl, hB, h, HGr.out⟩

end Go.Proofs.Ytoaglkbobndmeab
