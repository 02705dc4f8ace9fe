/-
  Layer 8: slices.AppendSeq and slices.Collect over a set's pages. Own work; the frame is the guide's page on ranges over functions.
-/
import Derived.Test.YtoaglkbobndmeabSpcK
namespace Go.Proofs.Ytoaglkbobndmeab
open Go.RowKit Go.Shelf Go.Maps

attribute [local go_sem] Oper.semAt_some

set_option maxRecDepth 100000 in
set_option maxHeartbeats 4000000 in
theorem appendSeq_any (w : World) (Bm b : Nat) (L : List Nat) (hm : w.cell? ⟨Bm, 0, none⟩ = some (.map (some b))) (hS : SetAt w b L) (hL : L.length ≤ 100000) :
    Calls Try.prog 39 #[.slice none 0 0, .func (.func 38) #[] #[.pointer (some ⟨Bm, 0, none⟩)]] w fun r w' => ∃ v ss, r = .returned v ∧ List.Perm ss L ∧ OwnP w.heap.size w' v ss ∧ w.grownBy w' none := by
  obtain ⟨i0, hi, hz0, hz1, hz2⟩ := info_parts infoPage
  have HSt := Lib.hid (keys_stops (5 - 1) (by decide) Bm b L (w.alloc (.cells #[.slice none 0 0] 63)) (cell_alloc hm) (hS.grown (World.grownBy_alloc _ _ _)))
  have h32 := hS.2.2
  have H32 := Lib.hid h32
  have hb0 := heap_alloc_new w (.cells #[.slice none 0 0] 63 (0, 0))
  have hB0 : Below w.heap.size w (w.alloc (.cells #[.slice none 0 0] 63)) := (Below.refl _ w).alloc (Nat.le_refl _) _
  have hsz : (w.alloc (.cells #[.slice none 0 0] 63)).heap.size = w.heap.size + 1 := by simp
  clear hm hS h32
  refine (callsIn_wide (n := 5)).1 ?_
  refine callsIn_of_wp_marks Try.func39 rfl trivial ?_ rfl
  simp only [Try.ntmps39, List.size_toArray, List.length_cons, List.length_nil, Nat.reduceAdd, Nat.reduceSub, Array.replicate_succ, Array.replicate_zero, List.push_toArray, List.append_toArray, List.nil_append, List.cons_append]
  gi_wp2
  generalize w.alloc (.cells #[.slice none 0 0] 63) = W0 at *
  obtain ⟨g, hg⟩ : ∃ g, g = w.heap.size := ⟨_, rfl⟩
  rw [← hg] at hb0 hsz hB0 ⊢
  have HG := Lib.hid hg
  clear hg
  refine wpIn_rangeFunc_ownG rfl (by decide : 1 ≤ 5) (gf := 38) (lb := #[.pointer (some ⟨Bm, 0, none⟩)]) rfl trivial (enters_of Try.func38 (by kernel_rfl) rfl)
    HSt.out walksK_t walksK_b (Below.refl _ _) (fun _ => rfl)
    (fun pre W => (∃ v, Boxed W g 63 v ∧ W.ownsRow g 36 1 v pre.length (pre.map encP) ∧ g + 1 ≤ W.heap.size) ∧ Below g w W)
    (fun _ _ _ => False)
    (OwnFrom.and (fun s X Y row ⟨v, hv, ho, hz⟩ hgy hr => ⟨v, hv.kept hgy (fun e => by obtain ⟨_, q, hq, hc⟩ := hr g e.symm; rw [show X.heap[g]? = _ from hv] at hq; cases hq; cases hc), ho.kept hgy (by
        rcases ho.2 with ⟨hv', _⟩ | ⟨g2, cap, cur, hv', _, hgb, _⟩
        · rw [hv']; exact .inl rfl
        · right
          rw [hv']
          intro e
          obtain ⟨_, q, hq, hc⟩ := hr g2 e.symm
          rw [hgb] at hq; cases hq; cases hc), Nat.le_trans hz hgy.size⟩) (ownFrom_below (by rw [HG.out]; exact Nat.le_refl _) (by omega)))
    (fun _ _ _ _ _ hs _ _ => hs)
    ⟨⟨.slice none 0 0, hb0, World.ownsRow_nil _ _ _ _, by omega⟩, hB0⟩
    (fun x => { tmps := #[.slice none 0 0, .func (.func 38) #[] #[.pointer (some ⟨Bm, 0, none⟩)], .pointer (some ⟨g, 0, none⟩), undef, .slice none 0 0, encP x, .func (.func 38) #[] #[.pointer (some ⟨Bm, 0, none⟩)], encP x, undef, undef, undef, undef, undef], defers := [] }) ?assign ?body ?done ?stop
  case assign =>
    intro l x W K hK
    gi_wp2
    exact hK
  case body =>
    rintro l pre x W ⟨⟨v, hv, ho, hWz⟩, hBw⟩ hlt
    have hc0 := hv.cell
    have hpl : pre.length ≤ 100000 := by omega
    gi_wp2_with (first
      | (gi_at_builtin; refine wpListIn_append_own _ rfl _ _ 63 rfl g 36 i0 (.int .u32 0) 1 4 Try.underlying63 hi hz0 hz1 hz2 rfl (by decide) _ _ _ rfl (ho.alloc _) ⟨W.heap.size, 0, none⟩ 1 1 [encP x] rfl rfl (cell_one_new _ _ _) (by simp [Value.oneCell', encP]) (by unfold maxLen; omega) (by omega) (by simp; omega) ?_; intro v' w1 hown' hgrow _; obtain ⟨g', cap', rfl⟩ := ownsRow_succ hown'; obtain ⟨hv1, hv2, hr2, hk2, hb2⟩ := hv.appended (by decide) ho (by omega) (Nat.le_refl g) hown' hgrow; have hc1 := hv1.cell; have hf1 := hv1.frozen; clear hown' hgrow))
    exact ⟨hk2.from _, KeepsOthers.walks hk2, ⟨⟨_, hv2, by simpa using hr2, by have := hk2.size; omega⟩, hBw.trans hb2⟩⟩
  case done =>
    rintro D ys W hD hperm ⟨⟨v, hv, ho, hWz⟩, hBw⟩ hK
    have hc := hv.cell
    have hgD : g ≤ D := by omega
    have hpo : (W.putObj D (.deferred none)).ownsRow g 36 1 v ys.length (ys.map encP) := ho.kept (grownBy_putObj' W D (.deferred none)) (by
      rcases ho.2 with ⟨hv', _⟩ | ⟨g2, cap, cur, hv', _, hgb, _⟩
      · rw [hv']; exact .inl rfl
      · right
        rw [hv']
        intro e
        have : g2 = D := by simpa [Value.ownBlock] using e
        subst this
        rw [hgb] at hK; cases hK)
    have hbl := hBw.trans (belowK_b (w := w) (by rw [HG.out]; exact Nat.le_refl _) W D _ (.deferred none) (by rw [← HG.out]; exact hgD) hK rfl rfl)
    rw [HG.out] at hbl hpo
    have hgr := gof hbl none
    gi_wp2
    refine ⟨by simp, .inl ⟨_, _, rfl, run_takeDeferred hK, ?_⟩⟩
    exact ⟨_, results_tmp rfl _ _ _, v, ys, rfl, hperm, ⟨hpo, fun p hp => H32.out p (hperm.mem_iff.1 hp)⟩, hgr⟩
  case stop =>
    rintro D c pre W _ _ h _
    exact h.elim

set_option maxHeartbeats 1000000 in
theorem collect_any (w : World) (Bm b : Nat) (L : List Nat) (hm : w.cell? ⟨Bm, 0, none⟩ = some (.map (some b))) (hS : SetAt w b L) (hL : L.length ≤ 100000) :
    Calls Try.prog 36 #[.func (.func 38) #[] #[.pointer (some ⟨Bm, 0, none⟩)]] w fun r w' => ∃ v ss, r = .returned v ∧ List.Perm ss L ∧ OwnP w.heap.size w' v ss ∧ w.grownBy w' none := by
  go_enter Try.func36, Try.ntmps36
  go_wp2_with (first
    | (go_at_call 39; (with_reducible refine (appendSeq_any w Bm b L hm hS hL).mono ?_); rintro r w1 ⟨v, ss, rfl, hp, ho, hg⟩; have HP := Lib.hid hp; have HO := Lib.hid ho; have HG := Lib.hid hg; clear hp ho hg))
  go_ret
  exact ⟨v, ss, rfl, HP.out, HO.out, HG.out⟩

end Go.Proofs.Ytoaglkbobndmeab
