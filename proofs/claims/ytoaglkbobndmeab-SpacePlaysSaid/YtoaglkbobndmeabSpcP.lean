/-
  Layer 8: slices.Sorted over a set's pages; a set as a record; Records. Own work.
-/
import Derived.Test.YtoaglkbobndmeabSrtB
namespace Go.Proofs.Ytoaglkbobndmeab
open Go.RowKit Go.Maps

set_option maxHeartbeats 1000000 in
theorem sorted_any (N : Nat) (hN : SortOk N) (hN9 : N ≤ 100000) (w : World) (Bm b : Nat) (L : List Nat) (hm : w.cell? ⟨Bm, 0, none⟩ = some (.map (some b))) (hS : SetAt w b L) (hL : L.length ≤ N) (h0 : L ≠ []) :
    Calls Try.prog 34 #[.func (.func 38) #[] #[.pointer (some ⟨Bm, 0, none⟩)]] w fun r w' => ∃ a c, r = .returned (.slice a L.length c) ∧ OwnP w.heap.size w' (.slice a L.length c) L ∧ w.grownBy w' none := by
  have hsr := hS.2.1
  have h32 := hS.2.2
  have hpos := List.length_pos_iff.2 h0
  go_enter Try.func34, Try.ntmps34
  go_wp2_with (first
    | (go_at_call 36; (with_reducible refine (collect_any w Bm b L hm hS (Nat.le_trans hL hN9)).mono ?_); rintro r w1 ⟨v, ss, rfl, hp, ho, hg⟩; have hl := hp.length_eq; have K := hN w1 w.heap.size ss.length v ss L ho.1 hp hsr (by omega) (by omega); obtain ⟨a1, c1, rfl⟩ := own_shape ho.1; have HG := Lib.hid hg; have HK := Lib.hid K; have HL := Lib.hid hl; have HO := Lib.hid ho; clear hp ho hg K hl)
    | (go_at_call 37; refine HK.out.mono ?_; rintro r w2 ⟨rfl, h2, hg2⟩; have H2 := Lib.hid h2; have HG2 := Lib.hid hg2; clear h2 hg2))
  go_ret
  refine ⟨a1, c1, by rw [← HL.out]; rfl, ⟨by rw [← HL.out]; exact H2.out, h32⟩, grow_own HG.out HO.out.1 HG2.out (Nat.le_refl _)⟩

/-- A set behind records, as one more record, if it has a page. -/
def recM (L : List Nat) (t : Nat) : List Rc := if L = [] then [] else [(t, L)]

set_option maxHeartbeats 2000000 in
theorem record_any (N : Nat) (hN : SortOk N) (hN9 : N ≤ 100000) (w : World) (base b t : Nat) (L : List Nat) (lv : Value) (es : List (Value × Rc)) (hS : SetAt w b L) (hL : L.length ≤ N) (hes : RcOwns base w lv es) (hel : es.length ≤ 200000) (hb : base ≤ w.heap.size) (ht : t < 18446744073709551616) :
    Calls Try.prog 30 #[.map (some b), lv, .int .u64 (t : Int)] w fun r w' => ∃ v' es', r = .returned v' ∧ RcOwns base w' v' es' ∧ es'.map (·.2) = es.map (·.2) ++ recM L t ∧ w.grownBy w' lv.ownBlock := by
  obtain ⟨j0, hj, hw0, hw1, hw2⟩ := info_parts infoRec
  have hown := hS.1
  by_cases h0 : L = []
  · have hsz : Maps.size (setD L) = 0 := by rw [size_setD, h0]; rfl
    have HE := Lib.hid (show recM L t = [] by unfold recM; rw [if_pos h0])
    have HES := Lib.hid hes
    clear hes h0
    go_enter Try.func30, Try.ntmps30
    go_wp2_with (first
      | (at_len; refine wpList_len_own _ rfl _ 69 rfl 36 79 Try.underlying69 _ b _ _ rfl hown ?_)
      | go_in)
    go_ret
    exact ⟨lv, es, rfl, HES.out, by rw [HE.out]; simp, grefl _ _⟩
  · have hsz : ¬ Maps.size (setD L) = 0 := by rw [size_setD]; exact fun e => h0 (List.eq_nil_of_length_eq_zero e)
    have hszb : ((Maps.size (setD L) : Int) == 0) = false := by simp; omega
    have HE := Lib.hid (show recM L t = [(t, L)] by unfold recM; rw [if_neg h0])
    have HES := Lib.hid hes
    have HS := Lib.hid hS
    have HNE := Lib.hid h0
    have HNN := Lib.hid hN
    have HNL := Lib.hid hL
    clear hes h0 hS hN hL
    go_enter Try.func30, Try.ntmps30
    go_wp2_with (first
      | (at_len; refine wpList_len_own _ rfl _ 69 rfl 36 79 Try.underlying69 _ b _ _ rfl hown ?_)
      | (go_at_call 35; (with_reducible refine (keys_any w (some b)).mono ?_); rintro r w1 ⟨rfl, rfl⟩)
      | (go_at_call 34; have K := sorted_any N HNN.out hN9 (w.alloc (.cells #[.map (some b)] 69)) w.heap.size b L (by rw [World.cell?_alloc_mark]; rfl) (HS.out.grown (World.grownBy_alloc _ _ _)) HNL.out HNE.out; (with_reducible refine K.mono ?_); clear K; rintro r w2 ⟨a2, c2, rfl, ho, hg⟩; have hg2 := gtrans (World.grownBy_alloc w (.cells #[.map (some b)] 69) none) hg; have HG2 := Lib.hid hg2; have HO2 := Lib.hid (ho.mono (show w.heap.size ≤ (w.alloc (.cells #[.map (some b)] 69)).heap.size by simp)); have HR2 := Lib.hid (HES.out.grown hg2); clear ho hg hg2)
      | (at_builtin; refine wpList_append_own _ rfl _ _ 28 rfl base 65 j0 (.agg #[.int .u64 0, .slice none 0 0]) 2 32 Try.underlying28 hj hw0 hw1 hw2 rfl (by decide) lv es.length (es.flatMap rcl) rfl (HR2.out.row.alloc _) ⟨w2.heap.size, 0, none⟩ 1 1 (rcl (.slice a2 L.length c2, (t, []))) rfl rfl (lit2 w2 t (.slice a2 L.length c2)) (one2 a2 L.length c2 t) (by unfold maxLen; omega) (by omega) (by have := HG2.out.size; simp; omega) ?_; intro v' w4 hown' hgrow _; have HO4 := Lib.hid hown'; have HG4 := Lib.hid hgrow; clear hown' hgrow)
      | go_in)
    go_ret
    have hR3 := HR2.out.grown (World.grownBy_alloc w2 (.cells #[.int .u64 (t : Int), .slice a2 L.length c2] 65) none)
    have hp3 : OwnP base (w2.alloc (.cells #[.int .u64 (t : Int), .slice a2 L.length c2] 65)) (.slice a2 L.length c2) L := (HO2.out.grown (World.grownBy_alloc w2 _ none)).mono hb
    exact ⟨v', es ++ [(.slice a2 L.length c2, (t, L))], rfl, hR3.push (y := (.slice a2 L.length c2, (t, L))) hp3 ht HO4.out HG4.out, by rw [HE.out]; simp, gtrans (gwide (gtrans HG2.out (World.grownBy_alloc w2 _ none))) HG4.out⟩

end Go.Proofs.Ytoaglkbobndmeab
