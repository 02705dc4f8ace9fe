/-
  Layer 8: Records. Own work.
-/
import Derived.Test.YtoaglkbobndmeabSpcP
namespace Go.Proofs.Ytoaglkbobndmeab
open Go.RowKit Go.Maps

def recsM (M : Sp) (t : Nat) : List Rc := recM M.us 0 ++ M.ws ++ recM M.go t
def RecsR (w : World) (l : List Rc) (r : Ending) (w' : World) : Prop := ∃ v es, r = .returned v ∧ RcOwns w.heap.size w' v es ∧ es.map (·.2) = l ∧ w.grownBy w' none

theorem records_nil (w : World) (t : Int) : Calls Try.prog 19 #[.pointer none, .int .u64 t] w fun r w' => r = .returned (.slice none 0 0) ∧ w = w' := by
  go_enter Try.func19, Try.ntmps19
  go_wp2
  go_ret
  exact ⟨rfl, rfl⟩

set_option maxHeartbeats 2000000 in
theorem records_any (N : Nat) (hN : SortOk N) (hN9 : N ≤ 100000) {H : Nat} (w : World) (B t : Nat) (M : Sp) (h : SpAt B H w M) (h1 : M.us.length ≤ N) (h2 : M.go.length ≤ N) (h3 : ∀ r ∈ M.ws, r.2 ≠ [] ∧ r.2.length ≤ 100000) (h4 : M.ws.length ≤ 100000) (ht : t < 18446744073709551616) :
    Calls Try.prog 19 #[.pointer (some ⟨B + 4, 0, none⟩), .int .u64 (t : Int)] w fun r w' => RecsR w (recsM M t) r w' := by
  obtain ⟨j0, hj, hw0, hw1, hw2⟩ := info_parts infoRec
  obtain ⟨wv, hf, hr⟩ := h
  obtain ⟨ao, c, rfl⟩ := hr.shape
  obtain ⟨n, hn⟩ : ∃ n, n = M.ws.length := ⟨_, rfl⟩
  rw [← hn] at hf hr h4
  obtain ⟨f0, f1, f2, f3, f4, f5, f6, f7⟩ := hf.cells
  have HF := Lib.hid hf
  have HR := Lib.hid hr
  have HN := Lib.hid hn
  have HS := Lib.hid hN
  have H3 := Lib.hid h3
  have H1 := Lib.hid h1
  have H2 := Lib.hid h2
  have hn7 : (n : Int) ≤ 100000 := by omega
  clear hf hr hn hN h3 h1 h2 f0 f1 f2 f4 f5 f6
  go_enter Try.func19, Try.ntmps19
  go_wp2_with (first
    | (go_at_call 30; have K := record_any N HS.out hN9 w w.heap.size B 0 M.us (.slice none 0 0) [] HF.out.us H1.out (RcOwns.nil _ _) (by simp) (Nat.le_refl _) (by omega); rw [show ((0 : Nat) : Int) = 0 from rfl] at K; (with_reducible refine K.mono ?_); clear K; rintro r w1 ⟨v1, es1, rfl, ho1, he1, hg1⟩; obtain ⟨-, -, -, -, -, -, -, g7⟩ := (HF.out.grown hg1).cells; have HO1 := Lib.hid ho1; have HE1 := Lib.hid he1; have HG1 := Lib.hid hg1; clear ho1 he1 hg1))
  go_loopg [5, 20] n (fun g lv i wr => ∃ (k : Nat) (es : List (Value × Rc)), k + g = n ∧ i = .int .i64 (k : Int) ∧ RcOwns w.heap.size wr lv es ∧ w.grownBy wr none ∧ Hid (es.map (·.2) = recM M.us 0 ++ M.ws.take k))
  case atStart => exact ⟨0, es1, by omega, rfl, HO1.out, HG1.out, Lib.hid (by rw [HE1.out]; simp)⟩
  case round =>
    obtain ⟨k, es, hk, rfl, ho, hg, HE⟩ := hrel
    have HO := Lib.hid ho
    have HG := Lib.hid hg
    have hel : es.length ≤ 100001 := by
      have h5 := congrArg List.length HE.out
      have h6 : (recM M.us 0).length ≤ 1 := by unfold recM; split <;> simp
      have h7 : (M.ws.take k).length ≤ M.ws.length := by rw [List.length_take]; omega
      have h8 := HN.out
      simp only [List.length_map, List.length_append] at h5
      omega
    clear ho hg
    by_cases hlt : k < n
    · have hki : (k : Int) < (n : Int) := by omega
      have hkl : k < M.ws.length := by rw [← HN.out]; exact hlt
      obtain ⟨r, hr⟩ : ∃ r, M.ws[k]? = some r := ⟨M.ws[k], List.getElem?_eq_getElem hkl⟩
      obtain ⟨b, o, rfl, hRb, c0, hT64, a1, q1, c1, hp⟩ := HR.out.at k r hr
      have d0 := HG.out.cell c0 (by simp)
      have d1 := HG.out.cell c1 (by simp)
      have HTK := Lib.hid (take_snoc hr)
      have hmem : r ∈ M.ws := List.mem_of_getElem? hr
      obtain ⟨hpn, hpl⟩ := H3.out r hmem
      obtain ⟨T, ps⟩ := r
      have HPN := Lib.hid (show ps ≠ [] from hpn)
      simp only at d0 d1 hp hpl hT64
      have HPL := Lib.hid (show ps.length ≤ 35184372088831 by omega)
      have HP := Lib.hid (hp.grown (gtrans HG.out (World.grownBy_alloc wr (.cells #[.int .u64 (T : Int), .slice a1 ps.length q1] 65) none)))
      clear hp hr c0 c1 hmem hpn
      generalize hm : ps.length = m at d1
      rw [hm] at HP hpl
      have HM := Lib.hid hm
      clear hm
      go_wp2_with (first
        | (go_at_call 23; (with_reducible refine (copied_any _ _ T a1 m q1 ps HP.out HPN.out HPL.out).mono ?_); rintro r w3 ⟨a2, c2, rfl, ho3, hg3⟩; have hg4 := gtrans (World.grownBy_alloc wr (.cells #[.int .u64 (T : Int), .slice a1 m q1] 65) none) hg3; have HO3 := Lib.hid (ho3.mono (show w.heap.size ≤ (wr.alloc (.cells #[.int .u64 (T : Int), .slice a1 m q1] 65)).heap.size by have := HG.out.size; simp; omega)); have HR3 := Lib.hid (HO.out.grown hg4); have HG3 := Lib.hid (gtrans HG.out hg4); clear ho3 hg3 hg4)
        | (at_builtin; refine wpList_append_own _ rfl _ _ 28 rfl w.heap.size 65 j0 (.agg #[.int .u64 0, .slice none 0 0]) 2 32 Try.underlying28 hj hw0 hw1 hw2 rfl (by decide) _ es.length (es.flatMap rcl) rfl (HR3.out.row.alloc _) ⟨w3.heap.size, 0, none⟩ 1 1 (rcl (.slice a2 m c2, (T, []))) rfl rfl (lit2 w3 T (.slice a2 m c2)) (one2 a2 m c2 T) (by unfold maxLen; omega) (by omega) (by have := HG3.out.size; simp; omega) ?_; intro v' w4 hown' hgrow _; have HO4 := Lib.hid hown'; have HG4 := Lib.hid hgrow; clear hown' hgrow))
      have hR3 := HR3.out.grown (World.grownBy_alloc w3 (.cells #[.int .u64 (T : Int), .slice a2 m c2] 65) none)
      have hp3 : OwnP w.heap.size (w3.alloc (.cells #[.int .u64 (T : Int), .slice a2 m c2] 65)) (.slice a2 m c2) ps := HO3.out.grown (World.grownBy_alloc w3 _ none)
      have hp4 := hR3.push (y := (.slice a2 m c2, (T, ps))) hp3 hT64 HO4.out HG4.out
      have hg4 := grow_own (gtrans HG3.out (World.grownBy_alloc w3 _ none)) hR3.row HG4.out (Nat.le_refl _)
      have HP4 := Lib.hid hp4
      have HG5 := Lib.hid hg4
      clear hR3 hp3 hp4 hg4
      go_roundg (n - (k + 1))
      case rel => exact ⟨k + 1, es ++ [(.slice a2 m c2, (T, ps))], by omega, by simp, HP4.out, HG5.out, Lib.hid (by rw [HTK.out, List.map_append, HE.out, List.append_assoc]; rfl)⟩
      case measure => omega
    · have hki : ¬ (k : Int) < (n : Int) := by omega
      have e : k = n := by omega
      have HE2 := Lib.hid (show es.map (·.2) = recM M.us 0 ++ M.ws by rw [HE.out, e, HN.out, List.take_length])
      obtain ⟨-, -, -, -, -, k5, -, -⟩ := (HF.out.grown HG.out).cells
      clear e
      go_wp2_with (first
        | (go_at_call 30; have K := record_any N HS.out hN9 wr w.heap.size (B + 2) t M.go _ es (HF.out.grown HG.out).go H2.out HO.out (by omega) HG.out.size ht; (with_reducible refine K.mono ?_); clear K; rintro r w5 ⟨v5, es5, rfl, ho5, he5, hg5⟩; have HO5 := Lib.hid ho5; have HE5 := Lib.hid he5; have HG5 := Lib.hid (grow_own HG.out HO.out.row hg5 (Nat.le_refl _)); clear ho5 he5 hg5))
      go_ret
      exact ⟨v5, es5, rfl, HO5.out, by rw [HE5.out, HE2.out]; rfl, HG5.out⟩

end Go.Proofs.Ytoaglkbobndmeab
