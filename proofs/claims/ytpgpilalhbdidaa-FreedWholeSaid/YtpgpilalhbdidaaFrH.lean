/-
  Layer 10: the record of a run. Own work.
-/
import Derived.Test.YtpgpilalhbdidaaFrG
import Derived.Test.YtpgpilalhbdidaaFrC
namespace Go.Proofs.Ytpgpilalhbdidaa
open Go.RowKit

def RecR (w : World) (m : Nat) (T : Nat) (ps : List Nat) (r : Ending) (w' : World) : Prop := ∃ pa pc, r = .returned (.agg #[.int .u64 (T : Int), .slice pa m pc]) ∧ OwnP w.heap.size w' (.slice pa m pc) ps ∧ w.grownBy w' none

set_option maxRecDepth 30000 in
set_option maxHeartbeats 4000000 in
theorem recordOf_any (w : World) (R : Nat → Prop) (b o m cap : Nat) (ps : List Pr) (T : Nat) (h : PrSq R w (.slice (some ⟨b, o, none⟩) m cap) ps) (h0 : 0 < m) (hT : (ps.getD 0 (0, 0)).1 = T) (hm9 : m * 16 ≤ 140737488355000) :
    Calls Try.prog 30 #[.slice (some ⟨b, o, none⟩) m cap] w fun r w' => RecR w m T (ps.map (·.2)) r w' := by
  obtain ⟨i0, hi, hz0, hz1, hz2⟩ := info_parts infoPage
  have hn := h.len.1
  obtain ⟨p0, hp0⟩ : ∃ p, ps[0]? = some p := ⟨ps[0]'(by omega), List.getElem?_eq_getElem (by omega)⟩
  have hT0 : p0.1 = T := by rw [← hT, List.getD_eq_getElem?_getD, hp0]; rfl
  obtain ⟨b', o', hbo, _, c0, _⟩ := h.at 0 p0 hp0
  cases hbo
  rw [hT0, Nat.zero_mul, Nat.add_zero] at c0
  have c1 := cell_alloc (o := .cells #[.int .u64 0, .slice none 0 0] 69) c0
  have HN := Lib.hid hn
  have HS := Lib.hid h.low
  have hmi : (0 : Int) < (m : Int) := by omega
  have k0 := two_lit0 w (.cells #[.int .u64 0, .slice none 0 0] 69) (.cells #[.int .u64 (T : Int), .slice none 0 0] 69)
  have k1 := two_lit1 w (.cells #[.int .u64 0, .slice none 0 0] 69) (.cells #[.int .u64 (T : Int), .slice none 0 0] 69)
  have hgr := two_grown w (.cells #[.int .u64 0, .slice none 0 0] 69) (.cells #[.int .u64 (T : Int), .slice none 0 0] 69)
  have hsz : ((w.alloc (.cells #[.int .u64 0, .slice none 0 0] 69)).alloc (.cells #[.int .u64 (T : Int), .slice none 0 0] 69)).heap.size = w.heap.size + 2 := by simp
  have K0 := Lib.hid k0
  have K1 := Lib.hid k1
  have HG := Lib.hid hgr
  have HSZ := Lib.hid hsz
  clear h hn hp0 hT hT0 k0 k1 hgr hsz
  go_enter Try.func30, Try.ntmps30
  go_wp2
  generalize (w.alloc (.cells #[.int .u64 0, .slice none 0 0] 69)).alloc (.cells #[.int .u64 (T : Int), .slice none 0 0] 69) = W0 at K0 K1 HG HSZ ⊢
  clear c0 c1
  go_loopw [13] (fun i wr => ∃ (k : Nat) (pa : Option Addr) (pc : Nat), k ≤ m ∧ i = .int .i64 (k : Int) ∧ Hid (wr.heap[w.heap.size]? = some (.cells #[.int .u64 0, .slice none 0 0] 69 (0, 0)) ∧ wr.heap[w.heap.size + 1]? = some (.cells #[.int .u64 (T : Int), .slice pa k pc] 69 (0, 0)) ∧ OwnP (w.heap.size + 2) wr (.slice pa k pc) ((ps.take k).map (·.2)) ∧ w.grownBy wr none ∧ w.heap.size + 2 ≤ wr.heap.size)) (fun i _ => m - (intOf i).toNat)
  case atStart => exact ⟨0, none, 0, Nat.zero_le _, rfl, Lib.hid ⟨K0.out, K1.out, ⟨World.ownsRow_nil _ _ _ _, by simp⟩, HG.out, by rw [HSZ.out]; exact Nat.le_refl _⟩⟩
  case round =>
    obtain ⟨k, pa, pc, hk, rfl, HH⟩ := hrel
    by_cases hlt : k < m
    · have hki : (k : Int) < (m : Int) := by omega
      have hkl : k < ps.length := by rw [← HN.out]; exact hlt
      obtain ⟨p, hp⟩ : ∃ p, ps[k]? = some p := ⟨ps[k], List.getElem?_eq_getElem hkl⟩
      have hok := HS.out.ok p (List.mem_of_getElem? hp)
      obtain ⟨b', o', hbo, _, d0, d1⟩ := (HS.out.grown HH.out.2.2.2.1).at k p hp
      cases hbo
      have HT := Lib.hid (show (ps.take (k + 1)).map (·.2) = (ps.take k).map (·.2) ++ [p.2] by rw [take_snoc hp]; simp)
      have HTL := Lib.hid (show ((ps.take k).map (·.2)).length = k by rw [List.length_map, List.length_take]; omega)
      obtain ⟨a1, a2⟩ := p
      simp only at d0 d1 HT
      have h32 : a2 < 4294967296 := hok.2
      generalize (ps.take k).map (·.2) = L at HH HT HTL
      have hga := World.grownBy_alloc wr (.cells #[.int .u64 (a1 : Int), .int .u32 (a2 : Int)] 65) none
      have HGA := Lib.hid hga
      have HQ := Lib.hid (heap_alloc_new wr (.cells #[.int .u64 (a1 : Int), .int .u32 (a2 : Int)] 65))
      have e1 := (cells2 (show (wr.alloc (.cells #[.int .u64 (a1 : Int), .int .u32 (a2 : Int)] 65)).heap[w.heap.size + 1]? = _ from (hga.block _ (by have := HH.out.2.2.2.2; omega) (by simp)).trans HH.out.2.1)).2.1
      have hsz3 : w.heap.size + 2 ≤ (wr.alloc (.cells #[.int .u64 (a1 : Int), .int .u32 (a2 : Int)] 65)).heap.size := by have := HH.out.2.2.2.2; simp; omega
      have HPA := Lib.hid ((HH.out.2.2.1).grown hga)
      clear hp hok hga
      go_wp2_with (at_builtin; refine wpList_append_own _ rfl _ _ 67 rfl (w.heap.size + 2) 41 i0 (.int .u32 0) 1 4 Try.underlying67 hi hz0 hz1 hz2 rfl (by decide) (.slice pa k pc) k (L.map encP) rfl ?c0 ⟨wr.heap.size + 1, 0, none⟩ 1 1 [encP a2] rfl rfl ?c1 (by simp [Value.oneCell', encP]) (by unfold maxLen; omega) (by omega) ?c2 ?_)
      case c0 =>
        have h := (HPA.out.grown (World.grownBy_alloc _ (.cells #[.int .u32 (a2 : Int)] 41) none)).1
        rw [HTL.out] at h
        exact h
      case c1 =>
        have h := cell_one_new (wr.alloc (.cells #[.int .u64 (a1 : Int), .int .u32 (a2 : Int)] 65)) (encP a2) 41
        simpa using h
      case c2 => simp; simp at hsz3; omega
      intro v' W4 hown hgrow _
      obtain ⟨g', cap', rfl⟩ := ownsRow_succ hown
      have hro := HPA.out.1.alloc (.cells #[.int .u32 (a2 : Int)] 41)
      rw [HTL.out] at hro
      have hg4 : w.grownBy W4 none := grow_own (gtrans HH.out.2.2.2.1 (gtrans HGA.out (World.grownBy_alloc _ (.cells #[.int .u32 (a2 : Int)] 41) none))) hro hgrow (by omega)
      have hlow : ∀ q, q < w.heap.size + 2 → W4.heap[q]? = wr.heap[q]? := fun q hq => by
        have hs := HH.out.2.2.2.2
        rw [hgrow.block q (by simp; omega) (fun e => by have := (hro.lt q e.symm).1; omega), Below.heap_alloc _ _ _ (by simp; omega), Below.heap_alloc _ _ _ (by omega)]
      have HB0 := Lib.hid ((hlow _ (by omega)).trans HH.out.1)
      have HB1 := Lib.hid ((hlow _ (by omega)).trans HH.out.2.1)
      have HOW := Lib.hid hown
      have HG4 := Lib.hid hg4
      have hs4 : w.heap.size + 2 ≤ W4.heap.size := by have := hgrow.size; simp at this; have := HH.out.2.2.2.2; omega
      obtain ⟨x0, x1, f0, f1⟩ := cells2 HB1.out
      clear hown hgrow hro hg4 hlow
      go_wp2
      have hset0 : (W4.setCell ⟨w.heap.size + 1, 1, none⟩ (.slice (some ⟨g', 0, none⟩) (k + 1) cap')).heap[w.heap.size]? = _ := (Below.heap_setCell _ _ _ _ (by simp)).trans HB0.out
      have hset1 : (W4.setCell ⟨w.heap.size + 1, 1, none⟩ (.slice (some ⟨g', 0, none⟩) (k + 1) cap')).heap[w.heap.size + 1]? = _ := two_set1 HB1.out
      have hown5 := ownsRow_setCell_below HOW.out (a := ⟨w.heap.size + 1, 1, none⟩) (by simp) (.slice (some ⟨g', 0, none⟩) (k + 1) cap')
      have HF := Lib.hid (And.intro hset0 (And.intro hset1 (And.intro (show OwnP (w.heap.size + 2) (W4.setCell ⟨w.heap.size + 1, 1, none⟩ (.slice (some ⟨g', 0, none⟩) (k + 1) cap')) (.slice (some ⟨g', 0, none⟩) (k + 1) cap') (L ++ [a2]) from
        ⟨by have h := hown5; rw [List.map_append, show (L ++ [a2]).length = k + 1 by rw [List.length_append, HTL.out]; rfl]; exact h, fun q hq => by
          rcases List.mem_append.1 hq with hq | hq
          · exact HH.out.2.2.1.2 q hq
          · have : q = a2 := by simpa using hq
            rw [this]; exact h32⟩) (And.intro (gnew HG4.out (gset W4 ⟨w.heap.size + 1, 1, none⟩ (.slice (some ⟨g', 0, none⟩) (k + 1) cap')) (show w.heap.size ≤ w.heap.size + 1 by omega)) (show w.heap.size + 2 ≤ (W4.setCell ⟨w.heap.size + 1, 1, none⟩ (.slice (some ⟨g', 0, none⟩) (k + 1) cap')).heap.size by simp [World.setCell]; omega)))))
      clear hset0 hset1 hown5
      go_roundw
      case rel => exact ⟨k + 1, _, _, by omega, by go_num, by rw [HT.out]; exact HF⟩
      case measure => simp [intOf]; omega
    · have hki : ¬ (k : Int) < (m : Int) := by omega
      have hkm : k = m := by omega
      obtain ⟨x0, x1, f0, f1⟩ := cells2 HH.out.2.1
      obtain ⟨y0, y1, g0, g1⟩ := cells2 HH.out.1
      have HO := Lib.hid (show OwnP (w.heap.size + 2) wr (.slice pa k pc) (ps.map (·.2)) by have h := HH.out.2.2.1; rw [show k = ps.length by rw [← HN.out]; omega, List.take_length, ← HN.out, ← hkm] at h; exact h)
      go_wp2
      refine bodyPost_ret (results_Rec rfl _ _ w.heap.size _ rfl (store2 HH.out.1 _ _) rfl) rfl ?_
      subst hkm
      exact ⟨pa, pc, rfl, ((HO.out.set (by omega) 0 _).set (by omega) 1 _).mono (by omega), gnew (gnew HH.out.2.2.2.1 (gset _ ⟨w.heap.size, 0, none⟩ _) (Nat.le_refl _)) (gset _ ⟨w.heap.size, 1, none⟩ _) (Nat.le_refl _)⟩

end Go.Proofs.Ytpgpilalhbdidaa
