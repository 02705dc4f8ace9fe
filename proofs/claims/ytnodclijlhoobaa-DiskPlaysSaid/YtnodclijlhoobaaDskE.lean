/-
  Layer 3: the contract of the reference's Sync. Own work.
-/
import Derived.Test.YtnodclijlhoobaaDskD
import Derived.Deep.RegionHeld3
import Derived.Deep.RegionLaw
namespace Go.Proofs.Ytnodclijlhoobaa
open Go.RowKit

/-- Loose writes, made good in order. -/
def applyL (good : List ByteArray) : List (Nat × ByteArray) → List ByteArray
  | [] => good
  | x :: l => applyL (good.set x.1 x.2) l
theorem applyL_snoc : ∀ (l : List (Nat × ByteArray)) (good : List ByteArray) (x : Nat × ByteArray), applyL good (l ++ [x]) = (applyL good l).set x.1 x.2
  | [], _, _ => rfl
  | y :: l, good, x => applyL_snoc l (good.set y.1 y.2) x
theorem applyL_len : ∀ (l : List (Nat × ByteArray)) (good : List ByteArray), (applyL good l).length = good.length
  | [], _ => rfl
  | y :: l, good => by rw [applyL, applyL_len l]; simp

set_option maxRecDepth 100000 in
set_option maxHeartbeats 4000000 in
theorem rsync_ok (w : World) (s l : Nat) (ga : Option Addr) (gn gc : Nat) (la : Option Addr) (ln lc : Nat) (f : Int) (c : Nat) (good : List ByteArray) (loose : List (Nat × ByteArray))
    (hg : Row w.heap.size w (.slice ga gn gc) good.length (good.map Value.string)) (hl : Row w.heap.size w (.slice la ln lc) loose.length (lcells loose)) (hn : loose.length ≤ 100000) (hgl : good.length ≤ 100000) (hin : ∀ x ∈ loose, x.1 < good.length)
    (hf : -9223372036854775808 ≤ f) (hf2 : f ≤ 9223372036854775807) (hc : c < 9223372036854775807) (h0 : f ≠ 0) :
    Calls Try.prog 21 #[.agg (dcs s l ga gn gc la ln lc f c)] w fun r w' => ∃ ga' gc', r = .returned (.tuple #[.agg (dcs s l ga' gn gc' none 0 0 (fnext f) (c + 1)), .int .i64 0]) ∧
      Row w'.heap.size w' (.slice ga' gn gc') gn ((applyL good loose).map Value.string) ∧ w.grownBy w' none := by
  have hgn : gn = good.length := by obtain ⟨_, _, hv, _⟩ := hg; cases hv; rfl
  have hln : ln = loose.length := by obtain ⟨_, _, hv, _⟩ := hl; cases hv; rfl
  have hblk : good.map Value.string ≠ [] → ∀ b o, ga = some ⟨b, o, none⟩ → b ≠ w.heap.size ∧ b ≠ w.heap.size + 1 := fun hne b o e => by
    obtain ⟨b', o', hab, hlt, _⟩ := hg.at hne
    rw [e] at hab; cases hab; omega
  have HBlk := Lib.hid hblk
  have hg' : Row w.heap.size w (.slice ga gn gc) gn (good.map Value.string) := by rw [← hgn] at hg; exact hg
  have HG := Lib.hid hg'
  have HL := Lib.hid hl
  have HGn := Lib.hid hgn
  have HLn := Lib.hid hln
  have HIn := Lib.hid hin
  have hn1 : ln ≤ 100000 := by omega
  have hg1 : gn ≤ 100000 := by omega
  obtain ⟨f', hf'⟩ : ∃ x, x = fnext f := ⟨_, rfl⟩
  have HF := Lib.hid hf'
  rw [← hf']
  clear hg hg' hl hgn hln hin hf' hn hgl hblk
  go_enter Try.func21, Try.ntmps21
  go_wp2_with (go_at_call 54; refine (rcount_ok _ s l ga gn gc la ln lc f c hf hf2 hc h0).mono ?_; rintro r w1 ⟨rfl, rfl⟩; rw [← HF.out])
  go_loopg [5] ln (fun g v wr => ∃ (k : Nat) (ga' : Option Addr) (gc' : Nat), k + g = ln ∧ v = .int .i64 (k : Int) ∧ wr.heap[w.heap.size]? = some (.cells (dcs s l ga' gn gc' la ln lc f' (c + 1)) 32 (0, 0)) ∧ wr.heap[w.heap.size + 1]? = some (.cells (dcs 0 0 none 0 0 none 0 0 0 0) 32 (0, 0)) ∧
    Row wr.heap.size wr (.slice ga' gn gc') gn ((applyL good (loose.take k)).map Value.string) ∧ ((applyL good (loose.take k)).map Value.string ≠ [] → ∀ b o, ga' = some ⟨b, o, none⟩ → b ≠ w.heap.size ∧ b ≠ w.heap.size + 1) ∧ w.grownBy wr none)
  case atStart => exact ⟨0, ga, gc, by omega, rfl, keep_alloc (keep_alloc (two_lit0 _ _ _) _) _, keep_alloc (keep_alloc (two_lit1 _ _ _) _) _, HG.out.grown (four_grown _ _ _ _ _), HBlk.out, four_grown _ _ _ _ _⟩
  case round =>
    obtain ⟨k, ga', gc', hk, rfl, hbox, hres, hrow, hbl, hgr⟩ := hrel
    have HBl := Lib.hid hbl
    have HRow := Lib.hid hrow
    have HGr := Lib.hid hgr
    have HRes := Lib.hid hres
    have HBox := Lib.hid hbox
    obtain ⟨⟨b0, b1, b2, b3, b4, b5⟩, bf0, bf1, bf2, bf3, bf4, bf5⟩ := cells6 hbox
    clear hrow hgr hbox hres hbl
    by_cases hlt : k < ln
    · obtain ⟨g, rfl⟩ : ∃ g, gk = g + 1 := ⟨gk - 1, by omega⟩
      have hki : (k : Int) < (ln : Int) := by omega
      obtain ⟨x, hx⟩ : ∃ x, loose[k]? = some x := ⟨_, List.getElem?_eq_getElem (by have := HLn.out; omega)⟩
      have HT := Lib.hid (show applyL good (loose.take (k + 1)) = (applyL good (loose.take k)).set x.1 x.2 by
        rw [← applyL_snoc]; congr 1
        have hkx : k < loose.length := by have := HLn.out; omega
        rw [List.take_succ_eq_append_getElem hkx]; rw [List.getElem?_eq_getElem hkx] at hx; cases hx; rfl)
      have HX := Lib.hid (HIn.out x (List.mem_of_getElem? hx))
      have HAL := Lib.hid (applyL_len (loose.take k) good)
      obtain ⟨lb, lo, rfl, hlb, hlc⟩ := (HL.out.below (fun i hi => HGr.out.block i hi (by simp))).at (fun e => by have := congrArg List.length e; rw [lcells_len, List.length_nil] at this; have := HLn.out; omega)
      obtain ⟨hx1, hx2⟩ := lcells_get loose k x hx
      have hc1 := hlc (2 * k) (by rw [lcells_len]; have := HLn.out; omega)
      have hc2 := hlc (2 * k + 1) (by rw [lcells_len]; have := HLn.out; omega)
      rw [hx1, Nat.mul_comm 2 k] at hc1
      rw [hx2, Nat.mul_comm 2 k, ← Nat.add_assoc] at hc2
      clear hlc hx1 hx2 hx
      obtain ⟨x1, x2⟩ := x
      generalize applyL good (loose.take k) = cur at HRow HT HAL HBl
      have HCur := Lib.hid (show cur.length = gn by rw [HAL.out, HGn.out])
      have HRw : Hid (Row wr.drew.heap.size wr.drew (.slice ga' gn gc') cur.length (cur.map Value.string)) := Lib.hid (by
        have h := HRow.out.grown (gdrew wr)
        rw [HCur.out]; exact h)
      have HX1 := Lib.hid (show x1 < cur.length by rw [HAL.out]; exact HX.out)
      have HX2 := Lib.hid (show cur.length ≤ 100000 by rw [HCur.out]; exact hg1)
      go_wp2
      have hst : ∀ (W : World) (v : Value), W.cell? ⟨w.heap.size, 3, none⟩ = some (.slice (some ⟨lb, lo, none⟩) ln lc) → W.cell? ⟨lb, lo + k * 2, none⟩ = some (.int .i64 (x1 : Int)) → W.cell? ⟨lb, lo + k * 2 + 1, none⟩ = some (.string x2) →
          (W.setCell ⟨w.heap.size, 2, none⟩ v).cell? ⟨w.heap.size, 3, none⟩ = some (.slice (some ⟨lb, lo, none⟩) ln lc) ∧ (W.setCell ⟨w.heap.size, 2, none⟩ v).cell? ⟨lb, lo + k * 2, none⟩ = some (.int .i64 (x1 : Int)) ∧ (W.setCell ⟨w.heap.size, 2, none⟩ v).cell? ⟨lb, lo + k * 2 + 1, none⟩ = some (.string x2) := by
        intro W v g1 g2 g3
        refine ⟨?_, ?_, ?_⟩
        · have hne : (⟨w.heap.size, 2, none⟩ : Addr) ≠ ⟨w.heap.size, 3, none⟩ := by intro e; injection e with _ e2; omega
          exact (World.cell?_setCell_other (h := hne) ..).trans g1
        · exact (World.cell?_of_block (w := W) (heap_setCell_other _ _ _ _ (by show lb ≠ w.heap.size; omega))).trans g2
        · exact (World.cell?_of_block (w := W) (heap_setCell_other _ _ _ _ (by show lb ≠ w.heap.size; omega))).trans g3
      go_region_law
        (first | (go_simp; go_at_call 57; have K1 := rset_any wr.drew (.slice ga' gn gc') cur x1 x2 HRw.out HX1.out HX2.out; rw [HCur.out] at K1; ((with_reducible refine K1.mono ?_); clear K1; rintro r w2 ⟨a3, c3, rfl, hr2, hg2, hnew⟩; have HNew := Lib.hid hnew; clear hnew; have S2 := And.intro (hg2.cell (row := none) b3 (by simp)) (And.intro (hg2.cell (row := none) hc1 (by simp)) (hg2.cell (row := none) hc2 (by simp))); have hbox2 := (hg2.block w.heap.size (lt_of_block HBox.out) (by simp)).trans HBox.out; have hres2 := (hg2.block (w.heap.size + 1) (lt_of_block HRes.out) (by simp)).trans HRes.out; obtain ⟨⟨_, _, y2, _, _, _⟩, _, _, yf2, _, _, _⟩ := cells6 hbox2; have HB2 := Lib.hid hbox2; have HR2 := Lib.hid hres2; have HG2 := Lib.hid (gtrans HGr.out (gtrans (gdrew _) hg2)); have HRow2 := Lib.hid hr2; clear hbox2 hres2 hg2 hr2)))
      all_goals
        go_wp2
        go_roundg g
        case measure => omega
        case rel =>
          refine ⟨k + 1, a3, c3, by omega, by go_num, heap_setCell_same _ w.heap.size 2 _ _ _ HB2.out, (heap_setCell_other _ _ _ _ (by simp)).trans HR2.out, ?_, ?_, gnew HG2.out (gset _ _ _) (Nat.le_refl _)⟩
          · rw [HT.out]
            refine (HRow2.out.setCell ⟨w.heap.size, 2, none⟩ _ fun _ b o e => ?_).mono (by simp [World.setCell])
            have h1 := HNew.out b o e
            have h2 : w.heap.size + 1 < wr.heap.size := lt_of_block HRes.out
            show b ≠ w.heap.size
            have h3 : wr.drew.heap.size = wr.heap.size := rfl
            omega
          · intro _ b o e
            have h1 := HNew.out b o e
            have h2 : w.heap.size + 1 < wr.heap.size := lt_of_block HRes.out
            have h3 : wr.drew.heap.size = wr.heap.size := rfl
            omega
    · obtain rfl : k = ln := by omega
      have HT := Lib.hid (show loose.take k = loose by rw [HLn.out]; exact List.take_length)
      rw [HT.out] at HRow HBl
      obtain ⟨⟨r0, r1, r2, r3, r4, r5⟩, rf0, rf1, rf2, rf3, rf4, rf5⟩ := cells6 HRes.out
      go_wp2
      have hr1 := (heap_setCell_other wr ⟨w.heap.size, 3, none⟩ (w.heap.size + 1) (.slice none 0 0) (by simp)).trans HRes.out
      have k2 := grown6 (wr.setCell ⟨w.heap.size, 3, none⟩ (.slice none 0 0)) (w.heap.size + 1) (.int .i64 (s : Int)) (.int .i64 (l : Int)) (.slice ga' gn gc') (.slice none 0 0) (.int .i64 f') (.int .i64 ((c : Int) + 1))
      refine bodyPost_ret (results_D rfl _ _ (w.heap.size + 1) _ _ rfl rfl (store6 hr1 _ _ _ _ _ _) rfl) rfl ⟨ga', gc', rfl, ?_, gnew (gnew HGr.out (gset _ _ _) (Nat.le_refl _)) k2 (by omega)⟩
      have h1 := HRow.out.setCell ⟨w.heap.size, 3, none⟩ (.slice none 0 0) (fun hne b o e => (HBl.out hne b o e).1)
      have hq : ∀ hne : (applyL good loose).map Value.string ≠ [], ∀ b o, ga' = some ⟨b, o, none⟩ → b ≠ w.heap.size + 1 := fun hne b o e => (HBl.out hne b o e).2
      have h2 := (((((h1.setCell ⟨w.heap.size + 1, 0, none⟩ (.int .i64 (s : Int)) hq).setCell ⟨w.heap.size + 1, 1, none⟩ (.int .i64 (l : Int)) hq).setCell ⟨w.heap.size + 1, 2, none⟩ (.slice ga' gn gc') hq).setCell ⟨w.heap.size + 1, 3, none⟩ (.slice none 0 0) hq).setCell ⟨w.heap.size + 1, 4, none⟩ (.int .i64 f') hq).setCell ⟨w.heap.size + 1, 5, none⟩ (.int .i64 ((c : Int) + 1)) hq
      exact h2.mono (Nat.le_trans (gset wr ⟨w.heap.size, 3, none⟩ (.slice none 0 0)).size k2.size)

end Go.Proofs.Ytnodclijlhoobaa
