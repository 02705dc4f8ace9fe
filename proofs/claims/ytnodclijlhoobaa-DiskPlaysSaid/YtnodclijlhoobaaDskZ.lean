/-
  Layer 3: the contract of the reference's From. Own work.
-/
import Derived.Test.YtnodclijlhoobaaDskD
import Derived.Test.YtnodclijlhoobaaOnto
namespace Go.Proofs.Ytnodclijlhoobaa
open Go.RowKit

/-- The pages of raw bytes, as strings. -/
def chunksA (b : ByteArray) (s k : Nat) : List ByteArray := (List.range k).map fun j => b.extract (j * s) (j * s + s)
theorem chunksA_succ (b : ByteArray) (s k : Nat) : chunksA b s (k + 1) = chunksA b s k ++ [b.extract (k * s) (k * s + s)] := by simp [chunksA, List.range_succ]
theorem chunksA_len (b : ByteArray) (s k : Nat) : (chunksA b s k).length = k := by simp [chunksA]

theorem str_some (b : ByteArray) (h : 0 < b.size) : (!b.toList.isEmpty) = true := by
  rw [ByteArray.toList_eq]
  have hl : b.data.toList.length = b.size := by rw [Array.length_toList]; rfl
  cases e : b.data.toList with
  | nil => rw [e] at hl; simp at hl; omega
  | cons x xs => rfl
theorem str_none (b : ByteArray) (h : b.size = 0) : (!b.toList.isEmpty) = false := by
  rw [ByteArray.toList_eq]
  have hl : b.data.toList.length = b.size := by rw [Array.length_toList]; rfl
  cases e : b.data.toList with
  | nil => rfl
  | cons x xs => rw [e] at hl; simp at hl; omega
theorem lit1_drew (w : World) (v : Value) (t : TypeId) : ∀ j u, ([v] : List Value)[j]? = some u → (w.alloc (.cells #[v] t)).drew.cell? ((⟨w.heap.size, 0, none⟩ : Addr).add j) = some u := by
  intro j u hu
  have hj := (List.getElem?_eq_some_iff.1 hu).1
  rw [Addr.add_lit, Nat.zero_add]
  show (w.alloc (.cells #[v] t)).cell? _ = _
  rw [World.cell?_alloc_mark, ← hu]
  match j, hj with
  | 0, _ => rfl

set_option maxRecDepth 100000 in
set_option maxHeartbeats 4000000 in
theorem rfrom_ok (w : World) (b : ByteArray) (s l k : Nat) (h : mayD s l) (hb : b.size = k * s) (hk : k ≤ l) :
    Calls Try.prog 12 #[.string b, .int .i64 (s : Int), .int .i64 (l : Int)] w fun r w' => ∃ ga' gc', r = .returned (.tuple #[.agg (dcs s l ga' k gc' none 0 0 (-1) 0), .int .i64 0]) ∧
      Row w'.heap.size w' (.slice ga' k gc') k ((chunksA b s k).map Value.string) ∧ w.grownBy w' none := by
  have HM := Lib.hid h
  have hs0 : (512 : Int) ≤ (s : Int) := h.1
  have hs9 : (s : Int) ≤ (4096 : Int) := h.2.1
  have hl9 : (l : Int) ≤ (65536 : Int) := h.2.2.2.2
  have hs1 : ¬ (s : Int) = 0 := by omega
  have hs2 : ((s : Int) == 0) = false := by simpa using hs1
  have hqi : (b.size : Int) % (s : Int) = 0 := by rw [hb]; simp
  have hpi : (b.size : Int) / (s : Int) = (k : Int) := by rw [hb, Int.natCast_mul]; exact Int.mul_ediv_cancel _ hs1
  have hpl : ¬ (l : Int) < (k : Int) := by omega
  have hdl : decide (l < k) = false := by simpa using hk
  have hnk : b.size ≤ 268435456 := by rw [hb]; exact Nat.le_trans (Nat.mul_le_mul (show k ≤ 65536 by omega) (show s ≤ 4096 by omega)) (by decide)
  have HN := Lib.hid hb
  obtain ⟨i0, hi0, hz0, hz1, hz2⟩ := info_parts infoStr
  clear h hb
  go_enter Try.func12, Try.ntmps12
  go_wp2_with (first
    | (go_at_call 51; refine (rnew_good _ s l HM.out).mono ?_; rintro r w1 ⟨rfl, hg⟩; have HG := Lib.hid hg; clear hg))
  obtain ⟨q, hq⟩ : ∃ q, q = w1.heap.size := ⟨_, rfl⟩
  have hqs : w.heap.size < q := by have := HG.out.size; simp at this; omega
  have hbox0 := heap_alloc_new w1 (.cells (dcs s l none 0 0 none 0 0 (-1) 0) 32)
  have hres0 : (w1.alloc (.cells (dcs s l none 0 0 none 0 0 (-1) 0) 32)).heap[w.heap.size]? = some (.cells (dcs 0 0 none 0 0 none 0 0 0 0) 32 (0, 0)) := keep_alloc ((HG.out.block w.heap.size (by simp) (by simp)).trans (heap_alloc_new _ _)) _
  have HG0 := Lib.hid (gtrans (gtrans (World.grownBy_alloc w _ none) HG.out) (World.grownBy_alloc w1 (.cells (dcs s l none 0 0 none 0 0 (-1) 0) 32) none))
  rw [← hq] at hbox0 ⊢
  have HB0 := Lib.hid hbox0
  have HR0 := Lib.hid hres0
  clear hbox0 hres0 hq hqi hpi hpl hdl hs2
  go_loopg [0] k (fun g v wr => ∃ (j : Nat) (cur : ByteArray) (ga' : Option Addr) (gc' : Nat), j + g = k ∧ v = .string cur ∧ cur = b.extract (j * s) b.size ∧ wr.heap[q]? = some (.cells (dcs s l ga' j gc' none 0 0 (-1) 0) 32 (0, 0)) ∧ wr.heap[w.heap.size]? = some (.cells (dcs 0 0 none 0 0 none 0 0 0 0) 32 (0, 0)) ∧
    wr.ownsRow (q + 1) 9 1 (.slice ga' j gc') j ((chunksA b s j).map Value.string) ∧ w.grownBy wr none)
  case atStart => exact ⟨0, b, none, 0, by omega, rfl, by simp, HB0.out, HR0.out, World.ownsRow_nil _ _ _ _, HG0.out⟩
  case round =>
    obtain ⟨j, cur, ga, gc, hj, rfl, hcur, hbx, hrs, hown, hgr⟩ := hrel
    have HBx := Lib.hid hbx
    have HRs := Lib.hid hrs
    have HO := Lib.hid hown
    have HGr := Lib.hid hgr
    have HCur := Lib.hid hcur
    obtain ⟨⟨b0, b1, b2, b3, b4, b5⟩, bf0, bf1, bf2, bf3, bf4, bf5⟩ := cells6 hbx
    have hcz : cur.size = b.size - j * s := by rw [hcur, ByteArray.size_extract, Nat.min_self]
    clear hbx hrs hown hgr hcur HB0 HR0 HG0
    by_cases hlt : j < k
    · obtain ⟨g, rfl⟩ : ∃ g, gk = g + 1 := ⟨gk - 1, by omega⟩
      have hjs : j * s + s ≤ b.size := by rw [HN.out, ← Nat.succ_mul]; exact Nat.mul_le_mul_right _ hlt
      have hsc : s ≤ cur.size := by omega
      have hne := str_some cur (by omega)
      have hsi : (s : Int) ≤ (cur.size : Int) := by omega
      clear hcz
      have HX := Lib.hid (show chunksA b s (j + 1) = chunksA b s j ++ [cur.extract 0 s] by
        rw [chunksA_succ, HCur.out, ByteArray.extract_extract]; congr 3; omega)
      have HC2 := Lib.hid (show cur.extract s cur.size = b.extract ((j + 1) * s) b.size by
        rw [HCur.out, ByteArray.size_extract, ByteArray.extract_extract, Nat.succ_mul]; congr 1; omega)
      have b2A := cell_alloc b2 (o := .cells #[.string (cur.extract 0 s)] 9)
      go_wp2
      go_region_law (refine step_append_own2 rfl (.tmp 37) (.tmp 41) 29 rfl (q + 1) 9 i0 (.string ByteArray.empty) 1 16 Try.underlying29 hi0 hz0 hz1 hz2 rfl (by decide) _ _ _ rfl (HO.out.alloc _) ⟨wr.heap.size, 0, none⟩ 1 1 [.string (cur.extract 0 s)] rfl rfl (lit1_drew _ _ _) (by intro u hu; simp at hu; subst hu; rfl) (by unfold maxLen; omega) (by omega) (by have := lt_of_block HBx.out; simp; omega) ?_; intro v' w2 hown' hgrow hfr; obtain ⟨ao', c', rfl⟩ := own_shape hown'; have hgr2 : wr.grownBy w2 (Value.slice ga j gc).ownBlock := gtrans (gtrans (World.grownBy_alloc _ _ _) (gwide (gdrew _))) hgrow; have hnq : ∀ i, i ≤ q → some i ≠ (Value.slice ga j gc).ownBlock := (fun i hi e => by have := (HO.out.lt i e.symm).1; omega); have hb2 := (hgr2.block q (lt_of_block HBx.out) (hnq q (Nat.le_refl _))).trans HBx.out; have hr2 := (hgr2.block w.heap.size (lt_of_block HRs.out) (hnq _ (Nat.le_of_lt hqs))).trans HRs.out; have y2 := (cells6 hb2).1.2.2.1; have yf2 := (cells6 hb2).2.2.2.1; have HB2 := Lib.hid hb2; have HR2 := Lib.hid hr2; have HO2 : Hid (w2.ownsRow (q + 1) 9 1 (.slice ao' (j + 1) c') (j + 1) ((chunksA b s (j + 1)).map Value.string)) := Lib.hid (by rw [HX.out, List.map_append]; exact hown'); have HG2 : Hid (w.grownBy w2 none) := Lib.hid ⟨hgr2.os.trans HGr.out.os, hgr2.tape.trans HGr.out.tape, hgr2.output.trans HGr.out.output, Nat.le_trans HGr.out.size hgr2.size, fun i hi _ => (hgr2.block i (Nat.lt_of_lt_of_le hi HGr.out.size) (hnq i (by omega))).trans (HGr.out.block i hi (by simp))⟩; clear hown' hgrow hfr hgr2 hnq hb2 hr2)
      all_goals
        go_wp2
        go_roundg g
        case measure => omega
        case rel =>
          refine ⟨j + 1, _, ao', c', by omega, rfl, HC2.out, heap_setCell_same _ q 2 _ _ _ HB2.out, (heap_setCell_other _ _ _ _ (by show w.heap.size ≠ q; omega)).trans HR2.out, ?_, gnew HG2.out (gset _ ⟨q, 2, none⟩ _) (Nat.le_of_lt hqs)⟩
          refine HO2.out.kept (gset w2 ⟨q, 2, none⟩ _) (Or.inr fun e => ?_)
          have := (HO2.out.lt q e).1
          omega
    · obtain rfl : j = k := by omega
      have hne := str_none cur (by rw [hcz, HN.out]; omega)
      obtain ⟨⟨r0, r1, r2, r3, r4, r5⟩, rf0, rf1, rf2, rf3, rf4, rf5⟩ := cells6 HRs.out
      clear hcz
      go_wp2
      have k2 := grown6 wr w.heap.size (.int .i64 (s : Int)) (.int .i64 (l : Int)) (.slice ga j gc) (.slice none 0 0) (.int .i64 (-1)) (.int .i64 0)
      refine bodyPost_ret (results_D rfl _ _ w.heap.size _ _ rfl rfl (store6 HRs.out _ _ _ _ _ _) rfl) rfl ⟨ga, gc, rfl, ?_, gnew HGr.out k2 (Nat.le_refl _)⟩
      have hO := HO.out.kept k2 (Or.inr fun e => by have := (HO.out.lt w.heap.size e).1; omega)
      exact Row.owned hO (by decide)

set_option maxRecDepth 100000 in
set_option maxHeartbeats 4000000 in
theorem rfrom_bad (w : World) (b : ByteArray) (s l : Int) (h : ¬ mayD s l) :
    Calls Try.prog 12 #[.string b, .int .i64 s, .int .i64 l] w fun r w' => r = .returned (.tuple #[.agg (dcs 0 0 none 0 0 none 0 0 0 0), .int .i64 1]) ∧ w.grownBy w' none := by
  have HM := Lib.hid h
  clear h
  go_enter Try.func12, Try.ntmps12
  go_wp2_with (first
    | (go_at_call 51; refine (rnew_bad _ s l HM.out).mono ?_; rintro r w1 ⟨rfl, hg⟩; have hres := (hg.block w.heap.size (by simp) (by simp)).trans (heap_alloc_new w (.cells (dcs 0 0 none 0 0 none 0 0 0 0) 32)); have hr2 := keep_alloc hres (.cells #[.int .i64 0, .int .i64 0, .slice none 0 0, .slice none 0 0, .int .i64 0, .int .i64 0] 32); have HR := Lib.hid hr2; have HG := Lib.hid (gtrans (gtrans (World.grownBy_alloc w _ none) hg) (World.grownBy_alloc w1 (.cells #[.int .i64 0, .int .i64 0, .slice none 0 0, .slice none 0 0, .int .i64 0, .int .i64 0] 32) none)); obtain ⟨⟨r0, r1, r2, r3, r4, r5⟩, rf0, rf1, rf2, rf3, rf4, rf5⟩ := cells6 hr2; clear hg hres hr2))
  exact bodyPost_ret (results_D rfl _ _ w.heap.size _ _ rfl rfl (store6 HR.out _ _ _ _ _ _) rfl) rfl ⟨rfl, gnew HG.out (grown6 _ w.heap.size _ _ _ _ _ _) (Nat.le_refl _)⟩
set_option maxRecDepth 100000 in
set_option maxHeartbeats 4000000 in
theorem rfrom_len (w : World) (b : ByteArray) (s l : Nat) (h : mayD s l) (h9 : b.size ≤ maxLen) (hn : b.size % s ≠ 0 ∨ l < b.size / s) :
    Calls Try.prog 12 #[.string b, .int .i64 (s : Int), .int .i64 (l : Int)] w fun r w' => r = .returned (.tuple #[.agg (dcs 0 0 none 0 0 none 0 0 0 0), .int .i64 1]) ∧ w.grownBy w' none := by
  have HM := Lib.hid h
  have hs0 : (512 : Int) ≤ (s : Int) := h.1
  have hs1 : ¬ (s : Int) = 0 := by omega
  have hs2 : ((s : Int) == 0) = false := by simpa using hs1
  obtain ⟨q, hq⟩ : ∃ q, q = b.size % s := ⟨_, rfl⟩
  obtain ⟨p, hp⟩ : ∃ p, p = b.size / s := ⟨_, rfl⟩
  have hqi : (b.size : Int) % (s : Int) = (q : Int) := by rw [hq]; simp
  have hpi : (b.size : Int) / (s : Int) = (p : Int) := by rw [hp]; simp
  have hp9 : (p : Int) ≤ 9223372036854775807 := by have := Nat.div_le_self b.size s; unfold maxLen at h9; omega
  clear h9
  rw [← hq, ← hp] at hn
  by_cases hz : q = 0
  · subst hz
    have hpl : (l : Int) < (p : Int) := by omega
    clear hq hp hn h
    go_enter Try.func12, Try.ntmps12
    go_wp2_with (first
      | (go_at_call 51; refine (rnew_good _ s l HM.out).mono ?_; rintro r w1 ⟨rfl, hg⟩; have hres := (hg.block w.heap.size (by simp) (by simp)).trans (heap_alloc_new w (.cells (dcs 0 0 none 0 0 none 0 0 0 0) 32)); have hr2 := keep_alloc hres (.cells #[.int .i64 (s : Int), .int .i64 (l : Int), .slice none 0 0, .slice none 0 0, .int .i64 (-1), .int .i64 0] 32); have HR := Lib.hid hr2; have HG := Lib.hid (gtrans (gtrans (World.grownBy_alloc w _ none) hg) (World.grownBy_alloc w1 (.cells #[.int .i64 (s : Int), .int .i64 (l : Int), .slice none 0 0, .slice none 0 0, .int .i64 (-1), .int .i64 0] 32) none)); obtain ⟨⟨r0, r1, r2, r3, r4, r5⟩, rf0, rf1, rf2, rf3, rf4, rf5⟩ := cells6 hr2; clear hg hres hr2))
    exact bodyPost_ret (results_D rfl _ _ w.heap.size _ _ rfl rfl (store6 HR.out _ _ _ _ _ _) rfl) rfl ⟨rfl, gnew HG.out (grown6 _ w.heap.size _ _ _ _ _ _) (Nat.le_refl _)⟩
  · have hqz : ((q : Int) != 0) = true := by simpa using hz
    clear hq hp hn h hz
    go_enter Try.func12, Try.ntmps12
    go_wp2_with (first
      | (go_at_call 51; refine (rnew_good _ s l HM.out).mono ?_; rintro r w1 ⟨rfl, hg⟩; have hres := (hg.block w.heap.size (by simp) (by simp)).trans (heap_alloc_new w (.cells (dcs 0 0 none 0 0 none 0 0 0 0) 32)); have hr2 := keep_alloc hres (.cells #[.int .i64 (s : Int), .int .i64 (l : Int), .slice none 0 0, .slice none 0 0, .int .i64 (-1), .int .i64 0] 32); have HR := Lib.hid hr2; have HG := Lib.hid (gtrans (gtrans (World.grownBy_alloc w _ none) hg) (World.grownBy_alloc w1 (.cells #[.int .i64 (s : Int), .int .i64 (l : Int), .slice none 0 0, .slice none 0 0, .int .i64 (-1), .int .i64 0] 32) none)); obtain ⟨⟨r0, r1, r2, r3, r4, r5⟩, rf0, rf1, rf2, rf3, rf4, rf5⟩ := cells6 hr2; clear hg hres hr2))
    exact bodyPost_ret (results_D rfl _ _ w.heap.size _ _ rfl rfl (store6 HR.out _ _ _ _ _ _) rfl) rfl ⟨rfl, gnew HG.out (grown6 _ w.heap.size _ _ _ _ _ _) (Nat.le_refl _)⟩

end Go.Proofs.Ytnodclijlhoobaa
