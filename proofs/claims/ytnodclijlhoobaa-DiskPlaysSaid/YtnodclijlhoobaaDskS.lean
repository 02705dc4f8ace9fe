/-
  Layer 3: the document's example, run (awake). Own work.
-/
import Derived.Test.YtnodclijlhoobaaDskR
import Derived.Test.YtnodclijlhoobaaDskF
namespace Go.Proofs.Ytnodclijlhoobaa
open Go.RowKit

theorem fullB_get (n k j : Nat) (bs : List Int) (h : j < n) (hk : n ≤ k) : (fullB n bs k).getD j 0 = bs.getD (j % bs.length) 0 := by
  simp [fullB, List.getD_eq_getElem?_getD, h, show j < k by omega]
/-- A literal row of bytes. -/
theorem lit_own (w : World) (B : Nat) (hB : B ≤ w.heap.size) (xs : List Int) (hm : xs.length ≤ maxLen) : Own8 B (w.alloc (.cells (xs.map (Value.int .u8)).toArray 5)) xs.length (.slice (some ⟨w.heap.size, 0, none⟩) xs.length xs.length) xs :=
  ⟨by simp, .inr ⟨w.heap.size, xs.length, _, rfl, hB, heap_alloc_new _ _, Nat.le_refl _, hm, by simp, by rw [List.toList_toArray, Nat.mul_one, List.take_of_length_le (by simp)]⟩⟩
/-- Where a page that was read lies. -/
theorem Own8.at {B n : Nat} {w : World} {ao : Option Addr} {c : Nat} {bs : List Int} (h : Own8 B w n (.slice ao n c) bs) (hn : 0 < n) : ∃ b, ao = some ⟨b, 0, none⟩ ∧ b < w.heap.size ∧ B ≤ b ∧ ∀ j, j < n → w.cell? ⟨b, j, none⟩ = some (.int .u8 (bs.getD j 0)) := by
  obtain ⟨b, c', hv, hb, hc⟩ := own_at h hn
  have := own_tag h
  simp only [Value.slice.injEq] at hv
  obtain ⟨rfl, _, _⟩ := hv
  exact ⟨b, rfl, hb, (this b rfl).1, hc⟩
theorem full_own {w : World} {base g n k : Nat} {bs : List Int} (h : w.ownsRow base 5 1 (.slice (some ⟨g, 0, none⟩) k n) k ((fullV n bs false).map (Value.int .u8))) : k = n := by
  have := h.1
  simp [fullV, fullB_len] at this
  omega

/-- The model of the example. -/
def aw0 : SM := { size := 512, limit := 4, pg := [], loose := [], fails := false, ahead := 0, calls := 0, once := false }
def aw1 (o : Bool) : SM := growM (cntM aw0) 2 o
def aw2 (o : Bool) : SM := wrM (aw1 o) 1 (fullB 512 [7] 512)
def aw3 (o : Bool) : SM := cntM (aw2 o)
def aw4 (o : Bool) : SM := crashM (aw3 o) [2]
theorem aw2_last (o : Bool) : lastM (aw2 o) 1 = fullB 512 [7] 512 := by
  simp [lastM, aw2, wrM, aw1, growM, cntM, aw0, -List.reduceReplicate, List.replicate_succ (n := 1), List.replicate_succ (n := 0)]
theorem aw4_last (o : Bool) : lastM (aw4 o) 1 = tornB (List.replicate 512 0) (fullB 512 [7] 512) 2 4 := by
  simp [lastM, aw4, crashM, aw3, crashP, crashS, aw2, wrM, aw1, growM, cntM, aw0, -List.reduceReplicate, List.replicate_succ (n := 1), List.replicate_succ (n := 0)]
theorem aw_fine : Fine aw0 ∧ (∀ o, Fine (aw1 o)) ∧ (∀ o, Fine (aw2 o)) ∧ (∀ o, Fine (aw4 o)) := ⟨⟨by decide, by decide, by decide⟩, fun o => by cases o <;> exact ⟨by decide, by decide, by decide⟩, fun o => by cases o <;> exact ⟨by decide, by decide, by decide⟩, fun o => by cases o <;> exact ⟨by decide, by decide, by decide⟩⟩
theorem torn_at (j : Nat) (h : j < 512) : (tornB (List.replicate 512 0) (fullB 512 [7] 512) 2 4).getD j 0 = if bitB 2 (j / 128 % 8) = true then 7 else 0 := by
  rw [List.getD_eq_getElem?_getD, tornB_get _ _ _ _ _ (by rw [List.length_replicate]; exact h), Option.getD_some, fullB_get _ _ _ _ h (Nat.le_refl _)]
  have h4 : j / 128 < 4 := by omega
  by_cases hb : bitB 2 (j / 128 % 8) = true
  · rw [if_pos ⟨h4, hb⟩, if_pos hb, show j % ([7] : List Int).length = 0 from Nat.mod_one j]; rfl
  · rw [if_neg (fun e => hb e.2), if_neg hb, List.getD_eq_getElem?_getD, List.getElem?_replicate, if_pos h]; rfl

set_option maxRecDepth 100000 in
set_option maxHeartbeats 4000000 in
theorem awake3_any (w : World) : Calls Try.prog 10 #[] w fun r w' => r = .returned (.bool true) ∧ w.grownBy w' none := by
  have hmay : May ((512 : Nat) : Int) ((4 : Nat) : Int) := by decide
  have HF := Lib.hid aw_fine
  go_enter Try.func10, Try.ntmps10
  go_wp2_with (first
    | (go_at_call 48; refine (new_good _ 512 4 hmay).mono ?_; rintro e w0 ⟨rfl, hw0⟩; have HD0 : Hid (DskAt w.heap.size w0 w.heap.size aw0) := Lib.hid (by rw [← hw0]; exact newM (Nat.le_refl _)); have HG0 : Hid (Dfr w.heap.size w w0) := Lib.hid (by rw [← hw0]; exact dfr_new (World.grownBy_alloc _ _ _)); clear hw0)
    | (go_at_call 18; refine (HD0.out.grow (n := 2) HF.out.1 (by decide) (by decide) (by decide) (by decide) (by decide)).mono ?_; rintro e w1 ⟨o, rfl, hd, hf⟩; have HD1 : Hid (DskAt w.heap.size w1 w.heap.size (aw1 o)) := Lib.hid hd; have HG1 := Lib.hid (HG0.out.trans hf); clear hd hf)
    | (go_at_call 13; have hs1 : Own8 w1.heap.size (w1.alloc (.cells #[.int .u8 7] 5)) 1 (.slice (some ⟨w1.heap.size, 0, none⟩) 1 1) [7] := lit_own w1 w1.heap.size (Nat.le_refl _) [7] (by decide); refine (full_any _ 512 _ 1 1 [7] false hs1.seq (by decide)).mono ?_; rintro e w2 ⟨g, k, rfl, ho, hg⟩; obtain rfl := full_own ho; have HO2 : Hid (Own8 (w1.alloc (.cells #[.int .u8 7] 5)).heap.size w2 512 (.slice (some ⟨g, 0, none⟩) 512 512) (fullB 512 [7] 512)) := Lib.hid ho; have HG2 := Lib.hid (HG1.out.trans (dfr_new (gtrans (World.grownBy_alloc _ _ _) hg))); have HD2 := Lib.hid (HD1.out.new (gtrans (World.grownBy_alloc _ _ _) hg)); clear hs1 ho hg)
    | (go_at_call 14; refine (HD2.out.write (i := 1) (HF.out.2.1 o) (by cases o <;> decide) (by cases o <;> decide) (by cases o <;> decide) HO2.out (by cases o <;> decide)).mono ?_; rintro e w3 ⟨rfl, hd, hf⟩; have HD3 : Hid (DskAt w.heap.size w3 w.heap.size (aw2 o)) := Lib.hid hd; have HG3 := Lib.hid (HG2.out.trans hf); clear hd hf)
    | (go_at_call 16; refine (HD3.out.read (i := 1) (HF.out.2.2.1 o) (by cases o <;> decide) (by cases o <;> decide) (by cases o <;> decide)).mono ?_; rintro e w4 ⟨wc, ao, ec, he, hd, hz, hf, hg, ho⟩; obtain rfl : e = .returned (.tuple #[.slice ao 512 ec, .int .i64 0]) := he; rw [aw2_last] at ho; have HO4 : Hid (Own8 wc.heap.size w4 512 (.slice ao 512 ec) (fullB 512 [7] 512)) := Lib.hid ho; have HD4 : Hid (DskAt w.heap.size w4 w.heap.size (aw3 o)) := Lib.hid (hd.new hg); have HG4 := Lib.hid ((HG3.out.trans hf).trans (dfr_new hg)); clear hd hz hf hg ho)
    | (go_at_call 24; have hs1 : Own8 w4.heap.size (w4.alloc (.cells #[.int .u8 2] 5)) 1 (.slice (some ⟨w4.heap.size, 0, none⟩) 1 1) [2] := lit_own w4 w4.heap.size (Nat.le_refl _) [2] (by decide); refine ((HD4.out.new (World.grownBy_alloc _ _ _)).crash (stays_own hs1) (by intro x hx; simp at hx; omega) (by cases o <;> decide) (by cases o <;> decide) (by cases o <;> decide) (by cases o <;> decide) (by cases o <;> decide)).mono ?_; rintro e w5 ⟨rfl, hd, hf⟩; have HD5 : Hid (DskAt w.heap.size w5 w.heap.size (aw4 o)) := Lib.hid hd; have hf5 := (dfr_new (B := w.heap.size) (World.grownBy_alloc w4 (.cells #[.int .u8 2] 5) none)).trans hf; have HG5 := Lib.hid (HG4.out.trans hf5); have HO5 : Hid (Own8 wc.heap.size w5 512 (.slice ao 512 ec) (fullB 512 [7] 512)) := Lib.hid (hf5.own HO4.out (by decide)); clear hd hf hf5 hs1)
    | (go_at_call 16; refine (HD5.out.read (i := 1) (HF.out.2.2.2 o) (by cases o <;> decide) (by cases o <;> decide) (by cases o <;> decide)).mono ?_; rintro e w6 ⟨wd, ap, ed, he, hd, hz, hf, hg, ho⟩; obtain rfl : e = .returned (.tuple #[.slice ap 512 ed, .int .i64 0]) := he; rw [aw4_last] at ho; have HO6 : Hid (Own8 wd.heap.size w6 512 (.slice ap 512 ed) (tornB (List.replicate 512 0) (fullB 512 [7] 512) 2 4)) := Lib.hid ho; have HD6 : Hid (DskAt w.heap.size w6 w.heap.size (cntM (aw4 o))) := Lib.hid (hd.new hg); have hf6 := hf.trans (dfr_new (B := w.heap.size) hg); have HG6 := Lib.hid (HG5.out.trans hf6); have HO56 : Hid (Own8 wc.heap.size w6 512 (.slice ao 512 ec) (fullB 512 [7] 512)) := Lib.hid (hf6.own HO5.out (by decide));
        obtain ⟨p5, rfl, -, -, k5⟩ := HO56.out.at (by decide); obtain ⟨p6, rfl, -, -, k6⟩ := HO6.out.at (by decide); have q511 := k5 511 (by decide); have q127 := k6 127 (by decide); have q128 := k6 128 (by decide); have q255 := k6 255 (by decide); have q256 := k6 256 (by decide); rw [fullB_get _ _ _ _ (by decide) (by decide)] at q511; rw [torn_at _ (by decide)] at q127 q128 q255 q256;
        have r511 : w6.cell? ⟨p5, 511, none⟩ = some (.int .u8 7) := q511; have r127 : w6.cell? ⟨p6, 127, none⟩ = some (.int .u8 0) := q127; have r128 : w6.cell? ⟨p6, 128, none⟩ = some (.int .u8 7) := q128; have r255 : w6.cell? ⟨p6, 255, none⟩ = some (.int .u8 7) := q255; have r256 : w6.cell? ⟨p6, 256, none⟩ = some (.int .u8 0) := q256; clear k5 k6 q511 q127 q128 q255 q256 hd hz hf hg ho hf6)
    | (go_at_call 28; obtain ⟨al, cl, hl⟩ := HD6.out.los; refine (loose_any _ _ al 0 cl (by cases o <;> exact hl)).mono ?_; rintro e w' ⟨rfl, rfl⟩; clear hl)
    | (go_at_call 31; have hl := HD6.out.lim.2.2; refine (calls_any _ _ 4 (by cases o <;> exact hl)).mono ?_; rintro e w' ⟨rfl, rfl⟩; clear hl))
  go_ret
  exact ⟨rfl, gof (HG6.out.below (Nat.le_refl _)) none⟩

end Go.Proofs.Ytnodclijlhoobaa
