/-
  Layer 3: the contract of the law's own 'full': a page out of raw bytes, again and again. Own work.
-/
import Derived.Test.YtnodclijlhoobaaWord
import Derived.Deep.LoopGhost
namespace Go.Proofs.Ytnodclijlhoobaa
open Go.RowKit

/-- n bytes, the first k of them bs, again and again. -/
def fullB (n : Nat) (bs : List Int) (k : Nat) : List Int := (List.range n).map fun j => if j < k then bs.getD (j % bs.length) 0 else 0
theorem fullB_len (n : Nat) (bs : List Int) (k : Nat) : (fullB n bs k).length = n := by simp [fullB]
theorem fullB_zero (n : Nat) (bs : List Int) : fullB n bs 0 = List.replicate n 0 := by
  apply List.ext_getElem?
  intro j
  simp only [fullB, List.getElem?_map, List.getElem?_replicate]
  by_cases h : j < n <;> simp [h]
theorem fullB_nil (n k : Nat) : fullB n [] k = List.replicate n 0 := by
  apply List.ext_getElem?
  intro j
  simp only [fullB, List.getElem?_map, List.getElem?_replicate]
  by_cases h : j < n <;> simp [h]
theorem fullB_set (n : Nat) (bs : List Int) (k : Nat) (hk : k < n) : (fullB n bs k).set k (bs.getD (k % bs.length) 0) = fullB n bs (k + 1) := by
  apply List.ext_getElem?
  intro j
  rw [List.getElem?_set]
  by_cases hj : j < n
  · by_cases e : k = j
    · subst e; simp [fullB, hk]
    · have : (j < k + 1) = (j < k) := by apply propext; omega
      simp [fullB, hj, e, this]
  · have h0 : ∀ k, (fullB n bs k)[j]? = none := fun k => List.getElem?_eq_none (by rw [fullB_len]; omega)
    have : ¬ k = j := by omega
    simp [h0, this]
theorem fullB_byt {bs : List Int} (h : Byt bs) (n k : Nat) : Byt (fullB n bs k) := by
  intro x hx
  simp only [fullB, List.mem_map] at hx
  obtain ⟨j, _, rfl⟩ := hx
  split
  · exact Byt.get h _
  · omega
/-- What the law's 'full' is. -/
def fullV (n : Nat) (bs : List Int) (odd : Bool) : List Int := if odd = true ∧ 0 < n then (fullB n bs n).take (n - 1) else fullB n bs n

/-- What is owned, but the last of it. -/
theorem own_pre {base n k c g : Nat} {t : TypeId} {w : World} {xs : List Value} (h : w.ownsRow base t 1 (.slice (some ⟨g, 0, none⟩) n c) n xs) (hk : k ≤ n) : w.ownsRow base t 1 (.slice (some ⟨g, 0, none⟩) k c) k (xs.take k) := by
  have hl := h.1
  rcases h.2 with ⟨h', _⟩ | ⟨g', cap, cur, h', hb, hg, hc, hm, hs, ht⟩
  · simp at h'
  · simp only [Value.slice.injEq, Option.some.injEq, Addr.mk.injEq, and_true, true_and] at h'
    obtain ⟨rfl, rfl⟩ := h'
    refine ⟨by simp; omega, .inr ⟨g, c, cur, rfl, hb, hg, by omega, hm, hs, ?_⟩⟩
    rw [← ht, List.take_take]
    congr 1
    omega

set_option maxHeartbeats 2000000 in
theorem full_loop (w : World) (n : Nat) (ao : Option Addr) (m c : Nat) (bs : List Int) (odd : Bool) (hs : Seq w.heap.size w (.slice ao m c) bs) (hn : n ≤ 100000) (h0 : bs ≠ []) :
    Calls Try.prog 13 #[.int .i64 (n : Int), .slice ao m c, .bool odd] w fun r w' => ∃ g k, r = .returned (.slice (some ⟨g, 0, none⟩) k n) ∧ w'.ownsRow w.heap.size 5 1 (.slice (some ⟨g, 0, none⟩) k n) k ((fullV n bs odd).map (Value.int .u8)) ∧ w.grownBy w' none := by
  have hm : m = bs.length := by obtain ⟨_, _, hv, _⟩ := hs; cases hv; rfl
  have hm1 : 0 < m := by
    rw [hm]; exact List.length_pos_iff.2 h0
  have HM := Lib.hid hm
  have HS := Lib.hid hs
  have hmi : (0 : Int) < (m : Int) := by omega
  clear hs hm h0
  obtain ⟨i0, hi, hz0, hz1, hz2⟩ := info_parts infoU8
  go_enter Try.func13, Try.ntmps13
  go_wp2_with (at_make; refine wpList_make_full _ rfl _ _ 22 rfl w.heap.size 5 i0 (.int .u8 0) 1 Try.underlying22 hi hz0 hz1 .i64 .i64 _ _ n rfl rfl ?c1 ?c2 ?c3 ?c4 (Nat.le_refl _) ?_; (case c1 => rfl); (case c2 => rfl); (case c3 => rw [hz2]; omega); (case c4 => unfold maxLen; omega); intro wM hown hgM; have HO := Lib.hid hown; have HgM := Lib.hid hgM; clear hown hgM)
  have HO2 : Hid (wM.ownsRow w.heap.size 5 1 (.slice (some ⟨w.heap.size, 0, none⟩) n n) n ((fullB n bs 0).map (Value.int .u8))) := by
    have h := HO.out
    rw [Nat.mul_one, show (Value.int .u8 0).cells = #[Value.int .u8 0] from rfl, toList_madeCells_one] at h
    rw [fullB_zero, List.map_replicate]
    exact h
  clear HO
  go_loopg [8] n (fun gk i wr => ∃ k : Nat, k + gk = n ∧ i = .int .i64 k ∧ wr.ownsRow w.heap.size 5 1 (.slice (some ⟨w.heap.size, 0, none⟩) n n) n ((fullB n bs k).map (Value.int .u8)) ∧ w.grownBy wr none)
  case atStart => exact ⟨0, by omega, rfl, HO2.out, HgM.out⟩
  case round =>
    obtain ⟨k, hk, rfl, hown, hg⟩ := hrel
    have HR := Lib.hid hown
    have HG := Lib.hid hg
    clear hown hg HO2 HgM
    by_cases hlt : k < n
    · obtain ⟨f, rfl⟩ : ∃ f, gk = f + 1 := ⟨gk - 1, by omega⟩
      have hki : (k : Int) < (n : Int) := by omega
      have HX := Lib.hid (fullB_set n bs k hlt)
      obtain ⟨p, hp⟩ : ∃ p : Nat, p = k % m := ⟨_, rfl⟩
      have hpi : (k : Int) % (m : Int) = (p : Int) := by rw [hp]; simp
      have hpm : p < m := by rw [hp]; exact Nat.mod_lt _ hm1
      have hpmi : (p : Int) < (m : Int) := by omega
      obtain ⟨b, o, ha, _, hcell⟩ : ∃ b o, ao = some ⟨b, o, none⟩ ∧ b < w.heap.size ∧ wr.cell? ⟨b, o + p, none⟩ = some (.int .u8 (bs.getD p 0)) := by
        obtain ⟨ao', c', hv, h1, h2, h3, h4⟩ := HS.out.below (w' := wr) (fun i hi => HG.out.block i hi (by simp))
        cases hv
        obtain ⟨b, o, ha, hb, hc⟩ := h4 (fun e => by have := congrArg List.length e; simp only [List.length_nil] at this; omega)
        exact ⟨b, o, ha, hb, hc p hpm⟩
      subst ha
      have HPe := Lib.hid (show bs.getD (k % bs.length) 0 = bs.getD p 0 by rw [hp, HM.out])
      clear hp
      generalize bs.getD p 0 = y at hcell HPe
      have HSt := Lib.hid (HR.out.stored k (.int .u8 y))
      have hfrz := HR.out.frozenAt k
      obtain ⟨y0, hcellg⟩ : ∃ y, wr.cell? ⟨w.heap.size, k, none⟩ = some y := by
        have h := HR.out.cellAt k (by omega)
        have hl : k < ((fullB n bs k).map (Value.int .u8)).length := by rw [List.length_map, fullB_len]; exact hlt
        rw [List.getElem?_eq_getElem hl] at h
        exact ⟨_, h⟩
      go_wp2
      go_roundg f
      case measure => omega
      case rel =>
        refine ⟨k + 1, by omega, by go_num, ?_, gnew HG.out HSt.out.2 (Nat.le_refl _)⟩
        have h1 := HSt.out.1
        have e : (fullB n bs k).set k y = fullB n bs (k + 1) := by rw [← HPe.out]; exact HX.out
        rw [← List.map_set, e] at h1
        exact h1
    · obtain rfl : n = k := by omega
      cases odd with
      | false =>
        have HV := Lib.hid (show fullV n bs false = fullB n bs n by simp [fullV])
        go_wp2
        go_ret
        exact ⟨_, _, rfl, by rw [HV.out]; exact HR.out, HG.out⟩
      | true =>
        by_cases hz : n = 0
        · subst hz
          have HV := Lib.hid (show fullV 0 bs true = fullB 0 bs 0 by simp [fullV])
          go_wp2
          go_ret
          exact ⟨_, _, rfl, by rw [HV.out]; exact HR.out, HG.out⟩
        · have hzi : (0 : Int) < (n : Int) := by omega
          obtain ⟨q, rfl⟩ : ∃ q, n = q + 1 := ⟨n - 1, by omega⟩
          have HV := Lib.hid (show fullV (q + 1) bs true = (fullB (q + 1) bs (q + 1)).take q by unfold fullV; rw [if_pos ⟨rfl, by omega⟩]; rfl)
          go_wp2
          go_ret
          refine ⟨_, q, rfl, ?_, HG.out⟩
          rw [HV.out, List.map_take]
          exact own_pre HR.out (by omega)

set_option maxHeartbeats 2000000 in
theorem full_none (w : World) (n : Nat) (ao : Option Addr) (c : Nat) (odd : Bool) (hn : n ≤ 100000) :
    Calls Try.prog 13 #[.int .i64 (n : Int), .slice ao 0 c, .bool odd] w fun r w' => ∃ g k, r = .returned (.slice (some ⟨g, 0, none⟩) k n) ∧ w'.ownsRow w.heap.size 5 1 (.slice (some ⟨g, 0, none⟩) k n) k ((fullV n [] odd).map (Value.int .u8)) ∧ w.grownBy w' none := by
  obtain ⟨i0, hi, hz0, hz1, hz2⟩ := info_parts infoU8
  have e0 : ∀ wM : World, wM.ownsRow w.heap.size 5 1 (.slice (some ⟨w.heap.size, 0, none⟩) n n) n (madeCells (Value.int .u8 0).cells (n * 1)).toList → wM.ownsRow w.heap.size 5 1 (.slice (some ⟨w.heap.size, 0, none⟩) n n) n ((fullB n [] n).map (Value.int .u8)) := fun wM h => by
    rw [Nat.mul_one, show (Value.int .u8 0).cells = #[Value.int .u8 0] from rfl, toList_madeCells_one] at h
    rw [fullB_nil, List.map_replicate]
    exact h
  have E0 := Lib.hid e0
  clear e0
  by_cases hz : n = 0
  · subst hz
    have HV := Lib.hid (show fullV 0 [] odd = fullB 0 [] 0 by simp [fullV])
    cases odd <;>
    · go_enter Try.func13, Try.ntmps13
      go_wp2_with (at_make; refine wpList_make_full _ rfl _ _ 22 rfl w.heap.size 5 i0 (.int .u8 0) 1 Try.underlying22 hi hz0 hz1 .i64 .i64 _ _ 0 rfl rfl ?c1 ?c2 ?c3 ?c4 (Nat.le_refl _) ?_; (case c1 => rfl); (case c2 => rfl); (case c3 => rw [hz2]; omega); (case c4 => unfold maxLen; omega); intro wM hown hgM; have HO := Lib.hid (E0.out wM hown); have HgM := Lib.hid hgM; clear hown hgM)
      refine wp_loop_rounds 1 ?_; rw [rounds_succ]
      go_wp2
      go_ret
      exact ⟨_, _, rfl, by rw [HV.out]; exact HO.out, HgM.out⟩
  · obtain ⟨q, rfl⟩ : ∃ q, n = q + 1 := ⟨n - 1, by omega⟩
    have hq : (0 : Int) < ((q + 1 : Nat) : Int) := by omega
    cases odd with
    | false =>
      have HV := Lib.hid (show fullV (q + 1) [] false = fullB (q + 1) [] (q + 1) by simp [fullV])
      go_enter Try.func13, Try.ntmps13
      go_wp2_with (at_make; refine wpList_make_full _ rfl _ _ 22 rfl w.heap.size 5 i0 (.int .u8 0) 1 Try.underlying22 hi hz0 hz1 .i64 .i64 _ _ (q + 1) rfl rfl ?c1 ?c2 ?c3 ?c4 (Nat.le_refl _) ?_; (case c1 => rfl); (case c2 => rfl); (case c3 => rw [hz2]; omega); (case c4 => unfold maxLen; omega); intro wM hown hgM; have HO := Lib.hid (E0.out wM hown); have HgM := Lib.hid hgM; clear hown hgM)
      refine wp_loop_rounds 1 ?_; rw [rounds_succ]
      go_wp2
      go_ret
      exact ⟨_, _, rfl, by rw [HV.out]; exact HO.out, HgM.out⟩
    | true =>
      have HV := Lib.hid (show fullV (q + 1) [] true = (fullB (q + 1) [] (q + 1)).take q by unfold fullV; rw [if_pos ⟨rfl, by omega⟩]; rfl)
      go_enter Try.func13, Try.ntmps13
      go_wp2_with (at_make; refine wpList_make_full _ rfl _ _ 22 rfl w.heap.size 5 i0 (.int .u8 0) 1 Try.underlying22 hi hz0 hz1 .i64 .i64 _ _ (q + 1) rfl rfl ?c1 ?c2 ?c3 ?c4 (Nat.le_refl _) ?_; (case c1 => rfl); (case c2 => rfl); (case c3 => rw [hz2]; omega); (case c4 => unfold maxLen; omega); intro wM hown hgM; have HO := Lib.hid (E0.out wM hown); have HgM := Lib.hid hgM; clear hown hgM)
      refine wp_loop_rounds 1 ?_; rw [rounds_succ]
      go_wp2
      go_ret
      refine ⟨_, q, rfl, ?_, HgM.out⟩
      rw [HV.out, List.map_take]
      exact own_pre HO.out (by omega)

/-- 'full', of any bytes. -/
theorem full_any (w : World) (n : Nat) (ao : Option Addr) (m c : Nat) (bs : List Int) (odd : Bool) (hs : Seq w.heap.size w (.slice ao m c) bs) (hn : n ≤ 100000) :
    Calls Try.prog 13 #[.int .i64 (n : Int), .slice ao m c, .bool odd] w fun r w' => ∃ g k, r = .returned (.slice (some ⟨g, 0, none⟩) k n) ∧ w'.ownsRow w.heap.size 5 1 (.slice (some ⟨g, 0, none⟩) k n) k ((fullV n bs odd).map (Value.int .u8)) ∧ w.grownBy w' none := by
  by_cases h0 : bs = []
  · subst h0
    obtain rfl : m = 0 := by obtain ⟨_, _, hv, _⟩ := hs; cases hv; rfl
    exact full_none w n ao c odd hn
  · exact full_loop w n ao m c bs odd hs hn h0

end Go.Proofs.Ytnodclijlhoobaa
