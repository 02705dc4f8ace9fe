/-
  Layers 4 and 5: the contract of leaf's Find. Own work.
-/
import Derived.Test.YtfencmidjolgfaaLefC
import Derived.Deep.LoopGhost
namespace Go.Proofs.Ytfencmidjolgfaa
open Go.RowKit

set_option maxHeartbeats 400000 in
theorem find1_any (w : World) (B C : Nat) (a1 a2 a3 : Option Addr) (c1 c2 n3 c3 : Nat) (x : En) (key : List Int) (h1 : Seq B w (.slice a1 x.key.length c1) x.key) (h3 : Seq C w (.slice a3 n3 c3) key) (hB : B ≤ w.heap.size) (hC : C ≤ w.heap.size) :
    Calls Try.prog 54 #[.agg (ecs (.slice a1 x.key.length c1) (.slice a2 x.val.length c2) x.long x.first), .slice a3 n3 c3] w fun r w' => r = .returned (.int .i64 (cmpL x.key key)) ∧ w.grownBy w' none := by
  have H1 := Lib.hid (h1.below (w' := w.alloc (.cells (ecs (.slice a1 x.key.length c1) (.slice a2 x.val.length c2) x.long x.first) 43)) (fun i hi => Below.heap_alloc _ _ _ (by omega)))
  have H3 := Lib.hid (h3.below (w' := w.alloc (.cells (ecs (.slice a1 x.key.length c1) (.slice a2 x.val.length c2) x.long x.first) 43)) (fun i hi => Below.heap_alloc _ _ _ (by omega)))
  clear h1 h3
  go_enter Try.func54, Try.ntmps54
  go_wp2_with (go_at_call 49; refine (compare_any _ _ _ _ _ _ _ _ _ _ _ H1.out H3.out).mono ?_; rintro r w1 ⟨rfl, rfl⟩)
  go_ret
  exact ⟨rfl, World.grownBy_alloc _ _ _⟩

/-- Keys rise. -/
def Rise (l : List En) : Prop := ∀ (i j : Nat) (x y : En), i < j → l[i]? = some x → l[j]? = some y → cmpL x.key y.key < 0
/-- p is where a key stands, or would stand. -/
def PosOf (l : List En) (key : List Int) (p : Nat) : Prop := p ≤ l.length ∧ (∀ (j : Nat) (x : En), j < p → l[j]? = some x → cmpL x.key key < 0) ∧ (∀ (j : Nat) (x : En), p ≤ j → l[j]? = some x → 0 ≤ cmpL x.key key)
theorem PosOf.uniq {l : List En} {key : List Int} {p q : Nat} (h : PosOf l key p) (k : PosOf l key q) : p = q := by
  rcases Nat.lt_trichotomy p q with e | e | e
  · obtain ⟨x, hx⟩ : ∃ x, l[p]? = some x := ⟨_, List.getElem?_eq_getElem (by have := k.1; omega)⟩
    have := h.2.2 p x (Nat.le_refl _) hx
    have := k.2.1 p x e hx
    omega
  · exact e
  · obtain ⟨x, hx⟩ : ∃ x, l[q]? = some x := ⟨_, List.getElem?_eq_getElem (by have := h.1; omega)⟩
    have := k.2.2 q x (Nat.le_refl _) hx
    have := h.2.1 q x e hx
    omega
def FoundAt (l : List En) (key : List Int) (p : Nat) : Prop := ∃ x, l[p]? = some x ∧ cmpL x.key key = 0
def FindR (l : List En) (key : List Int) (w w' : World) (r : Ending) : Prop := ∃ (p : Nat) (f : Bool), r = .returned (.tuple #[.int .i64 p, .bool f]) ∧ PosOf l key p ∧ (f = true ↔ FoundAt l key p) ∧ w.grownBy w' none
theorem Rise.lo {l : List En} {key : List Int} (h : Rise l) {m : Nat} {y : En} (hy : l[m]? = some y) (hc : cmpL y.key key < 0) : ∀ j x, j < m + 1 → l[j]? = some x → cmpL x.key key < 0 := by
  intro j x hj hx
  by_cases e : j = m
  · subst e; rw [hy] at hx; cases hx; exact hc
  · exact cmpL_trans _ _ _ (h j m x y (by omega) hx hy) hc
theorem Rise.hi {l : List En} {key : List Int} (h : Rise l) {m : Nat} {y : En} (hy : l[m]? = some y) (hc : 0 ≤ cmpL y.key key) : ∀ j x, m ≤ j → l[j]? = some x → 0 ≤ cmpL x.key key := by
  intro j x hj hx
  by_cases e : j = m
  · subst e; rw [hy] at hx; cases hx; exact hc
  · refine Int.not_lt.1 fun hlt => ?_
    have := cmpL_trans _ _ _ (h m j y x (by omega) hy hx) hlt
    omega

set_option maxRecDepth 100000 in
set_option maxHeartbeats 2000000 in
theorem search_any (w : World) (B C : Nat) (ao a3 : Option Addr) (n c n3 c3 : Nat) (l : List En) (key : List Int) (h : Ents B w (.slice ao n c) l) (h3 : Seq C w (.slice a3 n3 c3) key) (hB : B ≤ w.heap.size) (hC : C ≤ w.heap.size) (hr : Rise l) :
    Calls Try.prog 53 #[.slice ao n c, .slice a3 n3 c3, .func (.func 54) #[] #[]] w fun r w' => FindR l key w w' r := by
  have hn : n = l.length := h.len
  have hn1 : n ≤ 100000 := by have := h.few; omega
  have HN := Lib.hid hn
  have H := Lib.hid h
  have H3 := Lib.hid h3
  have HR := Lib.hid hr
  clear hn h h3 hr
  go_enter Try.func53, Try.ntmps53
  go_wp2
  go_loopg [9, 10] n (fun g i j wr => ∃ (p q : Nat), q - p ≤ g ∧ p ≤ q ∧ q ≤ n ∧ i = .int .i64 (p : Int) ∧ j = .int .i64 (q : Int) ∧ Hid (∀ j x, j < p → l[j]? = some x → cmpL x.key key < 0) ∧ Hid (∀ j x, q ≤ j → l[j]? = some x → 0 ≤ cmpL x.key key) ∧ w.grownBy wr none)
  case atStart => exact ⟨0, n, by omega, by omega, by omega, rfl, rfl, Lib.hid (fun j x hj => by omega), Lib.hid (fun j x hj hx => by have := (List.getElem?_eq_some_iff.1 hx).1; have := HN.out; omega), grefl _ _⟩
  case round =>
    obtain ⟨p, q, hg, hpq, hqn, rfl, rfl, HLo, HHi, hgr⟩ := hrel
    have HG := Lib.hid hgr
    have hws := hgr.size
    clear hgr
    by_cases hlt : p < q
    · obtain ⟨m, hm⟩ : ∃ m, m = (p + q) / 2 := ⟨_, rfl⟩
      have hmi : ((p : Int) + (q : Int)) / 2 = (m : Int) := by omega
      have hmp : p ≤ m := by omega
      have hmq : m < q := by omega
      have hmn : (m : Int) < (n : Int) := by omega
      obtain ⟨x, hx⟩ : ∃ x, l[m]? = some x := ⟨_, List.getElem?_eq_getElem (by have := HN.out; omega)⟩
      obtain ⟨b, o, rfl, hb, a1, c1, a2, c2, h1, h2, hk, q0, q1, q2, q3⟩ := (H.out.grown HG.out hB).at m x hx
      have H1 := Lib.hid h1
      have H4 := Lib.hid (H3.out.below (fun i hi => HG.out.block i (by omega) (by simp)))
      have HX := Lib.hid hx
      obtain ⟨z, hz⟩ : ∃ z, z = cmpL x.key key := ⟨_, rfl⟩
      have HZ := Lib.hid hz
      clear hm h1 h2 hk hx hz
      by_cases hc : z < 0
      · go_wp2_with (go_at_call 54; refine (find1_any _ B C a1 a2 a3 c1 c2 n3 c3 x key H1.out H4.out (by omega) (by omega)).mono ?_; rw [← HZ.out]; rintro r w1 ⟨rfl, hg1⟩)
        go_roundg (gk - 1)
        case measure => omega
        case rel => exact ⟨m + 1, q, by omega, by omega, hqn, by go_num, rfl, Lib.hid (HR.out.lo HX.out (by rw [← HZ.out]; exact hc)), HHi, gtrans HG.out hg1⟩
      · go_wp2_with (go_at_call 54; refine (find1_any _ B C a1 a2 a3 c1 c2 n3 c3 x key H1.out H4.out (by omega) (by omega)).mono ?_; rw [← HZ.out]; rintro r w1 ⟨rfl, hg1⟩)
        go_roundg (gk - 1)
        case measure => omega
        case rel => exact ⟨p, m, by omega, by omega, by omega, rfl, rfl, HLo, Lib.hid (HR.out.hi HX.out (by rw [← HZ.out]; omega)), gtrans HG.out hg1⟩
    · obtain rfl : p = q := by omega
      have HP : Hid (PosOf l key p) := Lib.hid ⟨by have := HN.out; omega, HLo.out, HHi.out⟩
      by_cases hpn : p < n
      · have hpi : (p : Int) < (n : Int) := by omega
        have hdp : decide (p < n) = true := by simpa using hpn
        obtain ⟨x, hx⟩ : ∃ x, l[p]? = some x := ⟨_, List.getElem?_eq_getElem (by have := HN.out; omega)⟩
        obtain ⟨b, o, rfl, hb, a1, c1, a2, c2, h1, h2, hk, q0, q1, q2, q3⟩ := (H.out.grown HG.out hB).at p x hx
        have H1 := Lib.hid h1
        have H4 := Lib.hid (H3.out.below (fun i hi => HG.out.block i (by omega) (by simp)))
        have HX := Lib.hid hx
        have hF : FoundAt l key p ↔ cmpL x.key key = 0 := ⟨fun ⟨y, hy, hc⟩ => by rw [hx] at hy; cases hy; exact hc, fun hc => ⟨x, hx, hc⟩⟩
        have HF := Lib.hid hF
        obtain ⟨z, hz⟩ : ∃ z, z = cmpL x.key key := ⟨_, rfl⟩
        have HZ := Lib.hid hz
        clear h1 h2 hk hx hz hF
        go_wp2_with (go_at_call 54; refine (find1_any _ B C a1 a2 a3 c1 c2 n3 c3 x key H1.out H4.out (by omega) (by omega)).mono ?_; rw [← HZ.out]; rintro r w1 ⟨rfl, hg1⟩)
        go_ret2
        exact ⟨p, z == 0, rfl, HP.out, by rw [HF.out, ← HZ.out]; simp, gtrans HG.out hg1⟩
      · have hdp : decide (p < n) = false := by simpa using hpn
        have hpi : ¬ (p : Int) < (n : Int) := by omega
        have HF := Lib.hid (show ¬ FoundAt l key p from fun ⟨y, hy, _⟩ => by have := (List.getElem?_eq_some_iff.1 hy).1; have := HN.out; omega)
        clear hpn
        go_wp2
        go_ret2
        exact ⟨p, false, rfl, HP.out, ⟨(fun e => by cases e), fun e => absurd e HF.out⟩, HG.out⟩

set_option maxHeartbeats 400000 in
theorem find_any (w : World) (B C : Nat) (ao a3 : Option Addr) (n c n3 c3 : Nat) (l : List En) (key : List Int) (h : Ents B w (.slice ao n c) l) (h3 : Seq C w (.slice a3 n3 c3) key) (hB : B ≤ w.heap.size) (hC : C ≤ w.heap.size) (hr : Rise l) :
    Calls Try.prog 27 #[.slice ao n c, .slice a3 n3 c3] w fun r w' => FindR l key w w' r := by
  have HS := Lib.hid (search_any w B C ao a3 n c n3 c3 l key h h3 hB hC hr)
  clear h h3 hr
  go_enter Try.func27, Try.ntmps27
  go_wp2_with (go_at_call 53; refine HS.out.mono ?_; rintro r w1 ⟨p, f, rfl, hp, hf, hg⟩)
  go_ret2
  exact ⟨p, f, rfl, hp, hf, hg⟩

end Go.Proofs.Ytfencmidjolgfaa
