/-
  Layer 5: the contract of branch's Find. Own work.
-/
import Derived.Test.YtfencmidjolgfaaBrO
import Derived.Deep.LoopGhost
import Derived.Deep.QuietTactic
import Derived.BigQuiet
namespace Go.Proofs.Ytfencmidjolgfaa
open Go.RowKit

/-- What the closure that is searched by stands on: the entries' box, the key's. -/
structure FSt (B C p1 p2 : Nat) (w : World) (ao a3 : Option Addr) (n c n3 c3 : Nat) (l : List En) (key : List Int) : Prop where
  en : BEnts B w (.slice ao n c) l
  hB : B ≤ w.heap.size
  sk : Seq C w (.slice a3 n3 c3) key
  hC : C ≤ w.heap.size
  h1 : w.cell? ⟨p1, 0, none⟩ = some (.slice ao n c)
  h2 : w.cell? ⟨p2, 0, none⟩ = some (.slice a3 n3 c3)
theorem FSt.grown {B C p1 p2 : Nat} {w w' : World} {ao a3 : Option Addr} {n c n3 c3 : Nat} {l : List En} {key : List Int} (h : FSt B C p1 p2 w ao a3 n c n3 c3 l key) (k : w.grownBy w' none) : FSt B C p1 p2 w' ao a3 n c n3 c3 l key :=
  ⟨h.en.grown k h.hB, Nat.le_trans h.hB k.size, h.sk.below (fun i hi => k.block i (Nat.lt_of_lt_of_le hi h.hC) (by simp)), Nat.le_trans h.hC k.size,
    (World.cell?_of_block (w := w) (k.block p1 (World.block_lt_of_cell? _ _ h.h1) (by simp))).trans h.h1, (World.cell?_of_block (w := w) (k.block p2 (World.block_lt_of_cell? _ _ h.h2) (by simp))).trans h.h2⟩

set_option maxHeartbeats 800000 in
theorem bfind1_any {B C p1 p2 : Nat} {w : World} {ao a3 : Option Addr} {n c n3 c3 : Nat} {l : List En} {key : List Int} (h : FSt B C p1 p2 w ao a3 n c n3 c3 l key) (i : Nat) (x : En) (hx : l[i]? = some x) {z : Bool} (hz : decide (0 < cmpL x.key key) = z) :
    Calls Try.prog 59 #[.int .i64 (i : Int), .pointer (some ⟨p1, 0, none⟩), .pointer (some ⟨p2, 0, none⟩)] w fun r w' => r = .returned (.bool z) ∧ w.grownBy w' none := by
  obtain ⟨b, o, rfl, hb, a1, c1, s1, k1, q0, q1⟩ := h.en.at i x hx
  have hn : n = l.length := h.en.len
  have hil : i < n := by have := (List.getElem?_eq_some_iff.1 hx).1; omega
  have hii : (i : Int) < (n : Int) := by omega
  have h1 := h.h1
  have h2 := h.h2
  have S1 := Lib.hid s1
  have S2 := Lib.hid h.sk
  obtain ⟨Z, hZ⟩ : ∃ Z, Z = cmpL x.key key := ⟨_, rfl⟩
  rw [← hZ] at hz
  have HZ := Lib.hid hZ
  have HZZ := Lib.hid hz
  have HCM := Lib.hid (show ∀ m, Calls Try.prog 49 #[.slice a1 x.key.length c1, .slice a3 n3 c3] (w.drewN m) fun e w' => e = .returned (.int .i64 Z) ∧ w.drewN m = w' from fun m => by
    rw [hZ]; exact compare_any _ _ _ a1 a3 _ _ _ _ x.key key (s1.drewN m) (h.sk.drewN m))
  clear h s1 k1 hn hx hZ hz q1
  go_enter Try.func59, Try.ntmps59
  go_wp2
  go_quiet ((go_at_call 49; exact quiet_now (HCM.out _)))
  go_wp2
  go_ret
  exact ⟨by first | rfl | (rw [HZZ.out]; rfl), ⟨rfl, rfl, rfl, Nat.le_refl _, fun _ _ _ => rfl⟩⟩

/-- p is how many keys aren't behind a key. -/
def NotBehind (l : List En) (key : List Int) (p : Nat) : Prop := p ≤ l.length ∧ (∀ (j : Nat) (x : En), j < p → l[j]? = some x → cmpL x.key key ≤ 0) ∧ (∀ (j : Nat) (x : En), p ≤ j → l[j]? = some x → 0 < cmpL x.key key)
theorem Rise.le {l : List En} {key : List Int} (h : Rise l) {m : Nat} {y : En} (hy : l[m]? = some y) (hc : cmpL y.key key ≤ 0) : ∀ j x, j < m + 1 → l[j]? = some x → cmpL x.key key ≤ 0 := by
  intro j x hj hx
  by_cases e : j = m
  · subst e; rw [hy] at hx; cases hx; exact hc
  · have h1 := h j m x y (by omega) hx hy
    rcases Int.lt_or_le (cmpL y.key key) 0 with h2 | h2
    · exact Int.le_of_lt (cmpL_trans _ _ _ h1 h2)
    · have h3 := cmpL_eq y.key key (by omega)
      rw [← h3]; omega
theorem Rise.gt {l : List En} {key : List Int} (h : Rise l) {m : Nat} {y : En} (hy : l[m]? = some y) (hc : 0 < cmpL y.key key) : ∀ j x, m ≤ j → l[j]? = some x → 0 < cmpL x.key key := by
  intro j x hj hx
  by_cases e : j = m
  · subst e; rw [hy] at hx; cases hx; exact hc
  · have h1 := h m j y x (by omega) hy hx
    have h2 := cmpL_anti key y.key
    have h3 := cmpL_trans key y.key x.key (by omega) h1
    have h4 := cmpL_anti key x.key
    omega
def SearchR (l : List En) (key : List Int) (w w' : World) (r : Ending) : Prop := ∃ p : Nat, r = .returned (.int .i64 p) ∧ NotBehind l key p ∧ w.grownBy w' none

set_option maxRecDepth 100000 in
set_option maxHeartbeats 2000000 in
theorem bsearch_any {B C p1 p2 : Nat} {w : World} {ao a3 : Option Addr} {n c n3 c3 : Nat} {l : List En} {key : List Int} (h : FSt B C p1 p2 w ao a3 n c n3 c3 l key) (hr : Rise l) :
    Calls Try.prog 58 #[.int .i64 (n : Int), .func (.func 59) #[] #[.pointer (some ⟨p1, 0, none⟩), .pointer (some ⟨p2, 0, none⟩)]] w fun r w' => SearchR l key w w' r := by
  have hn : n = l.length := h.en.len
  have hn1 : n ≤ 100000 := by have := h.en.few; omega
  have HN := Lib.hid hn
  have H := Lib.hid h
  have HR := Lib.hid hr
  clear hn h hr
  go_enter Try.func58, Try.ntmps58
  go_wp2
  go_loopg [5, 6] n (fun g i j wr => ∃ (p q : Nat), q - p ≤ g ∧ p ≤ q ∧ q ≤ n ∧ i = .int .i64 (p : Int) ∧ j = .int .i64 (q : Int) ∧ Hid (∀ j x, j < p → l[j]? = some x → cmpL x.key key ≤ 0) ∧ Hid (∀ j x, q ≤ j → l[j]? = some x → 0 < cmpL x.key key) ∧ w.grownBy wr none)
  case atStart => exact ⟨0, n, by omega, by omega, by omega, rfl, rfl, Lib.hid (fun j x hj => by omega), Lib.hid (fun j x hj hx => by have := (List.getElem?_eq_some_iff.1 hx).1; have := HN.out; omega), grefl _ _⟩
  case round =>
    obtain ⟨p, q, hg, hpq, hqn, rfl, rfl, HLo, HHi, hgr⟩ := hrel
    have HG := Lib.hid hgr
    clear hgr
    by_cases hlt : p < q
    · obtain ⟨m, hm⟩ : ∃ m, m = (p + q) / 2 := ⟨_, rfl⟩
      have hmi : ((p : Int) + (q : Int)) / 2 = (m : Int) := by omega
      have hmp : p ≤ m := by omega
      have hmq : m < q := by omega
      obtain ⟨x, hx⟩ : ∃ x, l[m]? = some x := ⟨_, List.getElem?_eq_getElem (by have := HN.out; omega)⟩
      have HX := Lib.hid hx
      clear hm hx
      by_cases hc : 0 < cmpL x.key key
      · have HC := Lib.hid hc
        have HD := Lib.hid (decide_eq_true hc)
        clear hc
        go_wp2_with (go_at_call 59; refine (bfind1_any (H.out.grown HG.out) m x HX.out HD.out).mono ?_; rintro r w1 ⟨rfl, hg1⟩)
        go_roundg (gk - 1)
        case measure => omega
        case rel => exact ⟨p, m, by omega, by omega, by omega, rfl, rfl, HLo, Lib.hid (HR.out.gt HX.out HC.out), gtrans HG.out hg1⟩
      · have HC := Lib.hid hc
        have HD := Lib.hid (decide_eq_false hc)
        clear hc
        go_wp2_with (go_at_call 59; refine (bfind1_any (H.out.grown HG.out) m x HX.out HD.out).mono ?_; rintro r w1 ⟨rfl, hg1⟩)
        go_roundg (gk - 1)
        case measure => omega
        case rel => exact ⟨m + 1, q, by omega, by omega, hqn, by go_num, rfl, Lib.hid (HR.out.le HX.out (by have := HC.out; omega)), HHi, gtrans HG.out hg1⟩
    · obtain rfl : p = q := by omega
      have HP : Hid (NotBehind l key p) := Lib.hid ⟨by have := HN.out; omega, HLo.out, HHi.out⟩
      go_wp2
      go_ret
      exact ⟨p, rfl, HP.out, HG.out⟩

/-- A key leads to entry p. -/
def LeadsTo (l : List En) (key : List Int) (p : Nat) : Prop := p < l.length ∧ (∀ (j : Nat) (x : En), 1 ≤ j → j ≤ p → l[j]? = some x → cmpL x.key key ≤ 0) ∧ (∀ (j : Nat) (x : En), p < j → l[j]? = some x → 0 < cmpL x.key key)
theorem leads_of {l : List En} {key : List Int} {p : Nat} (hl : 1 ≤ l.length) (h : NotBehind (l.drop 1) key p) : LeadsTo l key p := by
  obtain ⟨h1, h2, h3⟩ := h
  rw [List.length_drop] at h1
  refine ⟨by omega, fun j x hj hp hx => ?_, fun j x hj hx => ?_⟩
  · exact h2 (j - 1) x (by omega) (by rw [List.getElem?_drop, show 1 + (j - 1) = j by omega]; exact hx)
  · exact h3 (j - 1) x (by omega) (by rw [List.getElem?_drop, show 1 + (j - 1) = j by omega]; exact hx)
def BFindR (l : List En) (key : List Int) (w w' : World) (r : Ending) : Prop := ∃ p : Nat, r = .returned (.int .i64 p) ∧ LeadsTo l key p ∧ w.grownBy w' none
theorem BEnts.tail {B b o n c : Nat} {w : World} {l : List En} (h : BEnts B w (.slice (some ⟨b, o, none⟩) n c) l) (hn : 1 ≤ n) : BEnts B w (.slice (some ⟨b, o + 2, none⟩) (n - 1) (c - 1)) (l.drop 1) := by
  obtain ⟨ao', c', hv, h1, h2, h3, h4⟩ := h
  cases hv
  have hl : (l.drop 1).length = l.length - 1 := by simp
  refine ⟨_, c - 1, by rw [hl], by omega, by omega, by omega, fun hne => ?_⟩
  obtain ⟨b', o', ha, hb, hc⟩ := h4 (by rintro rfl; simp at hne)
  injection ha with ha
  injection ha with e1 e2
  subst e1 e2
  refine ⟨b, o + 2, rfl, hb, fun i x hx => ?_⟩
  rw [List.getElem?_drop] at hx
  have := hc (1 + i) x hx
  rwa [show o + (1 + i) * 2 = o + 2 + i * 2 by omega] at this

set_option maxRecDepth 100000 in
set_option maxHeartbeats 2000000 in
theorem bfind_any (w : World) (B C : Nat) (ao a3 : Option Addr) (n c n3 c3 : Nat) (l : List En) (key : List Int) (h : BEnts B w (.slice ao n c) l) (h3 : Seq C w (.slice a3 n3 c3) key) (hB : B ≤ w.heap.size) (hC : C ≤ w.heap.size) (hn2 : 2 ≤ n) (hr : Rise (l.drop 1)) :
    Calls Try.prog 39 #[.slice ao n c, .slice a3 n3 c3] w fun r w' => BFindR l key w w' r := by
  have hn : n = l.length := h.len
  have hn9 : n ≤ 100000 := by have := h.few; omega
  obtain ⟨x, hx⟩ : ∃ x, l[0]? = some x := ⟨_, List.getElem?_eq_getElem (by omega)⟩
  obtain ⟨b, o, rfl, hb, _⟩ := h.at 0 x hx
  have hcap : n ≤ c := by obtain ⟨_, _, hv, hc, _⟩ := h; injection hv with _ e1 e2; omega
  have hc9 : c ≤ 9223372036854775807 := by obtain ⟨_, _, hv, _, hc, _⟩ := h; injection hv with _ e1 e2; unfold maxLen at hc; omega
  have hne : ¬ c = 1 := by omega
  have hle1 : ¬ (n : Int) < 1 := by omega
  have hle2 : (1 : Int) ≤ (n : Int) := by omega
  have hle3 : (1 : Int) ≤ (c : Int) := by omega
  obtain ⟨m, rfl⟩ : ∃ m, n = m + 1 := ⟨n - 1, by omega⟩
  have HT := Lib.hid (show BEnts B w (.slice (some ⟨b, o + 2, none⟩) m (c - 1)) (l.drop 1) from h.tail (by omega))
  have HS := Lib.hid h3
  have HR := Lib.hid hr
  have HL := Lib.hid (show 1 ≤ l.length by omega)
  clear h h3 hr hn hx hb
  go_enter Try.func39, Try.ntmps39
  have hg2 := two_grown w (.cells #[.slice a3 n3 c3] 29) (.cells #[.slice (some ⟨b, o + 2, none⟩) m (c - 1)] 64)
  have hl0 := two_lit0 w (.cells #[.slice a3 n3 c3] 29) (.cells #[.slice (some ⟨b, o + 2, none⟩) m (c - 1)] 64)
  have hl1 := two_lit1 w (.cells #[.slice a3 n3 c3] 29) (.cells #[.slice (some ⟨b, o + 2, none⟩) m (c - 1)] 64)
  have HFS : Hid (FSt B C (w.heap.size + 1) w.heap.size ((w.alloc (.cells #[.slice a3 n3 c3] 29)).alloc (.cells #[.slice (some ⟨b, o + 2, none⟩) m (c - 1)] 64)) (some ⟨b, o + 2, none⟩) a3 m (c - 1) n3 c3 (l.drop 1) key) := Lib.hid ⟨HT.out.grown hg2 hB, Nat.le_trans hB hg2.size, HS.out.below (fun i hi => hg2.block i (by omega) (by simp)), Nat.le_trans hC hg2.size, by unfold World.cell?; rw [hl1]; rfl, by unfold World.cell?; rw [hl0]; rfl⟩
  have HG2 := Lib.hid hg2
  clear hg2 hl0 hl1
  go_wp2_with (go_at_call 58; refine (bsearch_any HFS.out HR.out).mono ?_; rintro r w1 ⟨p, rfl, hp, hg⟩)
  go_ret
  exact ⟨p, rfl, leads_of HL.out hp, gtrans HG2.out hg⟩

end Go.Proofs.Ytfencmidjolgfaa
