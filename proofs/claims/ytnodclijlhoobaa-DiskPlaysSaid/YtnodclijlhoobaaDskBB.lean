/-
  Layer 3: DiskPlays' own states: the disk, and the document's D in a block of the caller's, side by side. Own work.
-/
import Derived.Test.YtnodclijlhoobaaDskAA
import Derived.Test.YtnodclijlhoobaaDskX
import Derived.Test.YtnodclijlhoobaaDskG
namespace Go.Proofs.Ytnodclijlhoobaa
open Go.RowKit

theorem DskAt.sizes {B d : Nat} {w : World} {M : SM} (h : DskAt B w d M) : (∀ y ∈ M.pg, y.1.length = M.size ∧ y.2.length = M.size) ∧ ∀ x ∈ M.loose, x.2.length = M.size := by
  obtain ⟨pv, lv, nv, ps, ls, h1, h2, h3, h4, h5⟩ := h
  refine ⟨fun y hy => ?_, fun x hx => ?_⟩
  · rw [h4] at hy
    obtain ⟨z, hz, rfl⟩ := List.mem_map.1 hy
    exact ⟨(h3.pall z hz).1.len, (h3.pall z hz).2.len⟩
  · rw [h5] at hx
    obtain ⟨z, hz, rfl⟩ := List.mem_map.1 hx
    exact (h3.lall z hz).len
/-- A block of another kind is none of the disk's. -/
theorem DskAt.other {B d x : Nat} {w w' : World} {M : SM} {t : TypeId} (h : DskAt B w d M) (hx : TagIs w x t) (ht : t ≠ 111 ∧ t ≠ 115 ∧ t ≠ 113 ∧ t ≠ 5) (hg : w.grownBy w' (some x)) : DskAt B w' d M := by
  obtain ⟨pv, lv, nv, ps, ls, h1, h2, h3, h4, h5⟩ := h
  have hr : ∀ k, some x = some k → TagIs w k t := fun k e => by injection e with e; subst e; exact hx
  have hd : some d ≠ some x := fun e => by
    injection e with e
    subst e
    exact ht.1 (hx.uniq ⟨_, _, h2⟩)
  refine ⟨pv, lv, nv, ps, ls, h1, (hg.block d (lt_of_block h2) hd).trans h2, ⟨own_far h3.pown hg hr ht.2.1, fun y hy => ⟨(h3.pall y hy).1.far hg hr ht.2.2.2, (h3.pall y hy).2.far hg hr ht.2.2.2⟩, own_far h3.lown hg hr ht.2.2.1, fun y hy => (h3.lall y hy).far hg hr ht.2.2.2, ?_⟩, h4, h5⟩
  have := h3.nown
  cases hM : M.once
  · rw [hM] at this; exact this
  · rw [hM] at this; exact Own8.far (show Own8 B w M.size nv _ from this) hg hr ht.2.2.2
/-- A row of the document's stands where the disk is written to .. -/
theorem Row.dfr {B : Nat} {w w' : World} {v : Value} {n : Nat} {xs : List Value} (h : Row w.heap.size w v n xs) (hd : Dfr B w w') : Row w'.heap.size w' v n xs := by
  obtain ⟨ao, c, hv, h1, h2, h4⟩ := h
  refine ⟨ao, c, hv, h1, h2, fun hne => ?_⟩
  obtain ⟨b, o, ha, hb, hc, cs, t, f, hg, ht⟩ := h4 hne
  have hs := hd.block b hb (.inr (Dtag.no ⟨cs, f, hg⟩ (by rcases ht with rfl | rfl <;> decide)))
  exact ⟨b, o, ha, Nat.lt_of_lt_of_le hb hd.size, fun j hj => (World.cell?_of_block (w := w) hs).trans (hc j hj), cs, t, f, hs.trans hg, ht⟩
/-- .. and where a D is. -/
theorem Row.box {w w' : World} {v : Value} {n q : Nat} {xs : List Value} (h : Row w.heap.size w v n xs) (hq : TagIs w q 32) (hg : w.grownBy w' (some q)) : Row w'.heap.size w' v n xs := by
  obtain ⟨ao, c, hv, h1, h2, h4⟩ := h
  refine ⟨ao, c, hv, h1, h2, fun hne => ?_⟩
  obtain ⟨b, o, ha, hb, hc, cs, t, f, hgb, ht⟩ := h4 hne
  have hs := hg.block b hb (fun e => by
    injection e with e
    subst e
    have := hq.uniq ⟨cs, f, hgb⟩
    rcases ht with rfl | rfl <;> exact absurd this (by decide))
  exact ⟨b, o, ha, Nat.lt_of_lt_of_le hb hg.size, fun j hj => (World.cell?_of_block (w := w) hs).trans (hc j hj), cs, t, f, hs.trans hgb, ht⟩

/-- The parts of the document's D for the disk M: its slices are gv and lv. -/
def RIn (w : World) (M : SM) (ga : Option Addr) (gc : Nat) (la : Option Addr) (lc : Nat) : Prop :=
  Row w.heap.size w (.slice ga M.pg.length gc) (mgO M.pg).length ((mgO M.pg).map Value.string) ∧ Row w.heap.size w (.slice la M.loose.length lc) (mlO M.loose).length (lcells (mlO M.loose))
theorem RIn.new {w w' : World} {M : SM} {ga la : Option Addr} {gc lc : Nat} (h : RIn w M ga gc la lc) (hg : w.grownBy w' none) : RIn w' M ga gc la lc := ⟨h.1.grown hg, h.2.grown hg⟩
theorem RIn.dfr {B : Nat} {w w' : World} {M : SM} {ga la : Option Addr} {gc lc : Nat} (h : RIn w M ga gc la lc) (hd : Dfr B w w') : RIn w' M ga gc la lc := ⟨h.1.dfr hd, h.2.dfr hd⟩
theorem RIn.box {w w' : World} {M : SM} {ga la : Option Addr} {gc lc q : Nat} (h : RIn w M ga gc la lc) (hq : TagIs w q 32) (hg : w.grownBy w' (some q)) : RIn w' M ga gc la lc := ⟨h.1.box hq hg, h.2.box hq hg⟩

/-- How the document's D says when it fails. -/
def FRel (M : SM) (f : Int) : Prop := (M.fails = true → f = M.ahead ∧ 0 ≤ f) ∧ (M.fails = false → f = -1)
theorem FRel.ok {M : SM} {f : Int} (h : FRel M f) (h0 : f ≠ 0) : cE M.fails M.ahead = 0 := by
  cases hf : M.fails with
  | false => simp [cE]
  | true =>
    obtain ⟨h1, h2⟩ := h.1 hf
    have : decide (0 < M.ahead) = true := by simp; omega
    rw [cE, this]; rfl
theorem FRel.io {M : SM} {f : Int} (h : FRel M f) (h0 : f = 0) : cE M.fails M.ahead = 20 := by
  cases hf : M.fails with
  | false => have := h.2 hf; omega
  | true =>
    obtain ⟨h1, h2⟩ := h.1 hf
    have : decide (0 < M.ahead) = false := by simp; omega
    rw [cE, this]; rfl
theorem FRel.next {M : SM} {f : Int} (h : FRel M f) (h0 : f ≠ 0) : FRel (cntM M) (fnext f) := by
  refine ⟨fun hf => ?_, fun hf => ?_⟩
  · have hf' : cF M.fails M.ahead = true := hf
    cases hM : M.fails with
    | false => rw [hM] at hf'; simp [cF] at hf'
    | true =>
      obtain ⟨h1, h2⟩ := h.1 hM
      have : decide (0 < M.ahead) = true := by simp; omega
      show fnext f = cA M.fails M.ahead ∧ _
      rw [hM, cA, this, fnext, if_neg (by omega)]
      exact ⟨by show f - 1 = M.ahead - 1; omega, by omega⟩
  · have hf' : cF M.fails M.ahead = false := hf
    cases hM : M.fails with
    | false => rw [h.2 hM]; rfl
    | true =>
      obtain ⟨h1, h2⟩ := h.1 hM
      rw [hM] at hf'
      simp [cF] at hf'
      omega
theorem FRel.last {M : SM} (h : FRel M 0) : FRel (cntM M) (-1) := by
  refine ⟨fun hf => ?_, fun _ => rfl⟩
  have hf' : cF M.fails M.ahead = true := hf
  cases hM : M.fails with
  | false => have := h.2 hM; omega
  | true =>
    obtain ⟨h1, h2⟩ := h.1 hM
    rw [hM] at hf'
    simp [cF] at hf'
    omega
theorem FRel.bound {M : SM} {f : Int} {c : Nat} (h : FRel M f) (hw : Wel M c) : -9223372036854775808 ≤ f ∧ f ≤ 9223372036854775807 := by
  cases hM : M.fails with
  | false => rw [h.2 hM]; exact ⟨by decide, by decide⟩
  | true => have h1 := (h.1 hM).1; have := hw.a1; have := hw.a2; omega
theorem frel_fail (M : SM) (n : Int) : FRel { M with fails := decide (0 ≤ n), ahead := n } (if n < 0 then -1 else n) := by
  refine ⟨fun h => ?_, fun h => ?_⟩
  · have h' : decide (0 ≤ n) = true := h
    simp at h'
    rw [if_neg (by omega)]; exact ⟨rfl, h'⟩
  · have h' : decide (0 ≤ n) = false := h
    simp at h'
    rw [if_pos h']

/-- The state behind i things done. -/
structure PSt (M : SM) (f : Int) (s l i : Nat) : Prop where
  sz : M.size = s
  lm : M.limit = l
  wf : WF M
  w : Wel M i
  fr : FRel M f

/-- A store of a whole D into a block of the caller's. -/
theorem put6 {B d q b0 : Nat} {W w : World} {M : SM} {N : SM} {ga la : Option Addr} {gc lc : Nat} {x0 x1 x2 x3 x4 x5 : Value} (hd : DskAt B w d M) (hq : w.heap[q]? = some (.cells #[x0, x1, x2, x3, x4, x5] 32 (0, 0))) (hr : RIn w N ga gc la lc) (hb : Below b0 W w) (hb0 : b0 ≤ q) (a b c e f g : Value) :
    let w' := (((((w.setCell ⟨q, 0, none⟩ a).setCell ⟨q, 1, none⟩ b).setCell ⟨q, 2, none⟩ c).setCell ⟨q, 3, none⟩ e).setCell ⟨q, 4, none⟩ f).setCell ⟨q, 5, none⟩ g
    DskAt B w' d M ∧ w'.heap[q]? = some (.cells #[a, b, c, e, f, g] 32 (0, 0)) ∧ RIn w' N ga gc la lc ∧ Below b0 W w' := by
  intro w'
  have hg : w.grownBy w' (some q) := grown6 w q a b c e f g
  have ht : TagIs w q 32 := ⟨_, _, hq⟩
  refine ⟨hd.other ht ⟨by decide, by decide, by decide, by decide⟩ hg, store6 hq a b c e f g, hr.box ht hg, ?_⟩
  exact ⟨hg.os.trans hb.os, hg.tape.trans hb.tape, hg.output.trans hb.output, Nat.le_trans hb.size hg.size, fun k hk => (hg.block k (by have := lt_of_block hq; omega) (fun e => by injection e with e; omega)).trans (hb.block k hk)⟩

end Go.Proofs.Ytnodclijlhoobaa
