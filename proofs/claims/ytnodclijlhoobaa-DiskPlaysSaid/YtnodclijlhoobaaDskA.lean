/-
  Layer 3: the document's disk as a value, and the contracts of what the reference does with it: count, Fail, New. Own work.
-/
import Derived.Test.YtnodclijlhoobaaWord
namespace Go.Proofs.Ytnodclijlhoobaa
open Go.RowKit

/-- Row: a slice of n elements whose cells are xs; all cells lie below block B. -/
def Row (B : Nat) (w : World) (v : Value) (n : Nat) (xs : List Value) : Prop :=
  ∃ ao c, v = .slice ao n c ∧ n ≤ c ∧ c ≤ maxLen ∧ (xs ≠ [] → ∃ b o, ao = some ⟨b, o, none⟩ ∧ b < B ∧ ((∀ j, j < xs.length → w.cell? ⟨b, o + j, none⟩ = xs[j]?) ∧ ∃ cs t f, w.heap[b]? = some (.cells cs t f) ∧ (t = 9 ∨ t = 117)))
theorem Row.below {B : Nat} {w w' : World} {v : Value} {n : Nat} {xs : List Value} (h : Row B w v n xs) (k : ∀ i, i < B → w'.heap[i]? = w.heap[i]?) : Row B w' v n xs := by
  obtain ⟨ao, c, hv, h1, h2, h4⟩ := h
  refine ⟨ao, c, hv, h1, h2, fun hne => ?_⟩
  obtain ⟨b, o, ha, hb, hc, cs, t, f, hg, ht⟩ := h4 hne
  exact ⟨b, o, ha, hb, fun j hj => (World.cell?_of_block (w := w) (k b hb)).trans (hc j hj), cs, t, f, (k b hb).trans hg, ht⟩
theorem Row.mono {B B' : Nat} {w : World} {v : Value} {n : Nat} {xs : List Value} (h : Row B w v n xs) (k : B ≤ B') : Row B' w v n xs := by
  obtain ⟨ao, c, hv, h1, h2, h4⟩ := h
  refine ⟨ao, c, hv, h1, h2, fun hne => ?_⟩
  obtain ⟨b, o, ha, hb, hc⟩ := h4 hne
  exact ⟨b, o, ha, by omega, hc⟩
theorem Row.grown {w w' : World} {v : Value} {n : Nat} {xs : List Value} (h : Row w.heap.size w v n xs) (k : w.grownBy w' none) : Row w'.heap.size w' v n xs :=
  (h.below (fun i hi => k.block i hi (by simp))).mono k.size
/-- A store elsewhere. -/
theorem Row.setCell {B : Nat} {w : World} {ao : Option Addr} {n m c : Nat} {xs : List Value} (h : Row B w (.slice ao n c) m xs) (a : Addr) (u : Value) (k : xs ≠ [] → ∀ b o, ao = some ⟨b, o, none⟩ → b ≠ a.block) : Row B (w.setCell a u) (.slice ao n c) m xs := by
  obtain ⟨ao', c', hv, h1, h2, h4⟩ := h
  cases hv
  refine ⟨ao, c, rfl, h1, h2, fun hne => ?_⟩
  obtain ⟨b, o, ha, hb, hc, cs, t, f, hg, ht⟩ := h4 hne
  have hk := k hne b o ha
  have hs : (w.setCell a u).heap[b]? = w.heap[b]? := by
    simp only [World.setCell, Array.getElem?_modify]
    rw [if_neg (fun e => hk e.symm)]
  exact ⟨b, o, ha, hb, fun j hj => (World.cell?_of_block (w := w) hs).trans (hc j hj), cs, t, f, hs.trans hg, ht⟩
theorem Row.nil (B : Nat) (w : World) : Row B w (.slice none 0 0) 0 [] := ⟨none, 0, rfl, Nat.le_refl _, by decide, fun h => absurd rfl h⟩

/-- The document's disk. -/
structure DM where
  size : Nat
  limit : Nat
  good : List ByteArray
  loose : List (Nat × ByteArray)
  fails : Int
  calls : Nat
def lcells (l : List (Nat × ByteArray)) : List Value := l.flatMap fun x => [.int .i64 (x.1 : Int), .string x.2]
/-- The value of one whose slices are gv and lv. -/
def dval (D : DM) (gv lv : Value) : Value := .agg #[.int .i64 (D.size : Int), .int .i64 (D.limit : Int), gv, lv, .int .i64 D.fails, .int .i64 (D.calls : Int)]
/-- The value v is the disk D, in the world w. -/
def DAt (w : World) (v : Value) (D : DM) : Prop :=
  ∃ gv lv, v = dval D gv lv ∧ Row w.heap.size w gv D.good.length (D.good.map Value.string) ∧ Row w.heap.size w lv D.loose.length (lcells D.loose)
theorem DAt.grown {w w' : World} {v : Value} {D : DM} (h : DAt w v D) (k : w.grownBy w' none) : DAt w' v D := by
  obtain ⟨gv, lv, hv, h1, h2⟩ := h
  exact ⟨gv, lv, hv, h1.grown k, h2.grown k⟩

/-- A call that counts: the disk behind it, its error. -/
def countD (D : DM) : DM × Int :=
  if D.fails < 0 then ({ D with calls := D.calls + 1 }, 0)
  else ({ D with calls := D.calls + 1, fails := D.fails - 1 }, if D.fails - 1 < 0 then 20 else 0)

/-- The parts of a D as cells. -/
abbrev dcs (s l : Nat) (ga : Option Addr) (gn gc : Nat) (la : Option Addr) (ln lc : Nat) (f : Int) (c : Nat) : Array Value :=
  #[.int .i64 (s : Int), .int .i64 (l : Int), .slice ga gn gc, .slice la ln lc, .int .i64 f, .int .i64 (c : Int)]

/-- A result 'D, error': the D lies in a block, its cells are known. -/
theorem results_D {fn : Func} {p u : Tmp} (h : fn.results = #[.cell p 32, .tmp u]) (tmps : Array Value) (W : World) (q : Nat) (cs : Array Value) (e : Value) (hp : tmps.getD p undef = .pointer (some ⟨q, 0, none⟩)) (he : tmps.getD u undef = e)
    (hq : W.heap[q]? = some (.cells cs 32 (0, 0))) (hs : cs.size = 6) : (results fn tmps).run Try.prog W = .ok (.tuple #[.agg cs, e]) W := by
  have hld := run_loadVar_row (P := Try.prog) W q 32 32 cs (0, 0) _ hq Try.underlying32 rfl (by rw [hs]; kernel_rfl)
  have hp' : tmps[p]?.getD undef = .pointer (some ⟨q, 0, none⟩) := by simpa using hp
  have he' : tmps[u]?.getD undef = e := by simpa using he
  simp [results, h, hp', he', asAddr, hld]

set_option maxHeartbeats 1000000 in
theorem rcount_any (w : World) (s l : Nat) (ga : Option Addr) (gn gc : Nat) (la : Option Addr) (ln lc : Nat) (f : Int) (c : Nat) (hf : -9223372036854775808 ≤ f) (hf2 : f ≤ 9223372036854775807) (hc : c < 9223372036854775807) :
    Calls Try.prog 54 #[.agg (dcs s l ga gn gc la ln lc f c)] w fun r w' =>
      r = .returned (.tuple #[.agg (dcs s l ga gn gc la ln lc (if f < 0 then f else f - 1) (c + 1)), .int .i64 (if f < 0 then 0 else if f - 1 < 0 then 20 else 0)]) ∧ (w.alloc (.cells (dcs s l ga gn gc la ln lc (if f < 0 then f else f - 1) (c + 1)) 32)).alloc (.cells (dcs s l ga gn gc la ln lc (if f < 0 then f else f - 1) (c + 1)) 32) = w' := by
  by_cases h : f < 0
  · simp only [if_pos h]
    go_enter Try.func54, Try.ntmps54
    go_wp2
    exact bodyPost_ret (results_D rfl _ _ (w.heap.size + 1) _ _ rfl rfl (two_lit1 _ _ _) rfl) rfl ⟨rfl, rfl⟩
  · simp only [if_neg h]
    by_cases h2 : f - 1 < 0
    · simp only [if_pos h2]
      go_enter Try.func54, Try.ntmps54
      go_wp2
      exact bodyPost_ret (results_D rfl _ _ (w.heap.size + 1) _ _ rfl rfl (two_lit1 _ _ _) rfl) rfl ⟨rfl, rfl⟩
    · simp only [if_neg h2]
      go_enter Try.func54, Try.ntmps54
      go_wp2
      exact bodyPost_ret (results_D rfl _ _ (w.heap.size + 1) _ _ rfl rfl (two_lit1 _ _ _) rfl) rfl ⟨rfl, rfl⟩

/-- How many more calls go before the one that fails, behind one that didn't. -/
def fnext (f : Int) : Int := if f < 0 then f else f - 1
theorem fnext_bound {f : Int} (h1 : -9223372036854775808 ≤ f) (h2 : f ≤ 9223372036854775807) : -9223372036854775808 ≤ fnext f ∧ fnext f ≤ 9223372036854775807 := by
  unfold fnext; split <;> omega
theorem rcount_ok (w : World) (s l : Nat) (ga : Option Addr) (gn gc : Nat) (la : Option Addr) (ln lc : Nat) (f : Int) (c : Nat) (hf : -9223372036854775808 ≤ f) (hf2 : f ≤ 9223372036854775807) (hc : c < 9223372036854775807) (h0 : f ≠ 0) :
    Calls Try.prog 54 #[.agg (dcs s l ga gn gc la ln lc f c)] w fun r w' =>
      r = .returned (.tuple #[.agg (dcs s l ga gn gc la ln lc (fnext f) (c + 1)), .int .i64 0]) ∧ (w.alloc (.cells (dcs s l ga gn gc la ln lc (fnext f) (c + 1)) 32)).alloc (.cells (dcs s l ga gn gc la ln lc (fnext f) (c + 1)) 32) = w' := by
  have h := rcount_any w s l ga gn gc la ln lc f c hf hf2 hc
  have e : (if f < 0 then (0 : Int) else if f - 1 < 0 then 20 else 0) = 0 := by
    split
    · rfl
    · rw [if_neg (by omega)]
  rw [e] at h
  exact h
theorem rcount_err (w : World) (s l : Nat) (ga : Option Addr) (gn gc : Nat) (la : Option Addr) (ln lc : Nat) (c : Nat) (hc : c < 9223372036854775807) :
    Calls Try.prog 54 #[.agg (dcs s l ga gn gc la ln lc 0 c)] w fun r w' =>
      r = .returned (.tuple #[.agg (dcs s l ga gn gc la ln lc (-1) (c + 1)), .int .i64 20]) ∧ (w.alloc (.cells (dcs s l ga gn gc la ln lc (-1) (c + 1)) 32)).alloc (.cells (dcs s l ga gn gc la ln lc (-1) (c + 1)) 32) = w' := rcount_any w s l ga gn gc la ln lc 0 c (by decide) (by decide) hc

end Go.Proofs.Ytnodclijlhoobaa
