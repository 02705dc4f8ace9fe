/-
  Layer 8: slices.Clone of pages; a record in new memory. Own work.
-/
import Derived.Deep.RegionWith
import Derived.Test.YtpgpilalhbdidaaFpB
namespace Go.Proofs.Ytpgpilalhbdidaa
open Go.RowKit Go.Maps

/-- Pages of the call's own, in memory from 'base' on. -/
def OwnP (base : Nat) (w : World) (v : Value) (ps : List Nat) : Prop := w.ownsRow base 41 1 v ps.length (ps.map encP) ∧ ∀ p ∈ ps, p < 4294967296
theorem OwnP.grown {base : Nat} {w w' : World} {v : Value} {ps : List Nat} (h : OwnP base w v ps) (k : w.grownBy w' none) : OwnP base w' v ps := ⟨World.ownsRow.kept h.1 k (by cases v.ownBlock <;> simp), h.2⟩
theorem OwnP.mono {base base' : Nat} {w : World} {v : Value} {ps : List Nat} (h : OwnP base w v ps) (k : base' ≤ base) : OwnP base' w v ps := by
  refine ⟨⟨h.1.1, ?_⟩, h.2⟩
  rcases h.1.2 with hn | ⟨g, cap, cur, rfl, hb, r⟩
  · exact .inl hn
  · exact .inr ⟨g, cap, cur, rfl, by omega, r⟩
theorem OwnP.set {base q : Nat} {w : World} {v : Value} {ps : List Nat} (h : OwnP base w v ps) (hq : q < base) (k : Nat) (u : Value) : OwnP base (w.setCell ⟨q, k, none⟩ u) v ps := by
  refine ⟨World.ownsRow.kept h.1 (gset w ⟨q, k, none⟩ u) ?_, h.2⟩
  cases hv : v.ownBlock with
  | none => exact .inl rfl
  | some g => have := (h.1.lt g hv).1; right; intro e; injection e with e; simp at e; omega
theorem OwnP.psq {base : Nat} {w : World} {v : Value} {ps : List Nat} (h : OwnP base w v ps) : PSq (fun b => base ≤ b) w v ps := (PSq.owned h.1 h.2).imp fun _ k _ => k.1

theorem results_Rec {fn : Func} {p : Tmp} (h : fn.results = #[.cell p 69]) (tmps : Array Value) (W : World) (q : Nat) (cs : Array Value) (hp : tmps.getD p undef = .pointer (some ⟨q, 0, none⟩))
    (hq : W.heap[q]? = some (.cells cs 69 (0, 0))) (hs : cs.size = 2) : (results fn tmps).run Try.prog W = .ok (.agg cs) W :=
  results_cell_row h tmps W q 69 cs (0, 0) _ hp hq Try.underlying69 rfl (by rw [hs]; kernel_rfl)

theorem cells2 {W : World} {q : Nat} {a b : Value} {t : TypeId} (h : W.heap[q]? = some (.cells #[a, b] t (0, 0))) : W.cell? ⟨q, 0, none⟩ = some a ∧ W.cell? ⟨q, 1, none⟩ = some b ∧ W.frozen? ⟨q, 0, none⟩ = false ∧ W.frozen? ⟨q, 1, none⟩ = false := by
  simp [World.cell?, World.frozen?, h]
theorem store2 {W : World} {q : Nat} {x0 x1 : Value} {t : TypeId} (h : W.heap[q]? = some (.cells #[x0, x1] t (0, 0))) (a b : Value) :
    ((W.setCell ⟨q, 0, none⟩ a).setCell ⟨q, 1, none⟩ b).heap[q]? = some (.cells #[a, b] t (0, 0)) := by
  simp [World.setCell, Array.getElem?_modify, h]

end Go.Proofs.Ytpgpilalhbdidaa
