/-
  A JSON string, as it is read. Own work.
-/
import Derived.Test.YticnfmfmgdfdeaaGreatDoorJsnAO
import Derived.Test.YticnfmfmgdfdeaaGreatDoorJsnAP
import Derived.Test.YticnfmfmgdfdeaaGreatDoorJsnAQ
import Derived.Lib.OthersKept
import Derived.Lib.FrozenHead2
import Derived.Lib.RuneBytes
import Derived.Laws.RangeAny
import Derived.Test.YticnfmfmgdfdeaaGreatDoorJsnAJ

set_option linter.unusedVariables false
set_option linter.unusedSimpArgs false
namespace Go.Proofs.YticnfmfmgdfdeaaGreatDoor
open Go.RowKit

/-- A row of bytes of the call's own, as AppendRune leaves it. -/
def OF (B : Nat) (w : World) (v : Value) (l : Bs) : Prop := w.ownsRowF B 5 1 v l.length (Lib.byteCells l)
theorem of_nil (B : Nat) (w : World) : OF B w (.slice none 0 0) [] := World.ownsRowF_nil _ _ _ _
theorem OF.gr {B : Nat} {w w' : World} {v : Value} {l : Bs} (h : OF B w v l) (g : Gr w w') : OF B w' v l := World.ownsRowF.kept h g (by cases v.ownBlock <;> simp)
theorem OF.other {B q : Nat} {w w' : World} {v : Value} {l : Bs} (h : OF B w v l) (g : w.grownBy w' (some q)) (hq : q < B) : OF B w' v l :=
  World.ownsRowF.kept h g (by
    cases hv : v.ownBlock with
    | none => exact .inl rfl
    | some k =>
      right
      intro e
      injection e with e
      have := (World.ownsRowF.lt h k hv).1
      omega)
theorem of_below {B : Nat} {w w' : World} {v : Value} {l : Bs} (h : OF B w v l) (hB : B ≤ w.heap.size) (o : Obj) (g : (w.alloc o).grownBy w' v.ownBlock) : Below B w w' := by
  have g0 : Below B w (w.alloc o) := Below.mono (gbelow (World.grownBy_alloc w o none)) hB
  refine g0.trans ⟨g.os, g.tape, g.output, g.size, fun i hi => g.block i (by simp; omega) ?_⟩
  intro e
  have := (World.ownsRowF.lt h i e.symm).1
  omega
theorem runeCells_eq (r : Int) : Lib.runeCells r = Lib.byteCells (Lib.encodeRune r) := (Lib.byteCells_encodeRune r).symm
theorem appRune_any (B : Nat) (v : Value) (l : Bs) (x : Nat) (w : World) (h : OF B w v l) (hl : l.length ≤ 1000000000) (hB : B ≤ w.heap.size) (hx : x ≤ 1114111) (z : Int) (hz : z = (x : Int)) :
    Calls Tryz.prog 147 #[v, .int .i32 z] w fun r w' => ∃ v', r = .returned v' ∧ OF B w' v' (l ++ Lib.encodeRune x) ∧ Below B w w' := by
  subst hz
  refine (Tryz.appendRune B v l.length _ (x : Int) (by omega) (by omega) w h (by omega) hB).mono ?_
  rintro r w' ⟨v', rfl, h1, o, h2⟩
  refine ⟨v', rfl, ?_, of_below h hB o h2⟩
  unfold OF
  rw [List.length_append, ← byteCells_app, ← runeCells_eq]
  have : (Lib.encodeRune (x : Int)).length = (Lib.runeCells (x : Int)).length := (Lib.runeCells_length _).symm
  rw [this]
  exact h1
theorem of_shape {B : Nat} {w : World} {v : Value} {l : Bs} (h : OF B w v l) : ∃ ao c, v = .slice ao l.length c := by
  rcases h.2 with ⟨rfl, h0⟩ | ⟨g, cap, cur, fz, rfl, _⟩
  · exact ⟨_, _, by rw [h0]⟩
  · exact ⟨_, _, rfl⟩
theorem of_conv {B : Nat} {w : World} {v : Value} {l : Bs} (h : OF B w v l) : (convert 48 9 v).run Tryz.prog w = .ok (.string (Sx l)) w := by
  rcases h.2 with ⟨rfl, h0⟩ | ⟨g, cap, cur, fz, rfl, hx⟩
  · have : l = [] := List.eq_nil_of_length_eq_zero h0
    subst this
    exact run_convert_bytes_nil w 48 5 Tryz.underlying48 Tryz.underlying5 0 0 9 Tryz.underlying9
  · exact run_convert_bytes_back (P := Tryz.prog) w 48 9 5 ⟨g, 0, none⟩ cap l Tryz.underlying48 Tryz.underlying5 Tryz.underlying9 (fun j hj => World.ownsRowF.cells h (g := g) rfl j _ (by simp [Lib.byteCells, hj]))

end Go.Proofs.YticnfmfmgdfdeaaGreatDoor
