/-
  The map from a value's first byte to what reads it. Own work.
-/
import Derived.Test.YticnfmfmgdfdeaaGreatDoorJsnAG
import Derived.Test.YticnfmfmgdfdeaaGreatDoorJsnAD
import Derived.Maps.Own
import Derived.Maps.OwnSet
import Derived.Maps.Views

set_option linter.unusedVariables false
set_option linter.unusedSimpArgs false
namespace Go.Proofs.YticnfmfmgdfdeaaGreatDoor
open Go.RowKit Go.Maps

/-- An element that is read as it is. -/
def heldR (v : Value) : Option (DataW Value × List MemPlace) := some (.held v, [])
abbrev kB (c : UInt8) : Lit := .int .u8 (c.toNat : Int)
theorem kB_inj {a b : UInt8} (h : kB a = kB b) : a = b := by
  injection h with _ h
  exact UInt8.toNat_inj.1 (by omega)
theorem kB_wf (c : UInt8) : (kB c).wf = true := by
  have := c.toNat_lt
  simp only [kB, Lit.wf, Bool.and_eq_true, decide_eq_true_eq]
  have h0 : IntKind.u8.min = 0 := rfl
  have h1 : IntKind.u8.max = 255 := rfl
  omega
theorem lawB : Keyed Tryz.prog 5 := int_keyed Tryz.underlying5
theorem keyB (c : UInt8) : keyOf Tryz.prog 5 (.int .u8 (c.toNat : Int)) = some (kB c) := keyOf_int_mk Tryz.underlying5 (kB_wf c)
theorem key_is (c : UInt8) : WideAt.IsKeyLit (kB c) := by first | trivial | (simp [WideAt.IsKeyLit]) | exact lawB.is (keyB c)
/-- Block M is a map that has F. -/
def Mp (w : World) (M n : Nat) (F : UInt8 → Option Value) : Prop :=
  ∃ D : DataW Value, w.ownsMap Tryz.prog 5 heldR M n D ∧ ∀ c, Maps.has D (kB c) = (F c).isSome ∧ ∀ v, F c = some v → ∀ z, D.atKey (kB c) z = .held v
def upF (F : UInt8 → Option Value) (k : UInt8) (v : Value) : UInt8 → Option Value := fun c => if c = k then some v else F c
theorem mp_made (w : World) : Mp (w.alloc (.map #[] 0)) w.heap.size 0 (fun _ => none) :=
  ⟨.map [], World.ownsMap_made _ _ _ _, fun c => ⟨rfl, fun v h => by cases h⟩⟩
theorem Mp.kept {w w' : World} {M n : Nat} {F : UInt8 → Option Value} {row : Option Nat} (h : Mp w M n F) (g : w.grownBy w' row) (hne : some M ≠ row) : Mp w' M n F := by
  obtain ⟨D, h1, h2⟩ := h
  exact ⟨D, h1.kept g hne, h2⟩
theorem Mp.gr {w w' : World} {M n : Nat} {F : UInt8 → Option Value} (h : Mp w M n F) (g : Gr w w') : Mp w' M n F := h.kept g (by simp)
theorem Mp.lt {w : World} {M n : Nat} {F : UInt8 → Option Value} (h : Mp w M n F) : M < w.heap.size := by
  obtain ⟨D, h1, -⟩ := h
  exact h1.lt
section
variable {ops : Array Oper} {rest : List Oper} {o : Oper} {a : Act} {Q : Exit → Act → World → Prop}
theorem wp_mput (hg : o.guard = none) (m x v : Operand) (hop : o.op = Op.mapUpdate 64 m x v) {M n : Nat} {F : UInt8 → Option Value} (w : World) (c : UInt8) (k : Int) (hk : k = (c.toNat : Int)) (val : Value)
    (hm : a.eval m = .map (some M)) (hx : a.eval x = .int .u8 k) (hv : a.eval v = val) (h : Mp w M n F) (hn : n < 1000)
    (hK : ∀ w', Mp w' M (n + 1) (upF F c val) → w.grownBy w' (some M) → wpList Tryz.prog ops Q rest (a.put o.dst undef) w') : wpList Tryz.prog ops Q (o :: rest) a w := by
  subst hk
  obtain ⟨D, h1, h2⟩ := h
  refine wpList_mapUpdate_own w hg m x v 64 hop 5 63 lawB Tryz.underlying64 heldR M n D hm h1 (by unfold maxLen; omega) (.int .u8 (c.toNat : Int)) val (kB c) hx hv (keyB c) (.held val) [] rfl ?_
  intro w' o1 g1
  refine hK w' ⟨D.put (kB c) (.held val), o1, fun d => ?_⟩ g1
  obtain ⟨e1, e2⟩ := h2 d
  unfold upF
  by_cases hd : d = c
  · subst hd
    rw [if_pos rfl]
    refine ⟨Maps.has_put_same h1.isMap (key_is d) _, fun v hv z => ?_⟩
    cases hv
    exact Maps.atKey_put_same h1.isMap (key_is d) _ z
  · rw [if_neg hd]
    have hne : kB d ≠ kB c := fun e => hd (kB_inj e)
    refine ⟨(Maps.has_put_other hne _).trans e1, fun v hv z => ?_⟩
    exact (Maps.atKey_put_other hne _ z).trans (e2 v hv z)
theorem wp_mlook (hg : o.guard = none) (m x : Operand) (hop : o.op = Op.lookup 64 m x true) {M n : Nat} {F : UInt8 → Option Value} (w : World) (c : UInt8) {z : Value} (hz : (zeroValue 63).run Tryz.prog w = .ok z w)
    (hm : a.eval m = .map (some M)) (hx : a.eval x = .int .u8 (c.toNat : Int)) (h : Mp w M n F)
    (hK : ∀ v, (∀ u, F c = some u → v = u) → wpList Tryz.prog ops Q rest (a.put o.dst (.tuple #[v, .bool (F c).isSome])) w) : wpList Tryz.prog ops Q (o :: rest) a w := by
  obtain ⟨D, h1, h2⟩ := h
  refine wpList_lookup_own_ok w hg m x 64 hop 5 63 lawB Tryz.underlying64 heldR hz (.held z) [] rfl M n D hm h1 (.int .u8 (c.toNat : Int)) (kB c) hx (keyB c) ?_
  intro v ps hv
  rw [(h2 c).1]
  refine hK v fun u hu => ?_
  have e := (h2 c).2 u hu (.held z)
  rw [e] at hv
  unfold heldR at hv
  simp at hv
  exact hv.1
end

end Go.Proofs.YticnfmfmgdfdeaaGreatDoor
