/-
  Opening layer 3's script: a slice of things of four cells each: three ints, bytes. Own work.
-/
import Derived.Test.YtnodclijlhoobaaWord
import Derived.ProofKit
import Derived.OpenShut
import Derived.ShutString
import Derived.ChangeOld
import Derived.Deep.Slices
import Derived.Deep.Fields
namespace Go.Proofs.Ytnodclijlhoobaa
open Go.RowKit Go.ChangeShapes Go.WideShapes Go.ChangeAt

/-- What one thing of a script holds: its four cells. -/
def ActAt (w : World) (b o : Nat) : Prop :=
  ∃ (K I N : Int) (ya : Option Addr) (yn yc : Nat) (ys : List Int), w.cell? ⟨b, o, none⟩ = some (.int .i64 K) ∧ w.cell? ⟨b, o + 1, none⟩ = some (.int .i64 I) ∧ w.cell? ⟨b, o + 2, none⟩ = some (.int .i64 N) ∧
    w.cell? ⟨b, o + 3, none⟩ = some (.slice ya yn yc) ∧ (-9223372036854775808 ≤ K ∧ K ≤ 9223372036854775807) ∧ (-9223372036854775808 ≤ I ∧ I ≤ 9223372036854775807) ∧ (-9223372036854775808 ≤ N ∧ N ≤ 9223372036854775807) ∧ Seq w.heap.size w (.slice ya yn yc) ys ∧ Byt ys
/-- A script that came in. -/
def Acts (w : World) (v : Value) (len : Nat) : Prop :=
  ∃ ao c, v = .slice ao len c ∧ (0 < len → ∃ b o, ao = some ⟨b, o, none⟩ ∧ b < w.heap.size ∧ ∀ i, i < len → ActAt w b (o + i * 4))

theorem actCells : Try.prog.cellsOf 36 = 4 := by kernel_rfl
theorem c1u8 : Try.prog.cellsOf 5 = 1 := by kernel_rfl
theorem c1int : Try.prog.cellsOf 3 = 1 := by kernel_rfl
theorem c1bs : Try.prog.cellsOf 22 = 1 := by kernel_rfl

theorem open_row {H : Type} {enc : TypeId × Value → H} {W : World} {y : DataW H × List MemPlace} {v : Value} {n : Nat}
    (h : DataW.trod enc Try.prog W 0 (fun _ => true) true n 22 [v] = some y) : ∃ a len cap bs, v = .slice a len cap ∧ Seq W.heap.size W (.slice a len cap) bs ∧ Byt bs := by
  have h' := h
  rcases open_ints Try.underlying22 Try.underlying5 c1u8 h with ⟨hcs, _⟩ | ⟨x, l, c, zs, hcs, _⟩
  · simp at hcs
    subst hcs
    obtain ⟨bs, hs, hb⟩ := open_bytes (d := y.1) (p := y.2) ⟨n, h'⟩
    exact ⟨_, _, _, bs, rfl, hs, hb⟩
  · simp at hcs
    subst hcs
    obtain ⟨bs, hs, hb⟩ := open_bytes (d := y.1) (p := y.2) ⟨n, h'⟩
    exact ⟨_, _, _, bs, rfl, hs, hb⟩

set_option maxRecDepth 100000 in
theorem open_acts {H : Type} {enc : TypeId × Value → H} {W : World} {d : DataW H} {p : List MemPlace} {a : Option Addr} {len cap : Nat}
    (h : ∃ fuel, DataW.trod enc Try.prog W 0 (fun _ => true) true fuel 23 [.slice a len cap] = some (d, p)) :
    Acts W (.slice a len cap) len ∧ len ≤ 9223372036854775807 := by
  obtain ⟨fuel, hf⟩ := h
  rcases Go.Deep.open_slice Try.underlying23 hf with ⟨hcs, _⟩ | ⟨x, l, c, m, n, D, Pl, hcs, _, hl, hm, hmm, _, hi⟩
  · simp at hcs
    obtain ⟨rfl, rfl, rfl⟩ := hcs
    exact ⟨⟨none, 0, rfl, fun h => by omega⟩, by omega⟩
  · simp at hcs
    obtain ⟨rfl, rfl, rfl⟩ := hcs
    have hmc : m = cap := by simpa using hmm
    rw [actCells] at hi
    have each : ∀ i, i < len → ∃ v0 v1 v2 v3, (∀ j v, [v0, v1, v2, v3][j]? = some v → W.cell? ((x.add (i * 4)).add j) = some v) ∧ (∃ n y, DataW.trod enc Try.prog W 0 (fun _ => true) true n 3 [v0] = some y) ∧
        (∃ n y, DataW.trod enc Try.prog W 0 (fun _ => true) true n 3 [v1] = some y) ∧ (∃ n y, DataW.trod enc Try.prog W 0 (fun _ => true) true n 3 [v2] = some y) ∧ (∃ n y, DataW.trod enc Try.prog W 0 (fun _ => true) true n 22 [v3] = some y) := by
      intro i hil
      obtain ⟨cs', hc, ht⟩ := hi i (by omega)
      obtain ⟨_, hcl, hat⟩ := World.cells?_some hc
      obtain ⟨ys, n', _, _, _, hyl, hg⟩ := DataW.trod_struct Try.underlying36 ht
      match cs', hcl, ys, hyl with
      | [v0, v1, v2, v3], _, [y0, y1, y2, y3], _ =>
        refine ⟨v0, v1, v2, v3, fun j v hj => ?_, ⟨n', y0, ?_⟩, ⟨n', y1, ?_⟩, ⟨n', y2, ?_⟩, ⟨n', y3, ?_⟩⟩
        · have hj4 : j < 4 := (List.getElem?_eq_some_iff.1 hj).1
          exact (hat j hj4).trans hj
        · simpa [c1int] using hg 0 _ rfl
        · simpa [c1int] using hg 1 _ rfl
        · simpa [c1int] using hg 2 _ rfl
        · simpa [c1bs] using hg 3 _ rfl
    refine ⟨⟨some x, cap, rfl, fun hp => ?_⟩, by unfold maxLen at hm; omega⟩
    obtain ⟨b, o, spot⟩ := x
    obtain ⟨v0, _, _, _, hc0, _⟩ := each 0 hp
    have hc00 := hc0 0 v0 rfl
    have hspot : spot = none := by simpa [Addr.add] using World.cell?_spot hc00
    subst hspot
    have hadd : ∀ i j : Nat, (((⟨b, o, none⟩ : Addr).add i).add j) = ⟨b, o + i + j, none⟩ := fun i j => by
      unfold Addr.add; split <;> split <;> simp_all
    refine ⟨b, o, rfl, ?_, fun i hil => ?_⟩
    · have := World.block_lt_of_cell? _ _ hc00
      rw [hadd] at this
      exact this
    · obtain ⟨v0, v1, v2, v3, hc, ⟨_, _, t0⟩, ⟨_, _, t1⟩, ⟨_, _, t2⟩, ⟨_, _, t3⟩⟩ := each i hil
      obtain ⟨K, e0, _, wK⟩ := DataW.trod_int Try.underlying3 t0
      obtain ⟨X, e1, _, wX⟩ := DataW.trod_int Try.underlying3 t1
      obtain ⟨N, e2, _, wN⟩ := DataW.trod_int Try.underlying3 t2
      simp at e0 e1 e2
      subst e0 e1 e2
      obtain ⟨ya, yn, yc, ys, rfl, hs, hb⟩ := open_row t3
      have k0 := hc 0 _ rfl
      have k1 := hc 1 _ rfl
      have k2 := hc 2 _ rfl
      have k3 := hc 3 _ rfl
      rw [hadd] at k0 k1 k2 k3
      exact ⟨K, X, N, ya, yn, yc, ys, k0, k1, k2, k3, bounds_i64 wK, bounds_i64 wX, bounds_i64 wN, hs, hb⟩

end Go.Proofs.Ytnodclijlhoobaa
