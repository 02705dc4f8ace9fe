/-
  Opening layer 8's acts, as they came in. Own work.
-/
import Derived.Test.YtoaglkbobndmeabSpcW
namespace Go.Proofs.Ytoaglkbobndmeab
open Go.RowKit Go.ChangeShapes Go.WideShapes Go.ChangeAt

/-- Acts: kinds and pages. -/
def ASq (w : World) (v : Value) (acs : List (Nat × Nat)) : Prop := ∃ ao c, v = .slice ao acs.length c ∧ acs.length ≤ maxLen ∧ (acs ≠ [] → ∃ b o, ao = some ⟨b, o, none⟩ ∧ b < w.heap.size ∧
  ∀ j a, acs[j]? = some a → w.cell? ⟨b, o + j * 2, none⟩ = some (.int .u8 (a.1 : Int)) ∧ a.1 < 256 ∧ w.cell? ⟨b, o + j * 2 + 1, none⟩ = some (.int .u32 (a.2 : Int)) ∧ a.2 < 4294967296)
theorem ASq.len {w : World} {ao : Option Addr} {n c : Nat} {acs : List (Nat × Nat)} (h : ASq w (.slice ao n c) acs) : n = acs.length ∧ n ≤ maxLen := by
  obtain ⟨ao', c', hv, h1, _⟩ := h
  cases hv
  exact ⟨rfl, h1⟩
theorem ASq.at {w : World} {ao : Option Addr} {n c : Nat} {acs : List (Nat × Nat)} (h : ASq w (.slice ao n c) acs) (k : Nat) (a : Nat × Nat) (ha : acs[k]? = some a) :
    ∃ b o, ao = some ⟨b, o, none⟩ ∧ b < w.heap.size ∧ w.cell? ⟨b, o + k * 2, none⟩ = some (.int .u8 (a.1 : Int)) ∧ a.1 < 256 ∧ w.cell? ⟨b, o + k * 2 + 1, none⟩ = some (.int .u32 (a.2 : Int)) ∧ a.2 < 4294967296 := by
  obtain ⟨ao', c', hv, h1, h2⟩ := h
  cases hv
  obtain ⟨b, o, e, hb, hc⟩ := h2 (fun e => by rw [e] at ha; simp at ha)
  exact ⟨b, o, e, hb, hc k a ha⟩
theorem ASq.kept {w w' : World} {v : Value} {acs : List (Nat × Nat)} (h : ASq w v acs) (k : ∀ b, b < w.heap.size → w'.heap[b]? = w.heap[b]?) (hs : w.heap.size ≤ w'.heap.size) : ASq w' v acs := by
  obtain ⟨ao, c, hv, h1, h2⟩ := h
  refine ⟨ao, c, hv, h1, fun hne => ?_⟩
  obtain ⟨b, o, e, hb, hc⟩ := h2 hne
  refine ⟨b, o, e, by omega, fun j a ha => ?_⟩
  obtain ⟨c0, q0, c1, q1⟩ := hc j a ha
  exact ⟨(World.cell?_of_block (w := w) (k b hb)).trans c0, q0, (World.cell?_of_block (w := w) (k b hb)).trans c1, q1⟩

set_option maxRecDepth 100000 in
theorem open_acts8 {H : Type} {enc : TypeId × Value → H} {W : World} {d : DataW H} {p : List MemPlace} {a : Option Addr} {len cap : Nat}
    (h : ∃ fuel, DataW.trod enc Try.prog W 0 (fun _ => true) true fuel 25 [.slice a len cap] = some (d, p)) :
    ∃ acs, ASq W (.slice a len cap) acs := by
  obtain ⟨fuel, hf⟩ := h
  rcases Go.Deep.open_slice Try.underlying25 hf with ⟨hcs, _⟩ | ⟨x, l, c, m, n, D, Pl, hcs, _, hl, hm, hmm, hx, hi⟩
  · simp at hcs
    obtain ⟨rfl, rfl, rfl⟩ := hcs
    exact ⟨[], none, 0, rfl, by simp [maxLen], fun h => absurd rfl h⟩
  · simp at hcs
    obtain ⟨rfl, rfl, rfl⟩ := hcs
    have hmc : m = cap := by simpa using hmm
    rw [cAct8] at hi
    have each : ∀ i, i < len → ∃ v0 v1, (∀ j v, [v0, v1][j]? = some v → W.cell? ((x.add (i * 2)).add j) = some v) ∧ (∃ n y, DataW.trod enc Try.prog W 0 (fun _ => true) true n 5 [v0] = some y) ∧
        (∃ n y, DataW.trod enc Try.prog W 0 (fun _ => true) true n 22 [v1] = some y) := by
      intro i hil
      obtain ⟨cs', hc, htr⟩ := hi i (by omega)
      obtain ⟨_, hcl, hat⟩ := World.cells?_some hc
      obtain ⟨ys, n', _, hDi, _, hyl, hg⟩ := DataW.trod_struct Try.underlying49 htr
      match cs', hcl, ys, hyl with
      | [v0, v1], _, [y0, y1], _ =>
        refine ⟨v0, v1, fun j v hj => ?_, ⟨n', y0, ?_⟩, ⟨n', y1, ?_⟩⟩
        · have hj4 : j < 2 := (List.getElem?_eq_some_iff.1 hj).1
          exact (hat j hj4).trans hj
        · simpa [c1u8] using hg 0 _ rfl
        · simpa [c1u8, c1u32] using hg 1 _ rfl
    obtain ⟨b, o, spot⟩ := x
    have hspot : 0 < len → spot = none := fun hp => by
      obtain ⟨v0, _, hc0, _⟩ := each 0 hp
      simpa [Addr.add] using World.cell?_spot (hc0 0 v0 rfl)
    have hadd : ∀ i j : Nat, (((⟨b, o, none⟩ : Addr).add i).add j) = ⟨b, o + i + j, none⟩ := fun i j => by
      unfold Addr.add; split <;> split <;> simp_all
    obtain ⟨L, hL, hp⟩ := exists_list (p := fun i (r : Nat × Nat) => W.cell? ⟨b, o + i * 2, none⟩ = some (.int .u8 ((r.1 : Nat) : Int)) ∧ r.1 < 256 ∧ W.cell? ⟨b, o + i * 2 + 1, none⟩ = some (.int .u32 ((r.2 : Nat) : Int)) ∧ r.2 < 4294967296) len fun i hil => by
      obtain ⟨v0, v1, hc, ⟨_, _, t0⟩, ⟨_, y1, t1⟩⟩ := each i hil
      have hs := hspot (by omega)
      subst hs
      obtain ⟨T, e1, _, wT⟩ := DataW.trod_int Try.underlying5 t0
      obtain ⟨T2, e2, _, wT2⟩ := DataW.trod_int Try.underlying22 t1
      simp at e1 e2
      subst e1; subst e2
      have h1 : IntKind.u8.max = 255 := by decide
      have h2 : IntKind.u8.min = 0 := by decide
      have h3 : IntKind.u32.max = 4294967295 := by decide
      have h4 : IntKind.u32.min = 0 := by decide
      simp only [Lit.wf, h1, h2, Bool.and_eq_true, decide_eq_true_eq] at wT
      simp only [Lit.wf, h3, h4, Bool.and_eq_true, decide_eq_true_eq] at wT2
      have k0 := hc 0 _ rfl
      have k1 := hc 1 _ rfl
      rw [hadd] at k0 k1
      refine ⟨(T.toNat, T2.toNat), ?_, by show T.toNat < _; omega, ?_, by show T2.toNat < _; omega⟩
      · show W.cell? _ = some (.int .u8 ((T.toNat : Nat) : Int))
        rw [show ((T.toNat : Nat) : Int) = T by omega]
        exact k0
      · show W.cell? _ = some (.int .u32 ((T2.toNat : Nat) : Int))
        rw [show ((T2.toNat : Nat) : Int) = T2 by omega]
        exact k1
    refine ⟨L, some ⟨b, o, spot⟩, cap, by rw [hL], by rw [hL]; omega, fun hne => ?_⟩
    have hpos : 0 < len := by rw [← hL]; exact List.length_pos_iff.2 hne
    have hs := hspot hpos
    subst hs
    refine ⟨b, o, rfl, ?_, fun j r hr => hp j r hr⟩
    obtain ⟨v0, _, hc0, _⟩ := each 0 hpos
    have := World.block_lt_of_cell? _ _ (hc0 0 v0 rfl)
    rw [hadd] at this
    exact this

end Go.Proofs.Ytoaglkbobndmeab
