/-
  Words for slices of pages and of records, and what a call leaves of the world. Own work.
-/
import Derived.WalkKit
import Derived.WalkSpells
import Derived.WalkLawsBesides
import Derived.Lib.Hide
import Derived.ProofKit
import Derived.OpenShut
import Derived.ChangeOld
import Derived.OwnWalk
import Derived.Maps.OwnSet
import Derived.Maps.AppendAt
import Derived.Test.YtpgpilalhbdidaaWord
import Derived.Test.YtpgpilalhbdidaaSpcM
namespace Go.Proofs.Ytpgpilalhbdidaa
open Go.RowKit Go.Maps

theorem gdrewN (w : World) (n : Nat) : w.grownBy (w.drewN n) none := ⟨rfl, rfl, rfl, Nat.le_refl _, fun _ _ _ => rfl⟩

/-- The value v is a slice that reads as the pages ps; its cells lie in blocks of R. -/
def PSq (R : Nat → Prop) (w : World) (v : Value) (ps : List Nat) : Prop :=
  ∃ ao c, v = .slice ao ps.length c ∧ ps.length ≤ c ∧ c ≤ maxLen ∧ (∀ p ∈ ps, p < 4294967296) ∧
    (ps ≠ [] → ∃ b o, ao = some ⟨b, o, none⟩ ∧ R b ∧ ∀ j, j < ps.length → w.cell? ⟨b, o + j, none⟩ = some (.int .u32 ((ps.getD j 0 : Nat) : Int)))
theorem PSq.kept {R : Nat → Prop} {w w' : World} {v : Value} {ps : List Nat} (h : PSq R w v ps) (k : ∀ b, R b → b < w.heap.size → w'.heap[b]? = w.heap[b]?) : PSq R w' v ps := by
  obtain ⟨ao, c, hv, h1, h2, h3, h4⟩ := h
  refine ⟨ao, c, hv, h1, h2, h3, fun hne => ?_⟩
  obtain ⟨b, o, ha, hb, hc⟩ := h4 hne
  exact ⟨b, o, ha, hb, fun j hj => (World.cell?_of_block (w := w) (k b hb (World.block_lt_of_cell? _ _ (hc j hj)))).trans (hc j hj)⟩
theorem PSq.cells {R : Nat → Prop} {w w' : World} {v : Value} {ps : List Nat} (h : PSq R w v ps) (k : ∀ a u, w.cell? a = some u → w'.cell? a = some u) : PSq R w' v ps := by
  obtain ⟨ao, c, hv, h1, h2, h3, h4⟩ := h
  refine ⟨ao, c, hv, h1, h2, h3, fun hne => ?_⟩
  obtain ⟨b, o, ha, hb, hc⟩ := h4 hne
  exact ⟨b, o, ha, hb, fun j hj => k _ _ (hc j hj)⟩
theorem PSq.imp {R S : Nat → Prop} {w : World} {v : Value} {ps : List Nat} (h : PSq R w v ps) (k : ∀ b, R b → b < w.heap.size → S b) : PSq S w v ps := by
  obtain ⟨ao, c, hv, h1, h2, h3, h4⟩ := h
  refine ⟨ao, c, hv, h1, h2, h3, fun hne => ?_⟩
  obtain ⟨b, o, ha, hb, hc⟩ := h4 hne
  have hl : 0 < ps.length := List.length_pos_iff.2 hne
  exact ⟨b, o, ha, k b hb (World.block_lt_of_cell? _ _ (hc 0 hl)), hc⟩
theorem PSq.grown {R : Nat → Prop} {w w' : World} {v : Value} {ps : List Nat} (h : PSq R w v ps) (k : w.grownBy w' none) : PSq R w' v ps := h.kept fun b _ hb => k.block b hb (by simp)
theorem PSq.shape {R : Nat → Prop} {w : World} {v : Value} {ps : List Nat} (h : PSq R w v ps) : ∃ ao c, v = .slice ao ps.length c := by
  obtain ⟨ao, c, hv, _⟩ := h
  exact ⟨ao, c, hv⟩
theorem PSq.len {R : Nat → Prop} {w : World} {ao : Option Addr} {n c : Nat} {ps : List Nat} (h : PSq R w (.slice ao n c) ps) : n = ps.length ∧ n ≤ maxLen := by
  obtain ⟨ao', c', hv, h1, h2, _⟩ := h
  cases hv
  exact ⟨rfl, Nat.le_trans h1 h2⟩
theorem PSq.at {R : Nat → Prop} {w : World} {ao : Option Addr} {n c : Nat} {ps : List Nat} (h : PSq R w (.slice ao n c) ps) (k : Nat) (hk : k < ps.length) : ∃ b o, ao = some ⟨b, o, none⟩ ∧ R b ∧ w.cell? ⟨b, o + k, none⟩ = some (.int .u32 ((ps.getD k 0 : Nat) : Int)) := by
  obtain ⟨ao', c', hv, h1, h2, h3, h4⟩ := h
  cases hv
  obtain ⟨b, o, ha, hb, hc⟩ := h4 (fun e => by rw [e] at hk; simp at hk)
  exact ⟨b, o, ha, hb, hc k hk⟩
theorem PSq.u32 {R : Nat → Prop} {w : World} {v : Value} {ps : List Nat} (h : PSq R w v ps) : ∀ p ∈ ps, p < 4294967296 := by
  obtain ⟨ao, c, hv, h1, h2, h3, h4⟩ := h
  exact h3
theorem psq_nil (R : Nat → Prop) (w : World) : PSq R w (.slice none 0 0) [] := ⟨none, 0, rfl, Nat.le_refl _, by simp [maxLen], by simp, fun h => absurd rfl h⟩

abbrev encP (p : Nat) : Value := .int .u32 (p : Int)
theorem pcell1 {ps : List Nat} : ∀ u ∈ ps.map encP, u.oneCell' = true := by
  intro u hu; simp only [List.mem_map] at hu; obtain ⟨x, _, rfl⟩ := hu; rfl
/-- What the call owns reads as pages. -/
theorem PSq.owned {base n : Nat} {w : World} {v : Value} {ps : List Nat} (h : w.ownsRow base 41 1 v n (ps.map encP)) (h32 : ∀ p ∈ ps, p < 4294967296) : PSq (fun b => base ≤ b ∧ v.ownBlock = some b) w v ps := by
  have hl : ps.length = n := by have := h.1; simpa using this
  subst hl
  rcases h.2 with ⟨rfl, hn⟩ | ⟨g, cap, cur, rfl, hb, hg, hc, hm, hs, ht⟩
  · rw [List.eq_nil_of_length_eq_zero hn]; exact psq_nil _ _
  · refine ⟨some ⟨g, 0, none⟩, cap, rfl, hc, hm, h32, fun _ => ⟨g, 0, rfl, ⟨hb, rfl⟩, fun j hj => ?_⟩⟩
    rw [Nat.zero_add, h.cellAt j (by omega)]
    simp [List.getElem?_map, List.getElem?_eq_getElem hj, encP]

/-- The value v is a slice that reads as the records rs; they, and their pages, lie in blocks of R. -/
def RSq (R : Nat → Prop) (w : World) (v : Value) (rs : List Rc) : Prop :=
  ∃ ao c, v = .slice ao rs.length c ∧ rs.length ≤ c ∧ c ≤ maxLen ∧
    (rs ≠ [] → ∃ b o, ao = some ⟨b, o, none⟩ ∧ R b ∧ ∀ j (r : Rc), rs[j]? = some r → w.cell? ⟨b, o + j * 2, none⟩ = some (.int .u64 ((r.1 : Nat) : Int)) ∧ r.1 < 18446744073709551616 ∧
      ∃ pv, w.cell? ⟨b, o + j * 2 + 1, none⟩ = some pv ∧ PSq R w pv r.2)
theorem RSq.kept {R : Nat → Prop} {w w' : World} {v : Value} {rs : List Rc} (h : RSq R w v rs) (k : ∀ b, R b → b < w.heap.size → w'.heap[b]? = w.heap[b]?) : RSq R w' v rs := by
  obtain ⟨ao, c, hv, h1, h2, h4⟩ := h
  refine ⟨ao, c, hv, h1, h2, fun hne => ?_⟩
  obtain ⟨b, o, ha, hb, hc⟩ := h4 hne
  refine ⟨b, o, ha, hb, fun j r hr => ?_⟩
  obtain ⟨c1, c2, pv, c3, c4⟩ := hc j r hr
  have e := k b hb (World.block_lt_of_cell? _ _ c1)
  exact ⟨(World.cell?_of_block (w := w) e).trans c1, c2, pv, (World.cell?_of_block (w := w) e).trans c3, c4.kept k⟩
theorem RSq.cells {R : Nat → Prop} {w w' : World} {v : Value} {rs : List Rc} (h : RSq R w v rs) (k : ∀ a u, w.cell? a = some u → w'.cell? a = some u) : RSq R w' v rs := by
  obtain ⟨ao, c, hv, h1, h2, h4⟩ := h
  refine ⟨ao, c, hv, h1, h2, fun hne => ?_⟩
  obtain ⟨b, o, ha, hb, hc⟩ := h4 hne
  refine ⟨b, o, ha, hb, fun j r hr => ?_⟩
  obtain ⟨c1, c2, pv, c3, c4⟩ := hc j r hr
  exact ⟨k _ _ c1, c2, pv, k _ _ c3, c4.cells k⟩
theorem RSq.imp {R S : Nat → Prop} {w : World} {v : Value} {rs : List Rc} (h : RSq R w v rs) (k : ∀ b, R b → b < w.heap.size → S b) : RSq S w v rs := by
  obtain ⟨ao, c, hv, h1, h2, h4⟩ := h
  refine ⟨ao, c, hv, h1, h2, fun hne => ?_⟩
  obtain ⟨b, o, ha, hb, hc⟩ := h4 hne
  obtain ⟨r0, hr0⟩ : ∃ r, rs[0]? = some r := ⟨rs[0]'(List.length_pos_iff.2 hne), by simp⟩
  refine ⟨b, o, ha, k b hb (World.block_lt_of_cell? _ _ (hc 0 r0 hr0).1), fun j r hr => ?_⟩
  obtain ⟨c1, c2, pv, c3, c4⟩ := hc j r hr
  exact ⟨c1, c2, pv, c3, c4.imp k⟩
theorem RSq.grown {R : Nat → Prop} {w w' : World} {v : Value} {rs : List Rc} (h : RSq R w v rs) (k : w.grownBy w' none) : RSq R w' v rs := h.kept fun b _ hb => k.block b hb (by simp)
theorem RSq.shape {R : Nat → Prop} {w : World} {v : Value} {rs : List Rc} (h : RSq R w v rs) : ∃ ao c, v = .slice ao rs.length c := by
  obtain ⟨ao, c, hv, _⟩ := h
  exact ⟨ao, c, hv⟩
theorem RSq.len {R : Nat → Prop} {w : World} {ao : Option Addr} {n c : Nat} {rs : List Rc} (h : RSq R w (.slice ao n c) rs) : n = rs.length ∧ n ≤ maxLen := by
  obtain ⟨ao', c', hv, h1, h2, _⟩ := h
  cases hv
  exact ⟨rfl, Nat.le_trans h1 h2⟩
theorem RSq.at {R : Nat → Prop} {w : World} {ao : Option Addr} {n c : Nat} {rs : List Rc} (h : RSq R w (.slice ao n c) rs) (j : Nat) (r : Rc) (hr : rs[j]? = some r) :
    ∃ b o, ao = some ⟨b, o, none⟩ ∧ R b ∧ w.cell? ⟨b, o + j * 2, none⟩ = some (.int .u64 ((r.1 : Nat) : Int)) ∧ r.1 < 18446744073709551616 ∧ ∃ a1 c1, w.cell? ⟨b, o + j * 2 + 1, none⟩ = some (.slice a1 r.2.length c1) ∧ PSq R w (.slice a1 r.2.length c1) r.2 := by
  obtain ⟨ao', c', hv, h1, h2, h4⟩ := h
  cases hv
  obtain ⟨b, o, ha, hb, hc⟩ := h4 (fun e => by rw [e] at hr; simp at hr)
  obtain ⟨k1, k2, pv, k3, k4⟩ := hc j r hr
  obtain ⟨a1, c1, rfl⟩ := k4.shape
  exact ⟨b, o, ha, hb, k1, k2, a1, c1, k3, k4⟩
theorem rsq_nil (R : Nat → Prop) (w : World) : RSq R w (.slice none 0 0) [] := ⟨none, 0, rfl, Nat.le_refl _, by simp [maxLen], fun h => absurd rfl h⟩

theorem infoPage : (Try.prog.info? 41).map (fun i => (i.zero, i.size, i.bytes)) = some (some (.int .u32 0), 1, 4) := by kernel_rfl
theorem infoRec : (Try.prog.info? 69).map (fun i => (i.zero, i.size, i.bytes)) = some (some (.agg #[.int .u64 0, .slice none 0 0]), 2, 32) := by kernel_rfl

end Go.Proofs.Ytpgpilalhbdidaa
