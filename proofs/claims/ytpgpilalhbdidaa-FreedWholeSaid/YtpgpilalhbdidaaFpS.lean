/-
  Opening layer 8's raw records, numbers and acts, as they came in, with how great they are. Own work.
-/
import Derived.ProofKit
import Derived.OpenShut
import Derived.ShutString
import Derived.ChangeOld
import Derived.Deep.Slices
import Derived.Deep.Fields
import Derived.Test.YtpgpilalhbdidaaFpF
namespace Go.Proofs.Ytpgpilalhbdidaa
open Go.RowKit Go.ChangeShapes Go.WideShapes Go.ChangeAt

theorem c1u32 : Try.prog.cellsOf 40 = 1 := by kernel_rfl
theorem c1u32s : Try.prog.cellsOf 70 = 1 := by kernel_rfl
theorem c1u64 : Try.prog.cellsOf 63 = 1 := by kernel_rfl
theorem c1u8 : Try.prog.cellsOf 5 = 1 := by kernel_rfl
theorem cRaw8 : Try.prog.cellsOf 72 = 2 := by kernel_rfl
theorem b4u32 : Try.prog.bytesOf 40 = 4 := by kernel_rfl
theorem b32raw : Try.prog.bytesOf 72 = 32 := by kernel_rfl

/-- A slice of uint32s that came in. -/
theorem open_u32s {H : Type} {enc : TypeId × Value → H} {W : World} {y : DataW H × List MemPlace} {v : Value} {n : Nat}
    (h : DataW.trod enc Try.prog W 0 (fun _ => true) true n 70 [v] = some y) :
    ∃ a len cap zs, v = .slice a len cap ∧ PSq (fun b => b < W.heap.size) W (.slice a len cap) zs ∧ ∃ es sp, (y.1 = .nil ∧ len = 0 ∨ y.1 = .slice es sp ∧ len ≤ es.length + sp.length) := by
  rcases open_ints Try.underlying70 Try.underlying40 c1u32 h with ⟨hcs, hx⟩ | ⟨x, l, c, zs, hcs, _, hl, hm, hz, hx, hcell, hwz⟩
  · simp at hcs
    subst hcs
    exact ⟨none, 0, 0, [], rfl, psq_nil _ _, [], [], .inl ⟨by rw [hx], rfl⟩⟩
  · simp at hcs
    subst hcs
    have hzl : zs.length = c := by simpa using hz
    have hpos : ∀ z ∈ zs, 0 ≤ z ∧ z < 4294967296 := fun z hm' => by
      have hw := hwz z hm'
      have h1 : IntKind.u32.max = 4294967295 := by decide
      have h2 : IntKind.u32.min = 0 := by decide
      simp only [Lit.wf, h1, h2, Bool.and_eq_true, decide_eq_true_eq] at hw
      omega
    have hlen : ((zs.take l).map Int.toNat).length = l := by simp; omega
    refine ⟨some x, l, c, (zs.take l).map Int.toNat, rfl, ⟨some x, c, by rw [hlen], by omega, hm, fun p hp => ?_, fun hne => ?_⟩, lits .u32 (zs.take l), lits .u32 (zs.drop l), .inr ⟨by rw [hx], by simp [lits]; omega⟩⟩
    · obtain ⟨z, hz', rfl⟩ := List.mem_map.1 hp
      have := hpos z (List.mem_of_mem_take hz')
      omega
    · have h0 : 0 < l := by
        rcases Nat.eq_zero_or_pos l with e | e
        · subst e; simp at hne
        · exact e
      obtain ⟨b, off, hx', hc⟩ := ints_at hcell (by omega)
      subst hx'
      refine ⟨b, off, rfl, ?_, fun j hj => ?_⟩
      · have := World.block_lt_of_cell? _ _ (hc 0 (by omega)); simpa using this
      · have hjl : j < l := by omega
        rw [hc j (by omega)]
        have hg : (((zs.take l).map Int.toNat).getD j 0 : Nat) = (zs.getD j 0).toNat := by
          simp [List.getD_eq_getElem?_getD, hjl]
          rw [List.getElem?_eq_getElem (show j < zs.length by omega)]
          rfl
        rw [hg]
        have hmem : zs.getD j 0 ∈ zs := by
          rw [List.getD_eq_getElem?_getD, List.getElem?_eq_getElem (show j < zs.length by omega)]
          exact List.getElem_mem _
        have := hpos _ hmem
        rw [show (((zs.getD j 0).toNat : Nat) : Int) = zs.getD j 0 by omega]

/-- How great raw records are. -/
def Small8 (rs : List Rc) : Prop := rs.length * 32 ≤ 140737488351232 ∧ ∀ r ∈ rs, r.2.length * 4 ≤ 140737488351232

theorem exists_list {α : Type} {p : Nat → α → Prop} : ∀ n, (∀ i, i < n → ∃ x, p i x) → ∃ l : List α, l.length = n ∧ ∀ i x, l[i]? = some x → p i x
  | 0, _ => ⟨[], rfl, fun i x h => by simp at h⟩
  | n + 1, h => by
    obtain ⟨l, hl, hp⟩ := exists_list n (fun i hi => h i (by omega))
    obtain ⟨x, hx⟩ := h n (by omega)
    refine ⟨l ++ [x], by simp [hl], fun i y hy => ?_⟩
    by_cases e : i < n
    · rw [List.getElem?_append_left (by omega)] at hy; exact hp i y hy
    · have hi : i < (l ++ [x]).length := (List.getElem?_eq_some_iff.1 hy).1
      simp [hl] at hi
      obtain rfl : i = n := by omega
      rw [List.getElem?_append_right (by omega), hl, Nat.sub_self] at hy
      cases hy; exact hx
theorem weights_all {H : Type} {P : Program} {e : TypeId} {n : Nat} : ∀ {l : List (DataW H)} {d : DataW H}, d ∈ l → n ∈ d.weights P e → n ∈ DataW.weightsAll P e l
  | [], _, h, _ => by cases h
  | y :: r, d, h, hn => by
    simp only [DataW.weightsAll, List.mem_append]
    rcases List.mem_cons.1 h with e | e
    · subst e; exact .inl hn
    · exact .inr (weights_all e hn)

set_option maxRecDepth 100000 in
theorem open_raws8 {H : Type} {enc : TypeId × Value → H} {W : World} {d : DataW H} {p : List MemPlace} {a : Option Addr} {len cap : Nat} {ts : List TypeId} {ds : List (DataW H)} {j : Nat}
    (h : ∃ fuel, DataW.trod enc Try.prog W 0 (fun _ => true) true fuel 22 [.slice a len cap] = some (d, p))
    (hsz : (DataW.weightsEach Try.prog ts ds).all (· ≤ reachBytes) = true) (ht : ts[j]? = some 22) (hd : ds[j]? = some d) :
    ∃ rs, RSq (fun b => b < W.heap.size) W (.slice a len cap) rs ∧ Small8 rs := by
  obtain ⟨fuel, hf⟩ := h
  rcases Go.Deep.open_slice Try.underlying22 hf with ⟨hcs, _⟩ | ⟨x, l, c, m, n, D, Pl, hcs, _, hl, hm, hmm, hx, hi⟩
  · simp at hcs
    obtain ⟨rfl, rfl, rfl⟩ := hcs
    exact ⟨[], rsq_nil _ _, by simp, fun r hr => by cases hr⟩
  · simp at hcs
    obtain ⟨rfl, rfl, rfl⟩ := hcs
    have hmc : m = cap := by simpa using hmm
    have hdd : d = .slice ((List.range len).map D) ((List.range (m - len)).map fun j => D (len + j)) := (Prod.mk.inj hx).1
    have hwt : ∀ k, k ∈ d.weights Try.prog 22 → k ≤ reachBytes := fun k hk => by
      have := List.all_eq_true.1 hsz k (DataW.weights_mem_each ht hd k hk)
      simpa using this
    have hlen : len * 32 ≤ 140737488351232 := by
      have h1 := hwt ((((List.range len).map D).length + ((List.range (m - len)).map fun j => D (len + j)).length) * Try.prog.bytesOf 72) (by rw [hdd]; simp [DataW.weights, Try.underlying22])
      rw [b32raw] at h1
      simp only [List.length_map, List.length_range, reachBytes] at h1
      omega
    rw [cRaw8] at hi
    have each : ∀ i, i < len → ∃ v0 v1, (∀ j v, [v0, v1][j]? = some v → W.cell? ((x.add (i * 2)).add j) = some v) ∧ (∃ n y, DataW.trod enc Try.prog W 0 (fun _ => true) true n 63 [v0] = some y) ∧
        (∃ n y, DataW.trod enc Try.prog W 0 (fun _ => true) true n 70 [v1] = some y ∧ ∀ k, k ∈ y.1.weights Try.prog 70 → k ≤ reachBytes) := by
      intro i hil
      obtain ⟨cs', hc, htr⟩ := hi i (by omega)
      obtain ⟨_, hcl, hat⟩ := World.cells?_some hc
      obtain ⟨ys, n', _, hDi, _, hyl, hg⟩ := DataW.trod_struct Try.underlying72 htr
      match cs', hcl, ys, hyl with
      | [v0, v1], _, [y0, y1], _ =>
        refine ⟨v0, v1, fun j v hj => ?_, ⟨n', y0, ?_⟩, ⟨n', y1, ?_, fun k hk => ?_⟩⟩
        · have hj4 : j < 2 := (List.getElem?_eq_some_iff.1 hj).1
          exact (hat j hj4).trans hj
        · simpa [c1u64] using hg 0 _ rfl
        · simpa [c1u32s] using hg 1 _ rfl
        · refine hwt k ?_
          have hD : D i = .agg [y0.1, y1.1] := (Prod.mk.inj hDi).1
          rw [hdd]
          simp only [DataW.weights, Try.underlying22, List.mem_cons, List.mem_append]
          refine .inr (.inl (weights_all (d := D i) (List.mem_map.2 ⟨i, List.mem_range.2 hil, rfl⟩) ?_))
          rw [hD]
          simp only [DataW.weights, Try.underlying72, DataW.weightsEach, List.map_cons, List.map_nil, List.mem_append]
          exact .inr (.inl hk)
    obtain ⟨b, o, spot⟩ := x
    have hspot : 0 < len → spot = none := fun hp => by
      obtain ⟨v0, _, hc0, _⟩ := each 0 hp
      simpa [Addr.add] using World.cell?_spot (hc0 0 v0 rfl)
    have hadd : ∀ i j : Nat, (((⟨b, o, none⟩ : Addr).add i).add j) = ⟨b, o + i + j, none⟩ := fun i j => by
      unfold Addr.add; split <;> split <;> simp_all
    obtain ⟨L, hL, hp⟩ := exists_list (p := fun i (r : Rc) => W.cell? ⟨b, o + i * 2, none⟩ = some (.int .u64 ((r.1 : Nat) : Int)) ∧ r.1 < 18446744073709551616 ∧ (∃ pv, W.cell? ⟨b, o + i * 2 + 1, none⟩ = some pv ∧ PSq (fun b => b < W.heap.size) W pv r.2) ∧ r.2.length * 4 ≤ 140737488351232) len fun i hil => by
      obtain ⟨v0, v1, hc, ⟨_, _, t0⟩, ⟨_, y1, t1, hw1⟩⟩ := each i hil
      have hs := hspot (by omega)
      subst hs
      obtain ⟨T, e1, _, wT⟩ := DataW.trod_int Try.underlying63 t0
      simp at e1
      subst e1
      obtain ⟨pa, pn, pc, zs, rfl, hps, es, sp, hy⟩ := open_u32s t1
      have h1 : IntKind.u64.max = 18446744073709551615 := by decide
      have h2 : IntKind.u64.min = 0 := by decide
      simp only [Lit.wf, h1, h2, Bool.and_eq_true, decide_eq_true_eq] at wT
      have k0 := hc 0 _ rfl
      have k1 := hc 1 _ rfl
      rw [hadd] at k0 k1
      have hzl := hps.len.1
      refine ⟨(T.toNat, zs), ?_, by show T.toNat < _; omega, ⟨_, k1, hps⟩, ?_⟩
      · show W.cell? _ = some (.int .u64 ((T.toNat : Nat) : Int))
        rw [show ((T.toNat : Nat) : Int) = T by omega]
        exact k0
      · show zs.length * 4 ≤ _
        rcases hy with ⟨_, e⟩ | ⟨e, hle⟩
        · omega
        · have h3 := hw1 ((es.length + sp.length) * Try.prog.bytesOf 40) (by rw [e]; simp [DataW.weights, Try.underlying70])
          rw [b4u32] at h3
          simp only [reachBytes] at h3
          omega
    refine ⟨L, ⟨some ⟨b, o, spot⟩, cap, by rw [hL], by omega, hm, fun hne => ?_⟩, by rw [hL]; exact hlen, fun r hr => ?_⟩
    · have hpos : 0 < len := by rw [← hL]; exact List.length_pos_iff.2 hne
      have hs := hspot hpos
      subst hs
      refine ⟨b, o, rfl, ?_, fun j r hr => ⟨(hp j r hr).1, (hp j r hr).2.1, (hp j r hr).2.2.1⟩⟩
      obtain ⟨v0, _, hc0, _⟩ := each 0 hpos
      have := World.block_lt_of_cell? _ _ (hc0 0 v0 rfl)
      rw [hadd] at this
      exact this
    · obtain ⟨i, hi'⟩ := List.mem_iff_getElem?.1 hr
      exact (hp i r hi').2.2.2

end Go.Proofs.Ytpgpilalhbdidaa
