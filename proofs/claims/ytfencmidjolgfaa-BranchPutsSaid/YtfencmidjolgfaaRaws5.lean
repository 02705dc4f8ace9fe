/-
  Opening layer 5's raw entries: a slice of things of two cells each: a slice of bytes, a uint32; few. Own work.
-/
import Derived.Test.YtfencmidjolgfaaBrT
import Derived.Test.YtfencmidjolgfaaRaws4
import Derived.Test.YtfencmidjolgfaaRefK
import Derived.ProofKit
import Derived.OpenShut
import Derived.ShutString
import Derived.ChangeOld
import Derived.Deep.Slices
import Derived.Deep.Fields
namespace Go.Proofs.Ytfencmidjolgfaa
open Go.RowKit Go.ChangeShapes Go.WideShapes Go.ChangeAt

/-- What a raw entry's two cells hold. -/
def RawAt5 (w : World) (b o : Nat) (x : En) : Prop :=
  ∃ a1 c1, Seq w.heap.size w (.slice a1 x.key.length c1) x.key ∧ Byt x.key ∧ x.val = [] ∧ x.long = 0 ∧ (0 ≤ x.first ∧ x.first ≤ 4294967295) ∧
    w.cell? ⟨b, o, none⟩ = some (.slice a1 x.key.length c1) ∧ w.cell? ⟨b, o + 1, none⟩ = some (.int .u32 x.first)
/-- Raw entries that came in. -/
def Raws5 (w : World) (v : Value) (l : List En) : Prop := ∃ ao c, v = .slice ao l.length c ∧ l.length ≤ c ∧ c ≤ maxLen ∧ (l ≠ [] → ∃ b o, ao = some ⟨b, o, none⟩ ∧ b < w.heap.size ∧ ∀ i x, l[i]? = some x → RawAt5 w b (o + i * 2) x)

theorem rawCells5 : Try.prog.cellsOf 105 = 2 := by kernel_rfl

set_option maxRecDepth 100000 in
theorem open_raws5 {H : Type} {enc : TypeId × Value → H} {W : World} {d : DataW H} {p : List MemPlace} {a : Option Addr} {len cap : Nat}
    (h : ∃ fuel, DataW.trod enc Try.prog W 0 (fun _ => true) true fuel 62 [.slice a len cap] = some (d, p)) :
    ∃ l, Raws5 W (.slice a len cap) l := by
  obtain ⟨fuel, hf⟩ := h
  rcases Go.Deep.open_slice Try.underlying62 hf with ⟨hcs, _⟩ | ⟨x, l, c, m, n, D, Pl, hcs, _, hl, hm, hmm, _, hi⟩
  · simp at hcs
    obtain ⟨rfl, rfl, rfl⟩ := hcs
    exact ⟨[], none, 0, rfl, Nat.le_refl _, by simp [maxLen], fun h => absurd rfl h⟩
  · simp at hcs
    obtain ⟨rfl, rfl, rfl⟩ := hcs
    have hmc : m = cap := by simpa using hmm
    rw [rawCells5] at hi
    have each : ∀ i, i < len → ∃ v0 v1, (∀ j v, [v0, v1][j]? = some v → W.cell? ((x.add (i * 2)).add j) = some v) ∧ (∃ n y, DataW.trod enc Try.prog W 0 (fun _ => true) true n 29 [v0] = some y) ∧
        (∃ n y, DataW.trod enc Try.prog W 0 (fun _ => true) true n 40 [v1] = some y) := by
      intro i hil
      obtain ⟨cs', hc, ht⟩ := hi i (by omega)
      obtain ⟨_, hcl, hat⟩ := World.cells?_some hc
      obtain ⟨ys, n', _, _, _, hyl, hg⟩ := DataW.trod_struct Try.underlying105 ht
      match cs', hcl, ys, hyl with
      | [v0, v1], _, [y0, y1], _ =>
        refine ⟨v0, v1, fun j v hj => ?_, ⟨n', y0, ?_⟩, ⟨n', y1, ?_⟩⟩
        · have hj4 : j < 2 := (List.getElem?_eq_some_iff.1 hj).1
          exact (hat j hj4).trans hj
        · simpa [c1bs] using hg 0 _ rfl
        · simpa [c1u32] using hg 1 _ rfl
    obtain ⟨b, o, spot⟩ := x
    have hspot : 0 < len → spot = none := fun hp => by
      obtain ⟨v0, _, hc0, _⟩ := each 0 hp
      simpa [Addr.add] using World.cell?_spot (hc0 0 v0 rfl)
    have hadd : ∀ i j : Nat, (((⟨b, o, none⟩ : Addr).add i).add j) = ⟨b, o + i + j, none⟩ := fun i j => by
      unfold Addr.add; split <;> split <;> simp_all
    obtain ⟨L, hL, hp⟩ := exists_list (p := fun i x => RawAt5 W b (o + i * 2) x) len fun i hil => by
      obtain ⟨v0, v1, hc, ⟨_, _, t0⟩, ⟨_, _, t1⟩⟩ := each i hil
      have hs := hspot (by omega)
      subst hs
      obtain ⟨ka, kn, kc, ks, rfl, hs0, hb0⟩ := open_row t0
      obtain ⟨N, e2, _, wN⟩ := DataW.trod_int Try.underlying40 t1
      simp at e2
      subst e2
      have k0 := hc 0 _ rfl
      have k1 := hc 1 _ rfl
      rw [hadd] at k0 k1
      have n0 : kn = ks.length := by obtain ⟨_, _, hv, _⟩ := hs0; injection hv
      subst n0
      exact ⟨⟨ks, [], 0, N⟩, ka, kc, hs0, hb0, rfl, rfl, bounds_u32 wN, k0, k1⟩
    refine ⟨L, some ⟨b, o, spot⟩, cap, by rw [hL], by omega, hm, fun hne => ?_⟩
    have hpos : 0 < len := by rcases Nat.eq_zero_or_pos len with h | h
                              · exact absurd (List.eq_nil_of_length_eq_zero (hL.trans h)) hne
                              · exact h
    have hs := hspot hpos
    subst hs
    refine ⟨b, o, rfl, ?_, hp⟩
    obtain ⟨v0, _, hc0, _⟩ := each 0 hpos
    have := World.block_lt_of_cell? _ _ (hc0 0 v0 rfl)
    rw [hadd] at this
    exact this

/-- Are they few, and short? -/
def FewP5 (l : List En) : Prop := (∀ x ∈ l, x.key.length ≤ 120) ∧ l.length ≤ 30
theorem Raws5.len {w : World} {ao : Option Addr} {n c : Nat} {l : List En} (h : Raws5 w (.slice ao n c) l) : n = l.length ∧ n ≤ 9223372036854775807 := by
  obtain ⟨_, _, hv, h1, h2, _⟩ := h
  injection hv with _ e1 e2
  unfold maxLen at h2
  exact ⟨e1, by omega⟩
theorem Raws5.at {w : World} {ao : Option Addr} {n c : Nat} {l : List En} (h : Raws5 w (.slice ao n c) l) (i : Nat) (x : En) (hx : l[i]? = some x) : ∃ b o, ao = some ⟨b, o, none⟩ ∧ b < w.heap.size ∧ RawAt5 w b (o + i * 2) x := by
  obtain ⟨ao', c', hv, h1, h2, h4⟩ := h
  cases hv
  obtain ⟨b, o, ha, hb, hc⟩ := h4 (by rintro rfl; simp at hx)
  exact ⟨b, o, ha, hb, hc i x hx⟩

def FewR5 (l : List En) (w w' : World) (r : Ending) : Prop := ∃ b, r = .returned (.bool b) ∧ (b = true ↔ FewP5 l) ∧ w = w'

set_option maxHeartbeats 1000000 in
theorem few5_any (w W : World) (ao : Option Addr) (n c : Nat) (l : List En) (h : Raws5 w (.slice ao n c) l) (hW : Below w.heap.size w W) :
    Calls Try.prog 31 #[.slice ao n c] W fun r w' => FewR5 l W w' r := by
  obtain ⟨hn, hn9⟩ := h.len
  have HN := Lib.hid hn
  have H := Lib.hid h
  clear hn h
  go_enter Try.func31, Try.ntmps31
  go_wp2
  go_loop [3] (fun i => ∃ k : Nat, k ≤ n ∧ i = .int .i64 k ∧ Hid (∀ j x, j < k → l[j]? = some x → x.key.length ≤ 120)) (fun i => n - (intOf i).toNat)
  case atStart => exact ⟨0, Nat.zero_le _, rfl, Lib.hid (fun j x hj => by omega)⟩
  case round =>
    obtain ⟨k, hk, rfl, HA⟩ := hrel
    by_cases hlt : k < n
    · obtain ⟨x, hx⟩ : ∃ x, l[k]? = some x := ⟨_, List.getElem?_eq_getElem (by have := HN.out; omega)⟩
      obtain ⟨b, o, rfl, hb, a1, c1, _, _, _, _, _, q0, _⟩ := H.out.at k x hx
      have z0 := (hW.cell (p := ⟨b, o + k * 2, none⟩) hb).trans q0
      have HX := Lib.hid hx
      clear q0 hx
      by_cases h1 : x.key.length ≤ 120
      · have hd1 : decide ((120 : Int) < (x.key.length : Int)) = false := by simp; omega
        go_wp2
        go_round
        case rel => exact ⟨k + 1, by omega, by go_num, Lib.hid (fun j y hj hy => by
          by_cases e : j = k
          · subst e; rw [HX.out] at hy; cases hy; exact h1
          · exact HA.out j y (by omega) hy)⟩
        case measure => simp [intOf]; omega
      · have hd1 : decide ((120 : Int) < (x.key.length : Int)) = true := by simp; omega
        have HF := Lib.hid (show ¬ FewP5 l from fun hf => h1 (hf.1 x (List.mem_of_getElem? HX.out)))
        clear h1
        go_wp2
        go_ret
        exact ⟨false, rfl, ⟨(fun e => by cases e), fun e => absurd e HF.out⟩, rfl⟩
    · obtain rfl : k = n := by omega
      have HB := Lib.hid (show k ≤ 30 ↔ FewP5 l from ⟨fun h => ⟨fun x hx => by
        obtain ⟨i, hi⟩ := List.getElem?_of_mem hx
        exact HA.out i x (by have := (List.getElem?_eq_some_iff.1 hi).1; have := HN.out; omega) hi, by have := HN.out; omega⟩, fun h => by have := h.2; have := HN.out; omega⟩)
      go_wp2
      go_ret
      exact ⟨decide (k ≤ 30), (by simp; omega), by rw [decide_eq_true_iff]; exact HB.out, rfl⟩
theorem few5_yes {w W : World} {ao : Option Addr} {n c : Nat} {l : List En} (h : Raws5 w (.slice ao n c) l) (hW : Below w.heap.size w W) (hf : FewP5 l) :
    Calls Try.prog 31 #[.slice ao n c] W fun r w' => r = .returned (.bool true) ∧ W = w' :=
  (few5_any w W ao n c l h hW).mono fun _ _ ⟨b, e, hb, hw⟩ => ⟨by rw [e, hb.2 hf], hw⟩
theorem few5_no {w W : World} {ao : Option Addr} {n c : Nat} {l : List En} (h : Raws5 w (.slice ao n c) l) (hW : Below w.heap.size w W) (hf : ¬ FewP5 l) :
    Calls Try.prog 31 #[.slice ao n c] W fun r w' => r = .returned (.bool false) ∧ W = w' :=
  (few5_any w W ao n c l h hW).mono fun _ _ ⟨b, e, hb, hw⟩ => ⟨by
    cases b with
    | false => exact e
    | true => exact absurd (hb.1 rfl) hf, hw⟩

/-- The cells of a model's entry; a row of them, wherever it lies. -/
def rcl5 (x : En) : List Value := [.string (strOfNums x.key), .int .u32 x.first]
def RAt5 (w : World) (b o : Nat) (x : En) : Prop := w.cell? ⟨b, o, none⟩ = some (.string (strOfNums x.key)) ∧ w.cell? ⟨b, o + 1, none⟩ = some (.int .u32 x.first)
def RRow5 (w : World) (v : Value) (l : List En) : Prop :=
  ∃ ao c, v = .slice ao l.length c ∧ l.length ≤ 100000 ∧ l.length ≤ c ∧ c ≤ maxLen ∧ (l ≠ [] → ∃ b o, ao = some ⟨b, o, none⟩ ∧ b < w.heap.size ∧ ∀ i x, l[i]? = some x → RAt5 w b (o + i * 2) x)
theorem RRow5.len {w : World} {ao : Option Addr} {n c : Nat} {l : List En} (h : RRow5 w (.slice ao n c) l) : n = l.length ∧ n ≤ 100000 := by
  obtain ⟨_, _, hv, h1, _⟩ := h
  injection hv with _ e1
  exact ⟨e1, by omega⟩
theorem RRow5.at {w : World} {ao : Option Addr} {n c : Nat} {l : List En} (h : RRow5 w (.slice ao n c) l) (i : Nat) (x : En) (hx : l[i]? = some x) : ∃ b o, ao = some ⟨b, o, none⟩ ∧ b < w.heap.size ∧ RAt5 w b (o + i * 2) x := by
  obtain ⟨ao', c', hv, h1, _, _, h4⟩ := h
  cases hv
  obtain ⟨b, o, ha, hb, hc⟩ := h4 (by rintro rfl; simp at hx)
  exact ⟨b, o, ha, hb, hc i x hx⟩
theorem RRow5.shape {w : World} {v : Value} {l : List En} (h : RRow5 w v l) : ∃ a c, v = .slice a l.length c := by
  obtain ⟨a, c, hv, _⟩ := h; exact ⟨a, c, hv⟩
theorem RRow5.grown {w w' : World} {v : Value} {l : List En} (h : RRow5 w v l) (k : w.grownBy w' none) : RRow5 w' v l := by
  obtain ⟨ao, c, hv, h1, h2, h3, h4⟩ := h
  refine ⟨ao, c, hv, h1, h2, h3, fun hne => ?_⟩
  obtain ⟨b, o, ha, hb, hc⟩ := h4 hne
  have hq : ∀ o, w'.cell? ⟨b, o, none⟩ = w.cell? ⟨b, o, none⟩ := fun o => World.cell?_of_block (w := w) (k.block b hb (by simp))
  refine ⟨b, o, ha, Nat.lt_of_lt_of_le hb k.size, fun i x hx => ?_⟩
  obtain ⟨q0, q1⟩ := hc i x hx
  exact ⟨(hq _).trans q0, (hq _).trans q1⟩
theorem infoE5 : (Try.prog.info? 81).map (fun i => (i.zero, i.size, i.bytes)) = some (some (.agg #[.string ByteArray.empty, .int .u32 0]), 2, 24) := by kernel_rfl
theorem rflat5_len (l : List En) : (l.flatMap rcl5).length = l.length * 2 := by
  induction l with
  | nil => rfl
  | cons y l ih => rw [List.flatMap_cons, List.length_append, ih]; simp [rcl5]; omega
theorem rflat5 : ∀ (l : List En) (i : Nat) (x : En), l[i]? = some x →
    (l.flatMap rcl5)[i * 2]? = some (.string (strOfNums x.key)) ∧ (l.flatMap rcl5)[i * 2 + 1]? = some (.int .u32 x.first)
  | [], i, y, h => by simp at h
  | z :: es, 0, y, h => by
    have : z = y := by simpa using h
    subst this
    exact ⟨rfl, rfl⟩
  | z :: es, i + 1, y, h => by
    have ih := rflat5 es i y (by simpa using h)
    rw [show (i + 1) * 2 = i * 2 + 2 by omega]
    exact ih
/-- A row of them of the call's own. -/
def ERow (base : Nat) (w : World) (v : Value) (X : List En) : Prop := w.ownsRow base 81 2 v X.length (X.flatMap rcl5)
theorem ERow.grown {base : Nat} {w w' : World} {v : Value} {X : List En} (h : ERow base w v X) (k : w.grownBy w' none) : ERow base w' v X := World.ownsRow.kept h k (by cases v.ownBlock <;> simp)
theorem ERow.rrow {base : Nat} {w : World} {v : Value} {X : List En} (h : ERow base w v X) (hl : X.length ≤ 100000) : RRow5 w v X := by
  have hr := h
  rcases h.2 with ⟨hv, hn⟩ | ⟨q, cap, cur, hv, hb, hq, hnc, hcm, hcs, ht⟩
  · rw [List.eq_nil_of_length_eq_zero hn, hv]; exact ⟨none, 0, rfl, by simp, Nat.le_refl _, by unfold maxLen; omega, fun h => absurd rfl h⟩
  · refine ⟨some ⟨q, 0, none⟩, cap, hv, hl, hnc, hcm, fun hne => ⟨q, 0, rfl, lt_of_block hq, fun i x hx => ?_⟩⟩
    obtain ⟨c0, c1⟩ := rflat5 X i x hx
    have hc := World.ownsRow.cells hr (g := q) (by rw [hv]; rfl)
    rw [Nat.zero_add]
    refine ⟨?_, ?_⟩
    · have := hc _ _ c0; rwa [Addr.add_lit, Nat.zero_add] at this
    · have := hc _ _ c1; rwa [Addr.add_lit, Nat.zero_add] at this
theorem ERow.shape {base : Nat} {w : World} {v : Value} {X : List En} (h : ERow base w v X) : ∃ a c, v = .slice a X.length c := own_shape h
theorem litR5 (w : World) (x : En) : ∀ j u, (rcl5 x)[j]? = some u → (w.alloc (.cells #[.string (strOfNums x.key), .int .u32 x.first] 81)).cell? ((⟨w.heap.size, 0, none⟩ : Addr).add j) = some u := by
  intro j u hj
  rw [Addr.add_lit, Nat.zero_add, World.cell?_alloc_mark]
  simpa [rcl5] using hj
theorem oneR5 (X : List En) : ∀ u ∈ X.flatMap rcl5, u.oneCell' = true := by
  intro u hu
  obtain ⟨x, _, hx⟩ := List.mem_flatMap.1 hu
  simp only [rcl5, List.mem_cons, List.not_mem_nil, or_false] at hx
  rcases hx with rfl | rfl <;> rfl
/-- The cells of some entries on end. -/
theorem RRow5.news {w : World} {b o n c : Nat} {X : List En} (h : RRow5 w (.slice (some ⟨b, o, none⟩) n c) X) (p : Nat) (Y : List En) (hY : ∀ i x, Y[i]? = some x → X[p + i]? = some x) :
    ∀ j u, (Y.flatMap rcl5)[j]? = some u → w.cell? ((⟨b, o + p * 2, none⟩ : Addr).add j) = some u := by
  intro j u hj
  have hjl := (List.getElem?_eq_some_iff.1 hj).1
  rw [rflat5_len] at hjl
  obtain ⟨i, r, hir, hr2⟩ : ∃ i r, j = i * 2 + r ∧ r < 2 := ⟨j / 2, j % 2, by omega, by omega⟩
  subst hir
  obtain ⟨x, hx⟩ : ∃ x, Y[i]? = some x := ⟨_, List.getElem?_eq_getElem (by omega)⟩
  obtain ⟨c0, c1⟩ := rflat5 Y i x hx
  obtain ⟨b', o', he, hb, q0, q1⟩ := h.at (p + i) x (hY i x hx)
  injection he with he
  injection he with e1 e2
  subst e1 e2
  rw [Addr.add_lit]
  rcases (show r = 0 ∨ r = 1 by omega) with rfl | rfl
  · rw [Nat.add_zero, c0] at hj
    cases hj
    rw [show o + p * 2 + (i * 2 + 0) = o + (p + i) * 2 by omega]; exact q0
  · rw [c1] at hj
    cases hj
    rw [show o + p * 2 + (i * 2 + 1) = o + (p + i) * 2 + 1 by omega]; exact q1

end Go.Proofs.Ytfencmidjolgfaa
