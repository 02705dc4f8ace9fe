/-
  Layer 9: the document's own slots: a row of them; set, New, Good, Live, Oldest. Own work.
-/
import Derived.Test.YtoaglkbobndmeaaRdH
import Derived.Deep.RegionWith
namespace Go.Proofs.Ytoaglkbobndmeaa
open Go.RowKit

/-- A slot as the document's words tell it. -/
def rcl (s : Sl) : List Value := [.bool (s.st != 0), .int .u64 (s.rd : Int), .int .u64 (s.turn : Int), .bool (s.st == 2)]
def SO (base : Nat) (w : World) (v : Value) (L : List Sl) : Prop := w.ownsRow base 53 4 v L.length (L.flatMap rcl)
theorem SO.grown {base : Nat} {w w' : World} {v : Value} {L : List Sl} (h : SO base w v L) (g : w.grownBy w' none) : SO base w' v L := own_far h g (t := 75) (fun k e => by simp at e) (by decide)
theorem SO.tab {base b : Nat} {w w' : World} {v : Value} {L M : List Sl} (h : SO base w v L) (ht : TabAt b w M) (g : w.grownBy w' (some b)) : SO base w' v L :=
  own_far h g (t := 75) (fun k e => by injection e with e; subst e; exact ht.tag) (by decide)
theorem SO.hown {base base' : Nat} {w w' : World} {v lv : Value} {L : List Sl} {hs : List (Nat × Nat)} (h : SO base w v L) (ho : HOwn base' w lv hs) (g : w.grownBy w' lv.ownBlock) : SO base w' v L :=
  own_far h g (t := 36) (fun k e => (own_tag ho k e).2.2) (by decide)
theorem own_base {w : World} {b b' size n : Nat} {e : TypeId} {v : Value} {xs : List Value} (h : w.ownsRow b e size v n xs) (k : b' ≤ b) : w.ownsRow b' e size v n xs :=
  ⟨h.1, h.2.imp id fun ⟨g, cap, cur, hv, hb, rest⟩ => ⟨g, cap, cur, hv, Nat.le_trans k hb, rest⟩⟩
theorem SO.base {base base' : Nat} {w : World} {v : Value} {L : List Sl} (h : SO base w v L) (k : base' ≤ base) : SO base' w v L := own_base h k
theorem SO.shape {base : Nat} {w : World} {v : Value} {L : List Sl} (h : SO base w v L) : ∃ ao c, v = .slice ao L.length c := own_shape h
theorem flat4 : ∀ (l : List Sl) (i : Nat) (s : Sl), l[i]? = some s →
    (l.flatMap rcl)[i * 4]? = some (.bool (s.st != 0)) ∧ (l.flatMap rcl)[i * 4 + 1]? = some (.int .u64 (s.rd : Int)) ∧ (l.flatMap rcl)[i * 4 + 2]? = some (.int .u64 (s.turn : Int)) ∧ (l.flatMap rcl)[i * 4 + 3]? = some (.bool (s.st == 2))
  | [], i, s, h => by simp at h
  | z :: l, 0, s, h => by
    have : z = s := by simpa using h
    subst this
    exact ⟨rfl, rfl, rfl, rfl⟩
  | z :: l, i + 1, s, h => by
    have ih := flat4 l i s (by simpa using h)
    rw [show (i + 1) * 4 = i * 4 + 4 by omega]
    exact ih
theorem flat4_len (l : List Sl) : (l.flatMap rcl).length = l.length * 4 := by
  induction l with
  | nil => rfl
  | cons x l ih => simp [List.flatMap_cons, rcl, ih]; omega
theorem flat4_set : ∀ (l : List Sl) (i : Nat) (s t : Sl), l[i]? = some s →
    ((((l.flatMap rcl).set (i * 4) (.bool (t.st != 0))).set (i * 4 + 1) (.int .u64 (t.rd : Int))).set (i * 4 + 2) (.int .u64 (t.turn : Int))).set (i * 4 + 3) (.bool (t.st == 2)) = (l.set i t).flatMap rcl
  | [], i, s, t, h => by simp at h
  | z :: l, 0, s, t, h => rfl
  | z :: l, i + 1, s, t, h => by
    have ih := flat4_set l i s t (by simpa using h)
    rw [show (i + 1) * 4 = i * 4 + 4 by omega]
    show rcl z ++ (((((l.flatMap rcl).set (i * 4) (.bool (t.st != 0))).set (i * 4 + 1) (.int .u64 (t.rd : Int))).set (i * 4 + 2) (.int .u64 (t.turn : Int))).set (i * 4 + 3) (.bool (t.st == 2))) = _
    rw [ih]; rfl
theorem SO.at {base : Nat} {w : World} {ao : Option Addr} {n c : Nat} {L : List Sl} (h : SO base w (.slice ao n c) L) {i : Nat} {s : Sl} (hi : L[i]? = some s) :
    ∃ g, ao = some ⟨g, 0, none⟩ ∧ n = L.length ∧ w.cell? ⟨g, i * 4, none⟩ = some (.bool (s.st != 0)) ∧ w.cell? ⟨g, i * 4 + 1, none⟩ = some (.int .u64 (s.rd : Int)) ∧ w.cell? ⟨g, i * 4 + 2, none⟩ = some (.int .u64 (s.turn : Int)) ∧ w.cell? ⟨g, i * 4 + 3, none⟩ = some (.bool (s.st == 2)) := by
  rcases h.2 with ⟨_, hn⟩ | ⟨g, cap, cur, hv, hb, hg, _⟩
  · rw [List.eq_nil_of_length_eq_zero hn] at hi; simp at hi
  · cases hv
    obtain ⟨f0, f1, f2, f3⟩ := flat4 L i s hi
    have hc := World.ownsRow.cells h (g := g) rfl
    have c0 := hc _ _ f0
    have c1 := hc _ _ f1
    have c2 := hc _ _ f2
    have c3 := hc _ _ f3
    rw [Addr.add_lit, Nat.zero_add] at c0 c1 c2 c3
    exact ⟨g, rfl, rfl, c0, c1, c2, c3⟩
theorem SO.len {base : Nat} {w : World} {ao : Option Addr} {n c : Nat} {L : List Sl} (h : SO base w (.slice ao n c) L) : n = L.length := by
  obtain ⟨a, c', e⟩ := h.shape
  injection e
theorem infoS : (Try.prog.info? 53).map (fun i => (i.zero, i.size, i.bytes)) = some (some (.agg #[.bool false, .int .u64 0, .int .u64 0, .bool false]), 4, 32) := by kernel_rfl
theorem made4 (n : Nat) : (madeCells #[Value.bool false, .int .u64 0, .int .u64 0, .bool false] (n * 4)).toList = (List.replicate n slz).flatMap rcl := by
  apply List.ext_getElem?
  intro j
  have hl : ((List.replicate n slz).flatMap rcl).length = n * 4 := by rw [flat4_len]; simp
  by_cases hj : j < n * 4
  · have hq : (List.replicate n slz)[j / 4]? = some slz := by rw [List.getElem?_replicate, if_pos (by omega)]
    obtain ⟨f0, f1, f2, f3⟩ := flat4 _ _ _ hq
    have e : (madeCells #[Value.bool false, .int .u64 0, .int .u64 0, .bool false] (n * 4)).toList[j]? = some ((#[Value.bool false, .int .u64 0, .int .u64 0, .bool false] : Array Value)[j % 4]!) := by
      simp [madeCells, hj]
    rw [e]
    rcases (show j % 4 = 0 ∨ j % 4 = 1 ∨ j % 4 = 2 ∨ j % 4 = 3 by omega) with h | h | h | h
    · rw [show j / 4 * 4 = j by omega] at f0; rw [h, f0]; rfl
    · rw [show j / 4 * 4 + 1 = j by omega] at f1; rw [h, f1]; rfl
    · rw [show j / 4 * 4 + 2 = j by omega] at f2; rw [h, f2]; rfl
    · rw [show j / 4 * 4 + 3 = j by omega] at f3; rw [h, f3]; rfl
  · rw [List.getElem?_eq_none (by simp [madeCells]; omega), List.getElem?_eq_none (by rw [hl]; omega)]
theorem SO.made {base m q : Nat} {w : World} (h : w.ownsRow base 53 4 (.slice (some ⟨q, 0, none⟩) m m) m (madeCells (Value.agg #[Value.bool false, .int .u64 0, .int .u64 0, .bool false]).cells (m * 4)).toList) : SO base w (.slice (some ⟨q, 0, none⟩) m m) (List.replicate m slz) := by
  unfold SO
  rw [show (Value.agg #[Value.bool false, .int .u64 0, .int .u64 0, .bool false]).cells = #[Value.bool false, .int .u64 0, .int .u64 0, .bool false] from rfl, made4] at h
  simpa using h
theorem rcl1 {l : List Sl} : ∀ u ∈ l.flatMap rcl, u.oneCell' = true := by
  intro u hu
  obtain ⟨s, _, h⟩ := List.mem_flatMap.1 hu
  rcases (by simpa [rcl] using h : u = _ ∨ u = _ ∨ u = _ ∨ u = _) with rfl | rfl | rfl | rfl <;> rfl

theorem rnew_bad (w : World) (n : Int) (h : n < 1 ∨ 126 < n) : Calls Try.prog 10 #[.int .i64 n] w fun r w' => r = .returned (.tuple #[.slice none 0 0, .int .i64 1]) ∧ w = w' := by
  by_cases h1 : n < 1
  · go_enter Try.func10, Try.ntmps10
    go_wp2
    go_ret2
    exact ⟨rfl, rfl⟩
  · have h2 : 126 < n := by omega
    go_enter Try.func10, Try.ntmps10
    go_wp2
    go_ret2
    exact ⟨rfl, rfl⟩
def RNew (w : World) (n : Nat) (r : Ending) (w' : World) : Prop := ∃ v, r = .returned (.tuple #[v, .int .i64 0]) ∧ SO w.heap.size w' v (List.replicate n slz) ∧ w.grownBy w' none
theorem rnew_good (w : World) (n : Nat) (h1 : 1 ≤ n) (h2 : n ≤ 126) : Calls Try.prog 10 #[.int .i64 (n : Int)] w fun r w' => RNew w n r w' := by
  have i1 : ¬ (n : Int) < 1 := by omega
  have i2 : ¬ (126 : Int) < (n : Int) := by omega
  obtain ⟨i0, hi, hz0, hz1, hz2⟩ := info_parts infoS
  go_enter Try.func10, Try.ntmps10
  go_wp2_with (first
    | (at_make; refine wpList_make_full _ rfl _ _ 28 rfl w.heap.size 53 i0 (.agg #[.bool false, .int .u64 0, .int .u64 0, .bool false]) 4 Try.underlying28 hi hz0 hz1 .i64 .i64 _ _ n rfl rfl ?c1 ?c2 ?c3 ?c4 (Nat.le_refl _) ?_; (case c1 => rfl); (case c2 => rfl); (case c3 => rw [hz2]; omega); (case c4 => unfold maxLen; omega); intro w5 hown hgM; have HS5 := Lib.hid (SO.made hown); have HG5 := Lib.hid hgM; clear hown hgM)
    | go_in)
  go_ret2
  exact ⟨_, rfl, HS5.out, HG5.out⟩

/-- Slots with one other. -/
def RSet (w : World) (L : List Sl) (r : Ending) (w' : World) : Prop := ∃ v, r = .returned v ∧ SO w.heap.size w' v L ∧ w.grownBy w' none
theorem SO.stored {base g n c : Nat} {w : World} {L : List Sl} (h : SO base w (.slice (some ⟨g, 0, none⟩) n c) L) (hn : n = L.length) {i : Nat} {s t : Sl} (hi : L[i]? = some s) :
    SO base ((((w.setCell ⟨g, i * 4, none⟩ (.bool (t.st != 0))).setCell ⟨g, i * 4 + 1, none⟩ (.int .u64 (t.rd : Int))).setCell ⟨g, i * 4 + 2, none⟩ (.int .u64 (t.turn : Int))).setCell ⟨g, i * 4 + 3, none⟩ (.bool (t.st == 2))) (.slice (some ⟨g, 0, none⟩) n c) (L.set i t) := by
  subst hn
  unfold SO at h ⊢
  have h1 := (World.ownsRow.stored h (i * 4) (.bool (t.st != 0))).1
  have h2 := (World.ownsRow.stored h1 (i * 4 + 1) (.int .u64 (t.rd : Int))).1
  have h3 := (World.ownsRow.stored h2 (i * 4 + 2) (.int .u64 (t.turn : Int))).1
  have h4 := (World.ownsRow.stored h3 (i * 4 + 3) (.bool (t.st == 2))).1
  rw [flat4_set L i s t hi] at h4
  rw [List.length_set]
  exact h4
theorem SO.free {base g n c : Nat} {w : World} {L : List Sl} (h : SO base w (.slice (some ⟨g, 0, none⟩) n c) L) (j : Nat) : w.frozen? ⟨g, j, none⟩ = false := by
  have e := h.len
  subst e
  exact World.ownsRow.frozenAt h j
theorem SO.lt {base g n c : Nat} {w : World} {L : List Sl} (h : SO base w (.slice (some ⟨g, 0, none⟩) n c) L) : base ≤ g := (own_tag h g rfl).1
theorem cells4' {W : World} {q : Nat} {a b c d : Value} {t : TypeId} (h : W.heap[q]? = some (.cells #[a, b, c, d] t (0, 0))) :
    W.cell? ⟨q, 0, none⟩ = some a ∧ W.cell? ⟨q, 1, none⟩ = some b ∧ W.cell? ⟨q, 2, none⟩ = some c ∧ W.cell? ⟨q, 3, none⟩ = some d := by
  refine ⟨?_, ?_, ?_, ?_⟩ <;> simp [World.cell?, h]

set_option maxHeartbeats 4000000 in
theorem rset_any (w : World) (B : Nat) (ao : Option Addr) (n c : Nat) (L : List Sl) (i : Nat) (s : Sl) (tb td : Bool) (tr tt : Int) (t : Sl) (h : SO B w (.slice ao n c) L) (hi : L[i]? = some s) (hl : L.length ≤ 126)
    (h1 : tb = (t.st != 0)) (h2 : tr = (t.rd : Int)) (h3 : tt = (t.turn : Int)) (h4 : td = (t.st == 2)) :
    Calls Try.prog 26 #[.slice ao n c, .int .i64 (i : Int), .agg #[.bool tb, .int .u64 tr, .int .u64 tt, .bool td]] w fun r w' => RSet w (L.set i t) r w' := by
  obtain ⟨g, rfl, hn, -⟩ := h.at hi
  have hil : i < L.length := (List.getElem?_eq_some_iff.1 hi).1
  obtain ⟨i0, hi0, hz0, hz1, hz2⟩ := info_parts infoS
  obtain ⟨l, hll⟩ : ∃ l, l = L.length := ⟨_, rfl⟩
  rw [← hll] at hn hl hil
  subst hn
  have hii : (i : Int) < (n : Int) := by omega
  have hboxn : (w.alloc (.cells #[.bool tb, .int .u64 tr, .int .u64 tt, .bool td] 53)).heap[w.heap.size]? = some (.cells #[.bool tb, .int .u64 tr, .int .u64 tt, .bool td] 53 (0, 0)) := heap_alloc_new _ _
  have hga := World.grownBy_alloc w (.cells #[.bool tb, .int .u64 tr, .int .u64 tt, .bool td] 53) none
  have hc : ∀ j u, (L.flatMap rcl)[j]? = some u → (w.alloc (.cells #[.bool tb, .int .u64 tr, .int .u64 tt, .bool td] 53)).cell? ((⟨g, 0, none⟩ : Addr).add j) = some u := World.ownsRow.cells (h.grown hga) (g := g) rfl
  have HC := Lib.hid hc
  have HL := Lib.hid hll
  have HI := Lib.hid hi
  have HB := Lib.hid hboxn
  have HGA := Lib.hid hga
  have E1 := Lib.hid h1
  have E2 := Lib.hid h2
  have E3 := Lib.hid h3
  have E4 := Lib.hid h4
  clear h hc hi hboxn hga hll h1 h2 h3 h4
  go_enter Try.func26, Try.ntmps26
  go_wp2_with (first
    | (at_builtin; refine wpList_append_own _ rfl _ _ 28 rfl w.heap.size 53 i0 (.agg #[.bool false, .int .u64 0, .int .u64 0, .bool false]) 4 32 Try.underlying28 hi0 hz0 hz1 hz2 rfl (by decide) (.slice none 0 0) 0 [] rfl (World.ownsRow_nil _ w.heap.size _ _) ⟨g, 0, none⟩ n c (L.flatMap rcl) rfl ?c0 HC.out rcl1 ?c3 ?c4 ?c5 ?_; (case c0 => rw [flat4_len, ← HL.out]); (case c3 => unfold maxLen; omega); (case c4 => omega); (case c5 => simp); intro v1 w1 hown hg1 _; have hown1 : SO w.heap.size w1 v1 L := (by unfold SO; rw [← HL.out]; simpa only [Nat.zero_add, List.nil_append] using hown); have hvl := hown1.shape; rw [← HL.out] at hvl; obtain ⟨a1, c1, hv1⟩ := hvl; subst hv1; have hbx := (hg1.block w.heap.size (by simp) (by simp [Value.ownBlock])).trans HB.out; have HBX := Lib.hid hbx; have HO1 := Lib.hid hown1; have HG1 := Lib.hid (gtrans HGA.out hg1); obtain ⟨k0, k1, k2, k3⟩ := cells4' hbx; obtain ⟨g1, hv2, -, e0, e1, e2, e3⟩ := hown1.at HI.out; subst hv2; have z0 := hown1.free (i * 4); have z1 := hown1.free (i * 4 + 1); have z2 := hown1.free (i * 4 + 2); have z3 := hown1.free (i * 4 + 3); clear hown hg1 hown1 hbx)
    | go_in)
  go_ret
  refine ⟨_, rfl, ?_, ?_⟩
  · have := HO1.out.stored HL.out HI.out (t := t)
    rw [← E1.out, ← E2.out, ← E3.out, ← E4.out] at this
    exact this
  · exact gnew (gnew (gnew (gnew HG1.out (gset _ ⟨g1, _, none⟩ _) HO1.out.lt) (gset _ ⟨g1, _, none⟩ _) HO1.out.lt) (gset _ ⟨g1, _, none⟩ _) HO1.out.lt) (gset _ ⟨g1, _, none⟩ _) HO1.out.lt

end Go.Proofs.Ytoaglkbobndmeaa
