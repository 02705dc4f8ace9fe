/-
  Opening layer 9's acts, as they came in. Own work.
-/
import Derived.Test.YtoaglkbobndmeaaRdR
import Derived.Test.YtoaglkbobndmeaaRdI
import Derived.Deep.Matrix
import Derived.Deep.QuietTactic
import Derived.BigQuiet
namespace Go.Proofs.Ytoaglkbobndmeaa
open Go.RowKit Go.ChangeShapes Go.WideShapes Go.ChangeAt

structure A9 where
  kind : Int
  at_ : Int
  txn : Nat
  turn : Nat
/-- An act's four cells. -/
def A9At (w : World) (b o : Nat) (a : A9) : Prop :=
  w.cell? ⟨b, o, none⟩ = some (.int .i64 a.kind) ∧ w.cell? ⟨b, o + 1, none⟩ = some (.int .i64 a.at_) ∧ w.cell? ⟨b, o + 2, none⟩ = some (.int .u64 (a.txn : Int)) ∧ w.cell? ⟨b, o + 3, none⟩ = some (.int .u64 (a.turn : Int)) ∧ a.txn < 18446744073709551616 ∧ a.turn < 18446744073709551616
def A9q (B : Nat) (w : World) (v : Value) (acs : List A9) : Prop := ∃ ao c, v = .slice ao acs.length c ∧ acs.length ≤ maxLen ∧ (acs ≠ [] → ∃ b o, ao = some ⟨b, o, none⟩ ∧ b < B ∧ ∀ (j : Nat) a, acs[j]? = some a → A9At w b (o + j * 4) a)
theorem A9q.len {B : Nat} {w : World} {ao : Option Addr} {n c : Nat} {acs : List A9} (h : A9q B w (.slice ao n c) acs) : n = acs.length ∧ n ≤ maxLen := by
  obtain ⟨ao', c', hv, h1, _⟩ := h
  cases hv
  exact ⟨rfl, h1⟩
theorem A9q.at {B : Nat} {w : World} {ao : Option Addr} {n c : Nat} {acs : List A9} (h : A9q B w (.slice ao n c) acs) (k : Nat) (a : A9) (ha : acs[k]? = some a) :
    ∃ b o, ao = some ⟨b, o, none⟩ ∧ b < B ∧ A9At w b (o + k * 4) a := by
  obtain ⟨ao', c', hv, h1, h2⟩ := h
  cases hv
  obtain ⟨b, o, e, hb, hc⟩ := h2 (fun e => by rw [e] at ha; simp at ha)
  exact ⟨b, o, e, hb, hc k a ha⟩
theorem A9q.below {B : Nat} {w w' : World} {v : Value} {acs : List A9} (h : A9q B w v acs) (k : ∀ b, b < B → w'.heap[b]? = w.heap[b]?) : A9q B w' v acs := by
  obtain ⟨ao, c, hv, h1, h2⟩ := h
  refine ⟨ao, c, hv, h1, fun hne => ?_⟩
  obtain ⟨b, o, e, hb, hc⟩ := h2 hne
  refine ⟨b, o, e, hb, fun j a ha => ?_⟩
  obtain ⟨c0, c1, c2, c3, q⟩ := hc j a ha
  exact ⟨(World.cell?_of_block (w := w) (k b hb)).trans c0, (World.cell?_of_block (w := w) (k b hb)).trans c1, (World.cell?_of_block (w := w) (k b hb)).trans c2, (World.cell?_of_block (w := w) (k b hb)).trans c3, q⟩
theorem exists_list {α : Type} {p : Nat → α → Prop} : ∀ n, (∀ i, i < n → ∃ x, p i x) → ∃ l : List α, l.length = n ∧ ∀ i x, l[i]? = some x → p i x
  | 0, _ => ⟨[], rfl, fun i x h => by simp at h⟩
  | n + 1, h => by
    obtain ⟨l, hl, hp⟩ := exists_list n (fun i hi => h i (by omega))
    obtain ⟨x, hx⟩ := h n (by omega)
    refine ⟨l ++ [x], by simp [hl], fun i y hy => ?_⟩
    by_cases e : i < n
    · rw [List.getElem?_append_left (by omega)] at hy; exact hp i y hy
    · have hi : i < (l ++ [x]).length := (List.getElem?_eq_some_iff.1 hy).1
      simp [hl] at hi
      obtain rfl : i = n := by omega
      rw [List.getElem?_append_right (by omega), hl, Nat.sub_self] at hy
      cases hy; exact hx
theorem weights_all {H : Type} {P : Program} {e : TypeId} {n : Nat} : ∀ {l : List (DataW H)} {d : DataW H}, d ∈ l → n ∈ d.weights P e → n ∈ DataW.weightsAll P e l
  | [], _, h, _ => by cases h
  | y :: r, d, h, hn => by
    simp only [DataW.weightsAll, List.mem_append]
    rcases List.mem_cons.1 h with e | e
    · subst e; exact .inl hn
    · exact .inr (weights_all e hn)
theorem cAct9 : Try.prog.cellsOf 34 = 4 := by kernel_rfl
theorem c1int : Try.prog.cellsOf 3 = 1 := by kernel_rfl

set_option maxRecDepth 100000 in
theorem open_acts9 {H : Type} {enc : TypeId × Value → H} {W : World} {d : DataW H} {p : List MemPlace} {a : Option Addr} {len cap : Nat}
    (h : ∃ fuel, DataW.trod enc Try.prog W 0 (fun _ => true) true fuel 22 [.slice a len cap] = some (d, p)) :
    ∃ acs, A9q W.heap.size W (.slice a len cap) acs := by
  obtain ⟨fuel, hf⟩ := h
  rcases Go.Deep.open_slice Try.underlying22 hf with ⟨hcs, _⟩ | ⟨x, l, c, m, n, D, Pl, hcs, _, hl, hm, hmm, hx, hi⟩
  · simp at hcs
    obtain ⟨rfl, rfl, rfl⟩ := hcs
    exact ⟨[], none, 0, rfl, by simp [maxLen], fun h => absurd rfl h⟩
  · simp at hcs
    obtain ⟨rfl, rfl, rfl⟩ := hcs
    have hmc : m = cap := by simpa using hmm
    rw [cAct9] at hi
    have each : ∀ i, i < len → ∃ v0 v1 v2 v3, (∀ j v, [v0, v1, v2, v3][j]? = some v → W.cell? ((x.add (i * 4)).add j) = some v) ∧ (∃ n y, DataW.trod enc Try.prog W 0 (fun _ => true) true n 3 [v0] = some y) ∧
        (∃ n y, DataW.trod enc Try.prog W 0 (fun _ => true) true n 3 [v1] = some y) ∧ (∃ n y, DataW.trod enc Try.prog W 0 (fun _ => true) true n 32 [v2] = some y) ∧ (∃ n y, DataW.trod enc Try.prog W 0 (fun _ => true) true n 32 [v3] = some y) := by
      intro i hil
      obtain ⟨cs', hc, htr⟩ := hi i (by omega)
      obtain ⟨_, hcl, hat⟩ := World.cells?_some hc
      obtain ⟨ys, n', _, hDi, _, hyl, hg⟩ := DataW.trod_struct Try.underlying34 htr
      match cs', hcl, ys, hyl with
      | [v0, v1, v2, v3], _, [y0, y1, y2, y3], _ =>
        refine ⟨v0, v1, v2, v3, fun j v hj => ?_, ⟨n', y0, ?_⟩, ⟨n', y1, ?_⟩, ⟨n', y2, ?_⟩, ⟨n', y3, ?_⟩⟩
        · have hj4 : j < 4 := (List.getElem?_eq_some_iff.1 hj).1
          exact (hat j hj4).trans hj
        · simpa [c1int, c1u64] using hg 0 _ rfl
        · simpa [c1int, c1u64] using hg 1 _ rfl
        · simpa [c1int, c1u64] using hg 2 _ rfl
        · simpa [c1int, c1u64] using hg 3 _ rfl
    obtain ⟨b, o, spot⟩ := x
    have hspot : 0 < len → spot = none := fun hp => by
      obtain ⟨v0, _, _, _, hc0, _⟩ := each 0 hp
      simpa [Addr.add] using World.cell?_spot (hc0 0 v0 rfl)
    have hadd : ∀ i j : Nat, (((⟨b, o, none⟩ : Addr).add i).add j) = ⟨b, o + i + j, none⟩ := fun i j => by
      unfold Addr.add; split <;> split <;> simp_all
    obtain ⟨L, hL, hp⟩ := exists_list (p := fun i (r : A9) => A9At W b (o + i * 4) r) len fun i hil => by
      obtain ⟨v0, v1, v2, v3, hc, ⟨_, _, t0⟩, ⟨_, y1, t1⟩, ⟨_, y2, t2⟩, ⟨_, y3, t3⟩⟩ := each i hil
      have hs := hspot (by omega)
      subst hs
      obtain ⟨T0, e0, _, w0⟩ := DataW.trod_int Try.underlying3 t0
      obtain ⟨T1, e1, _, w1⟩ := DataW.trod_int Try.underlying3 t1
      obtain ⟨T2, e2, _, w2⟩ := DataW.trod_int Try.underlying32 t2
      obtain ⟨T3, e3, _, w3⟩ := DataW.trod_int Try.underlying32 t3
      simp at e0 e1 e2 e3
      subst e0 e1 e2 e3
      have b2 := bounds_u64 w2
      have b3 := bounds_u64 w3
      have k0 := hc 0 _ rfl
      have k1 := hc 1 _ rfl
      have k2 := hc 2 _ rfl
      have k3 := hc 3 _ rfl
      rw [hadd] at k0 k1 k2 k3
      refine ⟨⟨T0, T1, T2.toNat, T3.toNat⟩, k0, k1, ?_, ?_, by show T2.toNat < _; omega, by show T3.toNat < _; omega⟩
      · show W.cell? _ = some (.int .u64 ((T2.toNat : Nat) : Int))
        rw [show ((T2.toNat : Nat) : Int) = T2 by omega]
        exact k2
      · show W.cell? _ = some (.int .u64 ((T3.toNat : Nat) : Int))
        rw [show ((T3.toNat : Nat) : Int) = T3 by omega]
        exact k3
    refine ⟨L, some ⟨b, o, spot⟩, cap, by rw [hL], by rw [hL]; omega, fun hne => ?_⟩
    have hpos : 0 < len := by rw [← hL]; exact List.length_pos_iff.2 hne
    have hs := hspot hpos
    subst hs
    refine ⟨b, o, rfl, ?_, fun j r hr => hp j r hr⟩
    obtain ⟨v0, _, _, _, hc0, _⟩ := each 0 hpos
    have := World.block_lt_of_cell? _ _ (hc0 0 v0 rfl)
    rw [hadd] at this
    exact this

theorem and7 (n : Int) : bits .and .i64 n 7 = n % 8 := by
  have h15 : (BitVec.ofInt 64 7).toNat = 2 ^ 3 - 1 := by decide
  have key : (BitVec.ofInt 64 n &&& BitVec.ofInt 64 7).toNat = (n % ((2 ^ 64 : Nat) : Int)).toNat % 2 ^ 3 := by
    rw [BitVec.toNat_and, BitVec.toNat_ofInt, h15, Nat.and_two_pow_sub_one_eq_mod]
  show IntKind.i64.wrap ((BitVec.ofInt 64 n &&& BitVec.ofInt 64 7).toNat : Nat) = n % 8
  rw [key, IntKind.wrap_i64]
  omega

/-- What stands in a round of ReadersPlays: the table and the document's slots have the same; the handles told so far; the act, and the handle that is asked, in two blocks of their own. -/
structure RP (W : World) (b q : Nat) (a : A9) (sl : Int) (tu : Nat) (w : World) (L : List Sl) (v lv : Value) (hs : List (Nat × Nat)) : Prop where
  tab : TabAt b w L
  so : SO W.heap.size w v L
  ho : HOwn W.heap.size w lv hs
  act : w.heap[q]? = some (.cells #[.int .i64 a.kind, .int .i64 a.at_, .int .u64 (a.txn : Int), .int .u64 (a.turn : Int)] 34 (0, 0))
  hd : w.heap[q + 1]? = some (.cells #[.int .i64 sl, .int .u64 (tu : Int)] 36 (0, 0))
  gr : W.grownBy w none
theorem RP.grown {W w w' : World} {b q : Nat} {a : A9} {sl : Int} {tu : Nat} {L : List Sl} {v lv : Value} {hs : List (Nat × Nat)} (h : RP W b q a sl tu w L v lv hs) (g : w.grownBy w' none) : RP W b q a sl tu w' L v lv hs :=
  ⟨h.tab.grown g, h.so.grown g, h.ho.grown g, (g.block _ (lt_of_block h.act) (by simp)).trans h.act, (g.block _ (lt_of_block h.hd) (by simp)).trans h.hd, gtrans h.gr g⟩
theorem RP.tabTo {W w w' : World} {b q : Nat} {a : A9} {sl : Int} {tu : Nat} {L M : List Sl} {v lv : Value} {hs : List (Nat × Nat)} (h : RP W b q a sl tu w L v lv hs) (t : TabTo b w w' M) (hb : W.heap.size ≤ b) :
    TabAt b w' M ∧ SO W.heap.size w' v L ∧ HOwn W.heap.size w' lv hs ∧ w'.heap[q]? = some (.cells #[.int .i64 a.kind, .int .i64 a.at_, .int .u64 (a.txn : Int), .int .u64 (a.turn : Int)] 34 (0, 0)) ∧ w'.heap[q + 1]? = some (.cells #[.int .i64 sl, .int .u64 (tu : Int)] 36 (0, 0)) ∧ W.grownBy w' none := by
  refine ⟨t.1, h.so.tab h.tab t.2, h.ho.tab h.tab t.2, (t.2.block q (lt_of_block h.act) fun e => ?_).trans h.act, hdl_at h.hd h.tab t.2, t.grown h.gr hb⟩
  injection e with e
  subst e
  exact absurd (TagIs.uniq ⟨_, _, h.act⟩ h.tab.tag) (by decide)
/-- Both sides have turned. -/
theorem RP.both {W w w1 w2 : World} {b q : Nat} {a : A9} {sl : Int} {tu : Nat} {L M : List Sl} {v v2 lv : Value} {hs : List (Nat × Nat)} (h : RP W b q a sl tu w L v lv hs) (t : TabTo b w w1 M) (hb : W.heap.size ≤ b)
    (hs2 : SO W.heap.size w2 v2 M) (hg2 : w1.grownBy w2 none) : RP W b q a sl tu w2 M v2 lv hs := by
  obtain ⟨h1, h2, h3, h4, h5, h6⟩ := h.tabTo t hb
  exact ⟨h1.grown hg2, hs2, h3.grown hg2, (hg2.block _ (lt_of_block h4) (by simp)).trans h4, (hg2.block _ (lt_of_block h5) (by simp)).trans h5, gtrans h6 hg2⟩

/-- The handle that is asked is turned. -/
theorem RP.store {W w : World} {b q : Nat} {a : A9} {sl : Int} {tu : Nat} {L : List Sl} {v lv : Value} {hs : List (Nat × Nat)} (h : RP W b q a sl tu w L v lv hs) (hap : ∀ k, lv.ownBlock = some k → k < q) (hq : W.heap.size ≤ q) (sl' : Int) (tu' : Nat) :
    RP W b q a sl' tu' ((w.setCell ⟨q + 1, 0, none⟩ (.int .i64 sl')).setCell ⟨q + 1, 1, none⟩ (.int .u64 (tu' : Int))) L v lv hs := by
  have hg : w.grownBy ((w.setCell ⟨q + 1, 0, none⟩ (.int .i64 sl')).setCell ⟨q + 1, 1, none⟩ (.int .u64 (tu' : Int))) (some (q + 1)) := gtrans (gset w ⟨q + 1, 0, none⟩ _) (gset _ ⟨q + 1, 1, none⟩ _)
  have htag : TagIs w (q + 1) 36 := ⟨_, _, h.hd⟩
  refine ⟨h.tab.far hg fun e => ?_, own_far h.so hg (t := 36) (fun k e => by injection e with e; subst e; exact htag) (by decide), World.ownsRow.kept h.ho hg ?_, (hg.block q (lt_of_block h.act) (by intro e; injection e with e; omega)).trans h.act, store2 _ _ h.hd, gnew h.gr hg (by omega)⟩
  · injection e with e
    subst e
    exact absurd (htag.uniq h.tab.tag) (by decide)
  · cases hv : lv.ownBlock with
    | none => exact .inl rfl
    | some k => exact .inr fun e => by injection e with e; have := hap k hv; omega
/-- A handle more. -/
theorem RP.push {W w w' : World} {b q : Nat} {a : A9} {sl : Int} {tu : Nat} {L : List Sl} {v lv v' : Value} {hs hs' : List (Nat × Nat)} (h : RP W b q a sl tu w L v lv hs) (hap : ∀ k, lv.ownBlock = some k → k < q) (ho : HOwn W.heap.size w' v' hs') (hg : w.grownBy w' lv.ownBlock) : RP W b q a sl tu w' L v v' hs' := by
  refine ⟨h.tab.hown h.ho hg, h.so.hown h.ho hg, ho, (hg.block q (lt_of_block h.act) fun e => ?_).trans h.act, (hg.block (q + 1) (lt_of_block h.hd) fun e => ?_).trans h.hd, grow_row h.gr h.ho hg⟩
  · have := hap q e.symm; omega
  · have := hap (q + 1) e.symm; omega
theorem RP.begin {W wr : World} {b : Nat} {a : A9} {L : List Sl} {v lv : Value} {hs : List (Nat × Nat)} (ht : TabAt b wr L) (hs' : SO W.heap.size wr v L) (ho : HOwn W.heap.size wr lv hs) (hg : W.grownBy wr none) :
    RP W b wr.heap.size a a.at_ a.turn ((wr.alloc (.cells #[.int .i64 a.kind, .int .i64 a.at_, .int .u64 (a.txn : Int), .int .u64 (a.turn : Int)] 34)).alloc (.cells #[.int .i64 a.at_, .int .u64 (a.turn : Int)] 36)) L v lv hs :=
  have g := two_grown wr (.cells #[.int .i64 a.kind, .int .i64 a.at_, .int .u64 (a.txn : Int), .int .u64 (a.turn : Int)] 34) (.cells #[.int .i64 a.at_, .int .u64 (a.turn : Int)] 36)
  ⟨ht.grown g, hs'.grown g, ho.grown g, two_lit0 _ _ _, two_lit1 _ _ _, gtrans hg g⟩
/-- The lowest free slot, if there is one. -/
theorem free_or : ∀ (L : List Sl), (∀ s ∈ L, s.st ≠ 0) ∨ ∃ (f : Nat) (s : Sl), (∀ j, j < f → ∀ s' : Sl, L[j]? = some s' → s'.st ≠ 0) ∧ L[f]? = some s ∧ s.st = 0
  | [] => .inl fun s hs => by simp at hs
  | z :: L => by
    by_cases hz : z.st = 0
    · exact .inr ⟨0, z, fun j hj => absurd hj (Nat.not_lt_zero _), rfl, hz⟩
    · rcases free_or L with h | ⟨f, s, h1, h2, h3⟩
      · exact .inl fun s hs => by
          rcases List.mem_cons.1 hs with rfl | hs
          · exact hz
          · exact h s hs
      · refine .inr ⟨f + 1, s, fun j hj s' hs' => ?_, h2, h3⟩
        cases j with
        | zero =>
          have : z = s' := by simpa using hs'
          subst this; exact hz
        | succ j => exact h1 j (by omega) s' (by simpa using hs')
theorem gdrewN (w : World) (n : Nat) : w.grownBy (w.drewN n) none := ⟨rfl, rfl, rfl, Nat.le_refl _, fun _ _ _ => rfl⟩

theorem quiet9 {P : Program} {f : FuncId} {args : Array Value} {w : World} {n : Nat} {v : Value}
    (h : Calls P f args (w.drewN n) fun e w' => e = .returned v ∧ w.drewN n = w') : Calls P f args (w.drewN n) fun e w'' => e = .returned v ∧ ∃ m, w'' = w.drewN m :=
  h.mono fun _ _ ⟨he, hm⟩ => ⟨he, n, hm.symm⟩

end Go.Proofs.Ytoaglkbobndmeaa
