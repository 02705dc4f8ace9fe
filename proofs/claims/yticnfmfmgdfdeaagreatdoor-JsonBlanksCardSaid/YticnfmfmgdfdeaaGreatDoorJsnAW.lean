/-
  Rows of values of the call's own; an array's row as it grows. Own work.
-/
import Derived.Test.YticnfmfmgdfdeaaGreatDoorJsnAV
import Derived.Test.YticnfmfmgdfdeaaGreatDoorJsnAC
import Derived.Test.YticnfmfmgdfdeaaGreatDoorJsnAP
import Derived.Test.YticnfmfmgdfdeaaGreatDoorJsnAT

set_option linter.unusedVariables false
set_option linter.unusedSimpArgs false
namespace Go.Proofs.YticnfmfmgdfdeaaGreatDoor
open Go.RowKit

abbrev flatC (us : List (Array Value)) : List Value := us.flatMap Array.toList
theorem flatC_len : ∀ (us : List (Array Value)), (∀ u ∈ us, u.size = 8) → (flatC us).length = us.length * 8
  | [], _ => rfl
  | u :: us, h => by
    have h1 := h u (by simp)
    have h2 := flatC_len us (fun x hx => h x (by simp [hx]))
    unfold flatC at *
    rw [List.flatMap_cons, List.length_append, h2, Array.length_toList, h1, List.length_cons]
    omega
theorem flatC_get : ∀ (us : List (Array Value)) (k i : Nat) (u : Array Value), (∀ u ∈ us, u.size = 8) → us[k]? = some u → i < 8 → (flatC us)[k * 8 + i]? = u[i]?
  | [], k, i, u, _, h, _ => by simp at h
  | v :: us, 0, i, u, h, hk, hi => by
    have e : v = u := by simpa using hk
    subst e
    have h1 := h v (by simp)
    unfold flatC
    rw [List.flatMap_cons, Nat.zero_mul, Nat.zero_add, List.getElem?_append_left (by rw [Array.length_toList, h1]; exact hi)]
    simp
  | v :: us, k + 1, i, u, h, hk, hi => by
    have h1 := h v (by simp)
    have ih := flatC_get us k i u (fun x hx => h x (by simp [hx])) (by simpa using hk) hi
    unfold flatC at *
    rw [List.flatMap_cons, List.getElem?_append_right (by rw [Array.length_toList, h1]; omega), Array.length_toList, h1, show (k + 1) * 8 + i - 8 = k * 8 + i by omega]
    exact ih
/-- A row of values of the call's own, from block B on; what its values hold lies apart from it. -/
def OV (n B : Nat) (w : World) (iv : Value) (l : List J) : Prop :=
  ∃ us : List (Array Value), us.length = l.length ∧ (∀ u ∈ us, u.size = 8) ∧ w.ownsRow B 28 8 iv l.length (flatC us) ∧
    ∀ (k : Nat) (x : J) (u : Array Value), l[k]? = some x → us[k]? = some u → JV (fun b => B ≤ b ∧ iv.ownBlock ≠ some b) n x w (.agg u)
theorem ov_nil (n B : Nat) (w : World) : OV n B w nilS [] := ⟨[], rfl, by simp, World.ownsRow_nil _ _ _ _, by simp⟩
theorem OV.shape {n B : Nat} {w : World} {iv : Value} {l : List J} (h : OV n B w iv l) : ∃ ao c, iv = .slice ao l.length c := by
  obtain ⟨us, _, _, h, _⟩ := h
  exact own_shape h
theorem OV.rows {n B : Nat} {w : World} {iv : Value} {l : List J} (h : OV n B w iv l) : RowV (JV (fun b => B ≤ b) n) (fun b => B ≤ b) w iv l := by
  obtain ⟨us, h1, h2, h3, h4⟩ := h
  rcases h3.2 with ⟨rfl, hn⟩ | ⟨g, cap, cur, rfl, hb, hg, hnc, hc, hs, ht⟩
  · have hl : l = [] := List.eq_nil_of_length_eq_zero hn
    subst hl
    exact ⟨none, 0, rfl, by simp, by simp [maxLen], fun h => absurd rfl h⟩
  · refine ⟨some ⟨g, 0, none⟩, cap, rfl, hnc, hc, fun _ => ⟨g, 0, rfl, hb, fun k x hk => ?_⟩⟩
    have hkl : k < us.length := by rw [h1]; exact (List.getElem?_eq_some_iff.1 hk).1
    have hu : us[k]? = some us[k] := List.getElem?_eq_getElem hkl
    have h8 : us[k].size = 8 := h2 _ (List.getElem_mem hkl)
    refine ⟨us[k], h8, fun i hi => ?_, (h4 k x _ hk hu).wide (fun b hb => hb.1) (Nat.le_refl _)⟩
    have hf := flatC_get us k i us[k] h2 hu hi
    have := World.ownsRow.cells h3 (g := g) rfl (k * 8 + i) (us[k].getD i undef) (by rw [hf]; simp [Array.getElem?_eq_getElem (show i < us[k].size by omega), Array.getD, h8, hi])
    rw [show (0 + (8 * k + i)) = k * 8 + i by omega]
    have e : ∀ j : Nat, (⟨g, 0, none⟩ : Addr).add j = ⟨g, j, none⟩ := fun j => by unfold Addr.add; split <;> simp_all
    rwa [e] at this
theorem OV.keep {n B : Nat} {w w' : World} {iv : Value} {l : List J} (h : OV n B w iv l) (g : ∀ b, B ≤ b → b < w.heap.size → w'.heap[b]? = w.heap[b]?) (hs : w.heap.size ≤ w'.heap.size) : OV n B w' iv l := by
  obtain ⟨us, h1, h2, h3, h4⟩ := h
  refine ⟨us, h1, h2, ⟨h3.1, ?_⟩, fun k x u hk hu => JV.keep (fun b hb hlt => ⟨g b hb.1 hlt, hb⟩) n x _ (h4 k x u hk hu) n (Nat.le_refl _)⟩
  rcases h3.2 with hn | ⟨q, cap, cur, hv, hb, hg, r⟩
  · exact .inl hn
  · exact .inr ⟨q, cap, cur, hv, hb, (g q hb (lt_of_block hg)).trans hg, r⟩
/-- One value more, where the row's cells are known. -/
theorem ov_push {n B : Nat} {w w' : World} {iv iv' : Value} {l : List J} {x : J} {u : Array Value} (hu : u.size = 8) (hx : JV (fun b => B ≤ b ∧ iv.ownBlock ≠ some b) n x w (.agg u))
    (us : List (Array Value)) (hus : ∃ ws : List Value, ws = flatC us ∧ us.length = l.length ∧ (∀ u ∈ us, u.size = 8) ∧ ∀ (k : Nat) (x : J) (u : Array Value), l[k]? = some x → us[k]? = some u → JV (fun b => B ≤ b ∧ iv.ownBlock ≠ some b) n x w (.agg u))
    (hrow : w'.ownsRow B 28 8 iv' (l.length + 1) (flatC us ++ u.toList)) (hb : ∀ b, B ≤ b → b < w.heap.size → iv.ownBlock ≠ some b → w'.heap[b]? = w.heap[b]?) (hf : Fresh w iv iv') : OV n B w' iv' (l ++ [x]) := by
  obtain ⟨ws, rfl, h1, h2, h4⟩ := hus
  have key : ∀ y v, JV (fun b => B ≤ b ∧ iv.ownBlock ≠ some b) n y w v → JV (fun b => B ≤ b ∧ iv'.ownBlock ≠ some b) n y w' v := fun y v hy =>
    JV.keep (fun b hq hlt => ⟨hb b hq.1 hlt hq.2, hq.1, by
      rcases hf with e | ⟨k, e, hk⟩
      · rw [e]; exact hq.2
      · rw [e]; intro e2; injection e2 with e2; omega⟩) n y v hy n (Nat.le_refl _)
  refine ⟨us ++ [u], by simp [h1], ?_, ?_, ?_⟩
  · intro v hv
    rcases List.mem_append.1 hv with hv | hv
    · exact h2 v hv
    · simp at hv; rw [hv]; exact hu
  · rw [List.length_append]
    unfold flatC at *
    rw [List.flatMap_append]
    simpa using hrow
  · intro k y v hk hv
    rcases Nat.lt_or_ge k l.length with hlt | hge
    · rw [List.getElem?_append_left hlt] at hk
      rw [List.getElem?_append_left (by omega)] at hv
      exact key _ _ (h4 k y v hk hv)
    · rw [List.getElem?_append_right hge] at hk
      rw [List.getElem?_append_right (by omega)] at hv
      have e0 : k - l.length = 0 := by
        rcases Nat.eq_zero_or_pos (k - l.length) with e | e
        · exact e
        · rw [List.getElem?_eq_none (by simp; omega)] at hk; cases hk
      rw [e0] at hk
      rw [h1, e0] at hv
      simp at hk hv
      rw [← hk, ← hv]
      exact key _ _ hx

theorem stored1 {W : World} {B m g q : Nat} {e : TypeId} {xs : List Value} (h : W.ownsRow B e 8 (.slice (some ⟨g, 0, none⟩) m q) m xs) (o : Nat) (v : Value) : (W.setCell ⟨g, o, none⟩ v).ownsRow B e 8 (.slice (some ⟨g, 0, none⟩) m q) m (xs.set o v) := by
  refine ⟨by simpa using h.1, ?_⟩
  rcases h.2 with ⟨hv, _⟩ | ⟨g', cap, cur, hv, hb, hg, hnc, hc, hs, ht⟩
  · cases hv
  · cases hv
    refine .inr ⟨g, q, cur.setIfInBounds o v, rfl, hb, set_cell hg o v, hnc, hc, by simpa using hs, ?_⟩
    rw [Array.toList_setIfInBounds, List.take_set, ht]
/-- Eight cells in a row's place. -/
abbrev S8 (W : World) (g o : Nat) (a b c d e f i j : Value) : World :=
  (((((((W.setCell ⟨g, o, none⟩ a).setCell ⟨g, o + 1, none⟩ b).setCell ⟨g, o + 2, none⟩ c).setCell ⟨g, o + 3, none⟩ d).setCell ⟨g, o + 4, none⟩ e).setCell ⟨g, o + 5, none⟩ f).setCell ⟨g, o + 6, none⟩ i).setCell ⟨g, o + 7, none⟩ j
theorem set8_list (xs : List Value) (L : Nat) (hx : xs.length = L) (z0 z1 z2 z3 z4 z5 z6 z7 a b c d e f i j : Value) :
    ((((((((xs ++ [z0, z1, z2, z3, z4, z5, z6, z7]).set L a).set (L + 1) b).set (L + 2) c).set (L + 3) d).set (L + 4) e).set (L + 5) f).set (L + 6) i).set (L + 7) j = xs ++ [a, b, c, d, e, f, i, j] := by
  subst hx
  simp [List.set_append]
theorem stored8 {W : World} {B n g q : Nat} {xs : List Value} (h : W.ownsRow B 28 8 (.slice (some ⟨g, 0, none⟩) (n + 1) q) (n + 1) (xs ++ zeroV.toList)) (hx : xs.length = n * 8) (a b c d e f i j : Value) :
    (S8 W g (n * 8) a b c d e f i j).ownsRow B 28 8 (.slice (some ⟨g, 0, none⟩) (n + 1) q) (n + 1) (xs ++ [a, b, c, d, e, f, i, j]) := by
  have := stored1 (stored1 (stored1 (stored1 (stored1 (stored1 (stored1 (stored1 h (n * 8) a) (n * 8 + 1) b) (n * 8 + 2) c) (n * 8 + 3) d) (n * 8 + 4) e) (n * 8 + 5) f) (n * 8 + 6) i) (n * 8 + 7) j
  rwa [show zeroV.toList = [.int .i64 0, .bool false, .bool false, .string ⟨#[]⟩, .int .i64 0, .string ⟨#[]⟩, nilS, nilS] from rfl, set8_list xs (n * 8) hx] at this
theorem s8_other (W : World) (g o b : Nat) (hb : b ≠ g) (a1 a2 a3 a4 a5 a6 a7 a8 : Value) : (S8 W g o a1 a2 a3 a4 a5 a6 a7 a8).heap[b]? = W.heap[b]? := by
  unfold S8
  rw [set_other hb.symm, set_other hb.symm, set_other hb.symm, set_other hb.symm, set_other hb.symm, set_other hb.symm, set_other hb.symm, set_other hb.symm]
theorem s8_size (W : World) (g o : Nat) (a1 a2 a3 a4 a5 a6 a7 a8 : Value) : (S8 W g o a1 a2 a3 a4 a5 a6 a7 a8).heap.size = W.heap.size := by simp [S8, World.setCell]
theorem ownsRow_far {W : World} {B m g q p : Nat} {e : TypeId} {xs : List Value} (h : W.ownsRow B e 8 (.slice (some ⟨g, 0, none⟩) m q) m xs) (hp : g ≠ p) (o : Nat) (v : Value) : (W.setCell ⟨p, o, none⟩ v).ownsRow B e 8 (.slice (some ⟨g, 0, none⟩) m q) m xs := by
  refine ⟨h.1, ?_⟩
  rcases h.2 with hn | ⟨g', cap, cur, hv, hb, hg, r⟩
  · exact .inl hn
  · cases hv
    exact .inr ⟨g, q, cur, rfl, hb, (set_other hp.symm o v).trans hg, r⟩

end Go.Proofs.YticnfmfmgdfdeaaGreatDoor

namespace Go.Proofs.YticnfmfmgdfdeaaGreatDoor
open Go.RowKit

theorem infoVal : (Tryz.prog.info? 28).map (fun i => (i.zero, i.size, i.bytes)) = some (some (.agg zeroV), 8, 112) := by kernel_rfl
/-- Where an array's reading stands: its boxes, the value, its items so far, the map. -/
structure AI (n Bx Vb R M N : Nat) (l : List J) (w : World) : Prop where
  bx : w.heap[Bx]? = some (.cells #[pR R] 61 (0, 0))
  mp : Mp w M N (FB R)
  vb : ∃ iv, w.heap[Vb]? = some (.cells #[.int .i64 4, .bool false, .bool false, .string ⟨#[]⟩, .int .i64 0, .string ⟨#[]⟩, iv, nilS] 28 (0, 0)) ∧ OV n (Vb + 1) w iv l
theorem AI.g1 {n Bx Vb R M N : Nat} {l : List J} {w w' : World} (h : AI n Bx Vb R M N l w) (g : G1 R w w') (h1 : R ≠ Bx) (h2 : R ≠ M) (h3 : R < Vb) : AI n Bx Vb R M N l w' := by
  have hk : ∀ b, R ≠ b → b < w.heap.size → w'.heap[b]? = w.heap[b]? := fun b hb hlt => g.block b hlt (by intro e; injection e with e; exact hb e.symm)
  obtain ⟨iv, hv, ho⟩ := h.vb
  exact ⟨(hk Bx h1 (lt_of_block h.bx)).trans h.bx, h.mp.kept g (by intro e; injection e with e; exact h2 e.symm), iv, (hk Vb (by omega) (lt_of_block hv)).trans hv, ho.keep (fun b hb hlt => hk b (by omega) hlt) g.size⟩
theorem own_slot8 {W : World} {base n : Nat} {v : Value} {xs : List Value} (h : W.ownsRow base 28 8 v (n + 1) xs) :
    ∃ g c, v = .slice (some ⟨g, 0, none⟩) (n + 1) c ∧ base ≤ g ∧ n + 1 ≤ c ∧ (∀ i, i < 8 → ∃ z, W.cell? ⟨g, n * 8 + i, none⟩ = some z ∧ W.frozen? ⟨g, n * 8 + i, none⟩ = false) := by
  rcases h.2 with ⟨rfl, hn⟩ | ⟨g, cap, cur, rfl, hb, hg, hnc, hc, hs, ht⟩
  · omega
  · refine ⟨g, cap, rfl, hb, hnc, fun i hi => ?_⟩
    have hlt : n * 8 + i < cur.size := by rw [hs]; omega
    refine ⟨cur[n * 8 + i], ?_, ?_⟩
    · simp [World.cell?, hg, Array.getElem?_eq_getElem hlt]
    · simp [World.frozen?, hg]

theorem lit8 (W : World) : ∀ (j : Nat) (u : Value), zeroV.toList[j]? = some u → (W.alloc (.cells zeroV 28)).cell? ((⟨W.heap.size, 0, none⟩ : Addr).add j) = some u := by
  intro j u hj
  have h := heap_alloc_new W (.cells zeroV 28)
  have e : (⟨W.heap.size, 0, none⟩ : Addr).add j = ⟨W.heap.size, j, none⟩ := by unfold Addr.add; split <;> simp_all
  rw [e]
  have hj' : (#[Value.int .i64 0, .bool false, .bool false, .string ⟨#[]⟩, .int .i64 0, .string ⟨#[]⟩, nilS, nilS] : Array Value)[j]? = some u := by simpa using hj
  simp only [World.cell?, h]
  exact hj'
theorem one8 : ∀ u ∈ zeroV.toList, u.oneCell' = true := by
  intro u hu
  simp at hu
  rcases hu with rfl | rfl | rfl | rfl | rfl | rfl <;> rfl
theorem JV.shape {P : Nat → Prop} {n : Nat} {j : J} {w : World} {iv nv : Value} (h : JV P n j w (.agg (j.cs iv nv))) : ∃ a1 c1 a2 c2, iv = .slice a1 j.items.length c1 ∧ nv = .slice a2 j.names.length c2 := by
  cases n with
  | zero => cases h
  | succ n =>
    obtain ⟨iv', nv', hv, ⟨a2, c2, h2, _⟩, a1, c1, h1, _⟩ := h
    simp only [J.cs, vc] at hv
    injection hv with hv
    simp only [Array.mk.injEq, List.cons.injEq, and_true, true_and] at hv
    obtain ⟨rfl, rfl⟩ := hv
    exact ⟨a1, c1, a2, c2, h1, h2⟩

theorem vb5 {W W5 : World} {Vb ln : Nat} {cs : Array Value} {iv : Value} {xs : List Value} {o : Obj} (h : W.heap[Vb]? = some (.cells cs 28 (0, 0))) (ho : W.ownsRow (Vb + 1) 28 8 iv ln xs) (g : ((W.alloc o).drew).grownBy W5 iv.ownBlock) : W5.heap[Vb]? = some (.cells cs 28 (0, 0)) := by
  have h1 : ((W.alloc o).drew).heap[Vb]? = some (.cells cs 28 (0, 0)) := ((World.grownBy_alloc W o none).block _ (lt_of_block h) (by simp)).trans h
  refine (g.block _ (lt_of_block h1) ?_).trans h1
  rcases ho.2 with ⟨rfl, _⟩ | ⟨q, cap, cur, rfl, hb, _⟩
  · simp [Value.ownBlock]
  · simp [Value.ownBlock]; omega
/-- The item is laid; the value knows its row. -/
theorem AI.fin {n Bx Vb R M N ln g5 q5 B : Nat} {l : List J} {j : J} {us : List (Array Value)} {iv : Value} {x0 x1 x2 x3 x4 x5 x6 x7 : Value} {W2 w5 Wf : World} {o : Obj}
    (hl : l.length = ln) (hbx : W2.heap[Bx]? = some (.cells #[pR R] 61 (0, 0))) (hmp : Mp W2 M N (FB R))
    (hu1 : us.length = ln) (hu2 : ∀ u ∈ us, u.size = 8) (hu4 : ∀ (k : Nat) (x : J) (u : Array Value), l[k]? = some x → us[k]? = some u → JV (fun b => Vb + 1 ≤ b ∧ iv.ownBlock ≠ some b) n x W2 (.agg u))
    (hx : JV (fun b => Vb + 1 ≤ b ∧ iv.ownBlock ≠ some b) n j W2 (.agg #[x0, x1, x2, x3, x4, x5, x6, x7]))
    (hrow : Wf.ownsRow (Vb + 1) 28 8 (.slice (some ⟨g5, 0, none⟩) (ln + 1) q5) (ln + 1) (flatC us ++ [x0, x1, x2, x3, x4, x5, x6, x7]))
    (hvf : Wf.heap[Vb]? = some (.cells #[.int .i64 4, .bool false, .bool false, .string ⟨#[]⟩, .int .i64 0, .string ⟨#[]⟩, .slice (some ⟨g5, 0, none⟩) (ln + 1) q5, nilS] 28 (0, 0)))
    (hg : ((W2.alloc o).drew).grownBy w5 iv.ownBlock) (hf : Fresh ((W2.alloc o).drew) iv (.slice (some ⟨g5, 0, none⟩) (ln + 1) q5)) (hib : ∀ b, iv.ownBlock = some b → Vb + 1 ≤ b) (hik : ∀ b c fr, iv.ownBlock = some b → W2.heap[b]? ≠ some (Obj.cells c 61 fr))
    (hoth : ∀ b, b ≠ Vb → b ≠ g5 → Wf.heap[b]? = w5.heap[b]?) (hos : Wf.os = w5.os) (hta : Wf.tape = w5.tape) (hou : Wf.output = w5.output) (hsz : Wf.heap.size = w5.heap.size)
    (hBx : Bx < Vb) (hMB : M < Vb) (hB : B ≤ Vb) (hBW : Vb < W2.heap.size) (hvk : ∃ c, W2.heap[Vb]? = some (.cells c 28 (0, 0))) : AI n Bx Vb R M N (l ++ [j]) Wf ∧ FR B R W2 Wf := by
  have hsame : ∀ b, b ≠ Vb → b < W2.heap.size → iv.ownBlock ≠ some b → Wf.heap[b]? = W2.heap[b]? := by
    intro b h1 h2 h3
    have hg5 : b ≠ g5 := by
      intro e
      rcases hf with k | ⟨k, k1, k2⟩
      · exact h3 (by rw [← k, e]; rfl)
      · injection k1 with k1
        have h9 : (W2.alloc o).drew.heap.size = W2.heap.size + 1 := by show (W2.alloc o).heap.size = _; simp
        have k3 : g5 = k := k1
        omega
    rw [hoth b h1 hg5]
    have hlt : b < ((W2.alloc o).drew).heap.size := by show b < (W2.alloc o).heap.size; simp; omega
    exact (hg.block b hlt (fun e => h3 e.symm)).trans ((World.grownBy_alloc W2 o none).block b h2 (by simp))
  have hnb : ∀ b, b < Vb + 1 → iv.ownBlock ≠ some b := fun b hb e => by have := hib b e; omega
  refine ⟨⟨(hsame Bx (by omega) (lt_of_block hbx) (hnb Bx (by omega))).trans hbx, ?_, _, hvf, ?_⟩, ?_⟩
  · obtain ⟨D, h1, h2⟩ := hmp
    refine ⟨D, ?_, h2⟩
    obtain ⟨es, ck, hm, r⟩ := h1
    exact ⟨es, ck, (hsame M (by omega) (lt_of_block hm) (hnb M (by omega))).trans hm, r⟩
  · refine ov_push (w := W2) (iv := iv) rfl hx us ⟨_, rfl, by omega, hu2, hu4⟩ (by rw [hl]; exact hrow) (fun b h1 h2 h3 => hsame b (by omega) h2 h3) ?_
    · rcases hf with k | ⟨k, k1, k2⟩
      · exact .inl k
      · exact .inr ⟨k, k1, by have : (W2.alloc o).drew.heap.size = W2.heap.size + 1 := by show (W2.alloc o).heap.size = _; simp
                              omega⟩
  · have hs1 : W2.heap.size ≤ Wf.heap.size := by
      have := hg.size
      have h2 : (W2.alloc o).drew.heap.size = W2.heap.size + 1 := by show (W2.alloc o).heap.size = _; simp
      omega
    refine ⟨hos.trans hg.os, hta.trans ?_, hou.trans hg.output, hs1, fun i h1 h2 => hsame i (by omega) (by omega) (hnb i (by omega)), fun i c fr h1 => ?_⟩
    · exact hg.tape
    · obtain ⟨cv, hcv⟩ := hvk
      refine (hsame i ?_ (lt_of_block h1) ?_).trans h1
      · intro e
        rw [e, hcv] at h1
        simp at h1
      · intro e
        exact hik i c fr e h1
theorem setCell_size (W : World) (a : Addr) (v : Value) : (W.setCell a v).heap.size = W.heap.size := by simp [World.setCell]
theorem s8_gr (W : World) (g o : Nat) (a1 a2 a3 a4 a5 a6 a7 a8 : Value) : W.grownBy (S8 W g o a1 a2 a3 a4 a5 a6 a7 a8) (some g) :=
  gtrans (gtrans (gtrans (gtrans (gtrans (gtrans (gtrans (gset W ⟨g, o, none⟩ a1) (gset _ ⟨g, o + 1, none⟩ a2)) (gset _ ⟨g, o + 2, none⟩ a3)) (gset _ ⟨g, o + 3, none⟩ a4)) (gset _ ⟨g, o + 4, none⟩ a5)) (gset _ ⟨g, o + 5, none⟩ a6)) (gset _ ⟨g, o + 6, none⟩ a7)) (gset _ ⟨g, o + 7, none⟩ a8)
/-- What the two stores leave, in either order. -/
structure Fin8 (Vb g5 ln q5 : Nat) (us : List (Array Value)) (x0 x1 x2 x3 x4 x5 x6 x7 : Value) (w5 Wf : World) : Prop where
  row : Wf.ownsRow (Vb + 1) 28 8 (.slice (some ⟨g5, 0, none⟩) (ln + 1) q5) (ln + 1) (flatC us ++ [x0, x1, x2, x3, x4, x5, x6, x7])
  vf : Wf.heap[Vb]? = some (.cells #[.int .i64 4, .bool false, .bool false, .string ⟨#[]⟩, .int .i64 0, .string ⟨#[]⟩, .slice (some ⟨g5, 0, none⟩) (ln + 1) q5, nilS] 28 (0, 0))
  oth : ∀ b, b ≠ Vb → b ≠ g5 → Wf.heap[b]? = w5.heap[b]?
  os : Wf.os = w5.os
  tape : Wf.tape = w5.tape
  output : Wf.output = w5.output
  size : Wf.heap.size = w5.heap.size
theorem fin8A {Vb g5 ln q5 : Nat} {us : List (Array Value)} {iv : Value} {w5 : World} (x0 x1 x2 x3 x4 x5 x6 x7 : Value) (hv : w5.heap[Vb]? = some (.cells #[.int .i64 4, .bool false, .bool false, .string ⟨#[]⟩, .int .i64 0, .string ⟨#[]⟩, iv, nilS] 28 (0, 0)))
    (ho : w5.ownsRow (Vb + 1) 28 8 (.slice (some ⟨g5, 0, none⟩) (ln + 1) q5) (ln + 1) (flatC us ++ zeroV.toList)) (hl : (flatC us).length = ln * 8) (hne : ¬ g5 = Vb) :
    Fin8 Vb g5 ln q5 us x0 x1 x2 x3 x4 x5 x6 x7 w5 (S8 (w5.setCell ⟨Vb, 6, none⟩ (.slice (some ⟨g5, 0, none⟩) (ln + 1) q5)) g5 (ln * 8) x0 x1 x2 x3 x4 x5 x6 x7) where
  row := stored8 (ownsRow_far ho hne 6 _) hl x0 x1 x2 x3 x4 x5 x6 x7
  vf := (s8_other _ _ _ _ (fun e => hne e.symm) _ _ _ _ _ _ _ _).trans (by have := set_cell hv 6 (.slice (some ⟨g5, 0, none⟩) (ln + 1) q5); simpa using this)
  oth := fun b h1 h2 => (s8_other _ _ _ _ h2 _ _ _ _ _ _ _ _).trans (set_other (fun e => h1 e.symm) _ _)
  os := (s8_gr _ _ _ _ _ _ _ _ _ _ _).os.trans (gset w5 ⟨Vb, 6, none⟩ _).os
  tape := (s8_gr _ _ _ _ _ _ _ _ _ _ _).tape.trans (gset w5 ⟨Vb, 6, none⟩ _).tape
  output := (s8_gr _ _ _ _ _ _ _ _ _ _ _).output.trans (gset w5 ⟨Vb, 6, none⟩ _).output
  size := (s8_size _ _ _ _ _ _ _ _ _ _ _).trans (setCell_size _ _ _)
theorem fin8B {Vb g5 ln q5 : Nat} {us : List (Array Value)} {iv : Value} {w5 : World} (x0 x1 x2 x3 x4 x5 x6 x7 : Value) (hv : w5.heap[Vb]? = some (.cells #[.int .i64 4, .bool false, .bool false, .string ⟨#[]⟩, .int .i64 0, .string ⟨#[]⟩, iv, nilS] 28 (0, 0)))
    (ho : w5.ownsRow (Vb + 1) 28 8 (.slice (some ⟨g5, 0, none⟩) (ln + 1) q5) (ln + 1) (flatC us ++ zeroV.toList)) (hl : (flatC us).length = ln * 8) (hne : ¬ g5 = Vb) :
    Fin8 Vb g5 ln q5 us x0 x1 x2 x3 x4 x5 x6 x7 w5 ((S8 w5 g5 (ln * 8) x0 x1 x2 x3 x4 x5 x6 x7).setCell ⟨Vb, 6, none⟩ (.slice (some ⟨g5, 0, none⟩) (ln + 1) q5)) where
  row := ownsRow_far (stored8 ho hl x0 x1 x2 x3 x4 x5 x6 x7) hne 6 _
  vf := by
    have := set_cell ((s8_other w5 g5 (ln * 8) Vb (fun e => hne e.symm) x0 x1 x2 x3 x4 x5 x6 x7).trans hv) 6 (.slice (some ⟨g5, 0, none⟩) (ln + 1) q5)
    simpa using this
  oth := fun b h1 h2 => (set_other (fun e => h1 e.symm) _ _).trans (s8_other _ _ _ _ h2 _ _ _ _ _ _ _ _)
  os := (gset _ ⟨Vb, 6, none⟩ _).os.trans (s8_gr w5 _ _ _ _ _ _ _ _ _ _).os
  tape := (gset _ ⟨Vb, 6, none⟩ _).tape.trans (s8_gr w5 _ _ _ _ _ _ _ _ _ _).tape
  output := (gset _ ⟨Vb, 6, none⟩ _).output.trans (s8_gr w5 _ _ _ _ _ _ _ _ _ _).output
  size := (setCell_size _ _ _).trans (s8_size _ _ _ _ _ _ _ _ _ _ _)
theorem item_fin {n Bx Vb R M N B ln g5 q5 : Nat} {d e : Int} {P : Bs → Rd J} {l : List J} {s s' : Bs} {w w2 W2 w5 : World} {us : List (Array Value)} {ao a1 a2 : Option Addr} {cc c1 c2 : Nat} {j : J} {res : Rd (List J)}
    (hB : B ≤ w.heap.size) (h3 : R < Vb) (hMB : M < Vb) (hBx : Bx < Vb) (h4 : B ≤ Vb) (hHVS : Vb < w.heap.size) (hHOV : OV n (Vb + 1) w (.slice ao ln cc) l) (hHLN : l.length = ln)
    (hHJ : JV (fun b => w.heap.size ≤ b) n j w2 (.agg (j.cs (.slice a1 j.items.length c1) (.slice a2 j.names.length c2)))) (hHG2 : G1 R w w2) (hHG3 : Gr w2 W2) (hA2 : AI n Bx Vb R M N l w2) (hHR : RC R M s d w) (hH2 : RC R M s' d w2)
    (hHU : us.length = ln ∧ (∀ u ∈ us, u.size = 8) ∧ ∀ (k : Nat) (x : J) (u : Array Value), l[k]? = some x → us[k]? = some u → JV (fun b => Vb + 1 ≤ b ∧ (Value.slice ao ln cc).ownBlock ≠ some b) n x W2 (.agg u))
    (hHU3 : W2.ownsRow (Vb + 1) 28 8 (.slice ao ln cc) ln (flatC us))
    (hHVB3 : W2.heap[Vb]? = some (.cells #[.int .i64 4, .bool false, .bool false, .string ⟨#[]⟩, .int .i64 0, .string ⟨#[]⟩, .slice ao ln cc, nilS] 28 (0, 0)))
    (hHG5 : ((W2.alloc (.cells zeroV 28)).drew).grownBy w5 (Value.slice ao ln cc).ownBlock) (hHF5 : Fresh ((W2.alloc (.cells zeroV 28)).drew) (.slice ao ln cc) (.slice (some ⟨g5, 0, none⟩) (ln + 1) q5))
    (hHRES : res = match P s with | .error c => .error c | .ok (j, r) => .ok (l ++ [j], r))
    (hHM : match P s with | .ok (j', r') => e = 0 ∧ j = j' ∧ s' = r' | .error c => e = c ∧ e ≠ 0) (Wf : World)
    (F : Fin8 Vb g5 ln q5 us (.int .i64 j.kind) (.bool j.isB) (.bool j.nm.down) (.string (Sx j.nm.digs)) (.int .i64 j.nm.exp) (.string (Sx j.tx)) (.slice a1 j.items.length c1) (.slice a2 j.names.length c2) w5 Wf) :
    RowR (AI n Bx Vb R M N) B R M d w res (.returned (.int .i64 e)) Wf := by
  have hg5 : Vb + 1 ≤ g5 := by
    rcases F.row.2 with ⟨h9, _⟩ | ⟨g, cap, cur, h9, h8, _⟩
    · cases h9
    · injection h9 with h9; injection h9 with h9; injection h9 with h9; omega
  have hoq : ∀ b, (Value.slice ao ln cc).ownBlock = some b → Vb + 1 ≤ b ∧ b < w.heap.size := by
    intro b hb
    obtain ⟨us0, -, -, h3, -⟩ := hHOV
    rcases h3.2 with ⟨h4, _⟩ | ⟨g, cap, cur, h4, h5, h6, _⟩
    · rw [h4] at hb; simp [Value.ownBlock] at hb
    · rw [h4] at hb
      simp [Value.ownBlock] at hb
      subst hb
      exact ⟨h5, lt_of_block h6⟩
  have hxv : JV (fun b => Vb + 1 ≤ b ∧ (Value.slice ao ln cc).ownBlock ≠ some b) n j W2 (.agg #[.int .i64 j.kind, .bool j.isB, .bool j.nm.down, .string (Sx j.nm.digs), .int .i64 j.nm.exp, .string (Sx j.tx), .slice a1 j.items.length c1, .slice a2 j.names.length c2]) :=
    (hHJ.gr hHG3).wide (fun b hb => ⟨by have := hHVS; omega, fun e => by have := (hoq b e).2; omega⟩) (Nat.le_refl _)
  obtain ⟨hA, hFR⟩ := AI.fin (n := n) (Bx := Bx) (R := R) (M := M) (N := N) (B := B) (l := l) (j := j) hHLN ((hHG3.block _ (lt_of_block hA2.bx) (by simp)).trans hA2.bx) (hA2.mp.gr hHG3) hHU.1 hHU.2.1 hHU.2.2 hxv F.row F.vf hHG5 hHF5 (fun b hb => (hoq b hb).1) (fun b c fr hb h => by
      have h1 := hHU3
      rcases h1.2 with ⟨h4, _⟩ | ⟨g, cap, cur, h4, h5, h6, _⟩
      · rw [h4] at hb; simp [Value.ownBlock] at hb
      · rw [h4] at hb
        simp [Value.ownBlock] at hb
        subst hb
        rw [h6] at h
        simp at h) F.oth F.os F.tape F.output F.size hBx hMB h4 (by have := hHVS; have := hHG2.size; have := hHG3.size; omega) ⟨_, hHVB3⟩
  refine ⟨l ++ [j], e, s', rfl, ?_, hA, ((FR.g1 hHR hHG2 hB).trans (FR.gr hHG3 (Nat.le_trans hB hHG2.size))).trans hFR, ?_⟩
  · have hRW : R < W2.heap.size := by have := hHR.lt; have := hHG2.size; have := hHG3.size; omega
    have h7 : w5.heap[R]? = W2.heap[R]? := by
      have h8 : R < ((W2.alloc (.cells zeroV 28)).drew).heap.size := by show R < (W2.alloc (.cells zeroV 28)).heap.size; simp; omega
      exact (hHG5.block R h8 (fun e => by have := (hoq R e.symm).1; omega)).trans ((World.grownBy_alloc W2 _ none).block R hRW (by simp))
    exact ((F.oth R (by omega) (by omega)).trans h7).trans (hH2.gr hHG3)
  · rw [hHRES]
    cases hp : P s with
    | error c =>
      have hm := hHM
      rw [hp] at hm
      exact hm
    | ok jr =>
      obtain ⟨j', r'⟩ := jr
      have hm := hHM
      rw [hp] at hm
      exact ⟨hm.1, by rw [hm.2.1], hm.2.2⟩
end Go.Proofs.YticnfmfmgdfdeaaGreatDoor

namespace Go.Proofs.YticnfmfmgdfdeaaGreatDoor
open Go.RowKit

set_option maxRecDepth 100000 in
set_option maxHeartbeats 8000000 in
theorem item_any (n Bx Vb R M N B : Nat) (d : Int) (P : Bs → Rd J) (l : List J) (s : Bs) (w : World)
    (hV : ∀ s w, RC R M s d w → ES w → Mp w M N (FB R) → s.length ≤ 100000 → Calls Tryz.prog 32 #[pR R] w fun r w' => RdR n (P s) R M d w r w')
    (hr : RC R M s d w) (hi : AI n Bx Vb R M N l w) (hE : ES w) (hB : B ≤ w.heap.size) (hl : s.length ≤ 100000) (hll : l.length ≤ 100000) (h1 : R ≠ Bx) (h2 : R ≠ M) (h3 : R < Vb) (hMB : M < Vb) (hBx : Bx < Vb) (h4 : B ≤ Vb) :
    Calls Tryz.prog 112 #[.pointer (some ⟨Bx, 0, none⟩), .pointer (some ⟨Vb, 0, none⟩)] w fun r w' => RowR (AI n Bx Vb R M N) B R M d w (itemM P l s) r w' := by
  have KV := hV s w hr hE hi.mp hl
  unfold RdR at KV
  have hx := box1 hi.bx
  obtain ⟨iv, hvb, hov⟩ := hi.vb
  obtain ⟨ao, cc, rfl⟩ := hov.shape
  have HVS : Hid (Vb < w.heap.size) := Lib.hid (lt_of_block hvb)
  have HI := Lib.hid hi
  have HR := Lib.hid hr
  have HC : Hid (∀ w', G1 R w w' → AI n Bx Vb R M N l w') := Lib.hid (fun w' g => hi.g1 g h1 h2 h3)
  obtain ⟨res, hres⟩ : ∃ res, res = itemM P l s := ⟨_, rfl⟩
  rw [← hres]
  unfold itemM at hres
  have HRES := Lib.hid hres
  have HVB := Lib.hid hvb
  have HOV := Lib.hid hov
  obtain ⟨i0, hin, hz0, hz1, hz2⟩ := info_parts infoVal
  clear hV hr hi hE hres hvb hov
  generalize hln : l.length = ln at *
  go_enter Tryz.func112, Tryz.ntmps112
  go_wp2_with (go_at_call 32; ((with_reducible refine KV.mono ?_); rintro r w2 ⟨j, iv2, nv2, e, s', rfl, hj, hc, hg, hm⟩); obtain ⟨a1, c1, a2, c2, rfl, rfl⟩ := hj.shape; have H2 := Lib.hid hc; have HJ := Lib.hid hj; have HG2 := Lib.hid hg; have HM := Lib.hid hm; clear hj hc hg hm)
  have A2 := Lib.hid (HC.out _ HG2.out)
  have HVB2 : Hid (w2.heap[Vb]? = some (.cells #[.int .i64 4, .bool false, .bool false, .string ⟨#[]⟩, .int .i64 0, .string ⟨#[]⟩, .slice ao ln cc, nilS] 28 (0, 0))) := Lib.hid ((HG2.out.block _ HVS.out (by intro e; injection e with e; omega)).trans HVB.out)
  have HOV2 : Hid (OV n (Vb + 1) w2 (.slice ao ln cc) l) := Lib.hid (HOV.out.keep (fun b hb hlt => HG2.out.block b hlt (by intro e; injection e with e; omega)) HG2.out.size)
  obtain ⟨W2, hW2⟩ : ∃ W, W = w2.alloc (.cells #[.int .i64 j.kind, .bool j.isB, .bool j.nm.down, .string (Sx j.nm.digs), .int .i64 j.nm.exp, .string (Sx j.tx), .slice a1 j.items.length c1, .slice a2 j.names.length c2] 28) := ⟨_, rfl⟩
  have hxb : W2.heap[w2.heap.size]? = some (.cells #[.int .i64 j.kind, .bool j.isB, .bool j.nm.down, .string (Sx j.nm.digs), .int .i64 j.nm.exp, .string (Sx j.tx), .slice a1 j.items.length c1, .slice a2 j.names.length c2] 28 (0, 0)) := by rw [hW2]; exact heap_alloc_new _ _
  have hg3 : Gr w2 W2 := by rw [hW2]; exact World.grownBy_alloc _ _ _
  rw [← hW2]
  have HVB3 := Lib.hid ((hg3.block _ (lt_of_block HVB2.out) (by simp)).trans HVB2.out)
  have HOV3 := Lib.hid (HOV2.out.keep (fun b hb hlt => hg3.block b hlt (by simp)) hg3.size)
  have HG3 := Lib.hid hg3
  have HXB := Lib.hid hxb
  clear hW2 hxb hg3
  obtain ⟨x0, x1, x2, x3, x4, x5, x6, x7⟩ := cells8 HXB.out
  obtain ⟨-, -, -, -, -, -, v6, -⟩ := cells8 HVB3.out
  obtain ⟨z0, z1, z2, z3, z4, z5, z6, z7⟩ := cells8 (show ((W2.alloc (.cells #[.int .i64 0, .bool false, .bool false, .string ⟨#[]⟩, .int .i64 0, .string ⟨#[]⟩, .slice none 0 0, .slice none 0 0] 28)).drew).heap[w2.heap.size]? = _ from ((World.grownBy_alloc W2 _ none).block _ (lt_of_block HXB.out) (by simp)).trans HXB.out)
  obtain ⟨-, -, -, -, -, -, t6, -⟩ := cells8 (show ((W2.alloc (.cells #[.int .i64 0, .bool false, .bool false, .string ⟨#[]⟩, .int .i64 0, .string ⟨#[]⟩, .slice none 0 0, .slice none 0 0] 28)).drew).heap[Vb]? = _ from ((World.grownBy_alloc W2 _ none).block _ (lt_of_block HVB3.out) (by simp)).trans HVB3.out)
  obtain ⟨-, -, -, -, -, -, u6, -⟩ := unfroz8 HVB3.out
  obtain ⟨us, hu1, hu2, hu3, hu4⟩ := HOV3.out
  rw [hln] at hu3 hu1
  have HU := Lib.hid (And.intro hu1 (And.intro hu2 hu4))
  have HU3 := Lib.hid hu3
  have HLN := Lib.hid (And.intro hln hll)
  clear hu1 hu2 hu4 hu3 hln
  have hb2 : Vb + 1 ≤ W2.heap.size := by have := HVS.out; have := HG2.out.size; have := HG3.out.size; omega
  have HB2 := Lib.hid hb2
  have hll2 : (ln : Int) ≤ 100000 := by omega
  have hlt5 : (ln : Int) < (ln : Int) + 1 := by omega
  clear hb2
  go_region_law (refine step_append_own2 rfl (.tmp 11) (.tmp 14) 25 rfl (Vb + 1) 28 i0 (.agg zeroV) 8 112 Tryz.underlying25 hin hz0 hz1 hz2 rfl (by decide) (.slice ao ln cc) ln (flatC us) rfl (by first | exact HU3.out | exact World.ownsRow.alloc HU3.out _ | exact World.ownsRow.drew (World.ownsRow.alloc HU3.out _)) ⟨W2.heap.size, 0, none⟩ 1 1 zeroV.toList rfl rfl (lit8 _) one8 (by unfold maxLen; omega) (by omega) (by have := HB2.out; simp; omega) ?_; intro v5 w5 hown' hgrow hfr; obtain ⟨g5, q5, rfl, hb5, hq5, hz5⟩ := own_slot8 hown'; have HO5 := Lib.hid hown'; have HG5 := Lib.hid hgrow; have HF5 := Lib.hid hfr; have HV5 := Lib.hid (vb5 HVB3.out HU3.out hgrow); have hn5 : ¬ g5 = Vb := (by omega); have hn6 : ¬ Vb = g5 := (by omega); obtain ⟨y0, l0, m0⟩ := hz5 0 (by omega); rw [Nat.add_zero] at l0 m0; obtain ⟨y1, l1, m1⟩ := hz5 1 (by omega); obtain ⟨y2, l2, m2⟩ := hz5 2 (by omega); obtain ⟨y3, l3, m3⟩ := hz5 3 (by omega); obtain ⟨y4, l4, m4⟩ := hz5 4 (by omega); obtain ⟨y5, l5, m5⟩ := hz5 5 (by omega); obtain ⟨y6, l6, m6⟩ := hz5 6 (by omega); obtain ⟨y7, l7, m7⟩ := hz5 7 (by omega); obtain ⟨-, -, -, -, -, -, v6, -⟩ := cells8 HV5.out; obtain ⟨-, -, -, -, -, -, u6, -⟩ := unfroz8 HV5.out; have hq5i : (ln : Int) + 1 ≤ (q5 : Int) := (by omega); clear hown' hgrow hfr hz5)
  all_goals clear x0 x1 x2 x3 x4 x5 x6 x7 z0 z1 z2 z3 z4 z5 z6 z7 t6 v6 u6 l0 l1 l2 l3 l4 l5 l6 l7 m0 m1 m2 m3 m4 m5 m6 m7
  all_goals go_wp2
  all_goals go_ret
  all_goals (
    have hfl : (flatC us).length = ln * 8 := by rw [flatC_len us HU.out.2.1, HU.out.1]
    have hfin := fun Wf F => item_fin (P := P) (s := s) (e := e) (w := w) (Bx := Bx) (N := N) (j := j) hB h3 hMB hBx h4 HVS.out HOV.out HLN.out.1 HJ.out HG2.out HG3.out A2.out HR.out H2.out HU.out HU3.out HVB3.out HG5.out HF5.out HRES.out HM.out Wf F
    refine hfin _ ?_
    have FA := fin8A (.int .i64 j.kind) (.bool j.isB) (.bool j.nm.down) (.string (Sx j.nm.digs)) (.int .i64 j.nm.exp) (.string (Sx j.tx)) (.slice a1 j.items.length c1) (.slice a2 j.names.length c2) HV5.out HO5.out hfl hn5
    have FB := fin8B (.int .i64 j.kind) (.bool j.isB) (.bool j.nm.down) (.string (Sx j.nm.digs)) (.int .i64 j.nm.exp) (.string (Sx j.tx)) (.slice a1 j.items.length c1) (.slice a2 j.names.length c2) HV5.out HO5.out hfl hn5
    clear hfin
    first
      | (with_reducible exact FB)
      | (with_reducible exact FA))

end Go.Proofs.YticnfmfmgdfdeaaGreatDoor

namespace Go.Proofs.YticnfmfmgdfdeaaGreatDoor
open Go.RowKit

theorem three_lit (w : World) (a b c : Obj) : (((w.alloc a).alloc b).alloc c).heap[w.heap.size]? = some a ∧ (((w.alloc a).alloc b).alloc c).heap[w.heap.size + 1]? = some b ∧ (((w.alloc a).alloc b).alloc c).heap[w.heap.size + 2]? = some c := by
  refine ⟨?_, ?_, ?_⟩
  · exact ((World.grownBy_alloc _ c none).block _ (lt_of_block (two_lit0 w a b)) (by simp)).trans (two_lit0 w a b)
  · exact ((World.grownBy_alloc _ c none).block _ (lt_of_block (two_lit1 w a b)) (by simp)).trans (two_lit1 w a b)
  · have := heap_alloc_new ((w.alloc a).alloc b) c
    rwa [show ((w.alloc a).alloc b).heap.size = w.heap.size + 2 by simp] at this
theorem three_grown (w : World) (a b c : Obj) : w.grownBy (((w.alloc a).alloc b).alloc c) none := gtrans (two_grown w a b) (World.grownBy_alloc _ _ _)
abbrev arr0 : Array Value := #[.int .i64 4, .bool false, .bool false, .string ⟨#[]⟩, .int .i64 0, .string ⟨#[]⟩, nilS, nilS]

set_option maxRecDepth 100000 in
set_option maxHeartbeats 8000000 in
theorem array_go (n R M N : Nat) (d : Int) (h0 : 0 ≤ d) (h1 : d < 16) (P : Bs → Rd J) (hPl : ∀ s j r, P s = .ok (j, r) → r.length < s.length)
    (hV : ∀ s w, RC R M s (d + 1) w → ES w → Mp w M N (FB R) → s.length ≤ 100000 → Calls Tryz.prog 32 #[pR R] w fun r w' => RdR n (P s) R M (d + 1) w r w')
    (s : Bs) (w : World) (hr : RC R M s d w) (hE : ES w) (hm : Mp w M N (FB R)) (hl : s.length ≤ 100000) (hf : isH 91 s = true) (hMR : M ≠ R) :
    Calls Tryz.prog 66 #[pR R] w fun r w' => RdR (n + 1) (arrM (some P) s) R M d w r w' := by
  have hmf : ∀ (fn : Fn) (first cap : Array Value) (w : World), (Instr.makeFunc fn first cap).run Tryz.prog w = .ok (.func fn first cap) w := fun _ _ _ _ => rfl
  obtain ⟨l0, l1, l2⟩ := three_lit w (.cells #[pR R] 61) (.cells zeroV 28) (.cells arr0 28)
  have g0 := three_grown w (.cells #[pR R] 61) (.cells zeroV 28) (.cells arr0 28)
  have hsz : (((w.alloc (.cells #[pR R] 61)).alloc (.cells zeroV 28)).alloc (.cells arr0 28)).heap.size = w.heap.size + 3 := by simp
  have hRl := hr.lt
  have hMl := hm.lt
  have hGl : (6 : Nat) < w.heap.size := by obtain ⟨tp, p, h⟩ := hE; exact World.block_lt_of_cell? _ _ h
  have hA0 : AI n w.heap.size (w.heap.size + 2) R M N [] (((w.alloc (.cells #[pR R] 61)).alloc (.cells zeroV 28)).alloc (.cells arr0 28)) := ⟨l0, hm.gr g0, nilS, l2, ov_nil _ _ _⟩
  have KR := rowA_go (itemM P) (AI n w.heap.size (w.heap.size + 2) R M N) (fun l => l.length) 100000 R M w.heap.size (w.heap.size + 2) (w.heap.size + 2) d h0 h1 (by omega)
    (fun x s y r h => itemM_len hPl h) (fun x w1 w2 hi g => hi.g1 g (by omega) (fun e => hMR e.symm) (by omega))
    (fun x s2 w2 k1 k2 k3 k4 k5 k6 => item_any n w.heap.size (w.heap.size + 2) R M N (w.heap.size + 2) (d + 1) P x s2 w2 hV k1 k2 k3 k4 k5 (by omega) (by omega) (fun e => hMR e.symm) (by omega) (by omega) (by omega) (Nat.le_refl _))
    [] s _ (hr.gr g0) hA0 (hE.gr g0) (by rw [hsz]; omega) hl (by simpa using hl) hf
  unfold RowR at KR
  have HG := Lib.hid g0
  have HR0 := Lib.hid hRl
  have HL1 := Lib.hid l1
  have hp := box1 l0
  obtain ⟨res, hres⟩ : ∃ res, res = arrM (some P) s := ⟨_, rfl⟩
  rw [← hres]
  have HRES := Lib.hid hres
  clear hres hA0 hV hr hE hm hl hf l0 l1 l2 hMl hGl g0
  go_enter Tryz.func66, Tryz.ntmps66
  go_wp2_with (go_at_call 111; ((with_reducible refine KR.mono ?_); rintro r w4 ⟨x', e, s', rfl, hc, hi, hf, hmm⟩); have H4 := Lib.hid hc; have HI4 := Lib.hid hi; have HF4 := Lib.hid hf; have HM4 := Lib.hid hmm; obtain ⟨iv, hvb, hov⟩ := hi.vb; obtain ⟨ia, ic, rfl⟩ := hov.shape; obtain ⟨x0, x1, x2, x3, x4, x5, x6, x7⟩ := cells8 hvb; have HVB := Lib.hid hvb; have HOV := Lib.hid hov; have hq := (hf.below (w.heap.size + 1) (by omega) (by have := HR0.out; omega)).trans HL1.out; have HQ := Lib.hid hq; obtain ⟨y0, y1, y2, y3, y4, y5, y6, y7⟩ := cells8 hq; obtain ⟨z0, z1, z2, z3, z4, z5, z6, z7⟩ := unfroz8 hq; clear hc hi hf hmm hvb hov hq)
  have hGF : w.grownBy w4 (some R) := ⟨HF4.out.os.trans HG.out.os, HF4.out.tape.trans HG.out.tape, HF4.out.output.trans HG.out.output, Nat.le_trans HG.out.size HF4.out.size, fun i hi hn => (HF4.out.below i (by omega) (fun e => hn (by rw [e]))).trans (HG.out.block i hi (by simp))⟩
  refine bodyPost_ret (results_Val2 rfl _ _ (w.heap.size + 1) _ _ rfl rfl (set8 HQ.out) rfl) rfl ⟨.arr x', _, nilS, e, s', rfl, ?_, (set8_other (by have := HR0.out; omega) _ _ _ _ _ _ _ _).trans H4.out, gr_set8 hGF (Nat.le_succ _) _ _ _ _ _ _ _ _, ?_⟩
  · refine ⟨_, nilS, rfl, ⟨none, 0, rfl, by simp [J.names], by simp [maxLen], fun h => absurd rfl h⟩, ?_⟩
    have hrow := HOV.out.keep (w' := ((((((((w4.setCell ⟨w.heap.size + 1, 0, none⟩ (.int .i64 4)).setCell ⟨w.heap.size + 1, 1, none⟩ (.bool false)).setCell ⟨w.heap.size + 1, 2, none⟩ (.bool false)).setCell ⟨w.heap.size + 1, 3, none⟩ (.string ⟨#[]⟩)).setCell ⟨w.heap.size + 1, 4, none⟩ (.int .i64 0)).setCell ⟨w.heap.size + 1, 5, none⟩ (.string ⟨#[]⟩)).setCell ⟨w.heap.size + 1, 6, none⟩ (.slice ia x'.length ic)).setCell ⟨w.heap.size + 1, 7, none⟩ nilS)) (fun b hb hlt => set8_other (by omega) _ _ _ _ _ _ _ _) (by simp [World.setCell])
    obtain ⟨ao, c, e1, e2, e3, e4⟩ := hrow.rows
    refine ⟨ao, c, e1, e2, e3, fun hne => ?_⟩
    obtain ⟨b, o, f1, f2, f3⟩ := e4 hne
    refine ⟨b, o, f1, by omega, fun k x hk => ?_⟩
    obtain ⟨u, u1, u2, u3⟩ := f3 k x hk
    exact ⟨u, u1, u2, u3.wide (fun b hb => by omega) (Nat.le_refl _)⟩
  · rw [HRES.out]
    unfold arrM
    have hm := HM4.out
    simp only
    cases hrw : rowsM (itemM P) 93 [] s.tail with
    | error c => rw [hrw] at hm; exact hm
    | ok lr =>
      obtain ⟨l', r'⟩ := lr
      rw [hrw] at hm
      exact ⟨hm.1, by rw [hm.2.1], hm.2.2⟩

end Go.Proofs.YticnfmfmgdfdeaaGreatDoor

namespace Go.Proofs.YticnfmfmgdfdeaaGreatDoor
open Go.RowKit Go.Maps

theorem mlook {M n : Nat} {F : UInt8 → Option Value} {w : World} (h : Mp w M n F) (c : UInt8) : ∃ v, (∀ u, F c = some u → v = u) ∧ (Instr.lookup 64 (.map (some M)) (.int .u8 (c.toNat : Int)) true).run Tryz.prog w = .ok (.tuple #[v, .bool (F c).isSome]) w := by
  obtain ⟨D, h1, h2⟩ := h
  obtain ⟨v, ps, hrun, hv⟩ := h1.look_ok lawB Tryz.underlying64 (z := .nilFunc) (by kernel_rfl) (zd := .held .nilFunc) (zp := []) rfl (keyB c)
  rw [(h2 c).1] at hrun
  refine ⟨v, fun u hu => ?_, hrun⟩
  have e := (h2 c).2 u hu (.held .nilFunc)
  rw [e] at hv
  unfold heldR at hv
  simp at hv
  exact hv.1
theorem FB_dig (R : Nat) {c : UInt8} (h : dig c = true) : FB R c = some (fnR 68 R) := by
  unfold FB FD
  simp only [dig, Bool.and_eq_true, decide_eq_true_eq] at h
  rw [if_pos (by omega)]
theorem FB_not (R : Nat) {c : UInt8} (h : dig c = false) : FB R c = F7 R c := by
  unfold FB FD
  simp only [dig, Bool.and_eq_false_iff, decide_eq_false_iff_not] at h
  rw [if_neg (by omega)]

set_option maxRecDepth 100000 in
set_option maxHeartbeats 8000000 in
theorem value_of (n R M N : Nat) (d : Int) (P : Option (Bs → Rd J))
    (hA : ∀ s w, RC R M s d w → ES w → Mp w M N (FB R) → s.length ≤ 100000 → isH 91 s = true → Calls Tryz.prog 66 #[pR R] w fun r w' => RdR (n + 1) (arrM P s) R M d w r w')
    (hO : ∀ s w, RC R M s d w → ES w → Mp w M N (FB R) → s.length ≤ 100000 → isH 123 s = true → Calls Tryz.prog 67 #[pR R] w fun r w' => RdR (n + 1) (objM P s) R M d w r w')
    (s : Bs) (w : World) (hr : RC R M s d w) (hE : ES w) (hm : Mp w M N (FB R)) (hl : s.length ≤ 100000) (hMR : M ≠ R) :
    Calls Tryz.prog 32 #[pR R] w fun r w' => RdR (n + 1) (vM P (blk s)) R M d w r w' := by
  have KB := blanks_any R M s d (w.alloc (.cells zeroV 28)) (hr.gr (World.grownBy_alloc w _ none))
  have htl : (blk s).length ≤ 100000 := Nat.le_trans (blkN s) hl
  obtain ⟨t, ht⟩ : ∃ t, t = blk s := ⟨_, rfl⟩
  rw [← ht] at KB htl ⊢
  have HTL := Lib.hid htl
  have HRl := Lib.hid hr.lt
  have HMl := Lib.hid hm.lt
  have HQ0 := Lib.hid (heap_alloc_new w (.cells zeroV 28))
  have HG0 := Lib.hid (World.grownBy_alloc w (.cells zeroV 28) none)
  have HF : Hid (∀ w3, RC R M t d w3 → G1 R (w.alloc (.cells zeroV 28)) w3 → ES w3 ∧ Mp w3 M N (FB R) ∧ w3.heap[w.heap.size]? = some (.cells zeroV 28 (0, 0)) ∧ G1 R w w3) := Lib.hid (fun w3 hc hg => by
    have hq := heap_alloc_new w (.cells zeroV 28)
    exact ⟨(hE.gr (World.grownBy_alloc w _ none)).g1 (hr.gr (World.grownBy_alloc w _ none)) hg, (hm.gr (World.grownBy_alloc w _ none)).kept hg (by intro e; injection e with e; exact hMR e), (hg.block _ (lt_of_block hq) (by intro e; injection e with e; have := hr.lt; omega)).trans hq, gtrans (gwide (World.grownBy_alloc w _ none)) hg⟩)
  have HAR := Lib.hid hA
  have HOB := Lib.hid hO
  clear hA hO hr hE hm hl ht htl
  cases t with
  | nil =>
    have e0 : Sx [] = ⟨#[]⟩ := rfl
    go_enter Tryz.func32, Tryz.ntmps32
    go_wp2_with (first | (go_at_call 33; ((with_reducible refine KB.mono ?_); rintro r w3 ⟨rfl, hc, hg⟩); have HC := Lib.hid hc; have hff := HF.out w3 hc hg; have HE3 := Lib.hid hff.1; have HM3 := Lib.hid hff.2.1; have HQ3 := Lib.hid hff.2.2.1; have HG3 := Lib.hid hff.2.2.2; obtain ⟨c0, c1, c2, f0, f1, f2⟩ := hc.cells; obtain ⟨y0, y1, y2, y3, y4, y5, y6, y7⟩ := cells8 HQ3.out; obtain ⟨z0, z1, z2, z3, z4, z5, z6, z7⟩ := unfroz8 HQ3.out; clear hc hg hff; rw [e0] at c0))
    refine bodyPost_ret (results_Val2 rfl _ _ w.heap.size _ _ rfl rfl (set8 HQ3.out) rfl) rfl ⟨.null, nilS, nilS, 11, _, rfl, JV.flat _ rfl rfl n, (set8_other (by have := HRl.out; omega) _ _ _ _ _ _ _ _).trans HC.out, gr_set8 HG3.out (Nat.le_refl _) _ _ _ _ _ _ _ _, rfl, by omega⟩
  | cons c t' =>
    obtain ⟨t, ht⟩ : ∃ t, t = c :: t' := ⟨_, rfl⟩
    rw [← ht] at KB HTL HF ⊢
    have hsz : (Sx t).size = t'.length + 1 := by rw [Sx_size, ht]; rfl
    have hne : (Sx t).toList.isEmpty = false := by rw [Sx_toList, ht]; rfl
    have hix : ∀ h : 0 < (Sx t).size, (Sx t)[0]'h = c := fun h => (Sx_get t 0 (by rw [Sx_size] at h; exact h)).trans (by simp [ht])
    have hpos : (0 : Int) < (t'.length : Int) + 1 := by omega
    by_cases q110 : c = 110
    · have HV : Hid (vM P t = wordM [110, 117, 108, 108] .null t) := Lib.hid (by rw [ht]; simp [vM, isH, q110])
      have HT2 := Lib.hid ht
      have hcz : (c.toNat : Int) = 110 := by rw [q110]; rfl
      have HFB : Hid (FB R c = some (fnR 62 R)) := Lib.hid (by rw [q110]; rfl)
      rw [q110] at hix
      have HCZ := Lib.hid hcz
      clear ht hcz
      obtain ⟨B, hB⟩ : ∃ B, B = Sx t := ⟨_, rfl⟩
      rw [← hB] at hsz hne hix
      have HB := Lib.hid hB
      clear hB
      go_enter Tryz.func32, Tryz.ntmps32
      go_wp2_with (first | (go_at_call 33; ((with_reducible refine KB.mono ?_); rintro r w3 ⟨rfl, hc, hg⟩); have HC := Lib.hid hc; have hff := HF.out w3 hc hg; have HE3 := Lib.hid hff.1; have HM3 := Lib.hid hff.2.1; have HQ3 := Lib.hid hff.2.2.1; have HG3 := Lib.hid hff.2.2.2; obtain ⟨c0, c1, c2, f0, f1, f2⟩ := hc.cells; obtain ⟨y0, y1, y2, y3, y4, y5, y6, y7⟩ := cells8 HQ3.out; obtain ⟨z0, z1, z2, z3, z4, z5, z6, z7⟩ := unfroz8 HQ3.out; clear hc hg hff; rw [← HB.out] at c0))
      obtain ⟨v, hv, hlk⟩ := mlook (HM3.out.gr (gdrew w3)) c
      have hv2 := hv _ HFB.out
      subst hv2
      rw [HFB.out, HCZ.out, Option.isSome_some] at hlk
      have KV := Lib.hid (null_any R M t d w3.drew (HC.out.gr (gdrew w3)) HTL.out n)
      clear hv
      go_region
      all_goals (go_wp2_with (go_at_call 62; ((with_reducible refine KV.out.mono ?_); rintro r w4 ⟨j, iv, nv, e, s', rfl, hj, hc, hg, hmm⟩); obtain ⟨a1, q1, a2, q2, rfl, rfl⟩ := hj.shape; have HJ := Lib.hid hj; have H4 := Lib.hid hc; have G4 := Lib.hid hg; have M4 := Lib.hid hmm; have hq4 := (hg.block _ (lt_of_block HQ3.out) (by intro e; injection e with e; have := HRl.out; omega)).trans HQ3.out; have HQ4 := Lib.hid hq4; clear y0 y1 y2 y3 y4 y5 y6 y7 z0 z1 z2 z3 z4 z5 z6 z7; obtain ⟨y0, y1, y2, y3, y4, y5, y6, y7⟩ := cells8 hq4; obtain ⟨z0, z1, z2, z3, z4, z5, z6, z7⟩ := unfroz8 hq4; clear hj hc hg hmm hq4)
                 refine bodyPost_ret (results_Val2 rfl _ _ w.heap.size _ _ rfl rfl (set8 HQ4.out) rfl) rfl ⟨j, _, _, e, s', rfl, ?_, (set8_other (by have := HRl.out; omega) _ _ _ _ _ _ _ _).trans H4.out, gr_set8 (gtrans HG3.out (gtrans (gwide (gdrew w3)) G4.out)) (Nat.le_refl _) _ _ _ _ _ _ _ _, by rw [HV.out]; exact M4.out⟩
                 exact JV.keep (fun b hb hlt => ⟨set8_other (by have h9 := lt_of_block HQ3.out; have h8 : w3.heap.size ≤ b := hb; omega) _ _ _ _ _ _ _ _, by have h9 := HG3.out.size; have h8 : w3.heap.size ≤ b := hb; omega⟩) (n + 1) j _ HJ.out (n + 1) (Nat.le_refl _))
    by_cases q116 : c = 116
    · have HV : Hid (vM P t = wordM [116, 114, 117, 101] (.bool true) t) := Lib.hid (by rw [ht]; simp [vM, isH, q116])
      have HT2 := Lib.hid ht
      have hcz : (c.toNat : Int) = 116 := by rw [q116]; rfl
      have HFB : Hid (FB R c = some (fnR 63 R)) := Lib.hid (by rw [q116]; rfl)
      rw [q116] at hix
      have HCZ := Lib.hid hcz
      clear ht hcz q110
      obtain ⟨B, hB⟩ : ∃ B, B = Sx t := ⟨_, rfl⟩
      rw [← hB] at hsz hne hix
      have HB := Lib.hid hB
      clear hB
      go_enter Tryz.func32, Tryz.ntmps32
      go_wp2_with (first | (go_at_call 33; ((with_reducible refine KB.mono ?_); rintro r w3 ⟨rfl, hc, hg⟩); have HC := Lib.hid hc; have hff := HF.out w3 hc hg; have HE3 := Lib.hid hff.1; have HM3 := Lib.hid hff.2.1; have HQ3 := Lib.hid hff.2.2.1; have HG3 := Lib.hid hff.2.2.2; obtain ⟨c0, c1, c2, f0, f1, f2⟩ := hc.cells; obtain ⟨y0, y1, y2, y3, y4, y5, y6, y7⟩ := cells8 HQ3.out; obtain ⟨z0, z1, z2, z3, z4, z5, z6, z7⟩ := unfroz8 HQ3.out; clear hc hg hff; rw [← HB.out] at c0))
      obtain ⟨v, hv, hlk⟩ := mlook (HM3.out.gr (gdrew w3)) c
      have hv2 := hv _ HFB.out
      subst hv2
      rw [HFB.out, HCZ.out, Option.isSome_some] at hlk
      have KV := Lib.hid (yes_any R M t d w3.drew (HC.out.gr (gdrew w3)) HTL.out n)
      clear hv
      go_region
      all_goals (go_wp2_with (go_at_call 63; ((with_reducible refine KV.out.mono ?_); rintro r w4 ⟨j, iv, nv, e, s', rfl, hj, hc, hg, hmm⟩); obtain ⟨a1, q1, a2, q2, rfl, rfl⟩ := hj.shape; have HJ := Lib.hid hj; have H4 := Lib.hid hc; have G4 := Lib.hid hg; have M4 := Lib.hid hmm; have hq4 := (hg.block _ (lt_of_block HQ3.out) (by intro e; injection e with e; have := HRl.out; omega)).trans HQ3.out; have HQ4 := Lib.hid hq4; clear y0 y1 y2 y3 y4 y5 y6 y7 z0 z1 z2 z3 z4 z5 z6 z7; obtain ⟨y0, y1, y2, y3, y4, y5, y6, y7⟩ := cells8 hq4; obtain ⟨z0, z1, z2, z3, z4, z5, z6, z7⟩ := unfroz8 hq4; clear hj hc hg hmm hq4)
                 refine bodyPost_ret (results_Val2 rfl _ _ w.heap.size _ _ rfl rfl (set8 HQ4.out) rfl) rfl ⟨j, _, _, e, s', rfl, ?_, (set8_other (by have := HRl.out; omega) _ _ _ _ _ _ _ _).trans H4.out, gr_set8 (gtrans HG3.out (gtrans (gwide (gdrew w3)) G4.out)) (Nat.le_refl _) _ _ _ _ _ _ _ _, by rw [HV.out]; exact M4.out⟩
                 exact JV.keep (fun b hb hlt => ⟨set8_other (by have h9 := lt_of_block HQ3.out; have h8 : w3.heap.size ≤ b := hb; omega) _ _ _ _ _ _ _ _, by have h9 := HG3.out.size; have h8 : w3.heap.size ≤ b := hb; omega⟩) (n + 1) j _ HJ.out (n + 1) (Nat.le_refl _))
    by_cases q102 : c = 102
    · have HV : Hid (vM P t = wordM [102, 97, 108, 115, 101] (.bool false) t) := Lib.hid (by rw [ht]; simp [vM, isH, q102])
      have HT2 := Lib.hid ht
      have hcz : (c.toNat : Int) = 102 := by rw [q102]; rfl
      have HFB : Hid (FB R c = some (fnR 64 R)) := Lib.hid (by rw [q102]; rfl)
      rw [q102] at hix
      have HCZ := Lib.hid hcz
      clear ht hcz q110 q116
      obtain ⟨B, hB⟩ : ∃ B, B = Sx t := ⟨_, rfl⟩
      rw [← hB] at hsz hne hix
      have HB := Lib.hid hB
      clear hB
      go_enter Tryz.func32, Tryz.ntmps32
      go_wp2_with (first | (go_at_call 33; ((with_reducible refine KB.mono ?_); rintro r w3 ⟨rfl, hc, hg⟩); have HC := Lib.hid hc; have hff := HF.out w3 hc hg; have HE3 := Lib.hid hff.1; have HM3 := Lib.hid hff.2.1; have HQ3 := Lib.hid hff.2.2.1; have HG3 := Lib.hid hff.2.2.2; obtain ⟨c0, c1, c2, f0, f1, f2⟩ := hc.cells; obtain ⟨y0, y1, y2, y3, y4, y5, y6, y7⟩ := cells8 HQ3.out; obtain ⟨z0, z1, z2, z3, z4, z5, z6, z7⟩ := unfroz8 HQ3.out; clear hc hg hff; rw [← HB.out] at c0))
      obtain ⟨v, hv, hlk⟩ := mlook (HM3.out.gr (gdrew w3)) c
      have hv2 := hv _ HFB.out
      subst hv2
      rw [HFB.out, HCZ.out, Option.isSome_some] at hlk
      have KV := Lib.hid (no_any R M t d w3.drew (HC.out.gr (gdrew w3)) HTL.out n)
      clear hv
      go_region
      all_goals (go_wp2_with (go_at_call 64; ((with_reducible refine KV.out.mono ?_); rintro r w4 ⟨j, iv, nv, e, s', rfl, hj, hc, hg, hmm⟩); obtain ⟨a1, q1, a2, q2, rfl, rfl⟩ := hj.shape; have HJ := Lib.hid hj; have H4 := Lib.hid hc; have G4 := Lib.hid hg; have M4 := Lib.hid hmm; have hq4 := (hg.block _ (lt_of_block HQ3.out) (by intro e; injection e with e; have := HRl.out; omega)).trans HQ3.out; have HQ4 := Lib.hid hq4; clear y0 y1 y2 y3 y4 y5 y6 y7 z0 z1 z2 z3 z4 z5 z6 z7; obtain ⟨y0, y1, y2, y3, y4, y5, y6, y7⟩ := cells8 hq4; obtain ⟨z0, z1, z2, z3, z4, z5, z6, z7⟩ := unfroz8 hq4; clear hj hc hg hmm hq4)
                 refine bodyPost_ret (results_Val2 rfl _ _ w.heap.size _ _ rfl rfl (set8 HQ4.out) rfl) rfl ⟨j, _, _, e, s', rfl, ?_, (set8_other (by have := HRl.out; omega) _ _ _ _ _ _ _ _).trans H4.out, gr_set8 (gtrans HG3.out (gtrans (gwide (gdrew w3)) G4.out)) (Nat.le_refl _) _ _ _ _ _ _ _ _, by rw [HV.out]; exact M4.out⟩
                 exact JV.keep (fun b hb hlt => ⟨set8_other (by have h9 := lt_of_block HQ3.out; have h8 : w3.heap.size ≤ b := hb; omega) _ _ _ _ _ _ _ _, by have h9 := HG3.out.size; have h8 : w3.heap.size ≤ b := hb; omega⟩) (n + 1) j _ HJ.out (n + 1) (Nat.le_refl _))
    by_cases q34 : c = 34
    · have HV : Hid (vM P t = strJ t) := Lib.hid (by rw [ht]; simp [vM, isH, q34])
      have HT2 := Lib.hid ht
      have hcz : (c.toNat : Int) = 34 := by rw [q34]; rfl
      have HFB : Hid (FB R c = some (fnR 65 R)) := Lib.hid (by rw [q34]; rfl)
      rw [q34] at hix
      have HCZ := Lib.hid hcz
      clear ht hcz q110 q116 q102
      obtain ⟨B, hB⟩ : ∃ B, B = Sx t := ⟨_, rfl⟩
      rw [← hB] at hsz hne hix
      have HB := Lib.hid hB
      clear hB
      go_enter Tryz.func32, Tryz.ntmps32
      go_wp2_with (first | (go_at_call 33; ((with_reducible refine KB.mono ?_); rintro r w3 ⟨rfl, hc, hg⟩); have HC := Lib.hid hc; have hff := HF.out w3 hc hg; have HE3 := Lib.hid hff.1; have HM3 := Lib.hid hff.2.1; have HQ3 := Lib.hid hff.2.2.1; have HG3 := Lib.hid hff.2.2.2; obtain ⟨c0, c1, c2, f0, f1, f2⟩ := hc.cells; obtain ⟨y0, y1, y2, y3, y4, y5, y6, y7⟩ := cells8 HQ3.out; obtain ⟨z0, z1, z2, z3, z4, z5, z6, z7⟩ := unfroz8 HQ3.out; clear hc hg hff; rw [← HB.out] at c0))
      obtain ⟨v, hv, hlk⟩ := mlook (HM3.out.gr (gdrew w3)) c
      have hv2 := hv _ HFB.out
      subst hv2
      rw [HFB.out, HCZ.out, Option.isSome_some] at hlk
      have KV := Lib.hid (text15_any R M t d w3.drew (HC.out.gr (gdrew w3)) (HE3.out.gr (gdrew w3)) HTL.out n)
      clear hv
      go_region
      all_goals (go_wp2_with (go_at_call 65; ((with_reducible refine KV.out.mono ?_); rintro r w4 ⟨j, iv, nv, e, s', rfl, hj, hc, hg, hmm⟩); obtain ⟨a1, q1, a2, q2, rfl, rfl⟩ := hj.shape; have HJ := Lib.hid hj; have H4 := Lib.hid hc; have G4 := Lib.hid hg; have M4 := Lib.hid hmm; have hq4 := (hg.block _ (lt_of_block HQ3.out) (by intro e; injection e with e; have := HRl.out; omega)).trans HQ3.out; have HQ4 := Lib.hid hq4; clear y0 y1 y2 y3 y4 y5 y6 y7 z0 z1 z2 z3 z4 z5 z6 z7; obtain ⟨y0, y1, y2, y3, y4, y5, y6, y7⟩ := cells8 hq4; obtain ⟨z0, z1, z2, z3, z4, z5, z6, z7⟩ := unfroz8 hq4; clear hj hc hg hmm hq4)
                 refine bodyPost_ret (results_Val2 rfl _ _ w.heap.size _ _ rfl rfl (set8 HQ4.out) rfl) rfl ⟨j, _, _, e, s', rfl, ?_, (set8_other (by have := HRl.out; omega) _ _ _ _ _ _ _ _).trans H4.out, gr_set8 (gtrans HG3.out (gtrans (gwide (gdrew w3)) G4.out)) (Nat.le_refl _) _ _ _ _ _ _ _ _, by rw [HV.out]; exact M4.out⟩
                 exact JV.keep (fun b hb hlt => ⟨set8_other (by have h9 := lt_of_block HQ3.out; have h8 : w3.heap.size ≤ b := hb; omega) _ _ _ _ _ _ _ _, by have h9 := HG3.out.size; have h8 : w3.heap.size ≤ b := hb; omega⟩) (n + 1) j _ HJ.out (n + 1) (Nat.le_refl _))
    by_cases q91 : c = 91
    · have HV : Hid (vM P t = arrM P t) := Lib.hid (by rw [ht]; simp [vM, isH, q91])
      have h1 : isH 91 t = true := by rw [ht, q91]; rfl
      have HT2 := Lib.hid ht
      have hcz : (c.toNat : Int) = 91 := by rw [q91]; rfl
      have HFB : Hid (FB R c = some (fnR 66 R)) := Lib.hid (by rw [q91]; rfl)
      rw [q91] at hix
      have HCZ := Lib.hid hcz
      clear ht hcz q110 q116 q102 q34
      obtain ⟨B, hB⟩ : ∃ B, B = Sx t := ⟨_, rfl⟩
      rw [← hB] at hsz hne hix
      have HB := Lib.hid hB
      clear hB
      go_enter Tryz.func32, Tryz.ntmps32
      go_wp2_with (first | (go_at_call 33; ((with_reducible refine KB.mono ?_); rintro r w3 ⟨rfl, hc, hg⟩); have HC := Lib.hid hc; have hff := HF.out w3 hc hg; have HE3 := Lib.hid hff.1; have HM3 := Lib.hid hff.2.1; have HQ3 := Lib.hid hff.2.2.1; have HG3 := Lib.hid hff.2.2.2; obtain ⟨c0, c1, c2, f0, f1, f2⟩ := hc.cells; obtain ⟨y0, y1, y2, y3, y4, y5, y6, y7⟩ := cells8 HQ3.out; obtain ⟨z0, z1, z2, z3, z4, z5, z6, z7⟩ := unfroz8 HQ3.out; clear hc hg hff; rw [← HB.out] at c0))
      obtain ⟨v, hv, hlk⟩ := mlook (HM3.out.gr (gdrew w3)) c
      have hv2 := hv _ HFB.out
      subst hv2
      rw [HFB.out, HCZ.out, Option.isSome_some] at hlk
      have KV := Lib.hid (HAR.out t w3.drew (HC.out.gr (gdrew w3)) (HE3.out.gr (gdrew w3)) (HM3.out.gr (gdrew w3)) HTL.out h1)
      clear hv
      go_region
      all_goals (go_wp2_with (go_at_call 66; ((with_reducible refine KV.out.mono ?_); rintro r w4 ⟨j, iv, nv, e, s', rfl, hj, hc, hg, hmm⟩); obtain ⟨a1, q1, a2, q2, rfl, rfl⟩ := hj.shape; have HJ := Lib.hid hj; have H4 := Lib.hid hc; have G4 := Lib.hid hg; have M4 := Lib.hid hmm; have hq4 := (hg.block _ (lt_of_block HQ3.out) (by intro e; injection e with e; have := HRl.out; omega)).trans HQ3.out; have HQ4 := Lib.hid hq4; clear y0 y1 y2 y3 y4 y5 y6 y7 z0 z1 z2 z3 z4 z5 z6 z7; obtain ⟨y0, y1, y2, y3, y4, y5, y6, y7⟩ := cells8 hq4; obtain ⟨z0, z1, z2, z3, z4, z5, z6, z7⟩ := unfroz8 hq4; clear hj hc hg hmm hq4)
                 refine bodyPost_ret (results_Val2 rfl _ _ w.heap.size _ _ rfl rfl (set8 HQ4.out) rfl) rfl ⟨j, _, _, e, s', rfl, ?_, (set8_other (by have := HRl.out; omega) _ _ _ _ _ _ _ _).trans H4.out, gr_set8 (gtrans HG3.out (gtrans (gwide (gdrew w3)) G4.out)) (Nat.le_refl _) _ _ _ _ _ _ _ _, by rw [HV.out]; exact M4.out⟩
                 exact JV.keep (fun b hb hlt => ⟨set8_other (by have h9 := lt_of_block HQ3.out; have h8 : w3.heap.size ≤ b := hb; omega) _ _ _ _ _ _ _ _, by have h9 := HG3.out.size; have h8 : w3.heap.size ≤ b := hb; omega⟩) (n + 1) j _ HJ.out (n + 1) (Nat.le_refl _))
    by_cases q123 : c = 123
    · have HV : Hid (vM P t = objM P t) := Lib.hid (by rw [ht]; simp [vM, isH, q123])
      have h1 : isH 123 t = true := by rw [ht, q123]; rfl
      have HT2 := Lib.hid ht
      have hcz : (c.toNat : Int) = 123 := by rw [q123]; rfl
      have HFB : Hid (FB R c = some (fnR 67 R)) := Lib.hid (by rw [q123]; rfl)
      rw [q123] at hix
      have HCZ := Lib.hid hcz
      clear ht hcz q110 q116 q102 q34 q91
      obtain ⟨B, hB⟩ : ∃ B, B = Sx t := ⟨_, rfl⟩
      rw [← hB] at hsz hne hix
      have HB := Lib.hid hB
      clear hB
      go_enter Tryz.func32, Tryz.ntmps32
      go_wp2_with (first | (go_at_call 33; ((with_reducible refine KB.mono ?_); rintro r w3 ⟨rfl, hc, hg⟩); have HC := Lib.hid hc; have hff := HF.out w3 hc hg; have HE3 := Lib.hid hff.1; have HM3 := Lib.hid hff.2.1; have HQ3 := Lib.hid hff.2.2.1; have HG3 := Lib.hid hff.2.2.2; obtain ⟨c0, c1, c2, f0, f1, f2⟩ := hc.cells; obtain ⟨y0, y1, y2, y3, y4, y5, y6, y7⟩ := cells8 HQ3.out; obtain ⟨z0, z1, z2, z3, z4, z5, z6, z7⟩ := unfroz8 HQ3.out; clear hc hg hff; rw [← HB.out] at c0))
      obtain ⟨v, hv, hlk⟩ := mlook (HM3.out.gr (gdrew w3)) c
      have hv2 := hv _ HFB.out
      subst hv2
      rw [HFB.out, HCZ.out, Option.isSome_some] at hlk
      have KV := Lib.hid (HOB.out t w3.drew (HC.out.gr (gdrew w3)) (HE3.out.gr (gdrew w3)) (HM3.out.gr (gdrew w3)) HTL.out h1)
      clear hv
      go_region
      all_goals (go_wp2_with (go_at_call 67; ((with_reducible refine KV.out.mono ?_); rintro r w4 ⟨j, iv, nv, e, s', rfl, hj, hc, hg, hmm⟩); obtain ⟨a1, q1, a2, q2, rfl, rfl⟩ := hj.shape; have HJ := Lib.hid hj; have H4 := Lib.hid hc; have G4 := Lib.hid hg; have M4 := Lib.hid hmm; have hq4 := (hg.block _ (lt_of_block HQ3.out) (by intro e; injection e with e; have := HRl.out; omega)).trans HQ3.out; have HQ4 := Lib.hid hq4; clear y0 y1 y2 y3 y4 y5 y6 y7 z0 z1 z2 z3 z4 z5 z6 z7; obtain ⟨y0, y1, y2, y3, y4, y5, y6, y7⟩ := cells8 hq4; obtain ⟨z0, z1, z2, z3, z4, z5, z6, z7⟩ := unfroz8 hq4; clear hj hc hg hmm hq4)
                 refine bodyPost_ret (results_Val2 rfl _ _ w.heap.size _ _ rfl rfl (set8 HQ4.out) rfl) rfl ⟨j, _, _, e, s', rfl, ?_, (set8_other (by have := HRl.out; omega) _ _ _ _ _ _ _ _).trans H4.out, gr_set8 (gtrans HG3.out (gtrans (gwide (gdrew w3)) G4.out)) (Nat.le_refl _) _ _ _ _ _ _ _ _, by rw [HV.out]; exact M4.out⟩
                 exact JV.keep (fun b hb hlt => ⟨set8_other (by have h9 := lt_of_block HQ3.out; have h8 : w3.heap.size ≤ b := hb; omega) _ _ _ _ _ _ _ _, by have h9 := HG3.out.size; have h8 : w3.heap.size ≤ b := hb; omega⟩) (n + 1) j _ HJ.out (n + 1) (Nat.le_refl _))
    by_cases q45 : c = 45
    · have HV : Hid (vM P t = numJ t) := Lib.hid (by rw [ht]; simp [vM, isH, q45])
      have HT2 := Lib.hid ht
      have hcz : (c.toNat : Int) = 45 := by rw [q45]; rfl
      have HFB : Hid (FB R c = some (fnR 68 R)) := Lib.hid (by rw [q45]; rfl)
      rw [q45] at hix
      have HCZ := Lib.hid hcz
      clear ht hcz q110 q116 q102 q34 q91 q123
      obtain ⟨B, hB⟩ : ∃ B, B = Sx t := ⟨_, rfl⟩
      rw [← hB] at hsz hne hix
      have HB := Lib.hid hB
      clear hB
      go_enter Tryz.func32, Tryz.ntmps32
      go_wp2_with (first | (go_at_call 33; ((with_reducible refine KB.mono ?_); rintro r w3 ⟨rfl, hc, hg⟩); have HC := Lib.hid hc; have hff := HF.out w3 hc hg; have HE3 := Lib.hid hff.1; have HM3 := Lib.hid hff.2.1; have HQ3 := Lib.hid hff.2.2.1; have HG3 := Lib.hid hff.2.2.2; obtain ⟨c0, c1, c2, f0, f1, f2⟩ := hc.cells; obtain ⟨y0, y1, y2, y3, y4, y5, y6, y7⟩ := cells8 HQ3.out; obtain ⟨z0, z1, z2, z3, z4, z5, z6, z7⟩ := unfroz8 HQ3.out; clear hc hg hff; rw [← HB.out] at c0))
      obtain ⟨v, hv, hlk⟩ := mlook (HM3.out.gr (gdrew w3)) c
      have hv2 := hv _ HFB.out
      subst hv2
      rw [HFB.out, HCZ.out, Option.isSome_some] at hlk
      have KV := Lib.hid (number_any R M t d w3.drew (HC.out.gr (gdrew w3)) HTL.out n)
      clear hv
      go_region
      all_goals (go_wp2_with (go_at_call 68; ((with_reducible refine KV.out.mono ?_); rintro r w4 ⟨j, iv, nv, e, s', rfl, hj, hc, hg, hmm⟩); obtain ⟨a1, q1, a2, q2, rfl, rfl⟩ := hj.shape; have HJ := Lib.hid hj; have H4 := Lib.hid hc; have G4 := Lib.hid hg; have M4 := Lib.hid hmm; have hq4 := (hg.block _ (lt_of_block HQ3.out) (by intro e; injection e with e; have := HRl.out; omega)).trans HQ3.out; have HQ4 := Lib.hid hq4; clear y0 y1 y2 y3 y4 y5 y6 y7 z0 z1 z2 z3 z4 z5 z6 z7; obtain ⟨y0, y1, y2, y3, y4, y5, y6, y7⟩ := cells8 hq4; obtain ⟨z0, z1, z2, z3, z4, z5, z6, z7⟩ := unfroz8 hq4; clear hj hc hg hmm hq4)
                 refine bodyPost_ret (results_Val2 rfl _ _ w.heap.size _ _ rfl rfl (set8 HQ4.out) rfl) rfl ⟨j, _, _, e, s', rfl, ?_, (set8_other (by have := HRl.out; omega) _ _ _ _ _ _ _ _).trans H4.out, gr_set8 (gtrans HG3.out (gtrans (gwide (gdrew w3)) G4.out)) (Nat.le_refl _) _ _ _ _ _ _ _ _, by rw [HV.out]; exact M4.out⟩
                 exact JV.keep (fun b hb hlt => ⟨set8_other (by have h9 := lt_of_block HQ3.out; have h8 : w3.heap.size ≤ b := hb; omega) _ _ _ _ _ _ _ _, by have h9 := HG3.out.size; have h8 : w3.heap.size ≤ b := hb; omega⟩) (n + 1) j _ HJ.out (n + 1) (Nat.le_refl _))
    by_cases qd : dig c = true
    · have HV : Hid (vM P t = numJ t) := Lib.hid (by rw [ht]; simp [vM, isH, q110, q116, q102, q34, q91, q123, q45, qd])
      have HFB : Hid (FB R c = some (fnR 68 R)) := Lib.hid (FB_dig R qd)
      clear ht qd q110 q116 q102 q34 q91 q123 q45
      obtain ⟨B, hB⟩ : ∃ B, B = Sx t := ⟨_, rfl⟩
      rw [← hB] at hsz hne hix
      have HB := Lib.hid hB
      clear hB
      go_enter Tryz.func32, Tryz.ntmps32
      go_wp2_with (first | (go_at_call 33; ((with_reducible refine KB.mono ?_); rintro r w3 ⟨rfl, hc, hg⟩); have HC := Lib.hid hc; have hff := HF.out w3 hc hg; have HE3 := Lib.hid hff.1; have HM3 := Lib.hid hff.2.1; have HQ3 := Lib.hid hff.2.2.1; have HG3 := Lib.hid hff.2.2.2; obtain ⟨c0, c1, c2, f0, f1, f2⟩ := hc.cells; obtain ⟨y0, y1, y2, y3, y4, y5, y6, y7⟩ := cells8 HQ3.out; obtain ⟨z0, z1, z2, z3, z4, z5, z6, z7⟩ := unfroz8 HQ3.out; clear hc hg hff; rw [← HB.out] at c0))
      obtain ⟨v, hv, hlk⟩ := mlook (HM3.out.gr (gdrew w3)) c
      have hv2 := hv _ HFB.out
      subst hv2
      rw [HFB.out, Option.isSome_some] at hlk
      have KV := Lib.hid (number_any R M t d w3.drew (HC.out.gr (gdrew w3)) HTL.out n)
      clear hv
      go_region
      all_goals (go_wp2_with (go_at_call 68; ((with_reducible refine KV.out.mono ?_); rintro r w4 ⟨j, iv, nv, e, s', rfl, hj, hc, hg, hmm⟩); obtain ⟨a1, q1, a2, q2, rfl, rfl⟩ := hj.shape; have HJ := Lib.hid hj; have H4 := Lib.hid hc; have G4 := Lib.hid hg; have M4 := Lib.hid hmm; have hq4 := (hg.block _ (lt_of_block HQ3.out) (by intro e; injection e with e; have := HRl.out; omega)).trans HQ3.out; have HQ4 := Lib.hid hq4; clear y0 y1 y2 y3 y4 y5 y6 y7 z0 z1 z2 z3 z4 z5 z6 z7; obtain ⟨y0, y1, y2, y3, y4, y5, y6, y7⟩ := cells8 hq4; obtain ⟨z0, z1, z2, z3, z4, z5, z6, z7⟩ := unfroz8 hq4; clear hj hc hg hmm hq4)
                 refine bodyPost_ret (results_Val2 rfl _ _ w.heap.size _ _ rfl rfl (set8 HQ4.out) rfl) rfl ⟨j, _, _, e, s', rfl, ?_, (set8_other (by have := HRl.out; omega) _ _ _ _ _ _ _ _).trans H4.out, gr_set8 (gtrans HG3.out (gtrans (gwide (gdrew w3)) G4.out)) (Nat.le_refl _) _ _ _ _ _ _ _ _, by rw [HV.out]; exact M4.out⟩
                 exact JV.keep (fun b hb hlt => ⟨set8_other (by have h9 := lt_of_block HQ3.out; have h8 : w3.heap.size ≤ b := hb; omega) _ _ _ _ _ _ _ _, by have h9 := HG3.out.size; have h8 : w3.heap.size ≤ b := hb; omega⟩) (n + 1) j _ HJ.out (n + 1) (Nat.le_refl _))
    · have HV : Hid (vM P t = .error 11) := Lib.hid (by rw [ht]; simp [vM, isH, q110, q116, q102, q34, q91, q123, q45, qd])
      have HFB : Hid (FB R c = none) := Lib.hid (by rw [FB_not R (by simpa using qd)]; simp [F7, F0, upF, q110, q116, q102, q34, q91, q123, q45])
      clear ht qd q110 q116 q102 q34 q91 q123 q45
      obtain ⟨B, hB⟩ : ∃ B, B = Sx t := ⟨_, rfl⟩
      rw [← hB] at hsz hne hix
      have HB := Lib.hid hB
      clear hB
      go_enter Tryz.func32, Tryz.ntmps32
      go_wp2_with (first | (go_at_call 33; ((with_reducible refine KB.mono ?_); rintro r w3 ⟨rfl, hc, hg⟩); have HC := Lib.hid hc; have hff := HF.out w3 hc hg; have HE3 := Lib.hid hff.1; have HM3 := Lib.hid hff.2.1; have HQ3 := Lib.hid hff.2.2.1; have HG3 := Lib.hid hff.2.2.2; obtain ⟨c0, c1, c2, f0, f1, f2⟩ := hc.cells; obtain ⟨y0, y1, y2, y3, y4, y5, y6, y7⟩ := cells8 HQ3.out; obtain ⟨z0, z1, z2, z3, z4, z5, z6, z7⟩ := unfroz8 HQ3.out; clear hc hg hff; rw [← HB.out] at c0))
      obtain ⟨v, hv, hlk⟩ := mlook (HM3.out.gr (gdrew w3)) c
      rw [HFB.out, Option.isSome_none] at hlk
      clear hv
      go_region
      have HQ5 : Hid (w3.drew.heap[w.heap.size]? = some (.cells zeroV 28 (0, 0))) := Lib.hid HQ3.out
      have HC5 := Lib.hid (HC.out.gr (gdrew w3))
      have HG5 := Lib.hid (gtrans HG3.out (gwide (gdrew w3)))
      clear y0 y1 y2 y3 y4 y5 y6 y7 z0 z1 z2 z3 z4 z5 z6 z7 hlk c0 c1 c2 f0 f1 f2
      generalize w3.drew = W3 at *
      obtain ⟨y0, y1, y2, y3, y4, y5, y6, y7⟩ := cells8 HQ5.out
      obtain ⟨z0, z1, z2, z3, z4, z5, z6, z7⟩ := unfroz8 HQ5.out
      go_wp2
      refine bodyPost_ret (results_Val2 rfl _ _ w.heap.size _ _ rfl rfl (set8 HQ5.out) rfl) rfl ⟨.null, nilS, nilS, 11, t, rfl, JV.flat _ rfl rfl n, (set8_other (by have := HRl.out; omega) _ _ _ _ _ _ _ _).trans HC5.out, gr_set8 HG5.out (Nat.le_refl _) _ _ _ _ _ _ _ _, by rw [HV.out]; exact ⟨rfl, by omega⟩⟩


end Go.Proofs.YticnfmfmgdfdeaaGreatDoor
