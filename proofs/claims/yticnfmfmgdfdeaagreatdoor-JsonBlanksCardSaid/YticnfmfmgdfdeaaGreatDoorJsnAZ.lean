/-
  slices.Insert, whatever the road; what lists become. Own work.
-/
import Derived.Test.YticnfmfmgdfdeaaGreatDoorJsnAX
import Derived.Test.YticnfmfmgdfdeaaGreatDoorJsnAY
import Derived.Test.YticnfmfmgdfdeaaGreatDoorJsnAW
import Derived.Deep.RegionLaw

set_option linter.unusedVariables false
set_option linter.unusedSimpArgs false
namespace Go.Proofs.YticnfmfmgdfdeaaGreatDoor
open Go.RowKit

theorem ins_list {α : Type} : ∀ (l : List α) (i : Nat) (a : α), i ≤ l.length → l.insertIdx i a = l.take i ++ a :: l.drop i
  | l, 0, a, _ => by simp
  | [], i + 1, a, h => by simp at h
  | x :: l, i + 1, a, h => by
    have := ins_list l i a (by simpa using h)
    simp [this]
theorem ins_len {α : Type} (l : List α) (i : Nat) (a : α) (h : i ≤ l.length) : (l.insertIdx i a).length = l.length + 1 := by
  rw [ins_list l i a h, List.length_append, List.length_cons, List.length_take, List.length_drop]
  omega
theorem flat_take : ∀ (us : List (Array Value)) (i : Nat), (∀ u ∈ us, u.size = 8) → (flatC us).take (i * 8) = flatC (us.take i)
  | us, 0, _ => by simp [flatC]
  | [], i + 1, _ => by simp [flatC]
  | u :: us, i + 1, h => by
    have h1 := h u (by simp)
    have ih := flat_take us i (fun x hx => h x (by simp [hx]))
    unfold flatC at *
    rw [List.flatMap_cons, List.take_succ_cons, List.flatMap_cons, ← ih, List.take_append]
    rw [Array.length_toList, h1, List.take_of_length_le (by rw [Array.length_toList, h1]; omega), show (i + 1) * 8 - 8 = i * 8 by omega]
theorem flat_drop : ∀ (us : List (Array Value)) (i : Nat), (∀ u ∈ us, u.size = 8) → (flatC us).drop (i * 8) = flatC (us.drop i)
  | us, 0, _ => by simp [flatC]
  | [], i + 1, _ => by simp [flatC]
  | u :: us, i + 1, h => by
    have h1 := h u (by simp)
    have ih := flat_drop us i (fun x hx => h x (by simp [hx]))
    unfold flatC at *
    rw [List.flatMap_cons, List.drop_succ_cons, ← ih, List.drop_append]
    rw [Array.length_toList, h1, List.drop_eq_nil_of_le (by rw [Array.length_toList, h1]; omega), List.nil_append, show (i + 1) * 8 - 8 = i * 8 by omega]
theorem insC_flat (us : List (Array Value)) (i : Nat) (u : Array Value) (h : ∀ u ∈ us, u.size = 8) (hi : i ≤ us.length) : insC 8 i (flatC us) u.toList = flatC (us.insertIdx i u) := by
  unfold insC
  rw [flat_take us i h, flat_drop us i h, ins_list us i u hi]
  unfold flatC
  rw [List.flatMap_append, List.flatMap_cons, List.append_assoc]
abbrev strs (ns : List Bs) : List Value := ns.map fun m => .string (Sx m)
theorem insC_strs (ns : List Bs) (i : Nat) (m : Bs) (hi : i ≤ ns.length) : insC 1 i (strs ns) [.string (Sx m)] = strs (ns.insertIdx i m) := by
  unfold insC
  rw [Nat.mul_one, ins_list ns i m hi]
  simp [strs, List.map_take, List.map_drop]
theorem strs_one (ns : List Bs) : ∀ u ∈ strs ns, u.oneCell' = true := by
  intro u hu
  obtain ⟨m, -, rfl⟩ := List.mem_map.1 hu
  rfl
theorem posM_leK (ns : List Bs) (m : Bs) : posM ns m ≤ ns.length := (List.takeWhile_sublist _).length_le
theorem ltB_tot {a b : Bs} (h : ltB a b = false) (hn : a ≠ b) : ltB b a = true := by
  rw [ltB_cmp] at *
  simp only [decide_eq_false_iff_not, decide_eq_true_eq] at *
  have h1 := cmpB_anti a b
  rcases cmpB_range a b with e | e | e
  · omega
  · exact absurd (cmpB_eq a b e) hn
  · omega
theorem ris_ins {ns : List Bs} {m : Bs} (h : Ris ns) (hm : hasM ns m = false) : Ris (ns.insertIdx (posM ns m) m) := by
  have hp := posM_leK ns m
  rw [ins_list ns _ m hp]
  unfold Ris
  rw [List.pairwise_append]
  refine ⟨h.sublist (List.take_sublist _ _), ?_, ?_⟩
  · rw [List.pairwise_cons]
    refine ⟨fun b hb => ?_, h.sublist (List.drop_sublist _ _)⟩
    obtain ⟨k, hk⟩ := List.mem_iff_getElem?.1 hb
    rw [List.getElem?_drop] at hk
    have h1 := posM_ge h (m := m) (Nat.le_add_right (posM ns m) k) hk
    refine ltB_tot h1 (fun e => ?_)
    subst e
    -- the name would be there
    have h2 := hm
    unfold hasM at h2
    have hlt : posM ns b < ns.length := by have := (List.getElem?_eq_some_iff.1 hk).1; omega
    have h0 : ltB ns[posM ns b] b = false := posM_ge h (Nat.le_refl _) (List.getElem?_eq_getElem hlt)
    by_cases hk0 : k = 0
    · subst hk0
      rw [Nat.add_zero] at hk
      rw [hk] at h2
      simp at h2
    · have hkl := (List.getElem?_eq_some_iff.1 hk).1
      have h3 := List.pairwise_iff_getElem.1 h (posM ns b) (posM ns b + k) hlt hkl (by omega)
      have hx : ns[posM ns b + k] = b := by rw [List.getElem?_eq_getElem hkl] at hk; injection hk
      rw [hx] at h3
      rw [h3] at h0
      cases h0
  · intro a ha b hb
    obtain ⟨k, hk⟩ := List.mem_iff_getElem?.1 ha
    rw [List.getElem?_take] at hk
    split at hk
    · rename_i hlt
      have h1 := posM_lt hlt hk
      rcases List.mem_cons.1 hb with e | hb
      · rw [e]; exact h1
      · obtain ⟨q, hq⟩ := List.mem_iff_getElem?.1 hb
        rw [List.getElem?_drop] at hq
        have hkl := (List.getElem?_eq_some_iff.1 hk).1
        have hql := (List.getElem?_eq_some_iff.1 hq).1
        have h3 := List.pairwise_iff_getElem.1 h k (posM ns m + q) hkl hql (by omega)
        rw [List.getElem?_eq_getElem hkl] at hk
        rw [List.getElem?_eq_getElem hql] at hq
        injection hk with hk
        injection hq with hq
        rw [hk, hq] at h3
        exact h3
    · cases hk

theorem insS_any (B n i vb : Nat) (v : Value) (xs news : List Value) (w : World) (hown : w.ownsRow B 9 1 v n xs) (hi : i ≤ n) (hn : n ≤ 100000) (hB : B ≤ w.heap.size) (hnl : news.length = 1) (h1 : ∀ u ∈ news, u.oneCell' = true) (h1x : ∀ u ∈ xs, u.oneCell' = true)
    (hlit : w.heap[vb]? = some (.cells news.toArray 9 (0, 0))) (hne : ∀ g, v.ownBlock = some g → vb ≠ g) :
    Calls Tryz.prog 150 #[v, .int .i64 i, .slice (some ⟨vb, 0, none⟩) 1 1] w fun r w' => ∃ v', r = .returned v' ∧ w'.ownsRow B 9 1 v' (n + 1) (insC 1 i xs news) ∧ w.grownBy w' v.ownBlock ∧ Fresh w v v' := by
  by_cases hin : i = n
  · subst hin
    exact insS_end B i vb v xs news w hown hn hB hnl h1 hlit
  · rcases hown.2 with ⟨rfl, h0⟩ | ⟨g, c, cur, rfl, hb, hg, hnc, hr⟩
    · omega
    · by_cases hc : c < n + 1
      · exact insS_grow B n i vb g c xs news w hown (by omega) hn hc hB hnl h1 h1x hlit
      · exact insS_shift B n i vb g c xs news w hown (by omega) hn (by omega) hnl h1 h1x hlit (hne g rfl)

theorem insV_any (B n i vb : Nat) (v : Value) (xs news : List Value) (w : World) (hown : w.ownsRow B 28 8 v n xs) (hi : i ≤ n) (hn : n ≤ 100000) (hB : B ≤ w.heap.size) (hnl : news.length = 8) (h1 : ∀ u ∈ news, u.oneCell' = true) (h1x : ∀ u ∈ xs, u.oneCell' = true)
    (hlit : w.heap[vb]? = some (.cells news.toArray 28 (0, 0))) (hne : ∀ g, v.ownBlock = some g → vb ≠ g) :
    Calls Tryz.prog 151 #[v, .int .i64 i, .slice (some ⟨vb, 0, none⟩) 1 1] w fun r w' => ∃ v', r = .returned v' ∧ w'.ownsRow B 28 8 v' (n + 1) (insC 8 i xs news) ∧ w.grownBy w' v.ownBlock ∧ Fresh w v v' := by
  by_cases hin : i = n
  · subst hin
    exact insV_end B i vb v xs news w hown hn hB hnl h1 hlit
  · rcases hown.2 with ⟨rfl, h0⟩ | ⟨g, c, cur, rfl, hb, hg, hnc, hr⟩
    · omega
    · by_cases hc : c < n + 1
      · exact insV_grow B n i vb g c xs news w hown (by omega) hn hc hB hnl h1 h1x hlit
      · exact insV_shift B n i vb g c xs news w hown (by omega) hn (by omega) hnl h1 h1x hlit (hne g rfl)

end Go.Proofs.YticnfmfmgdfdeaaGreatDoor

namespace Go.Proofs.YticnfmfmgdfdeaaGreatDoor
open Go.RowKit

theorem own_ge {W : World} {B k n : Nat} {e : TypeId} {v : Value} {xs : List Value} (ho : W.ownsRow B e k v n xs) {g : Nat} (h : v.ownBlock = some g) : B ≤ g ∧ ∃ cur, W.heap[g]? = some (.cells cur e (0, 0)) := by
  rcases ho.2 with ⟨rfl, _⟩ | ⟨q, cap, cur, rfl, hb, hg, _⟩
  · cases h
  · cases h
    exact ⟨hb, cur, hg⟩
theorem own_keep {W W' : World} {B k n : Nat} {e : TypeId} {v : Value} {xs : List Value} (ho : W.ownsRow B e k v n xs) (h : ∀ g, v.ownBlock = some g → W'.heap[g]? = W.heap[g]?) : W'.ownsRow B e k v n xs := by
  refine ⟨ho.1, ?_⟩
  rcases ho.2 with hn | ⟨q, cap, cur, rfl, hb, hg, r⟩
  · exact .inl hn
  · exact .inr ⟨q, cap, cur, rfl, hb, (h q rfl).trans hg, r⟩
theorem own_two {W : World} {B k1 k2 n1 n2 : Nat} {e1 e2 : TypeId} {v1 v2 : Value} {xs ys : List Value} (h1 : W.ownsRow B e1 k1 v1 n1 xs) (h2 : W.ownsRow B e2 k2 v2 n2 ys) (he : e1 ≠ e2) {g : Nat} (hg : v1.ownBlock = some g) : v2.ownBlock ≠ some g := by
  intro h
  obtain ⟨_, c1, a1⟩ := own_ge h1 hg
  obtain ⟨_, c2, a2⟩ := own_ge h2 h
  rw [a1] at a2
  injection a2 with a2
  injection a2 with _ a2
  exact he a2
theorem own_rowS {W : World} {B : Nat} {v : Value} {ns : List Bs} (h : W.ownsRow B 9 1 v ns.length (strs ns)) : RowS (fun _ => True) W v ns := by
  rcases h.2 with ⟨rfl, hn⟩ | ⟨g, cap, cur, rfl, hb, hg, hnc, hc, hs, ht⟩
  · have hl : ns = [] := List.eq_nil_of_length_eq_zero hn
    subst hl
    exact ⟨none, 0, rfl, by simp, by simp [maxLen], fun h => absurd rfl h⟩
  · refine ⟨some ⟨g, 0, none⟩, cap, rfl, hnc, hc, fun _ => ⟨g, 0, rfl, trivial, fun k x hk => ?_⟩⟩
    have := World.ownsRow.cells h (g := g) rfl k (.string (Sx x)) (by simp [strs, hk])
    rw [Nat.zero_add]
    rwa [addr_add, Nat.zero_add] at this
/-- A row of values, as OV; what its values hold lies apart from block X, too. -/
def OW (n B : Nat) (X : Option Nat) (w : World) (iv : Value) (l : List J) : Prop :=
  ∃ us : List (Array Value), us.length = l.length ∧ (∀ u ∈ us, u.size = 8) ∧ w.ownsRow B 28 8 iv l.length (flatC us) ∧
    ∀ (k : Nat) (x : J) (u : Array Value), l[k]? = some x → us[k]? = some u → JV (fun b => (B ≤ b ∧ X ≠ some b) ∧ iv.ownBlock ≠ some b) n x w (.agg u)
theorem ow_nil (n B : Nat) (X : Option Nat) (w : World) : OW n B X w nilS [] := ⟨[], rfl, by simp, World.ownsRow_nil _ _ _ _, by simp⟩
theorem OW.ov {n B : Nat} {X : Option Nat} {w : World} {iv : Value} {l : List J} (h : OW n B X w iv l) : OV n B w iv l := by
  obtain ⟨us, h1, h2, h3, h4⟩ := h
  exact ⟨us, h1, h2, h3, fun k x u a b => (h4 k x u a b).wide (fun b hb => ⟨hb.1.1, hb.2⟩) (Nat.le_refl _)⟩
theorem OW.keep {n B : Nat} {X X' : Option Nat} {w w' : World} {iv : Value} {l : List J} (h : OW n B X w iv l) (g : ∀ b, B ≤ b → X ≠ some b → b < w.heap.size → w'.heap[b]? = w.heap[b]?) (hX : ∀ b, X = some b → iv.ownBlock ≠ some b)
    (hX' : ∀ b, b < w.heap.size → X ≠ some b → X' ≠ some b) : OW n B X' w' iv l := by
  obtain ⟨us, h1, h2, h3, h4⟩ := h
  refine ⟨us, h1, h2, own_keep h3 (fun b hb => ?_), fun k x u hk hu => JV.keep (fun b hb hlt => ⟨g b hb.1.1 hb.1.2 hlt, ⟨hb.1.1, hX' b hlt hb.1.2⟩, hb.2⟩) n x _ (h4 k x u hk hu) n (Nat.le_refl _)⟩
  obtain ⟨h5, cur, h6⟩ := own_ge h3 hb
  exact g b h5 (fun e => hX b e hb) (lt_of_block h6)
/-- The cells of an object that is read. -/
abbrev obC (iv nv : Value) : Array Value := #[.int .i64 5, .bool false, .bool false, .string ⟨#[]⟩, .int .i64 0, .string ⟨#[]⟩, iv, nv]
/-- Where an object's reading stands. -/
structure OI (n Bx Vb R M N : Nat) (x : List Bs × List J) (w : World) : Prop where
  bx : w.heap[Bx]? = some (.cells #[pR R] 61 (0, 0))
  mp : Mp w M N (FB R)
  ris : Ris x.1
  len : x.2.length = x.1.length
  vb : ∃ iv nv, w.heap[Vb]? = some (.cells (obC iv nv) 28 (0, 0)) ∧ w.ownsRow (Vb + 1) 9 1 nv x.1.length (strs x.1) ∧ OW n (Vb + 1) nv.ownBlock w iv x.2
theorem ow_apart {n B k m : Nat} {X : Option Nat} {w : World} {iv nv : Value} {l : List J} {xs : List Value} (h : OW n B X w iv l) (hn : w.ownsRow B 9 k nv m xs) : ∀ b, nv.ownBlock = some b → iv.ownBlock ≠ some b := by
  obtain ⟨us, _, _, h3, _⟩ := h
  exact fun b hb => own_two hn h3 (by decide) hb
theorem ob_g1 {n Vb R m : Nat} {w w' : World} {iv nv : Value} {xs : List Value} {l : List J} (g : G1 R w w') (h3 : R < Vb) (h : w.heap[Vb]? = some (.cells (obC iv nv) 28 (0, 0)) ∧ w.ownsRow (Vb + 1) 9 1 nv m xs ∧ OW n (Vb + 1) nv.ownBlock w iv l) :
    w'.heap[Vb]? = some (.cells (obC iv nv) 28 (0, 0)) ∧ w'.ownsRow (Vb + 1) 9 1 nv m xs ∧ OW n (Vb + 1) nv.ownBlock w' iv l := by
  obtain ⟨hv, hn, hw⟩ := h
  have hk : ∀ b, R ≠ b → b < w.heap.size → w'.heap[b]? = w.heap[b]? := fun b hb hlt => g.block b hlt (by intro e; injection e with e; exact hb e.symm)
  refine ⟨(hk Vb (by omega) (lt_of_block hv)).trans hv, own_keep hn (fun b hb => ?_), hw.keep (fun b hb _ hlt => hk b (by omega) hlt) (ow_apart hw hn) (fun b _ h => h)⟩
  obtain ⟨h5, cur, h6⟩ := own_ge hn hb
  exact hk b (by omega) (lt_of_block h6)
theorem OI.g1 {n Bx Vb R M N : Nat} {x : List Bs × List J} {w w' : World} (h : OI n Bx Vb R M N x w) (g : G1 R w w') (h1 : R ≠ Bx) (h2 : R ≠ M) (h3 : R < Vb) : OI n Bx Vb R M N x w' := by
  obtain ⟨iv, nv, h4⟩ := h.vb
  exact ⟨(g.block Bx (lt_of_block h.bx) (by intro e; injection e with e; exact h1 e.symm)).trans h.bx, h.mp.kept g (by intro e; injection e with e; exact h2 e.symm), h.ris, h.len, iv, nv, ob_g1 g h3 h4⟩
theorem FR.own {W W' : World} {B R B' k n : Nat} {e : TypeId} {v : Value} {xs : List Value} (ho : W.ownsRow B' e k v n xs) (hg : W.grownBy W' v.ownBlock) (hBB : B ≤ B') (he : e ≠ 61) (hB : B ≤ W.heap.size) : FR B R W W' := by
  cases hv : v.ownBlock with
  | none => rw [hv] at hg; exact FR.gr hg hB
  | some q =>
    rw [hv] at hg
    obtain ⟨h1, cur, h2⟩ := own_ge ho hv
    refine FR.row hg hB (.inl (by omega)) (fun c fr h => ?_)
    rw [h2] at h
    injection h with h
    injection h with _ h
    exact he h
theorem FR.cell {W : World} {B R q o : Nat} {c : Array Value} {v : Value} (hq : W.heap[q]? = some (.cells c 28 (0, 0))) (hBq : B ≤ q) (hB : B ≤ W.heap.size) : FR B R W (W.setCell ⟨q, o, none⟩ v) :=
  FR.row (gset W ⟨q, o, none⟩ v) hB (.inl hBq) (fun c fr h => by
    rw [hq] at h
    injection h with h
    injection h with _ h
    exact absurd h (by decide))
/-- A name more is laid: what stands behind it. -/
theorem names_step {n Vb B R m k : Nat} {nv nv' iv : Value} {W W4 : World} {xs ys : List Value} {l : List J} {j : J} {u : Value}
    (hv : W.heap[Vb]? = some (.cells (obC iv nv) 28 (0, 0))) (hn : W.ownsRow (Vb + 1) 9 1 nv m xs) (hw : OW n (Vb + 1) nv.ownBlock W iv l)
    (hj : JV (fun b => (Vb + 1 ≤ b ∧ nv.ownBlock ≠ some b) ∧ iv.ownBlock ≠ some b) n j W u)
    (hr : W4.ownsRow (Vb + 1) 9 1 nv' k ys) (hg : W.grownBy W4 nv.ownBlock) (hf : Fresh W nv nv') (hB : B ≤ Vb) :
    (W4.setCell ⟨Vb, 7, none⟩ nv').heap[Vb]? = some (.cells (obC iv nv') 28 (0, 0)) ∧ (W4.setCell ⟨Vb, 7, none⟩ nv').ownsRow (Vb + 1) 9 1 nv' k ys ∧ OW n (Vb + 1) nv'.ownBlock (W4.setCell ⟨Vb, 7, none⟩ nv') iv l ∧
    JV (fun b => (Vb + 1 ≤ b ∧ nv'.ownBlock ≠ some b) ∧ iv.ownBlock ≠ some b) n j (W4.setCell ⟨Vb, 7, none⟩ nv') u ∧ FR B R W (W4.setCell ⟨Vb, 7, none⟩ nv') ∧
    (∀ b, b < W.heap.size → b ≠ Vb → nv.ownBlock ≠ some b → (W4.setCell ⟨Vb, 7, none⟩ nv').heap[b]? = W.heap[b]?) := by
  have hVW := lt_of_block hv
  have hnV : nv.ownBlock ≠ some Vb := fun e => by have := (own_ge hn e).1; omega
  have hv4 : W4.heap[Vb]? = some (.cells (obC iv nv) 28 (0, 0)) := (hg.block Vb hVW (fun e => hnV e.symm)).trans hv
  have hsame : ∀ b, b < W.heap.size → b ≠ Vb → nv.ownBlock ≠ some b → (W4.setCell ⟨Vb, 7, none⟩ nv').heap[b]? = W.heap[b]? := fun b h1 h2 h3 => (set_other (fun e => h2 e.symm) 7 nv').trans (hg.block b h1 (fun e => h3 e.symm))
  have hX' : ∀ b, b < W.heap.size → nv.ownBlock ≠ some b → nv'.ownBlock ≠ some b := fun b h1 h2 => by
    rcases hf with e | ⟨q, e, hq⟩
    · rw [e]; exact h2
    · rw [e]; intro h; injection h with h; omega
  refine ⟨?_, own_keep hr (fun b hb => set_other (by have := (own_ge hr hb).1; omega) 7 nv'), hw.keep (fun b hb h1 h2 => hsame b h2 (by omega) h1) (ow_apart hw hn) hX', JV.keep (fun b hb hlt => ⟨hsame b hlt (by omega) hb.1.2, ⟨hb.1.1, hX' b hlt hb.1.2⟩, hb.2⟩) n j u hj n (Nat.le_refl _), (FR.own hn hg (by omega) (by decide) (by omega)).trans (FR.cell hv4 hB (by have := hg.size; omega)), hsame⟩
  have := set_cell hv4 7 nv'
  simpa using this
theorem ins_get {α : Type} (l : List α) (i : Nat) (a : α) (hi : i ≤ l.length) (k : Nat) : (l.insertIdx i a)[k]? = if k < i then l[k]? else if k = i then some a else l[k - 1]? := by
  rw [List.getElem?_insertIdx]
  split
  · rfl
  · split
    · rename_i h; rw [if_pos (by omega)]
    · rfl
/-- An item more is laid. -/
theorem items_step {n Vb B R i : Nat} {X : Option Nat} {nv iv iv' : Value} {W W4 : World} {l : List J} {j : J} {us : List (Array Value)} {u : Array Value}
    (hv : W.heap[Vb]? = some (.cells (obC iv nv) 28 (0, 0))) (hu1 : us.length = l.length) (hu2 : ∀ u ∈ us, u.size = 8) (hu3 : W.ownsRow (Vb + 1) 28 8 iv l.length (flatC us))
    (hu4 : ∀ (k : Nat) (x : J) (u : Array Value), l[k]? = some x → us[k]? = some u → JV (fun b => (Vb + 1 ≤ b ∧ X ≠ some b) ∧ iv.ownBlock ≠ some b) n x W (.agg u))
    (hj : JV (fun b => (Vb + 1 ≤ b ∧ X ≠ some b) ∧ iv.ownBlock ≠ some b) n j W (.agg u)) (hus : u.size = 8) (hi : i ≤ l.length)
    (hr : W4.ownsRow (Vb + 1) 28 8 iv' (l.length + 1) (insC 8 i (flatC us) u.toList)) (hg : W.grownBy W4 iv.ownBlock) (hf : Fresh W iv iv') (hB : B ≤ Vb) :
    (W4.setCell ⟨Vb, 6, none⟩ iv').heap[Vb]? = some (.cells (obC iv' nv) 28 (0, 0)) ∧ OW n (Vb + 1) X (W4.setCell ⟨Vb, 6, none⟩ iv') iv' (l.insertIdx i j) ∧ FR B R W (W4.setCell ⟨Vb, 6, none⟩ iv') ∧
    (∀ b, b < W.heap.size → b ≠ Vb → iv.ownBlock ≠ some b → (W4.setCell ⟨Vb, 6, none⟩ iv').heap[b]? = W.heap[b]?) := by
  have hVW := lt_of_block hv
  have hnV : iv.ownBlock ≠ some Vb := fun e => by have := (own_ge hu3 e).1; omega
  have hv4 : W4.heap[Vb]? = some (.cells (obC iv nv) 28 (0, 0)) := (hg.block Vb hVW (fun e => hnV e.symm)).trans hv
  have hsame : ∀ b, b < W.heap.size → b ≠ Vb → iv.ownBlock ≠ some b → (W4.setCell ⟨Vb, 6, none⟩ iv').heap[b]? = W.heap[b]? := fun b h1 h2 h3 => (set_other (fun e => h2 e.symm) 6 iv').trans (hg.block b h1 (fun e => h3 e.symm))
  have hX' : ∀ b, b < W.heap.size → iv.ownBlock ≠ some b → iv'.ownBlock ≠ some b := fun b h1 h2 => by
    rcases hf with e | ⟨q, e, hq⟩
    · rw [e]; exact h2
    · rw [e]; intro h; injection h with h; omega
  have key : ∀ y v, JV (fun b => (Vb + 1 ≤ b ∧ X ≠ some b) ∧ iv.ownBlock ≠ some b) n y W v → JV (fun b => (Vb + 1 ≤ b ∧ X ≠ some b) ∧ iv'.ownBlock ≠ some b) n y (W4.setCell ⟨Vb, 6, none⟩ iv') v := fun y v hy =>
    JV.keep (fun b hb hlt => ⟨hsame b hlt (by omega) hb.2, hb.1, hX' b hlt hb.2⟩) n y v hy n (Nat.le_refl _)
  refine ⟨?_, ⟨us.insertIdx i u, ?_, ?_, ?_, ?_⟩, (FR.own hu3 hg (by omega) (by decide) (by omega)).trans (FR.cell hv4 hB (by have := hg.size; omega)), hsame⟩
  · have := set_cell hv4 6 iv'
    simpa using this
  · rw [ins_len _ _ _ (by omega), ins_len _ _ _ hi, hu1]
  · intro v hv
    rw [ins_list _ _ _ (by omega)] at hv
    rcases List.mem_append.1 hv with hv | hv
    · exact hu2 v (List.mem_of_mem_take hv)
    · rcases List.mem_cons.1 hv with hv | hv
      · rw [hv]; exact hus
      · exact hu2 v (List.mem_of_mem_drop hv)
  · rw [ins_len _ _ _ hi, ← insC_flat us i u hu2 (by omega)]
    exact own_keep hr (fun b hb => set_other (by have := (own_ge hr hb).1; omega) 6 iv')
  · intro k y v hk hv
    rw [ins_get l i j hi] at hk
    rw [ins_get us i u (by omega)] at hv
    split at hk
    · rename_i h
      rw [if_pos h] at hv
      exact key _ _ (hu4 k y v hk hv)
    · rename_i h
      rw [if_neg h] at hv
      split at hk
      · rename_i h2
        rw [if_pos h2] at hv
        injection hk with hk
        injection hv with hv
        rw [← hk, ← hv]
        exact key _ _ hj
      · rename_i h2
        rw [if_neg h2] at hv
        exact key _ _ (hu4 _ y v hk hv)

end Go.Proofs.YticnfmfmgdfdeaaGreatDoor

namespace Go.Proofs.YticnfmfmgdfdeaaGreatDoor
open Go.RowKit

theorem find_ob (ns : List Bs) (l : List J) (m : Bs) (iv nv : Value) (w : World) (hs : RowS (fun _ => True) w nv ns) (hiv : ∃ a n c, iv = .slice a n c) (hR : Ris ns) (hl : ns.length ≤ 1000000) :
    Calls Tryz.prog 21 #[.agg (obC iv nv), .string (Sx m)] w fun r w' => r = .returned (.tuple #[.int .i64 (posM ns m : Nat), .bool (hasM ns m)]) ∧ Gr w w' :=
  find_any (fun _ => True) (.obj ns l) m iv nv w hs hiv hR hl rfl
theorem quot_yes {R M : Nat} {s m r1 : Bs} {d : Int} {w : World} (hq : quotM s = some (m, r1)) (hr : RC R M s d w) (hE : ES w) (hl : s.length ≤ 100000) :
    Calls Tryz.prog 110 #[pR R] w fun r w' => r = .returned (.tuple #[.string (Sx m), .bool true]) ∧ RC R M r1 d w' ∧ G1 R w w' := by
  have := quoted_any R M s d w hr hE hl
  unfold quotV quotR at this
  rw [hq] at this
  exact this
theorem quot_no {R M : Nat} {s : Bs} {d : Int} {w : World} (hq : quotM s = none) (hr : RC R M s d w) (hE : ES w) (hl : s.length ≤ 100000) :
    Calls Tryz.prog 110 #[pR R] w fun r w' => r = .returned (.tuple #[.string ⟨#[]⟩, .bool false]) ∧ RC R M s d w' ∧ G1 R w w' := by
  have := quoted_any R M s d w hr hE hl
  unfold quotV quotR at this
  rw [hq] at this
  exact this
theorem sign58 {R M : Nat} {s : Bs} {d : Int} {w : World} (b : Bool) (hb : isH 58 (blk s) = b) (hr : RC R M s d w) (hl : s.length ≤ 100000) :
    Calls Tryz.prog 149 #[pR R, .string ⟨#[58]⟩] w fun r w' => r = .returned (.bool b) ∧ RC R M (if b = true then (blk s).tail else blk s) d w' ∧ G1 R w w' := by
  have := jsign_any R M s [58] d w hr (by omega)
  rw [show Sx [58] = ⟨#[58]⟩ from rfl, pre1, hb] at this
  have htl : (blk s).drop ([58] : Bs).length = (blk s).tail := by cases blk s <;> rfl
  rw [htl] at this
  exact this

set_option maxRecDepth 100000 in
set_option maxHeartbeats 8000000 in
theorem memb_no (n Bx Vb R M N B : Nat) (d : Int) (P : Bs → Rd J) (ns : List Bs) (l : List J) (s : Bs) (w : World)
    (hr : RC R M s d w) (hi : OI n Bx Vb R M N (ns, l) w) (hE : ES w) (hB : B ≤ w.heap.size) (hl : s.length ≤ 100000) (h1 : R ≠ Bx) (h2 : R ≠ M) (h3 : R < Vb) (hq : quotM (blk s) = none) :
    Calls Tryz.prog 114 #[pR R, .pointer (some ⟨Vb, 0, none⟩)] w fun r w' => RowR (OI n Bx Vb R M N) B R M d w (membM P (ns, l) s) r w' := by
  have KB := blanks_any R M s d w hr
  have hbl := blkN s
  have hres : membM P (ns, l) s = .error 11 := by unfold membM; rw [hq]
  rw [hres]
  have KQ := Lib.hid (fun w' (a : RC R M (blk s) d w') (b : ES w') => quot_no hq a b (by omega))
  obtain ⟨iv, nv, hob⟩ := hi.vb
  have HC : Hid (∀ w', G1 R w w' → OI n Bx Vb R M N (ns, l) w' ∧ ES w' ∧ FR B R w w') := Lib.hid (fun w' g => ⟨hi.g1 g h1 h2 h3, hE.g1 hr g, FR.g1 hr g hB⟩)
  clear hi hE hr hob hB hl hres
  go_enter Tryz.func114, Tryz.ntmps114
  go_wp2_with (first
    | (go_at_call 33; ((with_reducible refine KB.mono ?_); rintro r w1 ⟨rfl, hc, hg⟩); have H1 := Lib.hid hc; have G1' := Lib.hid hg; have E1 := Lib.hid (HC.out _ hg).2.1; clear hc hg)
    | (go_at_call 110; ((with_reducible refine (KQ.out _ H1.out E1.out).mono ?_); rintro r w2 ⟨rfl, hc, hg⟩); have H2 := Lib.hid hc; have G2 := Lib.hid (gtrans G1'.out hg); clear hc hg))
  go_ret
  exact ⟨(ns, l), 11, blk s, rfl, H2.out, (HC.out _ G2.out).1, (HC.out _ G2.out).2.2, rfl, by omega⟩

set_option maxRecDepth 100000 in
set_option maxHeartbeats 8000000 in
theorem memb_has (n Bx Vb R M N B : Nat) (d : Int) (P : Bs → Rd J) (ns : List Bs) (l : List J) (s : Bs) (w : World)
    (hr : RC R M s d w) (hi : OI n Bx Vb R M N (ns, l) w) (hE : ES w) (hB : B ≤ w.heap.size) (hl : s.length ≤ 100000) (h1 : R ≠ Bx) (h2 : R ≠ M) (h3 : R < Vb) (m r1 : Bs) (hq : quotM (blk s) = some (m, r1)) (hhas : hasM ns m = true) (hnl : ns.length ≤ 100000) :
    Calls Tryz.prog 114 #[pR R, .pointer (some ⟨Vb, 0, none⟩)] w fun r w' => RowR (OI n Bx Vb R M N) B R M d w (membM P (ns, l) s) r w' := by
  have KB := blanks_any R M s d w hr
  have hbl := blkN s
  have hres : membM P (ns, l) s = .error 31 := by unfold membM; rw [hq]; simp [hhas]
  rw [hres]
  obtain ⟨iv, nv, hob⟩ := hi.vb
  have HC : Hid (∀ w', G1 R w w' → OI n Bx Vb R M N (ns, l) w' ∧ ES w' ∧ FR B R w w') := Lib.hid (fun w' g => ⟨hi.g1 g h1 h2 h3, hE.g1 hr g, FR.g1 hr g hB⟩)
  have HVF : Hid (∀ w', G1 R w w' → w'.heap[Vb]? = some (.cells (obC iv nv) 28 (0, 0)) ∧ w'.ownsRow (Vb + 1) 9 1 nv ns.length (strs ns) ∧ OW n (Vb + 1) nv.ownBlock w' iv l) := Lib.hid (fun w' g => ob_g1 g h3 hob)
  have hiv : ∃ a n c, iv = .slice a n c := by obtain ⟨ao, c, e⟩ := hob.2.2.ov.shape; exact ⟨_, _, _, e⟩
  have hnv : ∃ a n c, nv = .slice a n c := by obtain ⟨ao, c, e⟩ := own_shape hob.2.1; exact ⟨_, _, _, e⟩
  obtain ⟨ia, il, ic, rfl⟩ := hiv
  obtain ⟨na, nl, nc, rfl⟩ := hnv
  have KF : Hid (∀ w', G1 R w w' → Calls Tryz.prog 21 #[.agg (obC (.slice ia il ic) (.slice na nl nc)), .string (Sx m)] w' fun r w'' => r = .returned (.tuple #[.int .i64 (posM ns m : Nat), .bool true]) ∧ Gr w' w'') := Lib.hid (fun w' g => by
    have := find_ob ns l m (.slice ia il ic) (.slice na nl nc) w' (own_rowS (HVF.out w' g).2.1) ⟨_, _, _, rfl⟩ hi.ris (by omega)
    rw [hhas] at this
    exact this)
  have KQ := Lib.hid (fun w' (a : RC R M (blk s) d w') (b : ES w') => quot_yes hq a b (by omega))
  clear hi hE hr hob hB hl hres hnl
  go_enter Tryz.func114, Tryz.ntmps114
  go_wp2_with (first
    | (go_at_call 33; ((with_reducible refine KB.mono ?_); rintro r w1 ⟨rfl, hc, hg⟩); have H1 := Lib.hid hc; have G1' := Lib.hid hg; have E1 := Lib.hid (HC.out _ hg).2.1; clear hc hg)
    | (go_at_call 110; ((with_reducible refine (KQ.out _ H1.out E1.out).mono ?_); rintro r w2 ⟨rfl, hc, hg⟩); have H2 := Lib.hid hc; have G2 := Lib.hid (gtrans G1'.out hg); obtain ⟨v0, v1, v2, v3, v4, v5, v6, v7⟩ := cells8 (HVF.out _ G2.out).1; clear hc hg)
    | (go_at_call 21; ((with_reducible refine (KF.out _ G2.out).mono ?_); rintro r w3 ⟨rfl, hg⟩); have H3 := Lib.hid (H2.out.gr hg); have G3 := Lib.hid (gtrans G2.out (gwide hg)); clear hg))
  go_ret
  exact ⟨(ns, l), 31, r1, rfl, H3.out, (HC.out _ G3.out).1, (HC.out _ G3.out).2.2, rfl, by omega⟩

set_option maxRecDepth 100000 in
set_option maxHeartbeats 8000000 in
theorem memb_sign (n Bx Vb R M N B : Nat) (d : Int) (P : Bs → Rd J) (ns : List Bs) (l : List J) (s : Bs) (w : World)
    (hr : RC R M s d w) (hi : OI n Bx Vb R M N (ns, l) w) (hE : ES w) (hB : B ≤ w.heap.size) (hl : s.length ≤ 100000) (h1 : R ≠ Bx) (h2 : R ≠ M) (h3 : R < Vb) (m r1 : Bs) (hq : quotM (blk s) = some (m, r1)) (hhas : hasM ns m = false) (h58 : isH 58 (blk r1) = false) (hnl : ns.length ≤ 100000) :
    Calls Tryz.prog 114 #[pR R, .pointer (some ⟨Vb, 0, none⟩)] w fun r w' => RowR (OI n Bx Vb R M N) B R M d w (membM P (ns, l) s) r w' := by
  have KB := blanks_any R M s d w hr
  have hbl := blkN s
  have hql := quotM_len hq
  have hres : membM P (ns, l) s = .error 11 := by unfold membM; rw [hq]; simp [hhas, h58]
  rw [hres]
  have KS := Lib.hid (fun w' (a : RC R M r1 d w') => sign58 false h58 a (by omega))
  obtain ⟨iv, nv, hob⟩ := hi.vb
  have HC : Hid (∀ w', G1 R w w' → OI n Bx Vb R M N (ns, l) w' ∧ ES w' ∧ FR B R w w') := Lib.hid (fun w' g => ⟨hi.g1 g h1 h2 h3, hE.g1 hr g, FR.g1 hr g hB⟩)
  have HVF : Hid (∀ w', G1 R w w' → w'.heap[Vb]? = some (.cells (obC iv nv) 28 (0, 0)) ∧ w'.ownsRow (Vb + 1) 9 1 nv ns.length (strs ns) ∧ OW n (Vb + 1) nv.ownBlock w' iv l) := Lib.hid (fun w' g => ob_g1 g h3 hob)
  have hiv : ∃ a n c, iv = .slice a n c := by obtain ⟨ao, c, e⟩ := hob.2.2.ov.shape; exact ⟨_, _, _, e⟩
  have hnv : ∃ a n c, nv = .slice a n c := by obtain ⟨ao, c, e⟩ := own_shape hob.2.1; exact ⟨_, _, _, e⟩
  obtain ⟨ia, il, ic, rfl⟩ := hiv
  obtain ⟨na, nl, nc, rfl⟩ := hnv
  have KF : Hid (∀ w', G1 R w w' → Calls Tryz.prog 21 #[.agg (obC (.slice ia il ic) (.slice na nl nc)), .string (Sx m)] w' fun r w'' => r = .returned (.tuple #[.int .i64 (posM ns m : Nat), .bool false]) ∧ Gr w' w'') := Lib.hid (fun w' g => by
    have := find_ob ns l m (.slice ia il ic) (.slice na nl nc) w' (own_rowS (HVF.out w' g).2.1) ⟨_, _, _, rfl⟩ hi.ris (by omega)
    rw [hhas] at this
    exact this)
  have KQ := Lib.hid (fun w' (a : RC R M (blk s) d w') (b : ES w') => quot_yes hq a b (by omega))
  clear hi hE hr hob hB hl hres hnl hql
  go_enter Tryz.func114, Tryz.ntmps114
  go_wp2_with (first
    | (go_at_call 33; ((with_reducible refine KB.mono ?_); rintro r w1 ⟨rfl, hc, hg⟩); have H1 := Lib.hid hc; have G1' := Lib.hid hg; have E1 := Lib.hid (HC.out _ hg).2.1; clear hc hg)
    | (go_at_call 110; ((with_reducible refine (KQ.out _ H1.out E1.out).mono ?_); rintro r w2 ⟨rfl, hc, hg⟩); have H2 := Lib.hid hc; have G2 := Lib.hid (gtrans G1'.out hg); obtain ⟨v0, v1, v2, v3, v4, v5, v6, v7⟩ := cells8 (HVF.out _ G2.out).1; clear hc hg)
    | (go_at_call 21; ((with_reducible refine (KF.out _ G2.out).mono ?_); rintro r w3 ⟨rfl, hg⟩); have H3 := Lib.hid (H2.out.gr hg); have G3 := Lib.hid (gtrans G2.out (gwide hg)); clear hg)
    | (go_at_call 149; ((with_reducible refine (KS.out _ H3.out).mono ?_); rintro r w4 ⟨rfl, hc, hg⟩); have H4 := Lib.hid hc; have G4 := Lib.hid (gtrans G3.out hg); clear hc hg))
  go_ret
  exact ⟨(ns, l), 11, blk r1, rfl, H4.out, (HC.out _ G4.out).1, (HC.out _ G4.out).2.2, rfl, by omega⟩

end Go.Proofs.YticnfmfmgdfdeaaGreatDoor

namespace Go.Proofs.YticnfmfmgdfdeaaGreatDoor
open Go.RowKit

abbrev jC (j : J) (a1 a2 : Option Addr) (c1 c2 : Nat) : Array Value := #[.int .i64 j.kind, .bool j.isB, .bool j.nm.down, .string (Sx j.nm.digs), .int .i64 j.nm.exp, .string (Sx j.tx), .slice a1 j.items.length c1, .slice a2 j.names.length c2]
theorem jC_one (j : J) (a1 a2 : Option Addr) (c1 c2 : Nat) : ∀ u ∈ (jC j a1 a2 c1 c2).toList, u.oneCell' = true := by
  intro u hu
  simp at hu
  rcases hu with rfl | rfl | rfl | rfl | rfl | rfl | rfl | rfl <;> rfl
theorem flat_one {P : Nat → Prop} {n : Nat} {w : World} {l : List J} : ∀ (us : List (Array Value)), us.length = l.length → (∀ (k : Nat) (x : J) (u : Array Value), l[k]? = some x → us[k]? = some u → JV P n x w (.agg u)) → ∀ v ∈ flatC us, v.oneCell' = true := by
  intro us hl h v hv
  obtain ⟨u, hu, hv⟩ := List.mem_flatMap.1 hv
  obtain ⟨k, hk⟩ := List.mem_iff_getElem?.1 hu
  have hkl : k < l.length := by have := (List.getElem?_eq_some_iff.1 hk).1; omega
  have h2 := h k l[k] u (List.getElem?_eq_getElem hkl) hk
  cases n with
  | zero => cases h2
  | succ n =>
    obtain ⟨iv, nv, e, ⟨a2, c2, e2, _⟩, a1, c1, e1, _⟩ := h2
    injection e with e
    rw [e, e1, e2] at hv
    exact jC_one l[k] a1 a2 c1 c2 v hv
/-- The names are laid, the items not yet. -/
structure MS (n Bx Vb R M N B q : Nat) (d : Int) (s' : Bs) (names : List Bs) (l : List J) (j : J) (jc : Array Value) (iv nv : Value) (w W : World) : Prop where
  hv : W.heap[Vb]? = some (.cells (obC iv nv) 28 (0, 0))
  hn : W.ownsRow (Vb + 1) 9 1 nv names.length (strs names)
  hw : OW n (Vb + 1) nv.ownBlock W iv l
  hj : JV (fun b => (Vb + 1 ≤ b ∧ nv.ownBlock ≠ some b) ∧ iv.ownBlock ≠ some b) n j W (.agg jc)
  fr : FR B R w W
  rc : RC R M s' d W
  bx : W.heap[Bx]? = some (.cells #[pR R] 61 (0, 0))
  mp : Mp W M N (FB R)
  xb : W.heap[q]? = some (.cells jc 28 (0, 0))
theorem Mp.same {w w' : World} {M n : Nat} {F : UInt8 → Option Value} (h : Mp w M n F) (hk : w'.heap[M]? = w.heap[M]?) : Mp w' M n F := by
  obtain ⟨D, h1, h2⟩ := h
  obtain ⟨es, ck, hm, r⟩ := h1
  exact ⟨D, ⟨es, ck, hk.trans hm, r⟩, h2⟩
theorem MS.of {n Bx Vb R M N B : Nat} {d : Int} {s s' : Bs} {ns ns' : List Bs} {l : List J} {j : J} {jc : Array Value} {iv nv nv' : Value} {w w4 w5 w6 : World} {lit : Obj}
    (hr : RC R M s d w) (hB : B ≤ w.heap.size) (hBV : B ≤ Vb) (h3 : R < Vb) (hMB : M < Vb) (hBx : Bx < Vb) (hVw : Vb < w.heap.size)
    (g4 : G1 R w w4) (g5 : G1 R w4 w5) (hob : w5.heap[Vb]? = some (.cells (obC iv nv) 28 (0, 0)) ∧ w5.ownsRow (Vb + 1) 9 1 nv ns.length (strs ns) ∧ OW n (Vb + 1) nv.ownBlock w5 iv l)
    (hob0 : (∀ g, nv.ownBlock = some g → g < w.heap.size) ∧ (∀ g, iv.ownBlock = some g → g < w.heap.size))
    (hbx : w5.heap[Bx]? = some (.cells #[pR R] 61 (0, 0))) (hmp : Mp w5 M N (FB R)) (hrc : RC R M s' d w5)
    (hj : JV (fun b => w4.heap.size ≤ b) n j w5 (.agg jc))
    (hr6 : w6.ownsRow (Vb + 1) 9 1 nv' ns'.length (strs ns')) (hg6 : ((w5.alloc (.cells jc 28)).alloc lit).grownBy w6 nv.ownBlock) (hf6 : Fresh ((w5.alloc (.cells jc 28)).alloc lit) nv nv') :
    MS n Bx Vb R M N B w5.heap.size d s' ns' l j jc iv nv' w (w6.setCell ⟨Vb, 7, none⟩ nv') := by
  have hg := two_grown w5 (.cells jc 28) lit
  have hs4 := g4.size
  have hs5 := g5.size
  have hsz : ((w5.alloc (.cells jc 28)).alloc lit).heap.size = w5.heap.size + 2 := by simp
  have hk5 : ∀ b, b < w5.heap.size → ((w5.alloc (.cells jc 28)).alloc lit).heap[b]? = w5.heap[b]? := fun b hb => hg.block b hb (by simp)
  have hV5 : Vb < w5.heap.size := by omega
  have hv' := (hk5 Vb hV5).trans hob.1
  have hn' := own_keep hob.2.1 (fun b hb => hk5 b (by have := hob0.1 b hb; omega))
  have hw' : OW n (Vb + 1) nv.ownBlock ((w5.alloc (.cells jc 28)).alloc lit) iv l := hob.2.2.keep (fun b _ _ hlt => hk5 b hlt) (ow_apart hob.2.2 hob.2.1) (fun b _ h => h)
  have hj' : JV (fun b => (Vb + 1 ≤ b ∧ nv.ownBlock ≠ some b) ∧ iv.ownBlock ≠ some b) n j ((w5.alloc (.cells jc 28)).alloc lit) (.agg jc) :=
    (hj.gr hg).wide (fun b hb => ⟨⟨by omega, fun e => by have := hob0.1 b e; omega⟩, fun e => by have := hob0.2 b e; omega⟩) (Nat.le_refl _)
  obtain ⟨a1, a2, a3, a4, a5, a6⟩ := names_step (B := B) (R := R) hv' hn' hw' hj' hr6 hg6 hf6 hBV
  have hnown : ∀ b, b < Vb + 1 → nv.ownBlock ≠ some b := fun b hb e => by have := (own_ge hob.2.1 e).1; omega
  have hk7 : ∀ b, b < Vb → (w6.setCell ⟨Vb, 7, none⟩ nv').heap[b]? = w5.heap[b]? := fun b hb => (a6 b (by omega) (by omega) (hnown b (by omega))).trans (hk5 b (by omega))
  refine ⟨a1, a2, a3, a4, ((FR.g1 hr (gtrans g4 g5) hB).trans (FR.gr hg (by omega))).trans a5, (hk7 R h3).trans hrc, (hk7 Bx hBx).trans hbx, hmp.same (hk7 M hMB), ?_⟩
  exact (a6 w5.heap.size (by omega) (by omega) (fun e => by have := hob0.1 _ e; omega)).trans (two_lit0 w5 _ _)
theorem MS.fin {n Bx Vb R M N B q p : Nat} {d : Int} {s' : Bs} {ns : List Bs} {l : List J} {j : J} {jc : Array Value} {iv iv' nv : Value} {w W w8 : World} {us : List (Array Value)} {lit : Obj}
    (h : MS n Bx Vb R M N B q d s' ns l j jc iv nv w W) (hB : B ≤ w.heap.size) (hBV : B ≤ Vb) (h3 : R < Vb) (hMB : M < Vb) (hBx : Bx < Vb) (hris : Ris ns) (hlen : (l.insertIdx p j).length = ns.length) (hjc : jc.size = 8) (hp : p ≤ l.length)
    (hu1 : us.length = l.length) (hu2 : ∀ u ∈ us, u.size = 8) (hu3 : W.ownsRow (Vb + 1) 28 8 iv l.length (flatC us))
    (hu4 : ∀ (k : Nat) (x : J) (u : Array Value), l[k]? = some x → us[k]? = some u → JV (fun b => (Vb + 1 ≤ b ∧ nv.ownBlock ≠ some b) ∧ iv.ownBlock ≠ some b) n x W (.agg u))
    (hr : w8.ownsRow (Vb + 1) 28 8 iv' (l.length + 1) (insC 8 p (flatC us) jc.toList)) (hg : (W.drew.alloc lit).grownBy w8 iv.ownBlock) (hf : Fresh (W.drew.alloc lit) iv iv') :
    RC R M s' d (w8.setCell ⟨Vb, 6, none⟩ iv') ∧ OI n Bx Vb R M N (ns, l.insertIdx p j) (w8.setCell ⟨Vb, 6, none⟩ iv') ∧ FR B R w (w8.setCell ⟨Vb, 6, none⟩ iv') := by
  have hga : Gr W (W.drew.alloc lit) := gtrans (gdrew W) (World.grownBy_alloc W.drew lit none)
  have hVW := lt_of_block h.hv
  have hk : ∀ b, b < W.heap.size → (W.drew.alloc lit).heap[b]? = W.heap[b]? := fun b hb => hga.block b hb (by simp)
  have hv' := (hk Vb hVW).trans h.hv
  have hu3' : (W.drew.alloc lit).ownsRow (Vb + 1) 28 8 iv l.length (flatC us) := own_keep hu3 (fun b hb => by obtain ⟨_, c, h9⟩ := own_ge hu3 hb; exact hk b (lt_of_block h9))
  obtain ⟨a1, a2, a3, a4⟩ := items_step (B := B) (R := R) hv' hu1 hu2 hu3' (fun k x u a b => (hu4 k x u a b).gr hga) (h.hj.gr hga) hjc hp hr hg hf hBV
  have hiown : ∀ b, b < Vb + 1 → iv.ownBlock ≠ some b := fun b hb e => by have := (own_ge hu3 e).1; omega
  have hs := hga.size
  have hk7 : ∀ b, b < Vb → (w8.setCell ⟨Vb, 6, none⟩ iv').heap[b]? = W.heap[b]? := fun b hb => (a4 b (by omega) (by omega) (hiown b (by omega))).trans (hk b (by omega))
  have hn8 : (w8.setCell ⟨Vb, 6, none⟩ iv').ownsRow (Vb + 1) 9 1 nv ns.length (strs ns) := own_keep h.hn (fun b hb => by
    obtain ⟨h8, c, h9⟩ := own_ge h.hn hb
    have hlt := lt_of_block h9
    exact (a4 b (by omega) (by omega) (own_two h.hn hu3 (by decide) hb)).trans (hk b hlt))
  exact ⟨(hk7 R h3).trans h.rc, ⟨(hk7 Bx hBx).trans h.bx, h.mp.same (hk7 M hMB), hris, hlen, iv', nv, a1, hn8, a2⟩, (h.fr.trans (FR.gr hga (Nat.le_trans hB h.fr.size))).trans a3⟩

end Go.Proofs.YticnfmfmgdfdeaaGreatDoor

namespace Go.Proofs.YticnfmfmgdfdeaaGreatDoor
open Go.RowKit

set_option maxRecDepth 100000 in
set_option maxHeartbeats 8000000 in
theorem memb_value (n Bx Vb R M N B : Nat) (d : Int) (P : Bs → Rd J) (ns : List Bs) (l : List J) (s : Bs) (w : World)
    (hr : RC R M s d w) (hi : OI n Bx Vb R M N (ns, l) w) (hE : ES w) (hB : B ≤ w.heap.size) (hl : s.length ≤ 100000) (h1 : R ≠ Bx) (h2 : R ≠ M) (h3 : R < Vb) (hMB : M < Vb) (hBx : Bx < Vb) (hBV : B ≤ Vb)
    (hV : ∀ s w, RC R M s d w → ES w → Mp w M N (FB R) → s.length ≤ 100000 → Calls Tryz.prog 32 #[pR R] w fun r w' => RdR n (P s) R M d w r w')
    (m r1 : Bs) (hq : quotM (blk s) = some (m, r1)) (hhas : hasM ns m = false) (h58 : isH 58 (blk r1) = true) (hnl : ns.length ≤ 99999) :
    Calls Tryz.prog 114 #[pR R, .pointer (some ⟨Vb, 0, none⟩)] w fun r w' => RowR (OI n Bx Vb R M N) B R M d w (membM P (ns, l) s) r w' := by
  have KB := blanks_any R M s d w hr
  have hbl := blkN s
  have hql := quotM_len hq
  have hbr := blkN r1
  have hbt : (blk r1).tail.length ≤ (blk r1).length := by simp
  have hpl := posM_le ns m
  have hlen0 : l.length = ns.length := hi.len
  have hVw : Vb < w.heap.size := by obtain ⟨_, _, h, _⟩ := hi.vb; exact lt_of_block h
  obtain ⟨res, hres⟩ : ∃ res, res = membM P (ns, l) s := ⟨_, rfl⟩
  rw [← hres]
  unfold membM at hres
  rw [hq] at hres
  simp only [hhas, h58, Bool.false_eq_true, if_false, if_true] at hres
  obtain ⟨t, ht⟩ : ∃ t, t = (blk r1).tail := ⟨_, rfl⟩
  have KV := Lib.hid (fun w' (a : RC R M t d w') (b : ES w') (c : Mp w' M N (FB R)) => hV t w' a b c (by rw [ht]; omega))
  unfold RdR at KV
  have KS : Hid (∀ w', RC R M r1 d w' → Calls Tryz.prog 149 #[pR R, .string ⟨#[58]⟩] w' fun r w'' => r = .returned (.bool true) ∧ RC R M t d w'' ∧ G1 R w' w'') := Lib.hid (fun w' a => by
    have := sign58 true h58 a (by omega)
    rw [ht]
    exact this)
  rw [← ht] at hres
  obtain ⟨iv, nv, hob⟩ := hi.vb
  have HC : Hid (∀ w', G1 R w w' → OI n Bx Vb R M N (ns, l) w' ∧ ES w' ∧ FR B R w w') := Lib.hid (fun w' g => ⟨hi.g1 g h1 h2 h3, hE.g1 hr g, FR.g1 hr g hB⟩)
  have HVF : Hid (∀ w', G1 R w w' → w'.heap[Vb]? = some (.cells (obC iv nv) 28 (0, 0)) ∧ w'.ownsRow (Vb + 1) 9 1 nv ns.length (strs ns) ∧ OW n (Vb + 1) nv.ownBlock w' iv l) := Lib.hid (fun w' g => ob_g1 g h3 hob)
  have hiv : ∃ a n c, iv = .slice a n c := by obtain ⟨ao, c, e⟩ := hob.2.2.ov.shape; exact ⟨_, _, _, e⟩
  have hnv : ∃ a n c, nv = .slice a n c := by obtain ⟨ao, c, e⟩ := own_shape hob.2.1; exact ⟨_, _, _, e⟩
  obtain ⟨ia, il, ic, rfl⟩ := hiv
  obtain ⟨na, nl, nc, rfl⟩ := hnv
  have KF : Hid (∀ w', G1 R w w' → Calls Tryz.prog 21 #[.agg (obC (.slice ia il ic) (.slice na nl nc)), .string (Sx m)] w' fun r w'' => r = .returned (.tuple #[.int .i64 (posM ns m : Nat), .bool false]) ∧ Gr w' w'') := Lib.hid (fun w' g => by
    have := find_ob ns l m (.slice ia il ic) (.slice na nl nc) w' (own_rowS (HVF.out w' g).2.1) ⟨_, _, _, rfl⟩ hi.ris (by omega)
    rw [hhas] at this
    exact this)
  have KQ := Lib.hid (fun w' (a : RC R M (blk s) d w') (b : ES w') => quot_yes hq a b (by omega))
  have hown0 : (∀ g, (Value.slice na nl nc).ownBlock = some g → g < w.heap.size) ∧ (∀ g, (Value.slice ia il ic).ownBlock = some g → g < w.heap.size) := ⟨fun g e => by
      obtain ⟨_, c, h⟩ := own_ge hob.2.1 e; exact lt_of_block h, fun g e => by
      obtain ⟨us, _, _, h4, _⟩ := hob.2.2
      obtain ⟨_, c, h⟩ := own_ge h4 e; exact lt_of_block h⟩
  have KN : Hid (∀ w5 jc, G1 R w w5 → Calls Tryz.prog 150 #[.slice na nl nc, .int .i64 (posM ns m : Nat), .slice (some ⟨w5.heap.size + 1, 0, none⟩) 1 1] ((w5.alloc (.cells jc 28)).alloc (.cells #[.string (Sx m)] 9)) fun r w6 =>
      ∃ v', r = .returned v' ∧ w6.ownsRow (Vb + 1) 9 1 v' (ns.length + 1) (strs (ns.insertIdx (posM ns m) m)) ∧ ((w5.alloc (.cells jc 28)).alloc (.cells #[.string (Sx m)] 9)).grownBy w6 (Value.slice na nl nc).ownBlock ∧ Fresh ((w5.alloc (.cells jc 28)).alloc (.cells #[.string (Sx m)] 9)) (.slice na nl nc) v') := Lib.hid (fun w5 jc g => by
    have hn5 := (HVF.out w5 g).2.1
    have hn' := own_keep (W' := (w5.alloc (.cells jc 28)).alloc (.cells #[.string (Sx m)] 9)) hn5 (fun b hb => by
      obtain ⟨_, c, h⟩ := own_ge hn5 hb
      exact (two_grown w5 _ _).block b (lt_of_block h) (by simp))
    have hsz : ((w5.alloc (.cells jc 28)).alloc (.cells #[.string (Sx m)] 9)).heap.size = w5.heap.size + 2 := by simp
    have hs := g.size
    have := insS_any (Vb + 1) ns.length (posM ns m) (w5.heap.size + 1) (.slice na nl nc) (strs ns) [.string (Sx m)] _ hn' hpl (by omega) (by omega) rfl (by simp [Value.oneCell']) (strs_one ns) (two_lit1 w5 _ _) (fun b e => by have := hown0.1 b e; omega)
    rw [insC_strs ns _ m hpl] at this
    exact this)
  have KI : Hid (∀ q s' names j jc iv' nv' W, MS n Bx Vb R M N B q d s' names l j jc iv' nv' w W → iv' = .slice ia il ic → jc.size = 8 → (∀ u ∈ jc.toList, u.oneCell' = true) → ∀ us : List (Array Value), us.length = l.length → (∀ u ∈ us, u.size = 8) → W.ownsRow (Vb + 1) 28 8 iv' l.length (flatC us) → (∀ v ∈ flatC us, v.oneCell' = true) →
      Calls Tryz.prog 151 #[.slice ia il ic, .int .i64 (posM ns m : Nat), .slice (some ⟨W.heap.size, 0, none⟩) 1 1] (W.drew.alloc (.cells jc 28)) fun r w8 =>
        ∃ v', r = .returned v' ∧ w8.ownsRow (Vb + 1) 28 8 v' (l.length + 1) (insC 8 (posM ns m) (flatC us) jc.toList) ∧ (W.drew.alloc (.cells jc 28)).grownBy w8 (Value.slice ia il ic).ownBlock ∧ Fresh (W.drew.alloc (.cells jc 28)) (.slice ia il ic) v') := Lib.hid (fun q s' names j jc iv' nv' W h e h8 ho us hu1 hu2 hu3 hone => by
    subst e
    have hsz : (W.drew.alloc (.cells jc 28)).heap.size = W.heap.size + 1 := by show (W.alloc (.cells jc 28)).heap.size = _; simp
    have hVW := lt_of_block h.hv
    have hga : Gr W (W.drew.alloc (.cells jc 28)) := gtrans (gdrew W) (World.grownBy_alloc W.drew _ none)
    refine insV_any (Vb + 1) l.length (posM ns m) W.heap.size (.slice ia il ic) (flatC us) jc.toList _ (own_keep hu3 (fun b hb => by obtain ⟨_, c, h9⟩ := own_ge hu3 hb; exact hga.block b (lt_of_block h9) (by simp))) (by omega) (by omega) (by omega) (by simpa using h8) ho hone ?_ (fun b e => by obtain ⟨_, c, h9⟩ := own_ge hu3 e; have := lt_of_block h9; omega)
    simpa using heap_alloc_new W.drew (.cells jc 28))
  have HF := Lib.hid (And.intro hr (And.intro hB (And.intro hVw (And.intro hown0 (And.intro (ris_ins hi.ris hhas) (And.intro hpl (And.intro hlen0 hnl)))))))
  have HRES := Lib.hid hres
  have hlw : (posM ns m : Int) ≤ 100000 := by omega
  clear hi hE hr hob hB hl hres hnl hql hbr hbt ht hown0 hV hlen0 hpl h58 hhas hq hlw
  go_enter Tryz.func114, Tryz.ntmps114
  go_wp2_with (first
    | (go_at_call 33; ((with_reducible refine KB.mono ?_); rintro r w1 ⟨rfl, hc, hg⟩); have H1 := Lib.hid hc; have G1' := Lib.hid hg; have E1 := Lib.hid (HC.out _ hg).2.1; clear hc hg)
    | (go_at_call 110; ((with_reducible refine (KQ.out _ H1.out E1.out).mono ?_); rintro r w2 ⟨rfl, hc, hg⟩); have H2 := Lib.hid hc; have G2 := Lib.hid (gtrans G1'.out hg); obtain ⟨v0, v1, v2, v3, v4, v5, v6, v7⟩ := cells8 (HVF.out _ G2.out).1; clear hc hg)
    | (go_at_call 21; ((with_reducible refine (KF.out _ G2.out).mono ?_); rintro r w3 ⟨rfl, hg⟩); have H3 := Lib.hid (H2.out.gr hg); have G3 := Lib.hid (gtrans G2.out (gwide hg)); clear hg)
    | (go_at_call 149; ((with_reducible refine (KS.out _ H3.out).mono ?_); rintro r w4 ⟨rfl, hc, hg⟩); have H4 := Lib.hid hc; have G4 := Lib.hid (gtrans G3.out hg); clear hc hg)
    | (go_at_call 32; ((with_reducible refine (KV.out _ H4.out (HC.out _ G4.out).2.1 (HC.out _ G4.out).1.mp).mono ?_); rintro r w5 ⟨j, iv2, nv2, e, s', rfl, hj, hc, hg, hm⟩); obtain ⟨a1, c1, a2, c2, rfl, rfl⟩ := hj.shape; have HJ := Lib.hid hj; have H5 := Lib.hid hc; have GG := Lib.hid hg; have G5 := Lib.hid (gtrans G4.out hg); have HM := Lib.hid hm; clear v0 v1 v2 v3 v4 v5 v6 v7; obtain ⟨v0, v1, v2, v3, v4, v5, v6, v7⟩ := cells8 (show (w5.alloc (.cells (jC j a1 a2 c1 c2) 28)).heap[Vb]? = _ from ((World.grownBy_alloc w5 _ none).block _ (lt_of_block (HVF.out _ G5.out).1) (by simp)).trans (HVF.out _ G5.out).1); obtain ⟨x0, x1, x2, x3, x4, x5, x6, x7⟩ := cells8 (HVF.out _ G5.out).1; clear hj hc hg hm)
    | (go_at_call 150; ((with_reducible refine (KN.out w5 _ G5.out).mono ?_); rintro r w6 ⟨nv', rfl, ho6, hg6, hf6⟩); obtain ⟨na6, nc6, rfl⟩ := own_shape ho6; clear v0 v1 v2 v3 v4 v5 v6 v7 x0 x1 x2 x3 x4 x5 x6 x7; have hms := MS.of (B := B) (Bx := Bx) (N := N) HF.out.1 HF.out.2.1 hBV h3 hMB hBx HF.out.2.2.1 G4.out GG.out (HVF.out _ G5.out) HF.out.2.2.2.1 (HC.out _ G5.out).1.bx (HC.out _ G5.out).1.mp H5.out HJ.out (by rw [ins_len _ _ _ HF.out.2.2.2.2.2.1]; exact ho6) hg6 hf6; have HMS := Lib.hid hms; have hv6 := ((hg6.block Vb (by have := lt_of_block (HVF.out _ G5.out).1; simp; omega) (fun e => by have := (own_ge (HVF.out _ G5.out).2.1 e.symm).1; omega)).trans (((two_grown w5 _ _).block Vb (lt_of_block (HVF.out _ G5.out).1) (by simp)).trans (HVF.out _ G5.out).1)); obtain ⟨v0, v1, v2, v3, v4, v5, v6, v7⟩ := cells8 hv6; obtain ⟨z0, z1, z2, z3, z4, z5, z6, z7⟩ := unfroz8 hv6; clear ho6 hg6 hf6 hms hv6))
  obtain ⟨W7, hW7⟩ : ∃ W, W = w6.setCell ⟨Vb, 7, none⟩ (.slice na6 (ns.length + 1) nc6) := ⟨_, rfl⟩
  have hms : MS n Bx Vb R M N B w5.heap.size d s' (ns.insertIdx (posM ns m) m) l j (jC j a1 a2 c1 c2) (.slice ia il ic) (.slice na6 (ns.length + 1) nc6) w W7 := by rw [hW7]; exact HMS.out
  rw [← hW7]
  clear hW7 HMS v0 v1 v2 v3 v4 v5 v6 v7 z0 z1 z2 z3 z4 z5 z6 z7
  obtain ⟨us, hu1, hu2, hu3, hu4⟩ := hms.hw
  have KC := KI.out _ _ _ _ _ _ _ _ hms rfl rfl (jC_one _ _ _ _ _) us hu1 hu2 hu3 (flat_one us hu1 hu4)
  have hde : W7.drew.alloc (.cells (jC j a1 a2 c1 c2) 28) = (W7.alloc (.cells (jC j a1 a2 c1 c2) 28)).drew := rfl
  rw [hde] at KC
  have HMS := Lib.hid hms
  have HU := Lib.hid (And.intro hu1 (And.intro hu2 (And.intro hu3 hu4)))
  obtain ⟨v0, v1, v2, v3, v4, v5, v6, v7⟩ := cells8 hms.hv
  obtain ⟨x0, x1, x2, x3, x4, x5, x6, x7⟩ := cells8 hms.xb
  obtain ⟨y0, y1, y2, y3, y4, y5, y6, y7⟩ := cells8 (show ((W7.alloc (.cells (jC j a1 a2 c1 c2) 28)).drew).heap[Vb]? = _ from ((World.grownBy_alloc W7 _ none).block _ (lt_of_block hms.hv) (by simp)).trans hms.hv)
  have HV8 : Hid (∀ w8, ((W7.alloc (.cells (jC j a1 a2 c1 c2) 28)).drew).grownBy w8 (Value.slice ia il ic).ownBlock → w8.heap[Vb]? = some (.cells (obC (.slice ia il ic) (.slice na6 (ns.length + 1) nc6)) 28 (0, 0))) := Lib.hid (fun w8 g => (g.block Vb (by have := lt_of_block hms.hv; show Vb < (W7.alloc _).heap.size; simp; omega) (fun e => by have := (own_ge hu3 e.symm).1; omega)).trans (show ((W7.alloc (.cells (jC j a1 a2 c1 c2) 28)).drew).heap[Vb]? = _ from ((World.grownBy_alloc W7 _ none).block _ (lt_of_block hms.hv) (by simp)).trans hms.hv))
  clear hde hms hu1 hu2 hu3 hu4
  go_region_law (go_simp; go_at_call 151; ((with_reducible refine KC.mono ?_); rintro r w8 ⟨iv', rfl, ho8, hg8, hf8⟩); obtain ⟨ia8, ic8, rfl⟩ := own_shape ho8; have HO8 := Lib.hid ho8; have HG8 := Lib.hid hg8; have HF8 := Lib.hid hf8; have hv8 := HV8.out _ hg8; clear v0 v1 v2 v3 v4 v5 v6 v7 y0 y1 y2 y3 y4 y5 y6 y7 x0 x1 x2 x3 x4 x5 x6 x7; obtain ⟨v0, v1, v2, v3, v4, v5, v6, v7⟩ := cells8 hv8; obtain ⟨z0, z1, z2, z3, z4, z5, z6, z7⟩ := unfroz8 hv8; clear ho8 hg8 hf8 hv8)
  all_goals clear v0 v1 v2 v3 v4 v5 v6 v7 z0 z1 z2 z3 z4 z5 z6 z7
  all_goals go_wp2
  all_goals go_ret
  all_goals (
    have hfin := MS.fin (p := posM ns m) HMS.out HF.out.2.1 hBV h3 hMB hBx HF.out.2.2.2.2.1 (by rw [ins_len _ _ _ (by have := HF.out.2.2.2.2.2.1; have := HF.out.2.2.2.2.2.2.1; omega), ins_len _ _ _ HF.out.2.2.2.2.2.1, HF.out.2.2.2.2.2.2.1]) rfl (by have := HF.out.2.2.2.2.2.1; have := HF.out.2.2.2.2.2.2.1; omega) HU.out.1 HU.out.2.1 HU.out.2.2.1 HU.out.2.2.2 HO8.out (show (W7.drew.alloc _).grownBy w8 _ from HG8.out) (show Fresh (W7.drew.alloc _) _ _ from HF8.out)
    refine ⟨(ns.insertIdx (posM ns m) m, l.insertIdx (posM ns m) j), e, s', rfl, hfin.1, hfin.2.1, hfin.2.2, ?_⟩
    rw [HRES.out]
    have hm := HM.out
    cases hp : P t with
    | error c => rw [hp] at hm; exact hm
    | ok jr =>
      obtain ⟨j', r'⟩ := jr
      rw [hp] at hm
      exact ⟨hm.1, by rw [hm.2.1], hm.2.2⟩)

end Go.Proofs.YticnfmfmgdfdeaaGreatDoor

namespace Go.Proofs.YticnfmfmgdfdeaaGreatDoor
open Go.RowKit

set_option maxRecDepth 100000 in
set_option maxHeartbeats 8000000 in
theorem ob_any (n Bx Vb R M N B : Nat) (d : Int) (P : Bs → Rd J) (x : List Bs × List J) (s : Bs) (w : World)
    (hV : ∀ s w, RC R M s d w → ES w → Mp w M N (FB R) → s.length ≤ 100000 → Calls Tryz.prog 32 #[pR R] w fun r w' => RdR n (P s) R M d w r w')
    (hr : RC R M s d w) (hi : OI n Bx Vb R M N x w) (hE : ES w) (hB : B ≤ w.heap.size) (hl : s.length ≤ 100000) (hK : x.1.length + s.length ≤ 100000) (h1 : R ≠ Bx) (h2 : R ≠ M) (h3 : R < Vb) (hMB : M < Vb) (hBx : Bx < Vb) (hBV : B ≤ Vb) :
    Calls Tryz.prog 113 #[.pointer (some ⟨Bx, 0, none⟩), .pointer (some ⟨Vb, 0, none⟩)] w fun r w' => RowR (OI n Bx Vb R M N) B R M d w (membM P x s) r w' := by
  obtain ⟨ns, l⟩ := x
  have hb := blkN s
  have KM : Calls Tryz.prog 114 #[pR R, .pointer (some ⟨Vb, 0, none⟩)] w fun r w' => RowR (OI n Bx Vb R M N) B R M d w (membM P (ns, l) s) r w' := by
    cases hq : quotM (blk s) with
    | none => exact memb_no n Bx Vb R M N B d P ns l s w hr hi hE hB hl h1 h2 h3 hq
    | some mr =>
      obtain ⟨m, r1⟩ := mr
      have hql := quotM_len hq
      have hnl : ns.length ≤ 99999 := by have : ns.length + s.length ≤ 100000 := hK; omega
      cases hh : hasM ns m with
      | true => exact memb_has n Bx Vb R M N B d P ns l s w hr hi hE hB hl h1 h2 h3 m r1 hq hh (by omega)
      | false =>
        cases h58 : isH 58 (blk r1) with
        | false => exact memb_sign n Bx Vb R M N B d P ns l s w hr hi hE hB hl h1 h2 h3 m r1 hq hh h58 (by omega)
        | true => exact memb_value n Bx Vb R M N B d P ns l s w hr hi hE hB hl h1 h2 h3 hMB hBx hBV hV m r1 hq hh h58 hnl
  have hx := box1 hi.bx
  unfold RowR at KM
  obtain ⟨res, hres⟩ : ∃ res, res = membM P (ns, l) s := ⟨_, rfl⟩
  rw [← hres] at KM ⊢
  clear hres hi hr hE hV
  go_enter Tryz.func113, Tryz.ntmps113
  go_wp2_with (go_at_call 114; ((with_reducible refine KM.mono ?_); rintro r w4 ⟨x', e, s', rfl, hc, hi4, hf, hm⟩); have H4 := Lib.hid hc; have I4 := Lib.hid hi4; have F4 := Lib.hid hf; have M4 := Lib.hid hm; clear hc hi4 hf hm)
  go_ret
  exact ⟨x', e, s', rfl, H4.out, I4.out, F4.out, M4.out⟩

abbrev obj0 : Array Value := #[.int .i64 5, .bool false, .bool false, .string ⟨#[]⟩, .int .i64 0, .string ⟨#[]⟩, nilS, nilS]
theorem own_rowsP {W : World} {B : Nat} {v : Value} {ns : List Bs} (h : W.ownsRow B 9 1 v ns.length (strs ns)) : RowS (fun b => B ≤ b) W v ns := by
  rcases h.2 with ⟨rfl, hn⟩ | ⟨g, cap, cur, rfl, hb, hg, hnc, hc, hs, ht⟩
  · have hl : ns = [] := List.eq_nil_of_length_eq_zero hn
    subst hl
    exact ⟨none, 0, rfl, by simp, by simp [maxLen], fun h => absurd rfl h⟩
  · refine ⟨some ⟨g, 0, none⟩, cap, rfl, hnc, hc, fun _ => ⟨g, 0, rfl, hb, fun k x hk => ?_⟩⟩
    have := World.ownsRow.cells h (g := g) rfl k (.string (Sx x)) (by simp [strs, hk])
    rw [Nat.zero_add]
    rwa [addr_add, Nat.zero_add] at this

set_option maxRecDepth 100000 in
set_option maxHeartbeats 8000000 in
theorem object_go (n R M N : Nat) (d : Int) (h0 : 0 ≤ d) (h1 : d < 16) (P : Bs → Rd J) (hPl : ∀ s j r, P s = .ok (j, r) → r.length < s.length)
    (hV : ∀ s w, RC R M s (d + 1) w → ES w → Mp w M N (FB R) → s.length ≤ 100000 → Calls Tryz.prog 32 #[pR R] w fun r w' => RdR n (P s) R M (d + 1) w r w')
    (s : Bs) (w : World) (hr : RC R M s d w) (hE : ES w) (hm : Mp w M N (FB R)) (hl : s.length ≤ 100000) (hf : isH 123 s = true) (hMR : M ≠ R) :
    Calls Tryz.prog 67 #[pR R] w fun r w' => RdR (n + 1) (objM (some P) s) R M d w r w' := by
  have hmf : ∀ (fn : Fn) (first cap : Array Value) (w : World), (Instr.makeFunc fn first cap).run Tryz.prog w = .ok (.func fn first cap) w := fun _ _ _ _ => rfl
  obtain ⟨l0, l1, l2⟩ := three_lit w (.cells #[pR R] 61) (.cells zeroV 28) (.cells obj0 28)
  have g0 := three_grown w (.cells #[pR R] 61) (.cells zeroV 28) (.cells obj0 28)
  have hsz : (((w.alloc (.cells #[pR R] 61)).alloc (.cells zeroV 28)).alloc (.cells obj0 28)).heap.size = w.heap.size + 3 := by simp
  have hRl := hr.lt
  have hMl := hm.lt
  have hGl : (6 : Nat) < w.heap.size := by obtain ⟨tp, p, h⟩ := hE; exact World.block_lt_of_cell? _ _ h
  have hA0 : OI n w.heap.size (w.heap.size + 2) R M N ([], []) (((w.alloc (.cells #[pR R] 61)).alloc (.cells zeroV 28)).alloc (.cells obj0 28)) := ⟨l0, hm.gr g0, List.Pairwise.nil, rfl, nilS, nilS, l2, World.ownsRow_nil _ _ _ _, ow_nil _ _ _ _⟩
  have KR := rowO_go (membM P) (OI n w.heap.size (w.heap.size + 2) R M N) (fun x => x.1.length) 100000 R M w.heap.size (w.heap.size + 2) (w.heap.size + 2) d h0 h1 (by omega)
    (fun x s y r h => membM_len hPl h) (fun x w1 w2 hi g => hi.g1 g (by omega) (fun e => hMR e.symm) (by omega))
    (fun x s2 w2 k1 k2 k3 k4 k5 k6 => ob_any n w.heap.size (w.heap.size + 2) R M N (w.heap.size + 2) (d + 1) P x s2 w2 hV k1 k2 k3 k4 k5 k6 (by omega) (fun e => hMR e.symm) (by omega) (by omega) (by omega) (Nat.le_refl _))
    ([], []) s _ (hr.gr g0) hA0 (hE.gr g0) (by rw [hsz]; omega) hl (by simpa using hl) hf
  unfold RowR at KR
  have HG := Lib.hid g0
  have HR0 := Lib.hid hRl
  have HL1 := Lib.hid l1
  have hp := box1 l0
  obtain ⟨res, hres⟩ : ∃ res, res = objM (some P) s := ⟨_, rfl⟩
  rw [← hres]
  have HRES := Lib.hid hres
  clear hres hA0 hV hr hE hm hl hf l0 l1 l2 hMl hGl g0
  go_enter Tryz.func67, Tryz.ntmps67
  go_wp2_with (go_at_call 111; ((with_reducible refine KR.mono ?_); rintro r w4 ⟨x', e, s', rfl, hc, hi, hf, hmm⟩); have H4 := Lib.hid hc; have HI4 := Lib.hid hi; have HF4 := Lib.hid hf; have HM4 := Lib.hid hmm; obtain ⟨iv, nv, hvb, hon, how⟩ := hi.vb; obtain ⟨ia, ic, rfl⟩ := how.ov.shape; obtain ⟨na, nc, rfl⟩ := own_shape hon; obtain ⟨x0, x1, x2, x3, x4, x5, x6, x7⟩ := cells8 hvb; have HVB := Lib.hid hvb; have HOV := Lib.hid how; have HON := Lib.hid hon; have hq := (hf.below (w.heap.size + 1) (by omega) (by have := HR0.out; omega)).trans HL1.out; have HQ := Lib.hid hq; obtain ⟨y0, y1, y2, y3, y4, y5, y6, y7⟩ := cells8 hq; obtain ⟨z0, z1, z2, z3, z4, z5, z6, z7⟩ := unfroz8 hq; clear hc hi hf hmm hvb how hon hq)
  have hGF : w.grownBy w4 (some R) := ⟨HF4.out.os.trans HG.out.os, HF4.out.tape.trans HG.out.tape, HF4.out.output.trans HG.out.output, Nat.le_trans HG.out.size HF4.out.size, fun i hi hn => (HF4.out.below i (by omega) (fun e => hn (by rw [e]))).trans (HG.out.block i hi (by simp))⟩
  obtain ⟨ns, l⟩ := x'
  have hk8 : ∀ b, b ≠ w.heap.size + 1 → ((((((((w4.setCell ⟨w.heap.size + 1, 0, none⟩ (.int .i64 5)).setCell ⟨w.heap.size + 1, 1, none⟩ (.bool false)).setCell ⟨w.heap.size + 1, 2, none⟩ (.bool false)).setCell ⟨w.heap.size + 1, 3, none⟩ (.string ⟨#[]⟩)).setCell ⟨w.heap.size + 1, 4, none⟩ (.int .i64 0)).setCell ⟨w.heap.size + 1, 5, none⟩ (.string ⟨#[]⟩)).setCell ⟨w.heap.size + 1, 6, none⟩ (.slice ia l.length ic)).setCell ⟨w.heap.size + 1, 7, none⟩ (.slice na ns.length nc)).heap[b]? = w4.heap[b]? := fun b hb => set8_other (fun e => hb e.symm) _ _ _ _ _ _ _ _
  refine bodyPost_ret (results_Val2 rfl _ _ (w.heap.size + 1) _ _ rfl rfl (set8 HQ.out) rfl) rfl ⟨.obj ns l, _, _, e, s', rfl, ?_, (hk8 R (by have := HR0.out; omega)).trans H4.out, gr_set8 hGF (Nat.le_succ _) _ _ _ _ _ _ _ _, ?_⟩
  · refine ⟨_, _, rfl, ?_, ?_⟩
    · exact (own_rowsP (own_keep HON.out (fun b hb => hk8 b (by have := (own_ge HON.out hb).1; omega)))).keep (fun b hb _ => ⟨rfl, by omega⟩)
    · have hrow := HOV.out.ov.keep (w' := ((((((((w4.setCell ⟨w.heap.size + 1, 0, none⟩ (.int .i64 5)).setCell ⟨w.heap.size + 1, 1, none⟩ (.bool false)).setCell ⟨w.heap.size + 1, 2, none⟩ (.bool false)).setCell ⟨w.heap.size + 1, 3, none⟩ (.string ⟨#[]⟩)).setCell ⟨w.heap.size + 1, 4, none⟩ (.int .i64 0)).setCell ⟨w.heap.size + 1, 5, none⟩ (.string ⟨#[]⟩)).setCell ⟨w.heap.size + 1, 6, none⟩ (.slice ia l.length ic)).setCell ⟨w.heap.size + 1, 7, none⟩ (.slice na ns.length nc))) (fun b hb hlt => hk8 b (by omega)) (by simp [World.setCell])
      obtain ⟨ao, c, e1, e2, e3, e4⟩ := hrow.rows
      refine ⟨ao, c, e1, e2, e3, fun hne => ?_⟩
      obtain ⟨b, o, f1, f2, f3⟩ := e4 hne
      refine ⟨b, o, f1, by omega, fun k x hk => ?_⟩
      obtain ⟨u, u1, u2, u3⟩ := f3 k x hk
      exact ⟨u, u1, u2, u3.wide (fun b hb => by omega) (Nat.le_refl _)⟩
  · rw [HRES.out]
    unfold objM
    have hm := HM4.out
    simp only
    cases hrw : rowsM (membM P) 125 ([], []) s.tail with
    | error c => rw [hrw] at hm; exact hm
    | ok lr =>
      obtain ⟨⟨ns', l'⟩, r'⟩ := lr
      rw [hrw] at hm
      obtain ⟨m1, m2, m3⟩ := hm
      injection m2 with m2 m4
      exact ⟨m1, by rw [m2, m4], m3⟩

end Go.Proofs.YticnfmfmgdfdeaaGreatDoor

namespace Go.Proofs.YticnfmfmgdfdeaaGreatDoor
open Go.RowKit

set_option maxRecDepth 100000 in
set_option maxHeartbeats 8000000 in
theorem array_deep (n R M : Nat) (s : Bs) (w : World) (hr : RC R M s 16 w) :
    Calls Tryz.prog 66 #[pR R] w fun r w' => RdR (n + 1) (arrM none s) R M 16 w r w' := by
  have hmf : ∀ (fn : Fn) (first cap : Array Value) (w : World), (Instr.makeFunc fn first cap).run Tryz.prog w = .ok (.func fn first cap) w := fun _ _ _ _ => rfl
  obtain ⟨l0, l1, l2⟩ := three_lit w (.cells #[pR R] 61) (.cells zeroV 28) (.cells arr0 28)
  have g0 := three_grown w (.cells #[pR R] 61) (.cells zeroV 28) (.cells arr0 28)
  have KR := rowA_deep R M w.heap.size (w.heap.size + 2) s _ (hr.gr g0)
  have HG := Lib.hid g0
  have HR0 := Lib.hid hr
  have HRL := Lib.hid hr.lt
  have HL1 := Lib.hid l1
  have HL2 := Lib.hid l2
  have hp := box1 l0
  clear hr l0 l1 l2 g0
  go_enter Tryz.func66, Tryz.ntmps66
  go_wp2_with (go_at_call 111; ((with_reducible refine KR.mono ?_); rintro r w4 ⟨rfl, hg⟩); have HG4 := Lib.hid hg; have hv := (hg.block _ (lt_of_block HL2.out) (by simp)).trans HL2.out; obtain ⟨x0, x1, x2, x3, x4, x5, x6, x7⟩ := cells8 hv; have hq := (hg.block _ (lt_of_block HL1.out) (by simp)).trans HL1.out; have HQ := Lib.hid hq; obtain ⟨y0, y1, y2, y3, y4, y5, y6, y7⟩ := cells8 hq; obtain ⟨z0, z1, z2, z3, z4, z5, z6, z7⟩ := unfroz8 hq; clear hg hv hq)
  refine bodyPost_ret (results_Val2 rfl _ _ (w.heap.size + 1) _ _ rfl rfl (set8 HQ.out) rfl) rfl ⟨.arr [], nilS, nilS, 35, s, rfl, JV.flat _ rfl rfl n, (set8_other (by have := HRL.out; omega) _ _ _ _ _ _ _ _).trans (HR0.out.gr (gtrans HG.out HG4.out)), gr_set8 (gwide (gtrans HG.out HG4.out)) (Nat.le_succ _) _ _ _ _ _ _ _ _, rfl, by omega⟩

set_option maxRecDepth 100000 in
set_option maxHeartbeats 8000000 in
theorem object_deep (n R M : Nat) (s : Bs) (w : World) (hr : RC R M s 16 w) :
    Calls Tryz.prog 67 #[pR R] w fun r w' => RdR (n + 1) (objM none s) R M 16 w r w' := by
  have hmf : ∀ (fn : Fn) (first cap : Array Value) (w : World), (Instr.makeFunc fn first cap).run Tryz.prog w = .ok (.func fn first cap) w := fun _ _ _ _ => rfl
  obtain ⟨l0, l1, l2⟩ := three_lit w (.cells #[pR R] 61) (.cells zeroV 28) (.cells obj0 28)
  have g0 := three_grown w (.cells #[pR R] 61) (.cells zeroV 28) (.cells obj0 28)
  have KR := rowO_deep R M w.heap.size (w.heap.size + 2) s _ (hr.gr g0)
  have HG := Lib.hid g0
  have HR0 := Lib.hid hr
  have HRL := Lib.hid hr.lt
  have HL1 := Lib.hid l1
  have HL2 := Lib.hid l2
  have hp := box1 l0
  clear hr l0 l1 l2 g0
  go_enter Tryz.func67, Tryz.ntmps67
  go_wp2_with (go_at_call 111; ((with_reducible refine KR.mono ?_); rintro r w4 ⟨rfl, hg⟩); have HG4 := Lib.hid hg; have hv := (hg.block _ (lt_of_block HL2.out) (by simp)).trans HL2.out; obtain ⟨x0, x1, x2, x3, x4, x5, x6, x7⟩ := cells8 hv; have hq := (hg.block _ (lt_of_block HL1.out) (by simp)).trans HL1.out; have HQ := Lib.hid hq; obtain ⟨y0, y1, y2, y3, y4, y5, y6, y7⟩ := cells8 hq; obtain ⟨z0, z1, z2, z3, z4, z5, z6, z7⟩ := unfroz8 hq; clear hg hv hq)
  refine bodyPost_ret (results_Val2 rfl _ _ (w.heap.size + 1) _ _ rfl rfl (set8 HQ.out) rfl) rfl ⟨.obj [] [], nilS, nilS, 35, s, rfl, JV.flat _ rfl rfl n, (set8_other (by have := HRL.out; omega) _ _ _ _ _ _ _ _).trans (HR0.out.gr (gtrans HG.out HG4.out)), gr_set8 (gwide (gtrans HG.out HG4.out)) (Nat.le_succ _) _ _ _ _ _ _ _ _, rfl, by omega⟩

/-- k levels are left. -/
theorem value_any (R M N : Nat) (hMR : M ≠ R) : ∀ (k : Nat), k ≤ 16 → ∀ (s : Bs) (w : World), RC R M s (16 - (k : Int)) w → ES w → Mp w M N (FB R) → s.length ≤ 100000 →
    Calls Tryz.prog 32 #[pR R] w fun r w' => RdR (k + 1) (pV k s) R M (16 - (k : Int)) w r w'
  | 0, _, s, w, hr, hE, hm, hl => by
    have e : (16 : Int) - ((0 : Nat) : Int) = 16 := by omega
    rw [e] at hr ⊢
    exact value_of 0 R M N 16 none (fun s w a _ _ _ _ => array_deep 0 R M s w a) (fun s w a _ _ _ _ => object_deep 0 R M s w a) s w hr hE hm hl hMR
  | k + 1, hk, s, w, hr, hE, hm, hl => by
    have e : (16 : Int) - ((k + 1 : Nat) : Int) + 1 = 16 - (k : Int) := by omega
    have IH : ∀ s w, RC R M s ((16 : Int) - ((k + 1 : Nat) : Int) + 1) w → ES w → Mp w M N (FB R) → s.length ≤ 100000 → Calls Tryz.prog 32 #[pR R] w fun r w' => RdR (k + 1) (pV k s) R M ((16 : Int) - ((k + 1 : Nat) : Int) + 1) w r w' := fun s w a b c d => by
      rw [e] at a ⊢
      exact value_any R M N hMR k (by omega) s w a b c d
    exact value_of (k + 1) R M N _ (some (pV k)) (fun s w a b c d f => array_go (k + 1) R M N _ (by omega) (by omega) (pV k) (fun s j r => pV_len k s r j) IH s w a b c d f hMR) (fun s w a b c d f => object_go (k + 1) R M N _ (by omega) (by omega) (pV k) (fun s j r => pV_len k s r j) IH s w a b c d f hMR) s w hr hE hm hl hMR

end Go.Proofs.YticnfmfmgdfdeaaGreatDoor
