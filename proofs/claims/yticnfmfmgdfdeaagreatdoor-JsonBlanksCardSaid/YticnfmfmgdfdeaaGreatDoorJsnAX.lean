/-
  slices.Insert of one element into a row of the call's own: the library's text walked, at two types; printed by tools/mkksi.py. Own work.
-/
import Derived.Test.YticnfmfmgdfdeaaGreatDoorJsnAW
import Derived.Laws.CopyRow
import Derived.Lib.Overlaps
import Derived.Lib.AppendZerosOnto
import Derived.Laws.Externs
import Derived.Laws.NewBlocks
import Derived.Deep.RegionLaw
import Derived.StillTailTactics

set_option linter.unusedVariables false
set_option linter.unusedSimpArgs false
namespace Go.Proofs.YticnfmfmgdfdeaaGreatDoor
open Go.RowKit

theorem run_copy_rows {P : Program} (w : World) (dT sT ty elem : TypeId) (k g o dLen dCap : Nat) (a : Addr) (sLen sCap : Nat) (cur : Array Value) (t : TypeId) (cs : List Value)
    (hu : P.underlying dT = some (.slice elem)) (hs : (P.info? elem).map (·.size) = some k) (hg : w.heap[g]? = some (.cells cur t (0, 0))) (m : Nat) (hm : m = Nat.min sLen dLen) (hn : cs.length = m * k)
    (hsrc : ∀ j v, cs[j]? = some v → w.cell? (a.add j) = some v) (hfit : o + cs.length ≤ cur.size) (h1 : ∀ v ∈ cs, v.oneCell' = true) :
    (Builtin.copy_ #[dT, sT] ty #[.slice (some ⟨g, o, none⟩) dLen dCap, .slice (some a) sLen sCap]).run P w =
      .ok (goInt m) (w.setRow g (cur.toList.take o ++ cs ++ cur.toList.drop (o + cs.length)).toArray) := by
  have hl := run_loadCells_list (P := P) w a cs hsrc
  have hst := run_storeCells_at P g o t cs 0 cur w hg (by simpa using hfit) h1
  cases hq : P.info? elem with
  | none => simp [hq] at hs
  | some i =>
    have hi : i.size = k := by simpa [hq] using hs
    simp [Builtin.copy_, run_underlying hu, Builtin.lenOf, Builtin.firstCells, sizeOf, typeInfo, hq, hi, ← hm, ← hn, hl, hst]
theorem wpList_copy_at {P : Program} {w w2 : World} {ops : Array Oper} {rest : List Oper} {o : Oper} {a : Act} {Q : Exit → Act → World → Prop} (hgd : o.guard = none) (d s : Operand) (dT sT : TypeId)
    (ho : o.op = .call { callee := .builtin .copy, args := #[d, s], argTypes := #[dT, sT] }) (x y : Value) (n : Nat) (hd : a.eval d = x) (hs : a.eval s = y)
    (hrun : ∀ ty, (Builtin.copy_ #[dT, sT] ty #[x, y]).run P w = .ok (goInt n) w2) (h : wpList P ops Q rest (a.put o.dst (goInt n)) w2) : wpList P ops Q (o :: rest) a w := by
  refine wpList_plain hgd fun K hK => ?_
  unfold Oper.wp
  simp [execOp, ho, resolve, invoke, builtin, hd, hs, hrun, Result.andThen]
  exact hK _ _ h
theorem step_copy_at {P : Program} {ops : Array Oper} {o : Oper} {a : Act} {w w2 : World} {K : Act → World → Prop} {Q : Exit → Act → World → Prop} {E : Prop} (hgd : o.guard = none) (d s : Operand) (dT sT : TypeId)
    (ho : o.op = .call { callee := .builtin .copy, args := #[d, s], argTypes := #[dT, sT] }) (x y : Value) (n : Nat) (hd : a.eval d = x) (hs : a.eval s = y)
    (hrun : ∀ ty, (Builtin.copy_ #[dT, sT] ty #[x, y]).run P w = .ok (goInt n) w2) (h : K (a.put o.dst (goInt n)) w2) :
    if Region.wanted o (yielded ops a.tmps) = true then Oper.wp P o a w K Q else E := by
  have hw : Region.wanted o (yielded ops a.tmps) = true := by simp [Region.wanted, hgd]
  rw [if_pos hw]
  unfold Oper.wp
  simp [execOp, ho, resolve, invoke, builtin, hd, hs, hrun, Result.andThen]
  exact h
theorem addr_add (g o j : Nat) : (⟨g, o, none⟩ : Addr).add j = ⟨g, o + j, none⟩ := by unfold Addr.add; split <;> simp_all
theorem gset_row (w : World) (g : Nat) (cs : Array Value) : w.grownBy (w.setRow g cs) (some g) :=
  ⟨rfl, rfl, rfl, by simp [World.setRow], fun i _ hn => setRow_other w g i cs (fun e => hn (by rw [e]))⟩
theorem splice (A Q news : List Value) (p k : Nat) (hp : A.length = p) : (A ++ Q).take p ++ news ++ (A ++ Q).drop (p + k) = A ++ news ++ Q.drop k := by
  subst hp
  rw [List.take_left]
  congr 1
  rw [← List.drop_drop, List.drop_left]
/-- One element within a row. -/
def insC (k i : Nat) (xs news : List Value) : List Value := xs.take (i * k) ++ news ++ xs.drop (i * k)

theorem insS_info : (Tryz.prog.info? 9).map (fun i => (i.zero, i.size, i.bytes)) = some (some (.string ⟨#[]⟩), 1, 16) := by kernel_rfl
set_option maxRecDepth 100000 in
set_option maxHeartbeats 8000000 in
/-- At the end. -/
theorem insS_end (B n vb : Nat) (v : Value) (xs news : List Value) (w : World) (hown : w.ownsRow B 9 1 v n xs) (hn : n ≤ 100000) (hB : B ≤ w.heap.size) (hnl : news.length = 1) (h1 : ∀ u ∈ news, u.oneCell' = true)
    (hlit : w.heap[vb]? = some (.cells news.toArray 9 (0, 0))) :
    Calls Tryz.prog 150 #[v, .int .i64 n, .slice (some ⟨vb, 0, none⟩) 1 1] w fun r w' => ∃ v', r = .returned v' ∧ w'.ownsRow B 9 1 v' (n + 1) (insC 1 n xs news) ∧ w.grownBy w' v.ownBlock ∧ Fresh w v v' := by
  obtain ⟨i0, hin, hz0, hz1, hz2⟩ := info_parts insS_info
  have hxl := hown.1
  have hrow : insC 1 n xs news = xs ++ news := by unfold insC; rw [List.take_of_length_le (by omega), List.drop_eq_nil_of_le (by omega), List.append_nil]
  rw [hrow]
  obtain ⟨ao, c, rfl⟩ := own_shape hown
  have hnc : (n : Int) ≤ (c : Int) := by
    rcases hown.2 with ⟨h, h0⟩ | ⟨g, cap, cur, h, _, _, h3, _⟩
    · cases h; omega
    · cases h; omega
  have hc0 : ¬ ((c : Int) < 0) := by omega
  have hl2 : ∀ j u, news[j]? = some u → w.cell? ((⟨vb, 0, none⟩ : Addr).add j) = some u := fun j u hj => by
    rw [addr_add, Nat.zero_add]
    simp only [World.cell?, hlit]
    simpa using hj
  have HO := Lib.hid hown
  have HL2 := Lib.hid hl2
  have HNL := Lib.hid (And.intro hnl (And.intro h1 hB))
  have hnn : n ≤ 100000 := hn
  clear hown hxl hrow hl2 hlit hnl h1 hB
  go_enter Tryz.func150, Tryz.ntmps150
  go_wp2_with (at_builtin; refine wpList_append_own2 _ rfl (.tmp 23) (.tmp 24) 26 rfl B 9 i0 (.string ⟨#[]⟩) 1 16 Tryz.underlying26 hin hz0 hz1 hz2 rfl (by decide) (.slice ao n c) n xs rfl HO.out ⟨vb, 0, none⟩ 1 1 news rfl (by have := HNL.out.1; omega) HL2.out HNL.out.2.1 (by unfold maxLen; omega) (by omega) HNL.out.2.2 ?_; intro v' w' ho hg hf; have HO2 := Lib.hid ho; have HG2 := Lib.hid hg; have HF2 := Lib.hid hf; clear ho hg hf)
  all_goals (go_ret; exact ⟨_, rfl, HO2.out, by cases ao <;> exact HG2.out, by cases ao <;> exact HF2.out⟩)

theorem insS_zlen (m : Nat) : (Builtin.zeroCells ((.string ⟨#[]⟩ : Value).cells) m).size = m * 1 := by
  simp [Builtin.zeroCells, Value.cells]
set_option maxRecDepth 100000 in
set_option maxHeartbeats 8000000 in
/-- Within, where there is no room. -/
theorem insS_grow (B n i vb g c : Nat) (xs news : List Value) (w : World) (hown : w.ownsRow B 9 1 (.slice (some ⟨g, 0, none⟩) n c) n xs) (hi : i < n) (hn : n ≤ 100000) (hc : c < n + 1) (hB : B ≤ w.heap.size) (hnl : news.length = 1) (h1 : ∀ u ∈ news, u.oneCell' = true) (h1x : ∀ u ∈ xs, u.oneCell' = true)
    (hlit : w.heap[vb]? = some (.cells news.toArray 9 (0, 0))) :
    Calls Tryz.prog 150 #[.slice (some ⟨g, 0, none⟩) n c, .int .i64 i, .slice (some ⟨vb, 0, none⟩) 1 1] w fun r w' => ∃ v', r = .returned v' ∧ w'.ownsRow B 9 1 v' (n + 1) (insC 1 i xs news) ∧ w.grownBy w' (some g) ∧ Fresh w (.slice (some ⟨g, 0, none⟩) n c) v' := by
  obtain ⟨i0, hin, hz0, hz1, hz2⟩ := info_parts insS_info
  have hxl := hown.1
  have hgl : g < w.heap.size := by
    rcases hown.2 with ⟨h, h0⟩ | ⟨g', cap, cur, h, _, h2, h3, _⟩
    · cases h
    · cases h; exact lt_of_block h2
  have hnc : n ≤ c := by
    rcases hown.2 with ⟨h, h0⟩ | ⟨g', cap, cur, h, _, _, h3, _⟩
    · cases h
    · cases h; exact h3
  have hvl : vb < w.heap.size := lt_of_block hlit
  have hcs : ∀ j u, xs[j]? = some u → w.cell? ⟨g, j, none⟩ = some u := fun j u hj => by
    have := World.ownsRow.cells hown (g := g) rfl j u hj
    rwa [addr_add, Nat.zero_add] at this
  have hls : ∀ j u, news[j]? = some u → w.cell? ⟨vb, j, none⟩ = some u := fun j u hj => by
    simp only [World.cell?, hlit]
    simpa using hj
  have hkk : (n : Int) + 1 - (i : Int) = ((n + 1 - i : Nat) : Int) := by omega
  have hik : i + (n + 1 - i) = n + 1 := by omega
  have hA : (xs.take (i)).length = i := by rw [List.length_take]; omega
  have hD : (xs.drop (i)).length = (n - i) := by rw [List.length_drop]; omega
  have hold : (Builtin.firstCells i0.size i (.slice (some ⟨g, 0, none⟩) i c)).run Tryz.prog w.drew = .ok (xs.take (i)).toArray w.drew := by
    rw [hz1]
    refine run_firstCells_some w.drew 1 i ⟨g, 0, none⟩ i c (xs.take (i)) (by simpa using hA) (fun j v hj => ?_)
    rw [addr_add, Nat.zero_add]
    rw [List.getElem?_take] at hj
    split at hj
    · exact hcs j v hj
    · cases hj
  have hrz : ∀ ty, (Builtin.append_ #[26, 3] ty #[.slice (some ⟨g, 0, none⟩) i c, .int .i64 ((n : Int) + 1 - (i : Int))]).run Tryz.prog w =
      .ok (.slice (some ⟨w.heap.size, 0, none⟩) (n + 1) (grownCap w (n + 1) c 9)) (w.drew.alloc (.cells ((xs.take (i)).toArray ++ Builtin.zeroCells ((.string ⟨#[]⟩ : Value).cells) (n + 1 - i) ++ Builtin.zeroCells ((.string ⟨#[]⟩ : Value).cells) (grownCap w (n + 1) c 9 - (n + 1))) 9)) := fun ty => by
    have h := Lib.run_append_grow_zeros w 26 3 ty 9 i0 _ .i64 .i64 Tryz.underlying26 Tryz.underlying3 hin hz0 (some ⟨g, 0, none⟩) i c (xs.take (i)) hold (n + 1 - i) (by omega) (by omega) (by omega) (by omega) (by rw [hz2]; omega) (by rw [hz2, hik]; exact growslice_fits hc (by omega))
    rw [hik] at h
    rw [hkk]
    exact h
  obtain ⟨G, hG⟩ : ∃ G, G = grownCap w (n + 1) c 9 := ⟨_, rfl⟩
  have hGn : n + 1 ≤ G := by rw [hG]; exact grownCap_ge w _ _ _
  have hG63 : G ≤ maxLen := by rw [hG]; exact grownCap_le_maxLen w (n + 1) c 9 (by unfold maxLen; omega)
  rw [← hG] at hrz
  obtain ⟨Zs, hZs⟩ : ∃ Zs : List Value, Zs = (Builtin.zeroCells ((.string ⟨#[]⟩ : Value).cells) (n + 1 - i) ++ Builtin.zeroCells ((.string ⟨#[]⟩ : Value).cells) (G - (n + 1))).toList := ⟨_, rfl⟩
  have hZl : Zs.length = (G - i) * 1 := by
    rw [hZs, Array.length_toList, Array.size_append, insS_zlen, insS_zlen]; omega
  have hROW : (xs.take (i)).toArray ++ Builtin.zeroCells ((.string ⟨#[]⟩ : Value).cells) (n + 1 - i) ++ Builtin.zeroCells ((.string ⟨#[]⟩ : Value).cells) (G - (n + 1)) = (xs.take (i) ++ Zs).toArray := by
    rw [hZs]; simp [Array.append_assoc]
  rw [hROW] at hrz
  clear hROW hZs hG
  generalize hAA : xs.take (i) = A at *
  generalize hDD : xs.drop (i) = D at *
  have hINS : insC 1 i xs news = A ++ news ++ D := by unfold insC; rw [Nat.mul_one]; rw [hAA, hDD]
  have hDx : ∀ j u, D[j]? = some u → w.cell? ⟨g, i + j, none⟩ = some u := fun j u hj => by
    rw [← hDD, List.getElem?_drop] at hj
    exact hcs _ u hj
  have hD1 : ∀ u ∈ D, u.oneCell' = true := fun u hu => h1x u (by rw [← hDD] at hu; exact List.mem_of_mem_drop hu)
  have hcA : Hid (∀ (W : World), W.heap[w.heap.size]? = some (.cells (A ++ Zs).toArray 9 (0, 0)) → (∀ j u, news[j]? = some u → W.cell? ⟨vb, j, none⟩ = some u) → ∀ ty, (Builtin.copy_ #[26, 26] ty #[.slice (some ⟨w.heap.size, i, none⟩) (n + 1 - i) (G - i), .slice (some ⟨vb, 0, none⟩) 1 1]).run Tryz.prog W = .ok (goInt 1) (W.setRow w.heap.size (A ++ news ++ Zs.drop 1).toArray)) := Lib.hid (fun W hW hs ty => by
    have h := run_copy_rows (P := Tryz.prog) W 26 26 ty 9 1 w.heap.size (i) (n + 1 - i) (G - i) ⟨vb, 0, none⟩ 1 1 (A ++ Zs).toArray 9 news Tryz.underlying26 (by rw [hin]; simp [hz1]) hW 1 (by simp only [Nat.min_def]; split <;> omega) (by omega) (fun j v hj => by rw [addr_add, Nat.zero_add]; exact hs j v hj) (by simp; omega) h1
    rw [h, show (A ++ Zs).toArray.toList = A ++ Zs from rfl, hnl, splice A Zs news _ _ hA]
    rfl)
  have hcB : Hid (∀ (W : World), W.heap[w.heap.size]? = some (.cells (A ++ news ++ Zs.drop 1).toArray 9 (0, 0)) → (∀ j u, D[j]? = some u → W.cell? ⟨g, i + j, none⟩ = some u) → ∀ ty, (Builtin.copy_ #[26, 26] ty #[.slice (some ⟨w.heap.size, (i + 1), none⟩) (n + 1 - (i + 1)) (G - (i + 1)), .slice (some ⟨g, i, none⟩) (n - i) (c - i)]).run Tryz.prog W = .ok (goInt ((n - i : Nat) : Int)) (W.setRow w.heap.size (A ++ news ++ D ++ (Zs.drop 1).drop ((n - i))).toArray)) := Lib.hid (fun W hW hs ty => by
    have h := run_copy_rows (P := Tryz.prog) W 26 26 ty 9 1 w.heap.size ((i + 1)) (n + 1 - (i + 1)) (G - (i + 1)) ⟨g, i, none⟩ (n - i) (c - i) (A ++ news ++ Zs.drop 1).toArray 9 D Tryz.underlying26 (by rw [hin]; simp [hz1]) hW (n - i) (by simp only [Nat.min_def]; split <;> omega) (by simpa using hD) (fun j v hj => by rw [addr_add]; exact hs j v hj) (by simp; omega) hD1
    have hAN : (A ++ news).length = (i + 1) := by rw [List.length_append, hA, hnl]
    rw [h, show (A ++ news ++ Zs.drop 1).toArray.toList = (A ++ news) ++ Zs.drop 1 from rfl, hD, splice (A ++ news) (Zs.drop 1) D _ _ hAN])
  have hN0 : (w.drew.alloc (.cells (A ++ Zs).toArray 9)).heap[w.heap.size]? = some (.cells (A ++ Zs).toArray 9 (0, 0)) := heap_alloc_new w.drew _
  have hg1 : w.grownBy (w.drew.alloc (.cells (A ++ Zs).toArray 9)) none := gtrans (gdrew w) (World.grownBy_alloc w.drew _ none)
  obtain ⟨W1, hW1⟩ : ∃ W, W = w.drew.alloc (.cells (A ++ Zs).toArray 9) := ⟨_, rfl⟩
  rw [← hW1] at hrz hN0 hg1
  clear hW1
  have hL1 : ∀ j u, news[j]? = some u → W1.cell? ⟨vb, j, none⟩ = some u := fun j u hj => (World.cell?_of_block (w := w) (hg1.block vb hvl (by simp))).trans (hls j u hj)
  have hX1 : ∀ j u, D[j]? = some u → W1.cell? ⟨g, i + j, none⟩ = some u := fun j u hj => (World.cell?_of_block (w := w) (hg1.block g hgl (by simp))).trans (hDx j u hj)
  have hcp1 := hcA.out W1 hN0 hL1
  obtain ⟨W2, hW2⟩ : ∃ W, W = W1.setRow w.heap.size (A ++ news ++ Zs.drop 1).toArray := ⟨_, rfl⟩
  have hN2 : W2.heap[w.heap.size]? = some (.cells (A ++ news ++ Zs.drop 1).toArray 9 (0, 0)) := by rw [hW2]; exact setRow_heap W1 w.heap.size _ _ _ _ hN0
  have hg2 : W1.grownBy W2 (some w.heap.size) := by rw [hW2]; exact gset_row _ _ _
  rw [← hW2] at hcp1
  clear hW2
  have hX2 : ∀ j u, D[j]? = some u → W2.drew.cell? ⟨g, i + j, none⟩ = some u := fun j u hj => (World.cell?_of_block (w := W1) (w' := W2.drew) (hg2.block g (Nat.lt_of_lt_of_le hgl hg1.size) (by intro e; injection e with e; omega))).trans (hX1 j u hj)
  have hcp2 := hcB.out W2.drew hN2 hX2
  have HFIN : Hid ((W2.drew.setRow w.heap.size (A ++ news ++ D ++ (Zs.drop 1).drop ((n - i))).toArray).ownsRow B 9 1 (.slice (some ⟨w.heap.size, 0, none⟩) (n + 1) G) (n + 1) (insC 1 i xs news) ∧ w.grownBy (W2.drew.setRow w.heap.size (A ++ news ++ D ++ (Zs.drop 1).drop ((n - i))).toArray) (some g)) := Lib.hid (by
    refine ⟨⟨?_, .inr ⟨w.heap.size, G, _, rfl, hB, setRow_heap W2.drew w.heap.size _ _ _ _ hN2, hGn, hG63, ?_, ?_⟩⟩, ?_⟩
    · rw [hINS, List.length_append, List.length_append, hA, hnl, hD]; omega
    · rw [List.size_toArray, List.length_append, List.length_append, List.length_append, List.length_drop, List.length_drop, hA, hnl, hD, hZl]; omega
    · have hln : (A ++ news ++ D).length = (n + 1) * 1 := by rw [List.length_append, List.length_append, hA, hnl, hD]; omega
      rw [hINS, ← hln]
      exact List.take_left
    · exact gnew (gwide (row := some g) hg1) (gtrans hg2 (gtrans (gwide (gdrew W2)) (gset_row _ _ _))) (Nat.le_refl _))
  obtain ⟨W3, hW3⟩ : ∃ W, W = W2.drew.setRow w.heap.size (A ++ news ++ D ++ (Zs.drop 1).drop ((n - i))).toArray := ⟨_, rfl⟩
  rw [← hW3] at hcp2 HFIN
  have e1 : ¬ ((i : Int) = (n : Int)) := by omega
  have e2 : (c : Int) < (n : Int) + 1 := by omega
  have e3 : ¬ (G = i) := by omega
  have e4 : ¬ (G = i + 1) := by omega
  have e5 : ¬ (c = i) := by omega
  have e6 : i ≤ n := by omega
  have e7 : (i : Int) ≤ (n : Int) := by omega
  have hw1 : IntKind.i64.wrap ((i : Int) + 1) = (i : Int) + 1 := by rw [IntKind.wrap_i64]; omega
  have e11 : (i : Int) ≤ (c : Int) := by omega
  have e8 : (0 : Int) ≤ (i : Int) + 1 := by omega
  have e9 : ((i : Int) + 1).toNat = i + 1 := by omega
  have HFR : Hid (Fresh w (.slice (some ⟨g, 0, none⟩) n c) (.slice (some ⟨w.heap.size, 0, none⟩) (n + 1) G)) := Lib.hid (.inr ⟨w.heap.size, rfl, Nat.le_refl _⟩)
  have e10 : (G : Int) ≤ 9223372036854775807 := by unfold maxLen at hG63; omega
  clear hW3 hcA hcB hown hxl hnc hvl hcs hls hkk hik hA hD hold hZl hDD hAA hINS hDx hD1 hN0 hg1 hL1 hX1 hN2 hg2 hX2 hlit hnl h1 h1x hG63
  go_enter Tryz.func150, Tryz.ntmps150
  go_wp2_with (first
    | (at_builtin; refine Lib.wpList_append_run _ rfl _ _ _ _ rfl _ _ rfl rfl _ _ (hrz _) ?_)
    | (at_builtin; refine wpList_copy_at rfl _ _ 26 26 rfl _ _ 1 rfl rfl hcp1 ?_)
    | (at_builtin; refine wpList_copy_at rfl _ _ 26 26 rfl _ _ (n - i) rfl rfl hcp2 ?_))
  go_still_tail 8, (by kernel_rfl)
  change wpList _ _ _ _ _ W2.drew
  generalize W2.drew = W2d at *
  refine wpList_copy_at rfl _ _ 26 26 rfl _ _ (n - i) (by simp [Act.eval]) (by simp [Act.eval]) hcp2 ?_
  go_wp2
  go_ret
  exact ⟨_, rfl, HFIN.out.1, HFIN.out.2, HFR.out⟩

theorem insV_info : (Tryz.prog.info? 28).map (fun i => (i.zero, i.size, i.bytes)) = some (some (.agg zeroV), 8, 112) := by kernel_rfl
set_option maxRecDepth 100000 in
set_option maxHeartbeats 8000000 in
/-- At the end. -/
theorem insV_end (B n vb : Nat) (v : Value) (xs news : List Value) (w : World) (hown : w.ownsRow B 28 8 v n xs) (hn : n ≤ 100000) (hB : B ≤ w.heap.size) (hnl : news.length = 8) (h1 : ∀ u ∈ news, u.oneCell' = true)
    (hlit : w.heap[vb]? = some (.cells news.toArray 28 (0, 0))) :
    Calls Tryz.prog 151 #[v, .int .i64 n, .slice (some ⟨vb, 0, none⟩) 1 1] w fun r w' => ∃ v', r = .returned v' ∧ w'.ownsRow B 28 8 v' (n + 1) (insC 8 n xs news) ∧ w.grownBy w' v.ownBlock ∧ Fresh w v v' := by
  obtain ⟨i0, hin, hz0, hz1, hz2⟩ := info_parts insV_info
  have hxl := hown.1
  have hrow : insC 8 n xs news = xs ++ news := by unfold insC; rw [List.take_of_length_le (by omega), List.drop_eq_nil_of_le (by omega), List.append_nil]
  rw [hrow]
  obtain ⟨ao, c, rfl⟩ := own_shape hown
  have hnc : (n : Int) ≤ (c : Int) := by
    rcases hown.2 with ⟨h, h0⟩ | ⟨g, cap, cur, h, _, _, h3, _⟩
    · cases h; omega
    · cases h; omega
  have hc0 : ¬ ((c : Int) < 0) := by omega
  have hl2 : ∀ j u, news[j]? = some u → w.cell? ((⟨vb, 0, none⟩ : Addr).add j) = some u := fun j u hj => by
    rw [addr_add, Nat.zero_add]
    simp only [World.cell?, hlit]
    simpa using hj
  have HO := Lib.hid hown
  have HL2 := Lib.hid hl2
  have HNL := Lib.hid (And.intro hnl (And.intro h1 hB))
  have hnn : n ≤ 100000 := hn
  clear hown hxl hrow hl2 hlit hnl h1 hB
  go_enter Tryz.func151, Tryz.ntmps151
  go_wp2_with (at_builtin; refine wpList_append_own2 _ rfl (.tmp 23) (.tmp 24) 25 rfl B 28 i0 (.agg zeroV) 8 112 Tryz.underlying25 hin hz0 hz1 hz2 rfl (by decide) (.slice ao n c) n xs rfl HO.out ⟨vb, 0, none⟩ 1 1 news rfl (by have := HNL.out.1; omega) HL2.out HNL.out.2.1 (by unfold maxLen; omega) (by omega) HNL.out.2.2 ?_; intro v' w' ho hg hf; have HO2 := Lib.hid ho; have HG2 := Lib.hid hg; have HF2 := Lib.hid hf; clear ho hg hf)
  all_goals (go_ret; exact ⟨_, rfl, HO2.out, by cases ao <;> exact HG2.out, by cases ao <;> exact HF2.out⟩)

theorem insV_zlen (m : Nat) : (Builtin.zeroCells ((.agg zeroV : Value).cells) m).size = m * 8 := by
  simp [Builtin.zeroCells, Value.cells]
set_option maxRecDepth 100000 in
set_option maxHeartbeats 8000000 in
/-- Within, where there is no room. -/
theorem insV_grow (B n i vb g c : Nat) (xs news : List Value) (w : World) (hown : w.ownsRow B 28 8 (.slice (some ⟨g, 0, none⟩) n c) n xs) (hi : i < n) (hn : n ≤ 100000) (hc : c < n + 1) (hB : B ≤ w.heap.size) (hnl : news.length = 8) (h1 : ∀ u ∈ news, u.oneCell' = true) (h1x : ∀ u ∈ xs, u.oneCell' = true)
    (hlit : w.heap[vb]? = some (.cells news.toArray 28 (0, 0))) :
    Calls Tryz.prog 151 #[.slice (some ⟨g, 0, none⟩) n c, .int .i64 i, .slice (some ⟨vb, 0, none⟩) 1 1] w fun r w' => ∃ v', r = .returned v' ∧ w'.ownsRow B 28 8 v' (n + 1) (insC 8 i xs news) ∧ w.grownBy w' (some g) ∧ Fresh w (.slice (some ⟨g, 0, none⟩) n c) v' := by
  obtain ⟨i0, hin, hz0, hz1, hz2⟩ := info_parts insV_info
  have hxl := hown.1
  have hgl : g < w.heap.size := by
    rcases hown.2 with ⟨h, h0⟩ | ⟨g', cap, cur, h, _, h2, h3, _⟩
    · cases h
    · cases h; exact lt_of_block h2
  have hnc : n ≤ c := by
    rcases hown.2 with ⟨h, h0⟩ | ⟨g', cap, cur, h, _, _, h3, _⟩
    · cases h
    · cases h; exact h3
  have hvl : vb < w.heap.size := lt_of_block hlit
  have hcs : ∀ j u, xs[j]? = some u → w.cell? ⟨g, j, none⟩ = some u := fun j u hj => by
    have := World.ownsRow.cells hown (g := g) rfl j u hj
    rwa [addr_add, Nat.zero_add] at this
  have hls : ∀ j u, news[j]? = some u → w.cell? ⟨vb, j, none⟩ = some u := fun j u hj => by
    simp only [World.cell?, hlit]
    simpa using hj
  have hkk : (n : Int) + 1 - (i : Int) = ((n + 1 - i : Nat) : Int) := by omega
  have hik : i + (n + 1 - i) = n + 1 := by omega
  have hA : (xs.take (i * 8)).length = i * 8 := by rw [List.length_take]; omega
  have hD : (xs.drop (i * 8)).length = (n - i) * 8 := by rw [List.length_drop]; omega
  have hold : (Builtin.firstCells i0.size i (.slice (some ⟨g, 0, none⟩) i c)).run Tryz.prog w.drew = .ok (xs.take (i * 8)).toArray w.drew := by
    rw [hz1]
    refine run_firstCells_some w.drew 8 i ⟨g, 0, none⟩ i c (xs.take (i * 8)) (by simpa using hA) (fun j v hj => ?_)
    rw [addr_add, Nat.zero_add]
    rw [List.getElem?_take] at hj
    split at hj
    · exact hcs j v hj
    · cases hj
  have hrz : ∀ ty, (Builtin.append_ #[25, 3] ty #[.slice (some ⟨g, 0, none⟩) i c, .int .i64 ((n : Int) + 1 - (i : Int))]).run Tryz.prog w =
      .ok (.slice (some ⟨w.heap.size, 0, none⟩) (n + 1) (grownCap w (n + 1) c 28)) (w.drew.alloc (.cells ((xs.take (i * 8)).toArray ++ Builtin.zeroCells ((.agg zeroV : Value).cells) (n + 1 - i) ++ Builtin.zeroCells ((.agg zeroV : Value).cells) (grownCap w (n + 1) c 28 - (n + 1))) 28)) := fun ty => by
    have h := Lib.run_append_grow_zeros w 25 3 ty 28 i0 _ .i64 .i64 Tryz.underlying25 Tryz.underlying3 hin hz0 (some ⟨g, 0, none⟩) i c (xs.take (i * 8)) hold (n + 1 - i) (by omega) (by omega) (by omega) (by omega) (by rw [hz2]; omega) (by rw [hz2, hik]; exact growslice_fits hc (by omega))
    rw [hik] at h
    rw [hkk]
    exact h
  obtain ⟨G, hG⟩ : ∃ G, G = grownCap w (n + 1) c 28 := ⟨_, rfl⟩
  have hGn : n + 1 ≤ G := by rw [hG]; exact grownCap_ge w _ _ _
  have hG63 : G ≤ maxLen := by rw [hG]; exact grownCap_le_maxLen w (n + 1) c 28 (by unfold maxLen; omega)
  rw [← hG] at hrz
  obtain ⟨Zs, hZs⟩ : ∃ Zs : List Value, Zs = (Builtin.zeroCells ((.agg zeroV : Value).cells) (n + 1 - i) ++ Builtin.zeroCells ((.agg zeroV : Value).cells) (G - (n + 1))).toList := ⟨_, rfl⟩
  have hZl : Zs.length = (G - i) * 8 := by
    rw [hZs, Array.length_toList, Array.size_append, insV_zlen, insV_zlen]; omega
  have hROW : (xs.take (i * 8)).toArray ++ Builtin.zeroCells ((.agg zeroV : Value).cells) (n + 1 - i) ++ Builtin.zeroCells ((.agg zeroV : Value).cells) (G - (n + 1)) = (xs.take (i * 8) ++ Zs).toArray := by
    rw [hZs]; simp [Array.append_assoc]
  rw [hROW] at hrz
  clear hROW hZs hG
  generalize hAA : xs.take (i * 8) = A at *
  generalize hDD : xs.drop (i * 8) = D at *
  have hINS : insC 8 i xs news = A ++ news ++ D := by unfold insC; rw [hAA, hDD]
  have hDx : ∀ j u, D[j]? = some u → w.cell? ⟨g, i * 8 + j, none⟩ = some u := fun j u hj => by
    rw [← hDD, List.getElem?_drop] at hj
    exact hcs _ u hj
  have hD1 : ∀ u ∈ D, u.oneCell' = true := fun u hu => h1x u (by rw [← hDD] at hu; exact List.mem_of_mem_drop hu)
  have hcA : Hid (∀ (W : World), W.heap[w.heap.size]? = some (.cells (A ++ Zs).toArray 28 (0, 0)) → (∀ j u, news[j]? = some u → W.cell? ⟨vb, j, none⟩ = some u) → ∀ ty, (Builtin.copy_ #[25, 25] ty #[.slice (some ⟨w.heap.size, i * 8, none⟩) (n + 1 - i) (G - i), .slice (some ⟨vb, 0, none⟩) 1 1]).run Tryz.prog W = .ok (goInt 1) (W.setRow w.heap.size (A ++ news ++ Zs.drop 8).toArray)) := Lib.hid (fun W hW hs ty => by
    have h := run_copy_rows (P := Tryz.prog) W 25 25 ty 28 8 w.heap.size (i * 8) (n + 1 - i) (G - i) ⟨vb, 0, none⟩ 1 1 (A ++ Zs).toArray 28 news Tryz.underlying25 (by rw [hin]; simp [hz1]) hW 1 (by simp only [Nat.min_def]; split <;> omega) (by omega) (fun j v hj => by rw [addr_add, Nat.zero_add]; exact hs j v hj) (by simp; omega) h1
    rw [h, show (A ++ Zs).toArray.toList = A ++ Zs from rfl, hnl, splice A Zs news _ _ hA]
    rfl)
  have hcB : Hid (∀ (W : World), W.heap[w.heap.size]? = some (.cells (A ++ news ++ Zs.drop 8).toArray 28 (0, 0)) → (∀ j u, D[j]? = some u → W.cell? ⟨g, i * 8 + j, none⟩ = some u) → ∀ ty, (Builtin.copy_ #[25, 25] ty #[.slice (some ⟨w.heap.size, (i + 1) * 8, none⟩) (n + 1 - (i + 1)) (G - (i + 1)), .slice (some ⟨g, i * 8, none⟩) (n - i) (c - i)]).run Tryz.prog W = .ok (goInt ((n - i : Nat) : Int)) (W.setRow w.heap.size (A ++ news ++ D ++ (Zs.drop 8).drop ((n - i) * 8)).toArray)) := Lib.hid (fun W hW hs ty => by
    have h := run_copy_rows (P := Tryz.prog) W 25 25 ty 28 8 w.heap.size ((i + 1) * 8) (n + 1 - (i + 1)) (G - (i + 1)) ⟨g, i * 8, none⟩ (n - i) (c - i) (A ++ news ++ Zs.drop 8).toArray 28 D Tryz.underlying25 (by rw [hin]; simp [hz1]) hW (n - i) (by simp only [Nat.min_def]; split <;> omega) (by simpa using hD) (fun j v hj => by rw [addr_add]; exact hs j v hj) (by simp; omega) hD1
    have hAN : (A ++ news).length = (i + 1) * 8 := by rw [List.length_append, hA, hnl]; omega
    rw [h, show (A ++ news ++ Zs.drop 8).toArray.toList = (A ++ news) ++ Zs.drop 8 from rfl, hD, splice (A ++ news) (Zs.drop 8) D _ _ hAN])
  have hN0 : (w.drew.alloc (.cells (A ++ Zs).toArray 28)).heap[w.heap.size]? = some (.cells (A ++ Zs).toArray 28 (0, 0)) := heap_alloc_new w.drew _
  have hg1 : w.grownBy (w.drew.alloc (.cells (A ++ Zs).toArray 28)) none := gtrans (gdrew w) (World.grownBy_alloc w.drew _ none)
  obtain ⟨W1, hW1⟩ : ∃ W, W = w.drew.alloc (.cells (A ++ Zs).toArray 28) := ⟨_, rfl⟩
  rw [← hW1] at hrz hN0 hg1
  clear hW1
  have hL1 : ∀ j u, news[j]? = some u → W1.cell? ⟨vb, j, none⟩ = some u := fun j u hj => (World.cell?_of_block (w := w) (hg1.block vb hvl (by simp))).trans (hls j u hj)
  have hX1 : ∀ j u, D[j]? = some u → W1.cell? ⟨g, i * 8 + j, none⟩ = some u := fun j u hj => (World.cell?_of_block (w := w) (hg1.block g hgl (by simp))).trans (hDx j u hj)
  have hcp1 := hcA.out W1 hN0 hL1
  obtain ⟨W2, hW2⟩ : ∃ W, W = W1.setRow w.heap.size (A ++ news ++ Zs.drop 8).toArray := ⟨_, rfl⟩
  have hN2 : W2.heap[w.heap.size]? = some (.cells (A ++ news ++ Zs.drop 8).toArray 28 (0, 0)) := by rw [hW2]; exact setRow_heap W1 w.heap.size _ _ _ _ hN0
  have hg2 : W1.grownBy W2 (some w.heap.size) := by rw [hW2]; exact gset_row _ _ _
  rw [← hW2] at hcp1
  clear hW2
  have hX2 : ∀ j u, D[j]? = some u → W2.drew.cell? ⟨g, i * 8 + j, none⟩ = some u := fun j u hj => (World.cell?_of_block (w := W1) (w' := W2.drew) (hg2.block g (Nat.lt_of_lt_of_le hgl hg1.size) (by intro e; injection e with e; omega))).trans (hX1 j u hj)
  have hcp2 := hcB.out W2.drew hN2 hX2
  have HFIN : Hid ((W2.drew.setRow w.heap.size (A ++ news ++ D ++ (Zs.drop 8).drop ((n - i) * 8)).toArray).ownsRow B 28 8 (.slice (some ⟨w.heap.size, 0, none⟩) (n + 1) G) (n + 1) (insC 8 i xs news) ∧ w.grownBy (W2.drew.setRow w.heap.size (A ++ news ++ D ++ (Zs.drop 8).drop ((n - i) * 8)).toArray) (some g)) := Lib.hid (by
    refine ⟨⟨?_, .inr ⟨w.heap.size, G, _, rfl, hB, setRow_heap W2.drew w.heap.size _ _ _ _ hN2, hGn, hG63, ?_, ?_⟩⟩, ?_⟩
    · rw [hINS, List.length_append, List.length_append, hA, hnl, hD]; omega
    · rw [List.size_toArray, List.length_append, List.length_append, List.length_append, List.length_drop, List.length_drop, hA, hnl, hD, hZl]; omega
    · have hln : (A ++ news ++ D).length = (n + 1) * 8 := by rw [List.length_append, List.length_append, hA, hnl, hD]; omega
      rw [hINS, ← hln]
      exact List.take_left
    · exact gnew (gwide (row := some g) hg1) (gtrans hg2 (gtrans (gwide (gdrew W2)) (gset_row _ _ _))) (Nat.le_refl _))
  obtain ⟨W3, hW3⟩ : ∃ W, W = W2.drew.setRow w.heap.size (A ++ news ++ D ++ (Zs.drop 8).drop ((n - i) * 8)).toArray := ⟨_, rfl⟩
  rw [← hW3] at hcp2 HFIN
  have e1 : ¬ ((i : Int) = (n : Int)) := by omega
  have e2 : (c : Int) < (n : Int) + 1 := by omega
  have e3 : ¬ (G = i) := by omega
  have e4 : ¬ (G = i + 1) := by omega
  have e5 : ¬ (c = i) := by omega
  have e6 : i ≤ n := by omega
  have e7 : (i : Int) ≤ (n : Int) := by omega
  have hw1 : IntKind.i64.wrap ((i : Int) + 1) = (i : Int) + 1 := by rw [IntKind.wrap_i64]; omega
  have e11 : (i : Int) ≤ (c : Int) := by omega
  have e8 : (0 : Int) ≤ (i : Int) + 1 := by omega
  have e9 : ((i : Int) + 1).toNat = i + 1 := by omega
  have HFR : Hid (Fresh w (.slice (some ⟨g, 0, none⟩) n c) (.slice (some ⟨w.heap.size, 0, none⟩) (n + 1) G)) := Lib.hid (.inr ⟨w.heap.size, rfl, Nat.le_refl _⟩)
  have e10 : (G : Int) ≤ 9223372036854775807 := by unfold maxLen at hG63; omega
  clear hW3 hcA hcB hown hxl hnc hvl hcs hls hkk hik hA hD hold hZl hDD hAA hINS hDx hD1 hN0 hg1 hL1 hX1 hN2 hg2 hX2 hlit hnl h1 h1x hG63
  go_enter Tryz.func151, Tryz.ntmps151
  go_wp2_with (first
    | (at_builtin; refine Lib.wpList_append_run _ rfl _ _ _ _ rfl _ _ rfl rfl _ _ (hrz _) ?_)
    | (at_builtin; refine wpList_copy_at rfl _ _ 25 25 rfl _ _ 1 rfl rfl hcp1 ?_)
    | (at_builtin; refine wpList_copy_at rfl _ _ 25 25 rfl _ _ (n - i) rfl rfl hcp2 ?_))
  go_still_tail 8, (by kernel_rfl)
  change wpList _ _ _ _ _ W2.drew
  generalize W2.drew = W2d at *
  refine wpList_copy_at rfl _ _ 25 25 rfl _ _ (n - i) (by simp [Act.eval]) (by simp [Act.eval]) hcp2 ?_
  go_wp2
  go_ret
  exact ⟨_, rfl, HFIN.out.1, HFIN.out.2, HFR.out⟩

end Go.Proofs.YticnfmfmgdfdeaaGreatDoor

namespace Go.Proofs.YticnfmfmgdfdeaaGreatDoor
open Go.RowKit

set_option maxRecDepth 100000 in
set_option maxHeartbeats 8000000 in
/-- Within, where there is room. -/
theorem insS_shift (B n i vb g c : Nat) (xs news : List Value) (w : World) (hown : w.ownsRow B 9 1 (.slice (some ⟨g, 0, none⟩) n c) n xs) (hi : i < n) (hn : n ≤ 100000) (hc : n + 1 ≤ c) (hnl : news.length = 1) (h1 : ∀ u ∈ news, u.oneCell' = true) (h1x : ∀ u ∈ xs, u.oneCell' = true)
    (hlit : w.heap[vb]? = some (.cells news.toArray 9 (0, 0))) (hne : vb ≠ g) :
    Calls Tryz.prog 150 #[.slice (some ⟨g, 0, none⟩) n c, .int .i64 i, .slice (some ⟨vb, 0, none⟩) 1 1] w fun r w' => ∃ v', r = .returned v' ∧ w'.ownsRow B 9 1 v' (n + 1) (insC 1 i xs news) ∧ w.grownBy w' (some g) ∧ Fresh w (.slice (some ⟨g, 0, none⟩) n c) v' := by
  obtain ⟨i0, hin, hz0, hz1, hz2⟩ := info_parts insS_info
  have hxl := hown.1
  obtain ⟨cur, hB, hg, hc63, hcz, htk⟩ : ∃ cur, B ≤ g ∧ w.heap[g]? = some (.cells cur 9 (0, 0)) ∧ c ≤ maxLen ∧ cur.size = c * 1 ∧ cur.toList.take (n * 1) = xs := by
    rcases hown.2 with ⟨h, h0⟩ | ⟨g', cap, cur, h, h1, h2, h3, h4, h5, h6⟩
    · cases h
    · cases h; exact ⟨cur, h1, h2, h4, h5, h6⟩
  have hcs : ∀ j u, xs[j]? = some u → w.cell? ⟨g, j, none⟩ = some u := fun j u hj => by
    have := World.ownsRow.cells hown (g := g) rfl j u hj
    rwa [addr_add, Nat.zero_add] at this
  have hls : ∀ j u, news[j]? = some u → w.cell? ⟨vb, j, none⟩ = some u := fun j u hj => by
    simp only [World.cell?, hlit]
    simpa using hj
  have hov : ∀ lb cb, (callFunc 176 #[.slice (some ⟨vb, 0, none⟩) 1 1, .slice (some ⟨g, (i + 1), none⟩) lb cb]).run Tryz.prog w = .ok (.value (.bool false)) w := fun lb cb => by
    rw [run_callFunc_extern Tryz.func176 (by kernel_rfl) (by kernel_rfl) (by kernel_rfl) (e := Extern.SlicesOverlaps.overlaps #[26, 26] #[4]) (by kernel_rfl),
      Lib.run_overlaps_apart w 26 4 9 Tryz.underlying26 1 (fun w => by simp [sizeOf, typeInfo, hin, hz1]) ⟨vb, 0, none⟩ ⟨g, (i + 1), none⟩ 1 1 lb cb hne 9 9 news.length cur.size (by simp [World.shape?, hlit]) (by simp [World.shape?, hg]) (by omega) (by simp [World.frozen?, hlit]) (by simp [World.frozen?, hlit])]
    rfl
  have hA : (xs.take (i)).length = i := by rw [List.length_take]; omega
  have hD : (xs.drop (i)).length = (n - i) := by rw [List.length_drop]; omega
  have hcA : (cur.toList.take ((i + 1))).take (i) = xs.take (i) := by
    rw [← htk, List.take_take, List.take_take]
    congr 1
    omega
  have hcM : (cur.toList.take ((i + 1))).length = (i + 1) := by rw [List.length_take, Array.length_toList, hcz]; omega
  generalize hAA : xs.take (i) = A at *
  generalize hDD : xs.drop (i) = D at *
  have hINS : insC 1 i xs news = A ++ news ++ D := by unfold insC; rw [Nat.mul_one]; rw [hAA, hDD]
  have hDx : ∀ j u, D[j]? = some u → w.drew.cell? ((⟨g, i, none⟩ : Addr).add j) = some u := fun j u hj => by
    rw [addr_add]
    rw [← hDD, List.getElem?_drop] at hj
    exact hcs _ u hj
  have hD1 : ∀ u ∈ D, u.oneCell' = true := fun u hu => h1x u (by rw [← hDD] at hu; exact List.mem_of_mem_drop hu)
  obtain ⟨X, hX⟩ : ∃ X, X = cur.toList.drop ((i + 1) + D.length) := ⟨_, rfl⟩
  have hXl : X.length = c * 1 - (i + 1) - (n - i) := by rw [hX, List.length_drop, Array.length_toList, hcz, hD]; omega
  have hcp1 : ∀ ty, (Builtin.copy_ #[26, 26] ty #[.slice (some ⟨g, (i + 1), none⟩) (n + 1 - (i + 1)) (c - (i + 1)), .slice (some ⟨g, i, none⟩) (n + 1 - i) (c - i)]).run Tryz.prog w.drew = .ok (goInt ((n - i : Nat) : Int)) (w.drew.setRow g (cur.toList.take ((i + 1)) ++ D ++ X).toArray) := fun ty => by
    rw [hX]
    exact run_copy_rows (P := Tryz.prog) w.drew 26 26 ty 9 1 g ((i + 1)) (n + 1 - (i + 1)) (c - (i + 1)) ⟨g, i, none⟩ (n + 1 - i) (c - i) cur 9 D Tryz.underlying26 (by rw [hin]; simp [hz1]) hg (n - i) (by simp only [Nat.min_def]; split <;> omega) (by simpa using hD) hDx (by rw [hcz]; omega) hD1
  generalize hMM : cur.toList.take ((i + 1)) = M at *
  have hcp2 : ∀ ty, (Builtin.copy_ #[26, 26] ty #[.slice (some ⟨g, i, none⟩) (n + 1 - i) (c - i), .slice (some ⟨vb, 0, none⟩) 1 1]).run Tryz.prog (w.drew.setRow g (M ++ D ++ X).toArray) = .ok (goInt 1) ((w.drew.setRow g (M ++ D ++ X).toArray).setRow g (A ++ news ++ (D ++ X)).toArray) := fun ty => by
    have h := run_copy_rows (P := Tryz.prog) (w.drew.setRow g (M ++ D ++ X).toArray) 26 26 ty 9 1 g (i) (n + 1 - i) (c - i) ⟨vb, 0, none⟩ 1 1 (M ++ D ++ X).toArray 9 news Tryz.underlying26 (by rw [hin]; simp [hz1]) (setRow_heap w.drew g _ _ _ _ hg) 1 (by simp only [Nat.min_def]; split <;> omega) (by omega) (fun j v hj => by
      rw [addr_add, Nat.zero_add]
      exact (World.cell?_of_block (w := w) (setRow_other w.drew g vb _ hne)).trans (hls j v hj)) (by simp only [List.size_toArray, List.length_append]; omega) h1
    have e1 : ((M ++ D ++ X).toArray.toList).take (i) = A := by
      show (M ++ D ++ X).take (i) = A
      rw [List.append_assoc, List.take_append_of_le_length (by omega)]
      exact hcA
    have e2 : ((M ++ D ++ X).toArray.toList).drop (i + news.length) = D ++ X := by
      show (M ++ D ++ X).drop (i + news.length) = D ++ X
      rw [List.append_assoc, show i + news.length = M.length by omega]
      exact List.drop_left
    rw [h, e1, e2]
    rfl
  have HFIN : Hid (((w.drew.setRow g (M ++ D ++ X).toArray).setRow g (A ++ news ++ (D ++ X)).toArray).ownsRow B 9 1 (.slice (some ⟨g, 0, none⟩) (n + 1) c) (n + 1) (insC 1 i xs news) ∧ w.grownBy ((w.drew.setRow g (M ++ D ++ X).toArray).setRow g (A ++ news ++ (D ++ X)).toArray) (some g)) := Lib.hid (by
    refine ⟨⟨?_, .inr ⟨g, c, _, rfl, hB, setRow_heap _ g _ _ _ _ (setRow_heap w.drew g _ _ _ _ hg), hc, hc63, ?_, ?_⟩⟩, ?_⟩
    · rw [hINS, List.length_append, List.length_append, hA, hnl, hD]; omega
    · simp only [List.size_toArray, List.length_append]; omega
    · have hln : (A ++ news ++ D).length = (n + 1) * 1 := by rw [List.length_append, List.length_append, hA, hnl, hD]; omega
      rw [hINS, ← hln, ← List.append_assoc]
      exact List.take_left
    · exact gtrans (gwide (gdrew w)) (gtrans (gset_row _ _ _) (gset_row _ _ _)))
  obtain ⟨W2, hW2⟩ : ∃ W, W = (w.drew.setRow g (M ++ D ++ X).toArray).setRow g (A ++ news ++ (D ++ X)).toArray := ⟨_, rfl⟩
  rw [← hW2] at hcp2 HFIN
  obtain ⟨W1, hW1⟩ : ∃ W, W = w.drew.setRow g (M ++ D ++ X).toArray := ⟨_, rfl⟩
  rw [← hW1] at hcp2 hcp1
  have e1 : ¬ ((i : Int) = (n : Int)) := by omega
  have e2 : ¬ ((c : Int) < (n : Int) + 1) := by omega
  have e3 : ¬ (c = i) := by omega
  have e4 : ¬ (c = i + 1) := by omega
  have e6 : i ≤ n := by omega
  have e7 : (i : Int) ≤ (n : Int) := by omega
  have hw1 : IntKind.i64.wrap ((i : Int) + 1) = (i : Int) + 1 := by rw [IntKind.wrap_i64]; omega
  have hw2 : IntKind.i64.wrap ((n : Int) + 1) = (n : Int) + 1 := by rw [IntKind.wrap_i64]; omega
  have e11 : (i : Int) ≤ (c : Int) := by omega
  have e12 : (n : Int) + 1 ≤ (c : Int) := by omega
  have e13 : (i : Int) ≤ (n : Int) + 1 := by omega
  have e8 : (0 : Int) ≤ (i : Int) + 1 := by omega
  have e14 : (0 : Int) ≤ (n : Int) + 1 := by omega
  have e9 : ((i : Int) + 1).toNat = i + 1 := by omega
  have e15 : ((n : Int) + 1).toNat = n + 1 := by omega
  have HFR : Hid (Fresh w (.slice (some ⟨g, 0, none⟩) n c) (.slice (some ⟨g, 0, none⟩) (n + 1) c)) := Lib.hid (.inl rfl)
  clear hW1 hW2 hown hxl hg hcz htk hcs hls hA hD hcA hcM hAA hDD hINS hDx hD1 hXl hX hMM hlit hnl h1 h1x hc63
  go_enter Tryz.func150, Tryz.ntmps150
  go_wp2_with (simp only [hov])
  go_still_tail 8, (by kernel_rfl)
  change wpList _ _ _ _ _ w.drew
  generalize w.drew = W0 at *
  refine wpList_copy_at rfl _ _ 26 26 rfl _ _ (n - i) (by simp [Act.eval]) (by simp [Act.eval]) hcp1 ?_
  go_wp2_with (at_builtin; refine wpList_copy_at rfl _ _ 26 26 rfl _ _ 1 rfl rfl hcp2 ?_)
  go_ret
  exact ⟨_, rfl, HFIN.out.1, HFIN.out.2, HFR.out⟩

set_option maxRecDepth 100000 in
set_option maxHeartbeats 8000000 in
/-- Within, where there is room. -/
theorem insV_shift (B n i vb g c : Nat) (xs news : List Value) (w : World) (hown : w.ownsRow B 28 8 (.slice (some ⟨g, 0, none⟩) n c) n xs) (hi : i < n) (hn : n ≤ 100000) (hc : n + 1 ≤ c) (hnl : news.length = 8) (h1 : ∀ u ∈ news, u.oneCell' = true) (h1x : ∀ u ∈ xs, u.oneCell' = true)
    (hlit : w.heap[vb]? = some (.cells news.toArray 28 (0, 0))) (hne : vb ≠ g) :
    Calls Tryz.prog 151 #[.slice (some ⟨g, 0, none⟩) n c, .int .i64 i, .slice (some ⟨vb, 0, none⟩) 1 1] w fun r w' => ∃ v', r = .returned v' ∧ w'.ownsRow B 28 8 v' (n + 1) (insC 8 i xs news) ∧ w.grownBy w' (some g) ∧ Fresh w (.slice (some ⟨g, 0, none⟩) n c) v' := by
  obtain ⟨i0, hin, hz0, hz1, hz2⟩ := info_parts insV_info
  have hxl := hown.1
  obtain ⟨cur, hB, hg, hc63, hcz, htk⟩ : ∃ cur, B ≤ g ∧ w.heap[g]? = some (.cells cur 28 (0, 0)) ∧ c ≤ maxLen ∧ cur.size = c * 8 ∧ cur.toList.take (n * 8) = xs := by
    rcases hown.2 with ⟨h, h0⟩ | ⟨g', cap, cur, h, h1, h2, h3, h4, h5, h6⟩
    · cases h
    · cases h; exact ⟨cur, h1, h2, h4, h5, h6⟩
  have hcs : ∀ j u, xs[j]? = some u → w.cell? ⟨g, j, none⟩ = some u := fun j u hj => by
    have := World.ownsRow.cells hown (g := g) rfl j u hj
    rwa [addr_add, Nat.zero_add] at this
  have hls : ∀ j u, news[j]? = some u → w.cell? ⟨vb, j, none⟩ = some u := fun j u hj => by
    simp only [World.cell?, hlit]
    simpa using hj
  have hov : ∀ lb cb, (callFunc 178 #[.slice (some ⟨vb, 0, none⟩) 1 1, .slice (some ⟨g, (i + 1) * 8, none⟩) lb cb]).run Tryz.prog w = .ok (.value (.bool false)) w := fun lb cb => by
    rw [run_callFunc_extern Tryz.func178 (by kernel_rfl) (by kernel_rfl) (by kernel_rfl) (e := Extern.SlicesOverlaps.overlaps #[25, 25] #[4]) (by kernel_rfl),
      Lib.run_overlaps_apart w 25 4 28 Tryz.underlying25 8 (fun w => by simp [sizeOf, typeInfo, hin, hz1]) ⟨vb, 0, none⟩ ⟨g, (i + 1) * 8, none⟩ 1 1 lb cb hne 28 28 news.length cur.size (by simp [World.shape?, hlit]) (by simp [World.shape?, hg]) (by omega) (by simp [World.frozen?, hlit]) (by simp [World.frozen?, hlit])]
    rfl
  have hA : (xs.take (i * 8)).length = i * 8 := by rw [List.length_take]; omega
  have hD : (xs.drop (i * 8)).length = (n - i) * 8 := by rw [List.length_drop]; omega
  have hcA : (cur.toList.take ((i + 1) * 8)).take (i * 8) = xs.take (i * 8) := by
    rw [← htk, List.take_take, List.take_take]
    congr 1
    omega
  have hcM : (cur.toList.take ((i + 1) * 8)).length = (i + 1) * 8 := by rw [List.length_take, Array.length_toList, hcz]; omega
  generalize hAA : xs.take (i * 8) = A at *
  generalize hDD : xs.drop (i * 8) = D at *
  have hINS : insC 8 i xs news = A ++ news ++ D := by unfold insC; rw [hAA, hDD]
  have hDx : ∀ j u, D[j]? = some u → w.drew.cell? ((⟨g, i * 8, none⟩ : Addr).add j) = some u := fun j u hj => by
    rw [addr_add]
    rw [← hDD, List.getElem?_drop] at hj
    exact hcs _ u hj
  have hD1 : ∀ u ∈ D, u.oneCell' = true := fun u hu => h1x u (by rw [← hDD] at hu; exact List.mem_of_mem_drop hu)
  obtain ⟨X, hX⟩ : ∃ X, X = cur.toList.drop ((i + 1) * 8 + D.length) := ⟨_, rfl⟩
  have hXl : X.length = c * 8 - (i + 1) * 8 - (n - i) * 8 := by rw [hX, List.length_drop, Array.length_toList, hcz, hD]; omega
  have hcp1 : ∀ ty, (Builtin.copy_ #[25, 25] ty #[.slice (some ⟨g, (i + 1) * 8, none⟩) (n + 1 - (i + 1)) (c - (i + 1)), .slice (some ⟨g, i * 8, none⟩) (n + 1 - i) (c - i)]).run Tryz.prog w.drew = .ok (goInt ((n - i : Nat) : Int)) (w.drew.setRow g (cur.toList.take ((i + 1) * 8) ++ D ++ X).toArray) := fun ty => by
    rw [hX]
    exact run_copy_rows (P := Tryz.prog) w.drew 25 25 ty 28 8 g ((i + 1) * 8) (n + 1 - (i + 1)) (c - (i + 1)) ⟨g, i * 8, none⟩ (n + 1 - i) (c - i) cur 28 D Tryz.underlying25 (by rw [hin]; simp [hz1]) hg (n - i) (by simp only [Nat.min_def]; split <;> omega) (by simpa using hD) hDx (by rw [hcz]; omega) hD1
  generalize hMM : cur.toList.take ((i + 1) * 8) = M at *
  have hcp2 : ∀ ty, (Builtin.copy_ #[25, 25] ty #[.slice (some ⟨g, i * 8, none⟩) (n + 1 - i) (c - i), .slice (some ⟨vb, 0, none⟩) 1 1]).run Tryz.prog (w.drew.setRow g (M ++ D ++ X).toArray) = .ok (goInt 1) ((w.drew.setRow g (M ++ D ++ X).toArray).setRow g (A ++ news ++ (D ++ X)).toArray) := fun ty => by
    have h := run_copy_rows (P := Tryz.prog) (w.drew.setRow g (M ++ D ++ X).toArray) 25 25 ty 28 8 g (i * 8) (n + 1 - i) (c - i) ⟨vb, 0, none⟩ 1 1 (M ++ D ++ X).toArray 28 news Tryz.underlying25 (by rw [hin]; simp [hz1]) (setRow_heap w.drew g _ _ _ _ hg) 1 (by simp only [Nat.min_def]; split <;> omega) (by omega) (fun j v hj => by
      rw [addr_add, Nat.zero_add]
      exact (World.cell?_of_block (w := w) (setRow_other w.drew g vb _ hne)).trans (hls j v hj)) (by simp only [List.size_toArray, List.length_append]; omega) h1
    have e1 : ((M ++ D ++ X).toArray.toList).take (i * 8) = A := by
      show (M ++ D ++ X).take (i * 8) = A
      rw [List.append_assoc, List.take_append_of_le_length (by omega)]
      exact hcA
    have e2 : ((M ++ D ++ X).toArray.toList).drop (i * 8 + news.length) = D ++ X := by
      show (M ++ D ++ X).drop (i * 8 + news.length) = D ++ X
      rw [List.append_assoc, show i * 8 + news.length = M.length by omega]
      exact List.drop_left
    rw [h, e1, e2]
    rfl
  have HFIN : Hid (((w.drew.setRow g (M ++ D ++ X).toArray).setRow g (A ++ news ++ (D ++ X)).toArray).ownsRow B 28 8 (.slice (some ⟨g, 0, none⟩) (n + 1) c) (n + 1) (insC 8 i xs news) ∧ w.grownBy ((w.drew.setRow g (M ++ D ++ X).toArray).setRow g (A ++ news ++ (D ++ X)).toArray) (some g)) := Lib.hid (by
    refine ⟨⟨?_, .inr ⟨g, c, _, rfl, hB, setRow_heap _ g _ _ _ _ (setRow_heap w.drew g _ _ _ _ hg), hc, hc63, ?_, ?_⟩⟩, ?_⟩
    · rw [hINS, List.length_append, List.length_append, hA, hnl, hD]; omega
    · simp only [List.size_toArray, List.length_append]; omega
    · have hln : (A ++ news ++ D).length = (n + 1) * 8 := by rw [List.length_append, List.length_append, hA, hnl, hD]; omega
      rw [hINS, ← hln, ← List.append_assoc]
      exact List.take_left
    · exact gtrans (gwide (gdrew w)) (gtrans (gset_row _ _ _) (gset_row _ _ _)))
  obtain ⟨W2, hW2⟩ : ∃ W, W = (w.drew.setRow g (M ++ D ++ X).toArray).setRow g (A ++ news ++ (D ++ X)).toArray := ⟨_, rfl⟩
  rw [← hW2] at hcp2 HFIN
  obtain ⟨W1, hW1⟩ : ∃ W, W = w.drew.setRow g (M ++ D ++ X).toArray := ⟨_, rfl⟩
  rw [← hW1] at hcp2 hcp1
  have e1 : ¬ ((i : Int) = (n : Int)) := by omega
  have e2 : ¬ ((c : Int) < (n : Int) + 1) := by omega
  have e3 : ¬ (c = i) := by omega
  have e4 : ¬ (c = i + 1) := by omega
  have e6 : i ≤ n := by omega
  have e7 : (i : Int) ≤ (n : Int) := by omega
  have hw1 : IntKind.i64.wrap ((i : Int) + 1) = (i : Int) + 1 := by rw [IntKind.wrap_i64]; omega
  have hw2 : IntKind.i64.wrap ((n : Int) + 1) = (n : Int) + 1 := by rw [IntKind.wrap_i64]; omega
  have e11 : (i : Int) ≤ (c : Int) := by omega
  have e12 : (n : Int) + 1 ≤ (c : Int) := by omega
  have e13 : (i : Int) ≤ (n : Int) + 1 := by omega
  have e8 : (0 : Int) ≤ (i : Int) + 1 := by omega
  have e14 : (0 : Int) ≤ (n : Int) + 1 := by omega
  have e9 : ((i : Int) + 1).toNat = i + 1 := by omega
  have e15 : ((n : Int) + 1).toNat = n + 1 := by omega
  have HFR : Hid (Fresh w (.slice (some ⟨g, 0, none⟩) n c) (.slice (some ⟨g, 0, none⟩) (n + 1) c)) := Lib.hid (.inl rfl)
  clear hW1 hW2 hown hxl hg hcz htk hcs hls hA hD hcA hcM hAA hDD hINS hDx hD1 hXl hX hMM hlit hnl h1 h1x hc63
  go_enter Tryz.func151, Tryz.ntmps151
  go_wp2_with (simp only [hov])
  go_still_tail 8, (by kernel_rfl)
  change wpList _ _ _ _ _ w.drew
  generalize w.drew = W0 at *
  refine wpList_copy_at rfl _ _ 25 25 rfl _ _ (n - i) (by simp [Act.eval]) (by simp [Act.eval]) hcp1 ?_
  go_wp2_with (at_builtin; refine wpList_copy_at rfl _ _ 25 25 rfl _ _ 1 rfl rfl hcp2 ?_)
  go_ret
  exact ⟨_, rfl, HFIN.out.1, HFIN.out.2, HFR.out⟩

end Go.Proofs.YticnfmfmgdfdeaaGreatDoor
