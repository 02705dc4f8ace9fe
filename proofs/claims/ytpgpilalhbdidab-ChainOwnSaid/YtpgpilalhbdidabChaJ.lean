/-
  Layer 6: the contract of Cut. Own work; the frame is the guide's page on ranges over functions.
-/
import Derived.Test.YtpgpilalhbdidabChaI
import Derived.RangeFuncCalls
import Derived.RangeFuncBound
import Derived.RangeFuncNested
import Derived.Shelf.RegionOpen
import Derived.Maps.AppendAt
namespace Go.Proofs.Ytpgpilalhbdidab
open Go.RowKit Go.Shelf

attribute [local go_sem] Oper.semAt_some

theorem infoBs : (Try.prog.info? 22).map (fun i => (i.zero, i.size, i.bytes)) = some (some (.slice none 0 0), 1, 24) := by kernel_rfl

/-- A slice of rows of bytes, all of the call's own. -/
def COwns (base : Nat) (w : World) (lv : Value) (es : List (Value × List Int)) : Prop :=
  w.ownsRow base 22 1 lv es.length (es.map (·.1)) ∧ ∀ y ∈ es, OwnB base w y.1 y.2
/-- The x-th part. -/
def partC (p : List Int) (m x : Nat) : List Int := (p.drop (x * m)).take m
theorem partC_len (p : List Int) (m x : Nat) : (partC p m x).length = cutE p.length m x := by
  unfold partC cutE; rw [List.length_take, List.length_drop]

theorem own_nc {base size n : Nat} {e : TypeId} {w w' : World} {v : Value} {xs : List Value} {row : Option Nat} (h : w.ownsRow base e size v n xs) (k : w.grownBy w' row) (hr : ∀ r, row = some r → ∃ o : Obj, w.heap[r]? = some o ∧ o.isCells = false) : w'.ownsRow base e size v n xs := by
  refine World.ownsRow.kept h k ?_
  rcases h.2 with ⟨rfl, _⟩ | ⟨g, cap, cur, rfl, _, hgb, _⟩
  · exact .inl rfl
  · right
    intro e'
    obtain ⟨o, ho, hc⟩ := hr g e'.symm
    rw [hgb] at ho; cases ho; cases hc
theorem COwns.nc {base : Nat} {w w' : World} {lv : Value} {es : List (Value × List Int)} {row : Option Nat} (h : COwns base w lv es) (k : w.grownBy w' row) (hr : ∀ r, row = some r → ∃ o : Obj, w.heap[r]? = some o ∧ o.isCells = false) : COwns base w' lv es :=
  ⟨own_nc h.1 k hr, fun y hy => own_nc (h.2 y hy) k hr⟩
theorem COwns.grown {base : Nat} {w w' : World} {lv : Value} {es : List (Value × List Int)} (h : COwns base w lv es) (k : w.grownBy w' none) : COwns base w' lv es := h.nc k (fun r e => by cases e)

theorem own_apart {base b2 : Nat} {w w' : World} {lv v : Value} {n : Nat} {xs : List Value} {bs : List Int} (h : OwnB base w v bs) (hr : w.ownsRow b2 22 1 lv n xs) (k : w.grownBy w' lv.ownBlock) : OwnB base w' v bs := by
  refine World.ownsRow.kept h k ?_
  rcases h.2 with ⟨rfl, _⟩ | ⟨g, cap, cur, rfl, _, hh, _⟩
  · exact .inl rfl
  · right
    rcases hr.2 with ⟨rfl, _⟩ | ⟨g2, cap2, cur2, rfl, _, hh2, _⟩
    · simp [Value.ownBlock]
    · intro e
      have : g = g2 := by simpa [Value.ownBlock] using e
      subst this
      rw [hh] at hh2
      injection hh2 with hh2
      injection hh2 with _ h2
      exact absurd h2 (by decide)

/-- Behind 'parts = append(parts, a new part)'. -/
theorem cut_push {W W2 W4 : World} {g : Nat} {v v' sv : Value} {es : List (Value × List Int)} {bs : List Int} (hv : Boxed W g 24 v) (ho : COwns (g + 3) W v es) (hW : g + 3 ≤ W.heap.size) (hgr : W.grownBy W2 none) (hbs : OwnB (g + 3) W2 sv bs)
    (hown' : W4.ownsRow (g + 3) 22 1 v' (es.length + 1) (es.map (·.1) ++ [sv])) (hgrow : (W2.alloc (.cells #[sv] 22)).grownBy W4 v.ownBlock) :
    Boxed W4 g 24 v ∧ Boxed (W4.setCell ⟨g, 0, none⟩ v') g 24 v' ∧ COwns (g + 3) (W4.setCell ⟨g, 0, none⟩ v') v' (es ++ [(sv, bs)]) ∧ KeepsOthers W (W4.setCell ⟨g, 0, none⟩ v') ∧
      (∀ i, i < g + 3 → i ≠ g → (W4.setCell ⟨g, 0, none⟩ v').heap[i]? = W.heap[i]?) ∧ Below g W (W4.setCell ⟨g, 0, none⟩ v') := by
  have hs2 := hgr.size
  have hv2 : Boxed W2 g 24 v := hv.kept hgr (by simp)
  have ho2 := ho.grown hgr
  obtain ⟨k1, k2, k3, k4, k5⟩ := Boxed.appended hv2 (by decide) (own_base ho2.1 (show g ≤ g + 3 by omega)) (by omega) (Nat.le_refl g) (own_base hown' (show g ≤ g + 3 by omega)) hgrow
  have hga := World.grownBy_alloc W2 (.cells #[sv] 22) none
  have hra := (ho2.grown hga).1
  have hon : ∀ q, v.ownBlock = some q → g + 3 ≤ q := fun q hq => (hra.lt q hq).1
  refine ⟨k1, k2, ⟨?_, ?_⟩, (KeepsOthers.of_grownBy hgr (fun j o e => by cases e)).trans k4, fun i hi hg => ?_, ((gbelow hgr).mono (by omega)).trans k5⟩
  · have := ownsRow_setCell_below hown' (a := ⟨g, 0, none⟩) (by simp) v'
    simpa using this
  · intro y hy
    rcases List.mem_append.1 hy with hy | hy
    · exact ownsRow_setCell_below (own_apart ((ho2.2 y hy).grown hga) hra hgrow) (a := ⟨g, 0, none⟩) (by simp) v'
    · obtain rfl : y = (sv, bs) := by simpa using hy
      exact ownsRow_setCell_below (own_apart (hbs.grown hga) hra hgrow) (a := ⟨g, 0, none⟩) (by simp) v'
  · have e1 : (W4.setCell ⟨g, 0, none⟩ v').heap[i]? = W4.heap[i]? := Below.heap_setCell _ _ _ _ (by simpa using hg)
    rw [e1, hgrow.block i (by simp; omega) (fun e => by have := hon i e.symm; omega), hga.block i (by omega) (by simp), hgr.block i (by omega) (by simp)]

theorem opIn_append {F : Fence} {n : Nat} {P : Program} {o : Oper} {a : Act} {w w' : World} {K : Act → World → Prop} {Q : Exit → Act → World → Prop} (s x : Operand) (t : TypeId) (hop : o.op = Op.call { callee := Callee.builtin Builtin.append, args := #[s, x], argTypes := #[t, t] })
    (v y : Value) (hs : a.eval s = v) (hx : a.eval x = y) {v' : Value} (ty : TypeId) (hty : o.type = ty) (hrun : (Builtin.append_ #[t, t] ty #[v, y]).run P w = .ok v' w') (h : K (a.put o.dst v') w') : Oper.wpIn F n P o a w K Q := by
  unfold Oper.wpIn
  refine ⟨?_, ?_⟩
  · simp [Oper.about, hop, resolve, Target.leads, Sem.run_pure]
  · rw [Oper.semAt_plain F _ _ (by rw [hop]; intro c hc'; cases hc')]
    subst hty
    simp [execOp, hop, resolve, invoke, builtin, hs, hx, hrun, Result.andThen]
    exact h

set_option maxHeartbeats 1000000 in
theorem cut_no (w : World) (ao : Option Addr) (n c : Nat) (size : Int) (hs : ¬ (512 ≤ size ∧ size ≤ 4096)) :
    Calls Try.prog 10 #[.slice ao n c, .int .i64 size] w fun r w' => r = .returned (.slice none 0 0) ∧ w = w' := by
  go_enter Try.func10, Try.ntmps10
  go_wp2_with (go_at_call 18; refine (lsize_no _ _ hs).mono ?_; rintro r w1 ⟨rfl, rfl⟩)
  go_ret
  exact ⟨rfl, rfl⟩

set_option maxRecDepth 100000 in
set_option maxHeartbeats 4000000 in
theorem cut_some (w : World) (B b o len c : Nat) (ao : Option Addr) (hao : 0 < len → ao = some ⟨b, o, none⟩) (p : List Int) (S : Nat) (h : Seq B w (.slice ao len c) p) (hB : B ≤ w.heap.size) (hl : len ≤ 9000) (h1 : 512 ≤ S) (h2 : S ≤ 4096) :
    Calls Try.prog 10 #[.slice ao len c, .int .i64 (S : Int)] w fun r w' => ∃ lv es M, r = .returned lv ∧ COwns (w.heap.size + 3) w' lv es ∧ es.map (·.2) = (List.range M).map (partC p (S - 8)) ∧ len ≤ M * (S - 8) ∧ (∀ k, k < M → k * (S - 8) < len) ∧ w.grownBy w' none := by
  obtain ⟨i0, hi, hz0, hz1, hz2⟩ := info_parts infoBs
  obtain ⟨m, hm⟩ : ∃ m, m = S - 8 := ⟨_, rfl⟩
  have hm1 : 1 ≤ m := by omega
  have hm9 : m ≤ 4096 := by omega
  have HM := Lib.hid (show (S : Int) - 8 = (m : Int) by omega)
  rw [← hm]
  have H := Lib.hid h
  have hcap : len ≤ c ∧ c ≤ 9223372036854775807 := by obtain ⟨_, _, hv, g1, g2, _⟩ := h; injection hv with _ e2 e3; unfold maxLen at g2; omega
  obtain ⟨hc1, hc9⟩ := hcap
  clear h hm
  refine (callsIn_wide (n := 5)).1 ?_
  refine callsIn_of_wp_marks Try.func10 rfl trivial ?_ rfl
  simp only [Try.ntmps10, List.size_toArray, List.length_cons, List.length_nil, Nat.reduceAdd, Nat.reduceSub, Array.replicate_succ, Array.replicate_zero, List.push_toArray, List.append_toArray, List.nil_append, List.cons_append]
  have hS1 : (512 : Int) ≤ (S : Int) := by omega
  have hS2 : (S : Int) ≤ 4096 := by omega
  gi_wp2_with (first
    | (refine ⟨trivial, ?_⟩; gi_at_call 18; refine (callsIn_wide.2 (lsize_yes _ _ hS1 hS2)).mono ?_; rintro r w1 ⟨rfl, rfl⟩)
    | (refine ⟨trivial, ?_⟩; gi_at_call 20; refine (callsIn_wide.2 (most_in (S : Int) _ (by omega) (by omega))).mono ?_; rintro r w1 ⟨rfl, rfl⟩; rw [HM.out])
    | (refine ⟨trivial, ?_⟩; gi_at_call 19; refine (chunk_in _ ao len c (m : Int) (by omega) _).mono ?_; rintro r w1 ⟨rfl, rfl⟩))
  have hb0 : (((w.alloc (.cells #[.slice none 0 0] 24)).alloc (.cells #[.slice ao len c] 22)).alloc (.cells #[.int .i64 (m : Int)] 3)).heap[w.heap.size]? = some (.cells #[.slice none 0 0] 24 (0, 0)) := (Below.heap_alloc _ _ _ (by simp; omega)).trans (two_lit0 _ _ _)
  have hb1 : (((w.alloc (.cells #[.slice none 0 0] 24)).alloc (.cells #[.slice ao len c] 22)).alloc (.cells #[.int .i64 (m : Int)] 3)).heap[w.heap.size + 1]? = some (.cells #[.slice ao len c] 22 (0, 0)) := (Below.heap_alloc _ _ _ (by simp)).trans (two_lit1 _ _ _)
  have hb2 : (((w.alloc (.cells #[.slice none 0 0] 24)).alloc (.cells #[.slice ao len c] 22)).alloc (.cells #[.int .i64 (m : Int)] 3)).heap[w.heap.size + 1 + 1]? = some (.cells #[.int .i64 (m : Int)] 3 (0, 0)) := by
    have := heap_alloc_new ((w.alloc (.cells #[.slice none 0 0] 24)).alloc (.cells #[.slice ao len c] 22)) (.cells #[.int .i64 (m : Int)] 3)
    simpa using this
  have hgw := gtrans (two_grown w (.cells #[.slice none 0 0] 24) (.cells #[.slice ao len c] 22)) (World.grownBy_alloc _ (.cells #[.int .i64 (m : Int)] 3) none)
  have hsz : (((w.alloc (.cells #[.slice none 0 0] 24)).alloc (.cells #[.slice ao len c] 22)).alloc (.cells #[.int .i64 (m : Int)] 3)).heap.size = w.heap.size + 3 := by simp
  generalize ((w.alloc (.cells #[.slice none 0 0] 24)).alloc (.cells #[.slice ao len c] 22)).alloc (.cells #[.int .i64 (m : Int)] 3) = W0 at *
  obtain ⟨g, hg⟩ : ∃ g, g = w.heap.size := ⟨_, rfl⟩
  rw [← hg] at hb0 hb1 hb2 hsz hB ⊢
  have hB0 : Below g w W0 := by rw [hg]; exact gbelow hgw
  have hpl : p.length = len := by obtain ⟨_, _, hv, _⟩ := H.out; injection hv with _ e; exact e.symm
  have HG := Lib.hid hg
  clear hg hgw
  refine wpIn_rangeFunc_ownG rfl (by decide : 1 ≤ 5) (gf := 32) (lb := #[.pointer (some ⟨g + 1, 0, none⟩), .pointer (some ⟨g + 1 + 1, 0, none⟩)]) rfl trivial (enters_of Try.func32 (by kernel_rfl) rfl)
    (chunk_stops (5 - 1) (by decide) (g + 1) (g + 1 + 1) b o len c m ao hao hm1 hm9 (by omega) hc1 hc9 W0 hb1 hb2) (fun h k => ⟨k.1.trans h.1, k.2.trans h.2⟩) (fun W l q q' hl _ _ _ => ⟨World.putObj_heap_other (by omega), World.putObj_heap_other (by omega)⟩) (Below.refl _ _) (fun _ => rfl)
    (fun pre W => (∃ v es, Boxed W g 24 v ∧ COwns (g + 3) W v es ∧ es.map (·.2) = pre.map (partC p m) ∧ g + 3 ≤ W.heap.size) ∧ Below g w W)
    (fun _ _ _ => False)
    (OwnFrom.and (fun s X Y row ⟨v, es, hv, ho, he, hz⟩ hgy hr => ⟨v, es, hv.kept hgy (fun e => by obtain ⟨_, q, hq, hc⟩ := hr g e.symm; rw [show X.heap[g]? = _ from hv] at hq; cases hq; cases hc), ho.nc hgy (fun r e => (hr r e).2), he, Nat.le_trans hz hgy.size⟩) (ownFrom_below (by rw [HG.out]; exact Nat.le_refl _) (by omega)))
    (fun _ _ _ _ _ hs _ _ => hs)
    ⟨⟨.slice none 0 0, [], hb0, ⟨World.ownsRow_nil _ _ _ _, fun y hy => by cases hy⟩, rfl, by omega⟩, hB0⟩
    (fun x => { tmps := #[.slice ao len c, .int .i64 (S : Int), undef, undef, .slice none 0 0, .pointer (some ⟨g, 0, none⟩), .slice (some ⟨b, o + x * m, none⟩) (cutE len m x) (cutE len m x), .int .i64 (S : Int), .bool true, .bool false, .slice ao len c, .int .i64 (S : Int), .int .i64 (m : Int), .func (.func 32) #[] #[.pointer (some ⟨g + 1, 0, none⟩), .pointer (some ⟨g + 1 + 1, 0, none⟩)], .slice (some ⟨b, o + x * m, none⟩) (cutE len m x) (cutE len m x), undef, undef, undef, undef, undef, undef], defers := [] }) ?assign ?body ?done ?stop
  case assign =>
    intro l x W K hK
    gi_wp2
    exact hK
  case body =>
    rintro l pre x W ⟨⟨v, es, hv, ho, he, hWz⟩, hBw⟩ hlt
    have hmx : Try.prog.follows .mixedOrders = true := by kernel_rfl
    have hel9 : es.length ≤ 9000 := by have h := congrArg List.length he; simp at h; omega
    have hc0 := hv.cell
    have hc0d : W.drew.cell? ⟨g, 0, none⟩ = some v := hc0
    have hpx : (partC p m x).length = cutE len m x := by rw [partC_len, hpl]
    have hsq : Seq B W.drew (.slice (some ⟨b, o + x * m, none⟩) (cutE len m x) (cutE len m x)) (partC p m x) := by
      obtain ⟨ao', c', hv', g1, g2, g3, g4⟩ := H.out
      cases hv'
      refine ⟨_, _, by rw [hpx], by rw [hpx]; exact Nat.le_refl _, by unfold cutE maxLen; omega, by simp, fun hne => ?_⟩
      have hx1 : x * m < p.length := by
        rcases Nat.lt_or_ge (x * m) p.length with h | h
        · exact h
        · exact absurd (List.eq_nil_of_length_eq_zero (by rw [hpx]; unfold cutE; omega)) hne
      obtain ⟨b', o', hbo, hbB, hcell⟩ := g4 (by rintro rfl; simp at hx1)
      have hab := hao (by omega)
      rw [hab] at hbo
      cases hbo
      refine ⟨b, o + x * m, rfl, hbB, fun j hj => ?_⟩
      have hjl : x * m + j < p.length := by rw [hpx] at hj; unfold cutE at hj; omega
      have e1 : (partC p m x).getD j 0 = p.getD (x * m + j) 0 := by
        rw [hpx] at hj
        unfold partC
        unfold cutE at hj
        simp [List.getD_eq_getElem?_getD, List.getElem?_take, List.getElem?_drop, show j < m by omega]
      rw [e1, Nat.add_assoc]
      exact (hBw.cell (p := ⟨b, o + (x * m + j), none⟩) (show b < g by omega)).trans (hcell (x * m + j) hjl)
    have hBd : B ≤ W.drew.heap.size := by show B ≤ W.heap.size; omega
    have hlx : (partC p m x).length ≤ 140737488355328 := by rw [hpx]; unfold cutE; omega
    have hpre : pre.length + 1 ≤ 9001 := by omega
    gi_wp2
    refine wpIn_region_any hmx ?_
    change wpAnyIn _ _ _ _ _ _ _ _ _ (World.drew _)
    refine wpAnyIn_ready (rs := [0, 1]) (by kernel_rfl) (by simp) ?_
    refine AllReadyIn.cons rfl (fun K hK => ?_) (AllReadyIn.cons rfl (fun K hK => ?_) (AllReadyIn.nil))
    · go_simp
      refine hK _ _ ?_
      clear hK K
      try simp only [Act.put, List.setIfInBounds_toArray, List.set_cons_zero, List.set_cons_succ]
      refine wpAnyIn_ready (rs := [1]) (by kernel_rfl) (by simp) ?_
      refine AllReadyIn.cons rfl (fun K hK => ?_) (AllReadyIn.nil)
      go_simp
      refine hK _ _ ?_
      clear hK K
      try simp only [Act.put, List.setIfInBounds_toArray, List.set_cons_zero, List.set_cons_succ]
      refine wpAnyIn_ready (rs := [2]) (by kernel_rfl) (by simp) ?_
      refine AllReadyIn.cons rfl (fun K hK => ?_) (AllReadyIn.nil)
      go_simp
      (refine ⟨trivial, ?_⟩)
      gi_at_call 21
      refine (CallsIn.inRound l (callsIn_wide.2 (clone_any W.drew B _ (partC p m x) hsq hBd hlx))).mono ?_
      rintro e W2 ⟨ac, cc, rfl, hown, hgr⟩
      rw [hpx] at hown ⊢
      have hgr2 := gtrans (gdrew W) hgr
      have hbs : OwnB (g + 3) W2 (.slice ac (cutE len m x) cc) (partC p m x) := (by unfold OwnB; rw [hpx]; exact own_base hown hWz)
      have ho3 := (ho.grown hgr2).grown (World.grownBy_alloc W2 (.cells #[.slice ac (cutE len m x) cc] 22) none)
      obtain ⟨v', W4, hrun, hown', hgrow, hfr⟩ := run_append_own2 (P := Try.prog) (W2.alloc (.cells #[.slice ac (cutE len m x) cc] 22)) (g + 3) 24 24 22 i0 (.slice none 0 0) 1 24 Try.underlying24 hi hz0 hz1 hz2 rfl (by decide) v es.length (es.map (·.1)) ho3.1 ⟨W2.heap.size, 0, none⟩ 1 1 [.slice ac (cutE len m x) cc] rfl (cell_one_new _ _ _) (by simp [Value.oneCell']) (by unfold maxLen; omega) (by omega) (by have := hgr2.size; simp; omega)
      obtain ⟨g', cap', rfl⟩ := ownsRow_succ hown'
      obtain ⟨k1, k2, k3, k4, k5, k6⟩ := cut_push hv ho hWz hgr2 hbs hown' hgrow
      have hc1 := k1.cell
      have hf1 := k1.frozen
      have hc2 := (hv.kept hgr2 (by simp)).cell
      have hc3 := ((hv.kept hgr2 (by simp)).alloc (.cells #[.slice ac (cutE len m x) cc] 22)).cell
      try dsimp only
      refine hK _ _ ?_
      clear hK K
      try simp only [Act.put, List.setIfInBounds_toArray, List.set_cons_zero, List.set_cons_succ]
      refine wpAnyIn_ready (rs := [3]) (by kernel_rfl) (by simp) ?_
      refine AllReadyIn.cons rfl (fun K hK => ?_) (AllReadyIn.nil)
      go_simp
      refine hK _ _ ?_
      clear hK K
      try simp only [Act.put, List.setIfInBounds_toArray, List.set_cons_zero, List.set_cons_succ]
      refine wpAnyIn_ready (rs := [4]) (by kernel_rfl) (by simp) ?_
      refine AllReadyIn.cons rfl (fun K hK => ?_) (AllReadyIn.nil)
      rw [if_pos (by rfl)]
      refine opIn_append (.tmp 15) (.tmp 18) 24 rfl v (.slice (some ⟨W2.heap.size, 0, none⟩) 1 1) rfl rfl 24 rfl hrun ?_
      refine hK _ _ ?_
      clear hK K
      try simp only [Act.put, List.setIfInBounds_toArray, List.set_cons_zero, List.set_cons_succ]
      refine wpAnyIn_ready (rs := [5]) (by kernel_rfl) (by simp) ?_
      refine AllReadyIn.cons rfl (fun K hK => ?_) (AllReadyIn.nil)
      go_simp
      refine hK _ _ ?_
      clear hK K
      try simp only [Act.put, List.setIfInBounds_toArray, List.set_cons_zero, List.set_cons_succ]
      refine wpAnyIn_done (by kernel_rfl) ?_ _
      gi_wp2
      exact ⟨k4.from _, ⟨k5 (g + 1) (by omega) (by omega), k5 (g + 1 + 1) (by omega) (by omega)⟩, ⟨⟨_, es ++ [(.slice ac (cutE len m x) cc, partC p m x)], k2, k3, by rw [List.map_append, List.map_append, he]; rfl, by have := k4.size; omega⟩, hBw.trans k6⟩⟩
    · go_simp
      refine hK _ _ ?_
      clear hK K
      try simp only [Act.put, List.setIfInBounds_toArray, List.set_cons_zero, List.set_cons_succ]
      refine wpAnyIn_ready (rs := [0, 2]) (by kernel_rfl) (by simp) ?_
      refine AllReadyIn.cons rfl (fun K hK => ?_) (AllReadyIn.cons rfl (fun K hK => ?_) (AllReadyIn.nil))
      · go_simp
        refine hK _ _ ?_
        clear hK K
        try simp only [Act.put, List.setIfInBounds_toArray, List.set_cons_zero, List.set_cons_succ]
        refine wpAnyIn_ready (rs := [2]) (by kernel_rfl) (by simp) ?_
        refine AllReadyIn.cons rfl (fun K hK => ?_) (AllReadyIn.nil)
        go_simp
        (refine ⟨trivial, ?_⟩)
        gi_at_call 21
        refine (CallsIn.inRound l (callsIn_wide.2 (clone_any W.drew B _ (partC p m x) hsq hBd hlx))).mono ?_
        rintro e W2 ⟨ac, cc, rfl, hown, hgr⟩
        rw [hpx] at hown ⊢
        have hgr2 := gtrans (gdrew W) hgr
        have hbs : OwnB (g + 3) W2 (.slice ac (cutE len m x) cc) (partC p m x) := (by unfold OwnB; rw [hpx]; exact own_base hown hWz)
        have ho3 := (ho.grown hgr2).grown (World.grownBy_alloc W2 (.cells #[.slice ac (cutE len m x) cc] 22) none)
        obtain ⟨v', W4, hrun, hown', hgrow, hfr⟩ := run_append_own2 (P := Try.prog) (W2.alloc (.cells #[.slice ac (cutE len m x) cc] 22)) (g + 3) 24 24 22 i0 (.slice none 0 0) 1 24 Try.underlying24 hi hz0 hz1 hz2 rfl (by decide) v es.length (es.map (·.1)) ho3.1 ⟨W2.heap.size, 0, none⟩ 1 1 [.slice ac (cutE len m x) cc] rfl (cell_one_new _ _ _) (by simp [Value.oneCell']) (by unfold maxLen; omega) (by omega) (by have := hgr2.size; simp; omega)
        obtain ⟨g', cap', rfl⟩ := ownsRow_succ hown'
        obtain ⟨k1, k2, k3, k4, k5, k6⟩ := cut_push hv ho hWz hgr2 hbs hown' hgrow
        have hc1 := k1.cell
        have hf1 := k1.frozen
        have hc2 := (hv.kept hgr2 (by simp)).cell
        have hc3 := ((hv.kept hgr2 (by simp)).alloc (.cells #[.slice ac (cutE len m x) cc] 22)).cell
        try dsimp only
        refine hK _ _ ?_
        clear hK K
        try simp only [Act.put, List.setIfInBounds_toArray, List.set_cons_zero, List.set_cons_succ]
        refine wpAnyIn_ready (rs := [3]) (by kernel_rfl) (by simp) ?_
        refine AllReadyIn.cons rfl (fun K hK => ?_) (AllReadyIn.nil)
        go_simp
        refine hK _ _ ?_
        clear hK K
        try simp only [Act.put, List.setIfInBounds_toArray, List.set_cons_zero, List.set_cons_succ]
        refine wpAnyIn_ready (rs := [4]) (by kernel_rfl) (by simp) ?_
        refine AllReadyIn.cons rfl (fun K hK => ?_) (AllReadyIn.nil)
        rw [if_pos (by rfl)]
        refine opIn_append (.tmp 15) (.tmp 18) 24 rfl v (.slice (some ⟨W2.heap.size, 0, none⟩) 1 1) rfl rfl 24 rfl hrun ?_
        refine hK _ _ ?_
        clear hK K
        try simp only [Act.put, List.setIfInBounds_toArray, List.set_cons_zero, List.set_cons_succ]
        refine wpAnyIn_ready (rs := [5]) (by kernel_rfl) (by simp) ?_
        refine AllReadyIn.cons rfl (fun K hK => ?_) (AllReadyIn.nil)
        go_simp
        refine hK _ _ ?_
        clear hK K
        try simp only [Act.put, List.setIfInBounds_toArray, List.set_cons_zero, List.set_cons_succ]
        refine wpAnyIn_done (by kernel_rfl) ?_ _
        gi_wp2
        exact ⟨k4.from _, ⟨k5 (g + 1) (by omega) (by omega), k5 (g + 1 + 1) (by omega) (by omega)⟩, ⟨⟨_, es ++ [(.slice ac (cutE len m x) cc, partC p m x)], k2, k3, by rw [List.map_append, List.map_append, he]; rfl, by have := k4.size; omega⟩, hBw.trans k6⟩⟩
      · go_simp
        (refine ⟨trivial, ?_⟩)
        gi_at_call 21
        refine (CallsIn.inRound l (callsIn_wide.2 (clone_any W.drew B _ (partC p m x) hsq hBd hlx))).mono ?_
        rintro e W2 ⟨ac, cc, rfl, hown, hgr⟩
        rw [hpx] at hown ⊢
        have hgr2 := gtrans (gdrew W) hgr
        have hbs : OwnB (g + 3) W2 (.slice ac (cutE len m x) cc) (partC p m x) := (by unfold OwnB; rw [hpx]; exact own_base hown hWz)
        have ho3 := (ho.grown hgr2).grown (World.grownBy_alloc W2 (.cells #[.slice ac (cutE len m x) cc] 22) none)
        obtain ⟨v', W4, hrun, hown', hgrow, hfr⟩ := run_append_own2 (P := Try.prog) (W2.alloc (.cells #[.slice ac (cutE len m x) cc] 22)) (g + 3) 24 24 22 i0 (.slice none 0 0) 1 24 Try.underlying24 hi hz0 hz1 hz2 rfl (by decide) v es.length (es.map (·.1)) ho3.1 ⟨W2.heap.size, 0, none⟩ 1 1 [.slice ac (cutE len m x) cc] rfl (cell_one_new _ _ _) (by simp [Value.oneCell']) (by unfold maxLen; omega) (by omega) (by have := hgr2.size; simp; omega)
        obtain ⟨g', cap', rfl⟩ := ownsRow_succ hown'
        obtain ⟨k1, k2, k3, k4, k5, k6⟩ := cut_push hv ho hWz hgr2 hbs hown' hgrow
        have hc1 := k1.cell
        have hf1 := k1.frozen
        have hc2 := (hv.kept hgr2 (by simp)).cell
        have hc3 := ((hv.kept hgr2 (by simp)).alloc (.cells #[.slice ac (cutE len m x) cc] 22)).cell
        try dsimp only
        refine hK _ _ ?_
        clear hK K
        try simp only [Act.put, List.setIfInBounds_toArray, List.set_cons_zero, List.set_cons_succ]
        refine wpAnyIn_ready (rs := [0, 3]) (by kernel_rfl) (by simp) ?_
        refine AllReadyIn.cons rfl (fun K hK => ?_) (AllReadyIn.cons rfl (fun K hK => ?_) (AllReadyIn.nil))
        · go_simp
          refine hK _ _ ?_
          clear hK K
          try simp only [Act.put, List.setIfInBounds_toArray, List.set_cons_zero, List.set_cons_succ]
          refine wpAnyIn_ready (rs := [3]) (by kernel_rfl) (by simp) ?_
          refine AllReadyIn.cons rfl (fun K hK => ?_) (AllReadyIn.nil)
          go_simp
          refine hK _ _ ?_
          clear hK K
          try simp only [Act.put, List.setIfInBounds_toArray, List.set_cons_zero, List.set_cons_succ]
          refine wpAnyIn_ready (rs := [4]) (by kernel_rfl) (by simp) ?_
          refine AllReadyIn.cons rfl (fun K hK => ?_) (AllReadyIn.nil)
          rw [if_pos (by rfl)]
          refine opIn_append (.tmp 15) (.tmp 18) 24 rfl v (.slice (some ⟨W2.heap.size, 0, none⟩) 1 1) rfl rfl 24 rfl hrun ?_
          refine hK _ _ ?_
          clear hK K
          try simp only [Act.put, List.setIfInBounds_toArray, List.set_cons_zero, List.set_cons_succ]
          refine wpAnyIn_ready (rs := [5]) (by kernel_rfl) (by simp) ?_
          refine AllReadyIn.cons rfl (fun K hK => ?_) (AllReadyIn.nil)
          go_simp
          refine hK _ _ ?_
          clear hK K
          try simp only [Act.put, List.setIfInBounds_toArray, List.set_cons_zero, List.set_cons_succ]
          refine wpAnyIn_done (by kernel_rfl) ?_ _
          gi_wp2
          exact ⟨k4.from _, ⟨k5 (g + 1) (by omega) (by omega), k5 (g + 1 + 1) (by omega) (by omega)⟩, ⟨⟨_, es ++ [(.slice ac (cutE len m x) cc, partC p m x)], k2, k3, by rw [List.map_append, List.map_append, he]; rfl, by have := k4.size; omega⟩, hBw.trans k6⟩⟩
        · go_simp
          refine hK _ _ ?_
          clear hK K
          try simp only [Act.put, List.setIfInBounds_toArray, List.set_cons_zero, List.set_cons_succ]
          refine wpAnyIn_ready (rs := [0]) (by kernel_rfl) (by simp) ?_
          refine AllReadyIn.cons rfl (fun K hK => ?_) (AllReadyIn.nil)
          go_simp
          refine hK _ _ ?_
          clear hK K
          try simp only [Act.put, List.setIfInBounds_toArray, List.set_cons_zero, List.set_cons_succ]
          refine wpAnyIn_ready (rs := [4]) (by kernel_rfl) (by simp) ?_
          refine AllReadyIn.cons rfl (fun K hK => ?_) (AllReadyIn.nil)
          rw [if_pos (by rfl)]
          refine opIn_append (.tmp 15) (.tmp 18) 24 rfl v (.slice (some ⟨W2.heap.size, 0, none⟩) 1 1) rfl rfl 24 rfl hrun ?_
          refine hK _ _ ?_
          clear hK K
          try simp only [Act.put, List.setIfInBounds_toArray, List.set_cons_zero, List.set_cons_succ]
          refine wpAnyIn_ready (rs := [5]) (by kernel_rfl) (by simp) ?_
          refine AllReadyIn.cons rfl (fun K hK => ?_) (AllReadyIn.nil)
          go_simp
          refine hK _ _ ?_
          clear hK K
          try simp only [Act.put, List.setIfInBounds_toArray, List.set_cons_zero, List.set_cons_succ]
          refine wpAnyIn_done (by kernel_rfl) ?_ _
          gi_wp2
          exact ⟨k4.from _, ⟨k5 (g + 1) (by omega) (by omega), k5 (g + 1 + 1) (by omega) (by omega)⟩, ⟨⟨_, es ++ [(.slice ac (cutE len m x) cc, partC p m x)], k2, k3, by rw [List.map_append, List.map_append, he]; rfl, by have := k4.size; omega⟩, hBw.trans k6⟩⟩
  case done =>
    rintro D ys W hD ⟨M, rfl, hM1, hM2⟩ ⟨⟨v, es, hv, ho, he, hWz⟩, hBw⟩ hK
    have hc := hv.cell
    have hgD : g ≤ D := by omega
    have hpo := ho.nc (grownBy_putObj' W D (.deferred none)) (fun r e => by cases e; exact ⟨_, hK, rfl⟩)
    have hbl := hBw.trans (belowK_b (w := w) (by rw [HG.out]; exact Nat.le_refl _) W D _ (.deferred none) (by rw [← HG.out]; exact hgD) hK rfl rfl)
    rw [HG.out] at hbl hpo
    have hgr := gof hbl none
    gi_wp2
    refine ⟨by simp, .inl ⟨_, _, rfl, run_takeDeferred hK, ?_⟩⟩
    exact ⟨_, results_tmp rfl _ _ _, v, es, M, rfl, hpo, he, hM1, hM2, hgr⟩
  case stop =>
    rintro D c pre W _ _ h _
    exact h.elim

/-- Cut: what it hands back. -/
theorem cut_any (w : World) (B len c : Nat) (ao : Option Addr) (p : List Int) (S : Nat) (h : Seq B w (.slice ao len c) p) (hB : B ≤ w.heap.size) (hl : len ≤ 9000) (h1 : 512 ≤ S) (h2 : S ≤ 4096) :
    Calls Try.prog 10 #[.slice ao len c, .int .i64 (S : Int)] w fun r w' => ∃ lv es M, r = .returned lv ∧ COwns (w.heap.size + 3) w' lv es ∧ es.map (·.2) = (List.range M).map (partC p (S - 8)) ∧ len ≤ M * (S - 8) ∧ (∀ k, k < M → k * (S - 8) < len) ∧ w.grownBy w' none := by
  have hpl : p.length = len := by obtain ⟨_, _, hv, _⟩ := h; injection hv with _ e; exact e.symm
  by_cases h0 : 0 < len
  · obtain ⟨ao', c', hv, _, _, _, g4⟩ := id h
    obtain ⟨b, o, hb, _⟩ := g4 (by rintro rfl; simp at hpl; omega)
    have hao : ao = some ⟨b, o, none⟩ := by injection hv with e1 _ _; rw [e1]; exact hb
    exact cut_some w B b o len c ao (fun _ => hao) p S h hB hl h1 h2
  · exact cut_some w B 0 0 len c ao (fun e => absurd e h0) p S h hB hl h1 h2

end Go.Proofs.Ytpgpilalhbdidab
