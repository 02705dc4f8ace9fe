/-
  Layer 11: the keys of a change's map of pages, sorted (out of SpcK, SpcL, SpcP). Own work.
-/
import Derived.Test.YtildjdhoeilcfaaGreatPgrAV
import Derived.RangeFuncNested
import Derived.RangeFuncBound
import Derived.RangeFuncCalls
import Derived.RangeFuncLeaves
import Derived.RangeFuncWrites
import Derived.RangeFuncBox
import Derived.Shelf.Abstract
import Derived.Shelf.RegionOpen
import Derived.OwnWalkIn
import Derived.TacticsInMore
import Derived.LoopNIn
import Derived.LoopIn
import Derived.Sort.MapsRangeIn
import Derived.Maps.OwnIn
import Derived.Test.YtildjdhoeilcfaaGreatPgrAU

namespace Go.Proofs.YtildjdhoeilcfaaGreat
open Go.RowKit Go.Shelf Go.Maps

attribute [local go_sem] Oper.semAt_some

def KsAt (w : World) (b : Nat) (L : List Nat) (V : Nat → Value) : Prop := w.ownsMap Tryz.prog 42 heldR b L.length (pgD L V) ∧ Srt L ∧ ∀ p ∈ L, p < 4294967296
theorem KsAt.lt {w : World} {b : Nat} {L : List Nat} {V : Nat → Value} (h : KsAt w b L V) : b < w.heap.size := by
  obtain ⟨⟨es, clock, hb, _⟩, _⟩ := h
  exact (Array.getElem?_eq_some_iff.1 hb).1
theorem KsAt.kept {w w' : World} {b : Nat} {L : List Nat} {V : Nat → Value} (h : KsAt w b L V) (k : w'.heap[b]? = w.heap[b]?) : KsAt w' b L V := by
  obtain ⟨⟨es, clock, hb, F, hs, hD⟩, h2⟩ := h
  exact ⟨⟨es, clock, k.trans hb, F, hs, hD⟩, h2⟩
theorem KsAt.grown {w w' : World} {b : Nat} {L : List Nat} {V : Nat → Value} (h : KsAt w b L V) (k : w.grownBy w' none) : KsAt w' b L V := h.kept (k.block b h.lt (by simp))
theorem comeM_start (L : List Nat) (V : Nat → Value) : Come L (Maps.has (pgD L V)) [] := ⟨List.nodup_nil, fun x => by rw [has_pgD]; simp⟩

set_option maxHeartbeats 1000000 in
theorem mkeys_any (w : World) (mb : Option Nat) : Calls Tryz.prog 148 #[.map mb] w fun r w' => r = .returned (.func (.func 195) #[] #[.pointer (some ⟨w.heap.size, 0, none⟩)]) ∧ w' = w.alloc (.cells #[.map mb] 129) := by
  go_enter Tryz.func148, Tryz.ntmps148
  go_wp2
  go_ret
  exact ⟨rfl, rfl⟩

set_option maxRecDepth 100000 in
set_option maxHeartbeats 2000000 in
theorem mkeys1_in (n : Nat) (hn : 1 ≤ n) (l Bm b : Nat) (L : List Nat) (V : Nat → Value) (J Jx : List Nat → World → Prop)
    (hY : ∀ pre x W, J pre W → pre.length < L.length → YieldAt Fence.wide (n - 1) Tryz.prog l #[encP x] W fun e W' =>
      (e = .returned (.bool true) ∧ J (pre ++ [x]) W' ∧ KeepsWalks W W') ∨ (e = .returned (.bool false) ∧ Jx (pre ++ [x]) W'))
    (W : World) (hJ : AbidesFrom W.heap.size J) (hm : W.cell? ⟨Bm, 0, none⟩ = some (.map (some b))) (hS : KsAt W b L V) (h0 : J [] W) :
    CallsIn Fence.wide n Tryz.prog 195 #[.func (.yield l) #[] #[], .pointer (some ⟨Bm, 0, none⟩)] W fun e W' => (∃ v, e = .returned v) ∧
      ((∃ ss : List Nat, ss.Perm L ∧ J ss W') ∨ (∃ pre : List Nat, True ∧ Jx pre W')) := by
  have hown := hS.1
  refine callsIn_of_wp Tryz.func195 rfl trivial ?_ rfl
  simp only [Tryz.ntmps195, List.size_toArray, List.length_cons, List.length_nil, Nat.reduceAdd, Nat.reduceSub, Array.replicate_succ, Array.replicate_zero, List.push_toArray, List.append_toArray, List.nil_append, List.cons_append]
  gi_wp2_with (first
    | (gi_at_range; refine wpListIn_range_own _ rfl _ 129 rfl 42 32 lawP Tryz.underlying129 _ b L.length _ rfl hown ?_; intro w0 hrg0 hg0 hs0)
    | gi_in)
  go_frame
  gi_loopw [3] (fun _ wr => ∃ (left : Lit → Bool) (cnt : Nat) (ss : List Nat), wr.ranges Tryz.prog 42 (heldR) b W.heap.size L.length (pgD L V) left cnt ∧ ss.length + cnt ≤ L.length ∧ Come L left ss ∧ J ss wr)
    (fun _ wr => wr.rangeLeft b W.heap.size)
  case atStart =>
    exact ⟨_, _, [], hrg0, by rw [size_pgD]; simp, comeM_start L V, hJ [] W w0 none h0 hg0 (fun r e => by cases e)⟩
  case round =>
    obtain ⟨left, cnt, ss, hrg, hcs, hC, hJs⟩ := hrel
    gi_wp2_with (first
      | (gi_at_next; refine wpListIn_next_ranges _ rfl _ rfl 42 lawP (heldR) encP id (fun key kl hk => by obtain ⟨x, hx, _⟩ := key_u32 hk; exact ⟨x, hx⟩) (fun v _ _ => ⟨v, rfl⟩) b W.heap.size L.length _ _ _ rfl hrg ?_ ?_)
      | gi_in)
    · intro hc0 hl0
      gi_wp2
      go_end0
      exact ⟨⟨_, rfl⟩, .inl ⟨ss, hC.perm hS.2.1 hl0, hJs⟩⟩
    · intro x c kl yd yp w2 cnt2 hkey hlk hv hat hrg2 hlt hg2 hs2 hen
      obtain ⟨x', ex, rfl, _⟩ := key_u32 hkey
      obtain rfl : x = x' := encP_inj ex
      have hJ2 : J ss w2 := hJ ss wr w2 (some W.heap.size) hJs hg2 (fun r e => by cases e; exact ⟨Nat.le_refl _, hrg.iter_walk⟩)
      obtain ⟨fn, tmps, assign, body, hy, hR⟩ := hY ss x w2 hJ2 (by omega)
      have hxL : x ∈ L := by
        have h1 := has_true_of_atKey hat
        rw [has_pgD] at h1
        simpa using h1
      have hC2 := hC.step hlk hxL
      clear hs2
      gi_wp2
      refine hR.mono ?_
      rintro e W3 (⟨rfl, hJ3, hk3⟩ | ⟨rfl, hJx3⟩)
      · gi_wp2
        have hrg3 := hrg2.of_walks hk3
        go_roundw
        case rel => exact ⟨_, cnt2, ss ++ [x], hrg3, by simp; omega, hC2, hJ3⟩
        case measure => rw [hrg3.left_eq, hrg.left_eq]; exact hlt
      · gi_wp2
        refine bodyPost_ret (results_none rfl _ _ _) rfl ?_
        exact ⟨⟨_, rfl⟩, .inr ⟨ss ++ [x], trivial, hJx3⟩⟩

theorem mkeys_stops (n : Nat) (hn : 1 ≤ n) (Bm b : Nat) (L : List Nat) (V : Nat → Value) (w : World) (hm : w.cell? ⟨Bm, 0, none⟩ = some (.map (some b))) (hS : KsAt w b L V) :
    SeqStopsK Fence.wide n Tryz.prog 195 #[.pointer (some ⟨Bm, 0, none⟩)] (fun x : Nat => #[encP x]) KeepsWalks (fun ss => ss.Perm L) (fun _ => True) L.length w := fun l J Jx W hW hJ _ hY h0 =>
  mkeys1_in n hn l Bm b L V J Jx hY W hJ ((hW.cell (p := ⟨Bm, 0, none⟩) (World.block_lt_of_cell? _ _ hm)).trans hm) (hS.kept (hW.block b hS.lt)) h0

set_option maxRecDepth 100000 in
set_option maxHeartbeats 4000000 in
theorem mappendSeq_any (w : World) (Bm b : Nat) (L : List Nat) (V : Nat → Value) (hm : w.cell? ⟨Bm, 0, none⟩ = some (.map (some b))) (hS : KsAt w b L V) (hL : L.length ≤ 100000) :
    Calls Tryz.prog 234 #[.slice none 0 0, .func (.func 195) #[] #[.pointer (some ⟨Bm, 0, none⟩)]] w fun r w' => ∃ v ss, r = .returned v ∧ List.Perm ss L ∧ OwnP w.heap.size w' v ss ∧ w.grownBy w' none := by
  obtain ⟨i0, hi, hz0, hz1, hz2⟩ := info_parts infoPg
  have HSt := Lib.hid (mkeys_stops (5 - 1) (by decide) Bm b L V (w.alloc (.cells #[.slice none 0 0] 31)) (cell_alloc hm) (hS.grown (World.grownBy_alloc _ _ _)))
  have h32 := hS.2.2
  have H32 := Lib.hid h32
  have hb0 := heap_alloc_new w (.cells #[.slice none 0 0] 31 (0, 0))
  have hB0 : Below w.heap.size w (w.alloc (.cells #[.slice none 0 0] 31)) := (Below.refl _ w).alloc (Nat.le_refl _) _
  have hsz : (w.alloc (.cells #[.slice none 0 0] 31)).heap.size = w.heap.size + 1 := by simp
  clear hm hS h32
  refine (callsIn_wide (n := 5)).1 ?_
  refine callsIn_of_wp_marks Tryz.func234 rfl trivial ?_ rfl
  simp only [Tryz.ntmps234, List.size_toArray, List.length_cons, List.length_nil, Nat.reduceAdd, Nat.reduceSub, Array.replicate_succ, Array.replicate_zero, List.push_toArray, List.append_toArray, List.nil_append, List.cons_append]
  gi_wp2
  generalize w.alloc (.cells #[.slice none 0 0] 31) = W0 at *
  obtain ⟨g, hg⟩ : ∃ g, g = w.heap.size := ⟨_, rfl⟩
  rw [← hg] at hb0 hsz hB0 ⊢
  have HG := Lib.hid hg
  clear hg
  refine wpIn_rangeFunc_ownG rfl (by decide : 1 ≤ 5) (gf := 195) (lb := #[.pointer (some ⟨Bm, 0, none⟩)]) rfl trivial (enters_of Tryz.func195 (by kernel_rfl) rfl)
    HSt.out walksK_t walksK_b (Below.refl _ _) (fun _ => rfl)
    (fun pre W => (∃ v, Boxed W g 31 v ∧ W.ownsRow g 42 1 v pre.length (pre.map encP) ∧ g + 1 ≤ W.heap.size) ∧ Below g w W)
    (fun _ _ _ => False)
    (OwnFrom.and (fun s X Y row ⟨v, hv, ho, hz⟩ hgy hr => ⟨v, hv.kept hgy (fun e => by obtain ⟨_, q, hq, hc⟩ := hr g e.symm; rw [show X.heap[g]? = _ from hv] at hq; cases hq; cases hc), ho.kept hgy (by
        rcases ho.2 with ⟨hv', _⟩ | ⟨g2, cap, cur, hv', _, hgb, _⟩
        · rw [hv']; exact .inl rfl
        · right
          rw [hv']
          intro e
          obtain ⟨_, q, hq, hc⟩ := hr g2 e.symm
          rw [hgb] at hq; cases hq; cases hc), Nat.le_trans hz hgy.size⟩) (ownFrom_below (by rw [HG.out]; exact Nat.le_refl _) (by omega)))
    (fun _ _ _ _ _ hs _ _ => hs)
    ⟨⟨.slice none 0 0, hb0, World.ownsRow_nil _ _ _ _, by omega⟩, hB0⟩
    (fun x => { tmps := #[.slice none 0 0, .func (.func 195) #[] #[.pointer (some ⟨Bm, 0, none⟩)], .pointer (some ⟨g, 0, none⟩), undef, .slice none 0 0, encP x, .func (.func 195) #[] #[.pointer (some ⟨Bm, 0, none⟩)], encP x, undef, undef, undef, undef, undef], defers := [] }) ?assign ?body ?done ?stop
  case assign =>
    intro l x W K hK
    gi_wp2
    exact hK
  case body =>
    rintro l pre x W ⟨⟨v, hv, ho, hWz⟩, hBw⟩ hlt
    have hc0 := hv.cell
    have hpl : pre.length ≤ 100000 := by omega
    gi_wp2_with (first
      | (gi_at_builtin; refine wpListIn_append_own _ rfl _ _ 31 rfl g 42 i0 (.int .u32 0) 1 4 Tryz.underlying31 hi hz0 hz1 hz2 rfl (by decide) _ _ _ rfl (ho.alloc _) ⟨W.heap.size, 0, none⟩ 1 1 [encP x] rfl rfl (cell_one_new _ _ _) (by simp [Value.oneCell', encP]) (by unfold maxLen; omega) (by omega) (by simp; omega) ?_; intro v' w1 hown' hgrow _; obtain ⟨g', cap', rfl⟩ := ownsRow_succ hown'; obtain ⟨hv1, hv2, hr2, hk2, hb2⟩ := hv.appended (by decide) ho (by omega) (Nat.le_refl g) hown' hgrow; have hc1 := hv1.cell; have hf1 := hv1.frozen; clear hown' hgrow))
    exact ⟨hk2.from _, KeepsOthers.walks hk2, ⟨⟨_, hv2, by simpa using hr2, by have := hk2.size; omega⟩, hBw.trans hb2⟩⟩
  case done =>
    rintro D ys W hD hperm ⟨⟨v, hv, ho, hWz⟩, hBw⟩ hK
    have hc := hv.cell
    have hgD : g ≤ D := by omega
    have hpo : (W.putObj D (.deferred none)).ownsRow g 42 1 v ys.length (ys.map encP) := ho.kept (grownBy_putObj' W D (.deferred none)) (by
      rcases ho.2 with ⟨hv', _⟩ | ⟨g2, cap, cur, hv', _, hgb, _⟩
      · rw [hv']; exact .inl rfl
      · right
        rw [hv']
        intro e
        have : g2 = D := by simpa [Value.ownBlock] using e
        subst this
        rw [hgb] at hK; cases hK)
    have hbl := hBw.trans (belowK_b (w := w) (by rw [HG.out]; exact Nat.le_refl _) W D _ (.deferred none) (by rw [← HG.out]; exact hgD) hK rfl rfl)
    rw [HG.out] at hbl hpo
    have hgr := gof hbl none
    gi_wp2
    refine ⟨by simp, .inl ⟨_, _, rfl, run_takeDeferred hK, ?_⟩⟩
    exact ⟨_, results_tmp rfl _ _ _, v, ys, rfl, hperm, ⟨hpo, fun p hp => H32.out p (hperm.mem_iff.1 hp)⟩, hgr⟩
  case stop =>
    rintro D c pre W _ _ h _
    exact h.elim

set_option maxHeartbeats 1000000 in
theorem mcollect_any (w : World) (Bm b : Nat) (L : List Nat) (V : Nat → Value) (hm : w.cell? ⟨Bm, 0, none⟩ = some (.map (some b))) (hS : KsAt w b L V) (hL : L.length ≤ 100000) :
    Calls Tryz.prog 193 #[.func (.func 195) #[] #[.pointer (some ⟨Bm, 0, none⟩)]] w fun r w' => ∃ v ss, r = .returned v ∧ List.Perm ss L ∧ OwnP w.heap.size w' v ss ∧ w.grownBy w' none := by
  go_enter Tryz.func193, Tryz.ntmps193
  go_wp2_with (first
    | (go_at_call 234; (with_reducible refine (mappendSeq_any w Bm b L V hm hS hL).mono ?_); rintro r w1 ⟨v, ss, rfl, hp, ho, hg⟩; have HP := Lib.hid hp; have HO := Lib.hid ho; have HG := Lib.hid hg; clear hp ho hg))
  go_ret
  exact ⟨v, ss, rfl, HP.out, HO.out, HG.out⟩

set_option maxHeartbeats 1000000 in
theorem msorted_any (N : Nat) (hN : SortOk N) (hN9 : N ≤ 100000) (w : World) (Bm b : Nat) (L : List Nat) (V : Nat → Value) (hm : w.cell? ⟨Bm, 0, none⟩ = some (.map (some b))) (hS : KsAt w b L V) (hL : L.length ≤ N) (h0 : L ≠ []) :
    Calls Tryz.prog 147 #[.func (.func 195) #[] #[.pointer (some ⟨Bm, 0, none⟩)]] w fun r w' => ∃ a c, r = .returned (.slice a L.length c) ∧ OwnP w.heap.size w' (.slice a L.length c) L ∧ w.grownBy w' none := by
  have hsr := hS.2.1
  have h32 := hS.2.2
  have hpos := List.length_pos_iff.2 h0
  go_enter Tryz.func147, Tryz.ntmps147
  go_wp2_with (first
    | (go_at_call 193; (with_reducible refine (mcollect_any w Bm b L V hm hS (Nat.le_trans hL hN9)).mono ?_); rintro r w1 ⟨v, ss, rfl, hp, ho, hg⟩; have hl := hp.length_eq; have K := hN w1 w.heap.size ss.length v ss L ho.1 hp hsr (by omega) (by omega); obtain ⟨a1, c1, rfl⟩ := own_shape ho.1; have HG := Lib.hid hg; have HK := Lib.hid K; have HL := Lib.hid hl; have HO := Lib.hid ho; clear hp ho hg K hl)
    | (go_at_call 194; refine HK.out.mono ?_; rintro r w2 ⟨rfl, h2, hg2⟩; have H2 := Lib.hid h2; have HG2 := Lib.hid hg2; clear h2 hg2))
  go_ret
  refine ⟨a1, c1, by rw [← HL.out]; rfl, ⟨by rw [← HL.out]; exact H2.out, h32⟩, grow_own HG.out HO.out.1 HG2.out (Nat.le_refl _)⟩


end Go.Proofs.YtildjdhoeilcfaaGreat

namespace Go.Proofs.YtildjdhoeilcfaaGreat
open Go.RowKit Go.Maps

/-- The row, and a counter beside it. -/
structure CtrAt (w0 : World) (blk cap : Nat) (w : World) (d : Array Nat) (g s : Nat) : Prop where
  row : RowAt w0 blk cap w d
  hg : w0.heap.size ≤ g
  box : w.heap[g]? = some (.cells #[.int .i64 (s : Int)] 3 (0, 0))
theorem CtrAt.cell {w0 w : World} {blk cap g s : Nat} {d : Array Nat} (h : CtrAt w0 blk cap w d g s) : w.cell? ⟨g, 0, none⟩ = some (.int .i64 (s : Int)) := by
  simp only [World.cell?, h.box]
  rfl
theorem CtrAt.froz {w0 w : World} {blk cap g s : Nat} {d : Array Nat} (h : CtrAt w0 blk cap w d g s) : w.frozen? ⟨g, 0, none⟩ = false := free_row h.box 0
theorem CtrAt.drewN {w0 w : World} {blk cap g s : Nat} {d : Array Nat} (h : CtrAt w0 blk cap w d g s) (n : Nat) : CtrAt w0 blk cap (w.drewN n) d g s := ⟨h.row.drewN n, h.hg, h.box⟩
theorem CtrAt.put {w0 w : World} {blk cap g s : Nat} {d : Array Nat} (h : CtrAt w0 blk cap w d g s) : CtrAt w0 blk cap (w.setCell ⟨g, 0, none⟩ (.int .i64 ((s : Int) + 1))) d g (s + 1) := by
  refine ⟨h.row.beside h.hg 0 _, h.hg, ?_⟩
  simp [World.setCell, Array.getElem?_modify, h.box]

def Ord2 (w0 : World) (blk cap : Nat) (d : Array Nat) (g s i j : Nat) (r : Ending) (w' : World) : Prop :=
  ∃ i' j' s' : Nat, r = .returned (.tuple #[.int .i64 (i' : Int), .int .i64 (j' : Int)]) ∧ (i' = i ∧ j' = j ∨ i' = j ∧ j' = i) ∧ s ≤ s' ∧ s' ≤ s + 1 ∧ CtrAt w0 blk cap w' d g s'

set_option maxHeartbeats 1000000 in
theorem order2_any (w0 w : World) (blk cap i j g s : Nat) (d : Array Nat) (h : CtrAt w0 blk cap w d g s) (hi : i < d.size) (hj : j < d.size) (hsz : d.size ≤ 100000) (hs : s ≤ 1000) :
    Calls Tryz.prog 286 #[.slice (some ⟨blk, 0, none⟩) d.size cap, .int .i64 (i : Int), .int .i64 (j : Int), .pointer (some ⟨g, 0, none⟩)] w fun r w' => Ord2 w0 blk cap d g s i j r w' := by
  obtain ⟨n, hn⟩ : ∃ n, n = d.size := ⟨_, rfl⟩
  have c1 := h.row.cell hi
  have c2 := h.row.cell hj
  rw [← hn] at hi hj hsz ⊢
  have H := Lib.hid h
  have HN := Lib.hid hn
  have hii : (i : Int) < (n : Int) := by omega
  have hji : (j : Int) < (n : Int) := by omega
  obtain ⟨x, hx⟩ : ∃ x, d[i]! = x := ⟨_, rfl⟩
  obtain ⟨y, hy⟩ : ∃ y, d[j]! = y := ⟨_, rfl⟩
  rw [hx] at c1
  rw [hy] at c2
  obtain ⟨lb, hlb⟩ : ∃ lb, ltN y x = lb := ⟨_, rfl⟩
  have HL := Lib.hid hlb
  clear h hn hx hy hlb
  go_enter Tryz.func286, Tryz.ntmps286
  go_wp2_with fail
  go_quiet (first | (go_at_call 264; refine Calls.quiet_of_same (less_any y x lb HL.out _)))
  have H2 := Lib.hid (H.out.drewN nq)
  have hc := H2.out.cell
  have hf := H2.out.froz
  clear c1 c2
  generalize w.drewN nq = W at H2 hc hf ⊢
  cases lb with
  | true =>
    go_wp2
    go_ret2
    exact ⟨j, i, s + 1, rfl, .inr ⟨rfl, rfl⟩, by omega, by omega, H2.out.put⟩
  | false =>
    go_wp2
    go_ret2
    exact ⟨i, j, s, rfl, .inl ⟨rfl, rfl⟩, by omega, by omega, H2.out⟩

def Med (w0 : World) (blk cap : Nat) (d : Array Nat) (g s a b c : Nat) (r : Ending) (w' : World) : Prop :=
  ∃ m s' : Nat, r = .returned (.int .i64 (m : Int)) ∧ (m = a ∨ m = b ∨ m = c) ∧ s ≤ s' ∧ s' ≤ s + 3 ∧ CtrAt w0 blk cap w' d g s'

set_option maxHeartbeats 1000000 in
theorem median_any (w0 w : World) (blk cap a b c g s : Nat) (d : Array Nat) (h : CtrAt w0 blk cap w d g s) (ha : a < d.size) (hb : b < d.size) (hc : c < d.size) (hsz : d.size ≤ 100000) (hs : s ≤ 900) :
    Calls Tryz.prog 281 #[.slice (some ⟨blk, 0, none⟩) d.size cap, .int .i64 (a : Int), .int .i64 (b : Int), .int .i64 (c : Int), .pointer (some ⟨g, 0, none⟩)] w fun r w' => Med w0 blk cap d g s a b c r w' := by
  have H := Lib.hid h
  have HA := Lib.hid ha
  have HB := Lib.hid hb
  have HC := Lib.hid hc
  have HS := Lib.hid hs
  have HZ := Lib.hid hsz
  clear h ha hb hc hs hsz
  go_enter Tryz.func281, Tryz.ntmps281
  go_wp2_with (first
    | (go_at_call 286; (with_reducible refine (order2_any w0 w blk cap a b g s d H.out HA.out HB.out HZ.out (by have := HS.out; omega)).mono ?_); rintro r w1 ⟨a1, b1, s1, rfl, h1⟩; have H1 := Lib.hid h1; have HA1 := Lib.hid (show a1 < d.size ∧ b1 < d.size ∧ s1 ≤ 901 by have := HA.out; have := HB.out; have := HS.out; omega); clear h1)
    | (go_at_call 286; (with_reducible refine (order2_any w0 w1 blk cap b1 c g s1 d H1.out.2.2.2 HA1.out.2.1 HC.out HZ.out (by have := HA1.out; omega)).mono ?_); rintro r w2 ⟨b2, c2, s2, rfl, h2⟩; have H2 := Lib.hid h2; have HA2 := Lib.hid (show b2 < d.size ∧ c2 < d.size ∧ s2 ≤ 902 by have := HA1.out; have := HC.out; omega); clear h2)
    | (go_at_call 286; (with_reducible refine (order2_any w0 w2 blk cap a1 b2 g s2 d H2.out.2.2.2 HA1.out.1 HA2.out.1 HZ.out (by have := HA2.out; omega)).mono ?_); rintro r w3 ⟨a3, b3, s3, rfl, h3⟩; have H3 := Lib.hid h3; clear h3))
  go_ret
  have h1 := H1.out
  have h2 := H2.out
  have h3 := H3.out
  exact ⟨b3, s3, rfl, by omega, by omega, by omega, h3.2.2.2⟩

set_option maxHeartbeats 1000000 in
theorem medianAdj_any (w0 w : World) (blk cap a g s : Nat) (d : Array Nat) (h : CtrAt w0 blk cap w d g s) (ha : a + 1 < d.size) (h1 : 1 ≤ a) (hsz : d.size ≤ 100000) (hs : s ≤ 900) :
    Calls Tryz.prog 280 #[.slice (some ⟨blk, 0, none⟩) d.size cap, .int .i64 (a : Int), .pointer (some ⟨g, 0, none⟩)] w fun r w' => Med w0 blk cap d g s (a - 1) a (a + 1) r w' := by
  have H := Lib.hid h
  have E1 := Lib.hid (show (a : Int) - 1 = ((a - 1 : Nat) : Int) by omega)
  have E2 := Lib.hid (show (a : Int) + 1 = ((a + 1 : Nat) : Int) by omega)
  clear h
  go_enter Tryz.func280, Tryz.ntmps280
  go_wp2_with (first
    | (go_at_call 281; have K := median_any w0 w blk cap (a - 1) a (a + 1) g s d H.out (by omega) (by omega) (by omega) hsz hs; rw [← E1.out, ← E2.out] at K; (with_reducible refine K.mono ?_); clear K; rintro r w1 ⟨m, s1, rfl, hp1, hs1, ht1, h1⟩; have H1 := Lib.hid h1; clear h1))
  go_ret
  exact ⟨m, s1, rfl, hp1, hs1, ht1, H1.out⟩

end Go.Proofs.YtildjdhoeilcfaaGreat

namespace Go.Proofs.YtildjdhoeilcfaaGreat
open Go.RowKit Go.Maps

def Piv (w0 : World) (blk cap : Nat) (d : Array Nat) (a b : Nat) (r : Ending) (w' : World) : Prop :=
  ∃ p t : Nat, r = .returned (.tuple #[.int .i64 (p : Int), .int .i64 (t : Int)]) ∧ a ≤ p ∧ p < b ∧ t ≤ 2 ∧ RowAt w0 blk cap w' d

theorem ctr_new {w0 w : World} {blk cap : Nat} {d : Array Nat} (h : RowAt w0 blk cap w d) : CtrAt w0 blk cap (w.alloc (.cells #[.int .i64 0] 3)) d w.heap.size 0 :=
  ⟨h.grown (World.grownBy_alloc _ _ _), h.gr.size, heap_alloc_new _ _⟩

set_option maxHeartbeats 2000000 in
theorem pivot_any (w0 w : World) (blk cap a b : Nat) (d : Array Nat) (h : RowAt w0 blk cap w d) (hb : b ≤ d.size) (hsz : d.size ≤ 100000) (hab : a + 12 < b) :
    Calls Tryz.prog 261 #[.slice (some ⟨blk, 0, none⟩) d.size cap, .int .i64 (a : Int), .int .i64 (b : Int)] w fun r w' => Piv w0 blk cap d a b r w' := by
  obtain ⟨l, hl⟩ : ∃ l : Nat, (b : Int) - (a : Int) = (l : Int) := ⟨b - a, by omega⟩
  have hl12 : 12 < l := by omega
  have hl5 : l ≤ 100000 := by omega
  obtain ⟨q, hq⟩ : ∃ q : Nat, Int.tdiv (l : Int) 4 = (q : Int) := ⟨l / 4, by rw [Int.tdiv_eq_ediv_of_nonneg (by omega)]; omega⟩
  have HQ := Lib.hid (show q = l / 4 by rw [Int.tdiv_eq_ediv_of_nonneg (by omega)] at hq; omega)
  have hq5 : q ≤ 25000 := by have := HQ.out; omega
  have HLB := Lib.hid (show b = a + l by omega)
  have E1 := Lib.hid (show (a : Int) + (q : Int) = ((a + q : Nat) : Int) by omega)
  have E2 := Lib.hid (show (a : Int) + (q : Int) * 2 = ((a + q * 2 : Nat) : Int) by omega)
  have E3 := Lib.hid (show (a : Int) + (q : Int) * 3 = ((a + q * 3 : Nat) : Int) by omega)
  have HR := Lib.hid h
  have HC := Lib.hid (ctr_new h)
  have HB := Lib.hid hb
  have HZ := Lib.hid hsz
  have HAB := Lib.hid hab
  have hi8 : (8 : Int) ≤ (l : Int) := by omega
  have hb5 : b ≤ 100000 := by omega
  have ha5 : a ≤ 100000 := by omega
  clear h hb hsz hab
  by_cases h50 : 50 ≤ l
  · have hi50 : (50 : Int) ≤ (l : Int) := by omega
    go_enter Tryz.func261, Tryz.ntmps261
    go_wp2_with (first
      | (go_at_call 280; have K := medianAdj_any w0 (w.alloc (.cells #[.int .i64 0] 3)) blk cap (a + q) w.heap.size 0 d HC.out (by have := HQ.out; have := HLB.out; have := HB.out; omega) (by have := HQ.out; have := hi50; omega) HZ.out (by omega); rw [← E1.out] at K; (with_reducible refine K.mono ?_); clear K; rintro r w1 ⟨m1, s1, rfl, hp1, hs1, ht1, h1⟩; have H1 := Lib.hid h1; have HS1 := Lib.hid (show s1 ≤ 3 by omega); have HP1 := Lib.hid (show a ≤ m1 ∧ m1 < b by have := HQ.out; have := HLB.out; omega); clear h1 hp1 hs1 ht1)
      | (go_at_call 280; have K := medianAdj_any w0 w1 blk cap (a + q * 2) w.heap.size s1 d H1.out (by have := HQ.out; have := HLB.out; have := HB.out; omega) (by have := HQ.out; have := hi50; omega) HZ.out (by have := HS1.out; omega); rw [← E2.out] at K; (with_reducible refine K.mono ?_); clear K; rintro r w2 ⟨m2, s2, rfl, hp2, hs2, ht2, h2⟩; have H2 := Lib.hid h2; have HS2 := Lib.hid (show s2 ≤ 6 by have := HS1.out; omega); have HP2 := Lib.hid (show a ≤ m2 ∧ m2 < b by have := HQ.out; have := HLB.out; omega); clear h2 hp2 hs2 ht2)
      | (go_at_call 280; have K := medianAdj_any w0 w2 blk cap (a + q * 3) w.heap.size s2 d H2.out (by have := HQ.out; have := HLB.out; have := HB.out; omega) (by have := HQ.out; have := hi50; omega) HZ.out (by have := HS2.out; omega); rw [← E3.out] at K; (with_reducible refine K.mono ?_); clear K; rintro r w3 ⟨m3, s3, rfl, hp3, hs3, ht3, h3⟩; have H3 := Lib.hid h3; have HS3 := Lib.hid (show s3 ≤ 9 by have := HS2.out; omega); have HP3 := Lib.hid (show a ≤ m3 ∧ m3 < b by have := HQ.out; have := HLB.out; omega); clear h3 hp3 hs3 ht3)
      | (go_at_call 281; (with_reducible refine (median_any w0 w3 blk cap m1 m2 m3 w.heap.size s3 d H3.out (by have := HP1.out; have := HB.out; omega) (by have := HP2.out; have := HB.out; omega) (by have := HP3.out; have := HB.out; omega) HZ.out (by have := HS3.out; omega)).mono ?_); rintro r w4 ⟨m, s4, rfl, hp4, hs4, ht4, h4⟩; have H4 := Lib.hid h4; have hc := h4.cell; have HP := Lib.hid (show a ≤ m ∧ m < b by have := HP1.out; have := HP2.out; have := HP3.out; omega); clear h4 hp4 hs4 ht4))
    all_goals
      go_ret2
      first
        | exact ⟨m, 1, rfl, HP.out.1, HP.out.2, by decide, H4.out.row⟩
        | exact ⟨m, 2, rfl, HP.out.1, HP.out.2, by decide, H4.out.row⟩
        | exact ⟨m, 0, rfl, HP.out.1, HP.out.2, by decide, H4.out.row⟩
  · have hi50 : ¬ (50 : Int) ≤ (l : Int) := by omega
    go_enter Tryz.func261, Tryz.ntmps261
    go_wp2_with (first
      | (go_at_call 281; have K := median_any w0 (w.alloc (.cells #[.int .i64 0] 3)) blk cap (a + q) (a + q * 2) (a + q * 3) w.heap.size 0 d HC.out (by have := HQ.out; have := HLB.out; have := HB.out; omega) (by have := HQ.out; have := HLB.out; have := HB.out; omega) (by have := HQ.out; have := HLB.out; have := HB.out; omega) HZ.out (by omega); rw [← E1.out, ← E2.out, ← E3.out] at K; (with_reducible refine K.mono ?_); clear K; rintro r w1 ⟨m, s1, rfl, hp1, hs1, ht1, h1⟩; have H1 := Lib.hid h1; have hc := h1.cell; have HP := Lib.hid (show a ≤ m ∧ m < b by have := HQ.out; have := HLB.out; have := HAB.out; omega); clear h1 hp1))
    all_goals
      go_ret2
      first
        | exact ⟨m, 1, rfl, HP.out.1, HP.out.2, by decide, H1.out.row⟩
        | exact ⟨m, 2, rfl, HP.out.1, HP.out.2, by decide, H1.out.row⟩
        | exact ⟨m, 0, rfl, HP.out.1, HP.out.2, by decide, H1.out.row⟩

end Go.Proofs.YtildjdhoeilcfaaGreat

namespace Go.Proofs.YtildjdhoeilcfaaGreat
open Go.RowKit Go.Maps

/-- What a call leaves that turns places within [a, b). -/
def Turned (w0 : World) (blk cap : Nat) (d : Array Nat) (a b : Nat) (r : Ending) (w' : World) : Prop :=
  ∃ dk, r = .returned (.tuple #[]) ∧ RowAt w0 blk cap w' dk ∧ Sort.PermIn a b d dk
theorem permIn_swp {a b i j : Nat} {d dk : Array Nat} (h : Sort.PermIn a b d dk) (hi : a ≤ i) (hi2 : i < b) (hj : a ≤ j) (hj2 : j < b) (hb : b ≤ d.size) : Sort.PermIn a b d (Sort.swp dk i j) :=
  Sort.permIn_trans _ _ _ _ _ h (Sort.swp_permIn dk a b i j hi hi2 hj hj2 (by rw [h.1]; exact hb))

set_option maxRecDepth 100000 in
set_option maxHeartbeats 4000000 in
theorem reverse_any (w0 w : World) (blk cap a b : Nat) (d : Array Nat) (h : RowAt w0 blk cap w d) (hb : b ≤ d.size) (hsz : d.size ≤ 100000) (hab : a + 12 < b) :
    Calls Tryz.prog 262 #[.slice (some ⟨blk, 0, none⟩) d.size cap, .int .i64 (a : Int), .int .i64 (b : Int)] w fun r w' => Turned w0 blk cap d a b r w' := by
  obtain ⟨n, hn⟩ : ∃ n, n = d.size := ⟨_, rfl⟩
  have HR0 := Lib.hid h
  have HN := Lib.hid hn
  rw [← hn] at hb hsz ⊢
  clear h hn
  go_enter Tryz.func262, Tryz.ntmps262
  go_wp2
  go_loopg [6, 7] b (fun g iv jv wr => ∃ (i j : Nat) (dk : Array Nat), iv = .int .i64 (i : Int) ∧ jv = .int .i64 (j : Int) ∧ j ≤ g ∧ a ≤ i ∧ j < b ∧ i ≤ b ∧ RowAt w0 blk cap wr dk ∧ Hid (Sort.PermIn a b d dk))
  case atStart => exact ⟨a, b - 1, d, rfl, by congr 1; omega, by omega, Nat.le_refl _, by omega, by omega, HR0.out, Lib.hid (Sort.permIn_refl _ _ _)⟩
  case round =>
    obtain ⟨i, j, dk, rfl, rfl, hg, hai, hjb, hib, hrow, HP⟩ := hrel
    have HR := Lib.hid hrow
    by_cases hij : i < j
    · have hiji : (i : Int) < (j : Int) := by omega
      have hs : dk.size = n := by rw [HP.out.1]; exact HN.out.symm
      have c1 := hrow.cell (show i < dk.size by omega)
      have c2 := hrow.cell (show j < dk.size by omega)
      have f1 := hrow.froz i
      have f2 := hrow.froz j
      have hin : (i : Int) < (n : Int) := by omega
      have hjn : (j : Int) < (n : Int) := by omega
      obtain ⟨x, hx⟩ : ∃ x, dk[i]! = x := ⟨_, rfl⟩
      obtain ⟨y, hy⟩ : ∃ y, dk[j]! = y := ⟨_, rfl⟩
      rw [hx] at c1
      rw [hy] at c2
      have HX := Lib.hid hx
      have HY := Lib.hid hy
      have HS := Lib.hid hs
      have hj1 : (1 : Int) ≤ (j : Int) := by omega
      clear hx hy hrow hs
      go_wp2_with fail
      go_region
      all_goals
        go_wp2
        go_roundg (j - 1)
        case rel => exact ⟨i + 1, j - 1, Sort.swp dk i j, by simp, by congr 1; omega, by omega, by omega, by omega, by omega, HR.out.drew.swap (by rw [HS.out]; omega) (by rw [HS.out]; omega) HY.out HX.out, Lib.hid (permIn_swp HP.out hai (by omega) (by omega) hjb (by rw [← HN.out]; exact hb))⟩
        case measure => omega
    · have hiji : ¬ (i : Int) < (j : Int) := by omega
      go_wp2
      go_end0
      exact ⟨dk, rfl, HR.out, HP.out⟩

end Go.Proofs.YtildjdhoeilcfaaGreat
