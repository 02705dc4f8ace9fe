/-
  append onto a row of the call's own: the row behind it is the old one or a new one. The frame of a Writer's call. Own work.
-/
import Derived.Test.YtnnmpaenainogaaGreatPgrAA
import Derived.Laws.AppendOwnNone
import Derived.Deep.RegionLaw

namespace Go.Proofs.YtnnmpaenainogaaGreat
open Go.RowKit

def Fresh (w : World) (v v' : Value) : Prop := v'.ownBlock = v.ownBlock ∨ ∃ k, v'.ownBlock = some k ∧ w.heap.size ≤ k

theorem run_append_own2 {P : Program} (w : World) (base : Nat) (t ty e : TypeId) (i : TypeInfo) (z : Value) (size bytes : Nat) (ht : P.underlying t = some (.slice e)) (hi : P.info? e = some i) (hz : i.zero = some z)
    (hsize : i.size = size) (hby : i.bytes = bytes) (hzs : z.cells.size = size) (hsz : 0 < size)
    (v : Value) (n : Nat) (xs : List Value) (hown : w.ownsRow base e size v n xs)
    (a : Addr) (m c : Nat) (news : List Value) (hl : news.length = m * size) (hnews : ∀ j u, news[j]? = some u → w.cell? (a.add j) = some u) (h1 : ∀ u ∈ news, u.oneCell' = true)
    (h63 : n + m ≤ maxLen) (hbytes : (n + m) * bytes ≤ 140737488355328) (hbase : base ≤ w.heap.size) :
    ∃ v' w', (Builtin.append_ #[t, t] ty #[v, .slice (some a) m c]).run P w = .ok v' w' ∧ w'.ownsRow base e size v' (n + m) (xs ++ news) ∧ w.grownBy w' v.ownBlock ∧ Fresh w v v' := by
  obtain ⟨v', w', hr, h2, h3, _⟩ := run_append_own (P := P) w base t ty e i z size bytes ht hi hz hsize hby hzs hsz v n xs hown a m c news hl hnews h1 h63 hbytes hbase
  refine ⟨v', w', hr, h2, h3, ?_⟩
  rcases hown.2 with ⟨rfl, rfl⟩ | ⟨g, cap, cur, rfl, hbg, hg, hnc, hcm, hcs, htake⟩
  · have hx : xs = [] := List.eq_nil_of_length_eq_zero (by simpa using hown.1)
    subst hx
    obtain ⟨v2, w2, hr2, h22, _⟩ := run_append_own (P := P) w w.heap.size t ty e i z size bytes ht hi hz hsize hby hzs hsz (.slice none 0 0) 0 [] (World.ownsRow_nil _ _ _ _) a m c news hl hnews h1 h63 hbytes (Nat.le_refl _)
    rw [hr] at hr2
    injection hr2 with e1 e2
    subst e1; subst e2
    rcases h22.2 with ⟨rfl, _⟩ | ⟨g, cap, cur, rfl, hb, _⟩
    · exact .inl rfl
    · exact .inr ⟨g, rfl, hb⟩
  · by_cases hroom : n + m ≤ cap
    · obtain ⟨w2, hr2, _⟩ := run_append_fits (P := P) w base t ty e i size ht hi hsize g n cap xs hown a m c news hl hnews h1 hroom
      rw [hr] at hr2
      injection hr2 with e1 e2
      subst e1
      exact .inl rfl
    · subst hsize; subst hby
      have holds : ∀ j u, xs[j]? = some u → w.cell? ((⟨g, 0, none⟩ : Addr).add j) = some u := hown.cells (g := g) rfl
      have hr2 := run_append_grow (P := P) w t ty e i z ht hi hz ⟨g, 0, none⟩ n cap xs hown.1 holds a m c news hl hnews (by omega) (by unfold maxLen at h63; omega) (growslice_fits (by omega) hbytes)
      rw [hr] at hr2
      injection hr2 with e1 e2
      subst e1
      exact .inr ⟨_, rfl, Nat.le_refl _⟩

theorem wp_append_own2 {P : Program} (w : World) {o : Oper} {a : Act} {K : Act → World → Prop} {Q : Exit → Act → World → Prop} (s x : Operand) (t : TypeId)
    (ho : o.op = .call { callee := .builtin .append, args := #[s, x], argTypes := #[t, t] })
    (base : Nat) (e : TypeId) (i : TypeInfo) (z : Value) (size bytes : Nat) (ht : P.underlying t = some (.slice e)) (hi : P.info? e = some i) (hz : i.zero = some z)
    (hsize : i.size = size) (hby : i.bytes = bytes) (hzs : z.cells.size = size) (hsz : 0 < size)
    (v : Value) (n : Nat) (xs : List Value) (hs : a.eval s = v) (hown : w.ownsRow base e size v n xs)
    (ad : Addr) (m c : Nat) (news : List Value) (hx : a.eval x = .slice (some ad) m c) (hl : news.length = m * size) (hnews : ∀ j u, news[j]? = some u → w.cell? (ad.add j) = some u) (h1 : ∀ u ∈ news, u.oneCell' = true)
    (h63 : n + m ≤ maxLen) (hbytes : (n + m) * bytes ≤ 140737488355328) (hbase : base ≤ w.heap.size)
    (h : ∀ v' w', w'.ownsRow base e size v' (n + m) (xs ++ news) → w.grownBy w' v.ownBlock → Fresh w v v' → K (a.put o.dst v') w') : o.wp P a w K Q := by
  obtain ⟨v', w', hr, h2, h3, h4⟩ := run_append_own2 (P := P) w base t o.type e i z size bytes ht hi hz hsize hby hzs hsz v n xs hown ad m c news hl hnews h1 h63 hbytes hbase
  unfold Oper.wp execOp
  simp only [ho, resolve, invoke, builtin, Sem.run_bind, Sem.run_pure, Result.andThen_ok, List.map_toArray, List.map_cons, List.map_nil, hs, hx, hr]
  exact h v' w' h2 h3 h4

theorem wpList_append_own2 {P : Program} (w : World) {ops : Array Oper} {rest : List Oper} {o : Oper} {a : Act} {Q : Exit → Act → World → Prop} (hgd : o.guard = none) (s x : Operand) (t : TypeId)
    (ho : o.op = .call { callee := .builtin .append, args := #[s, x], argTypes := #[t, t] })
    (base : Nat) (e : TypeId) (i : TypeInfo) (z : Value) (size bytes : Nat) (ht : P.underlying t = some (.slice e)) (hi : P.info? e = some i) (hz : i.zero = some z)
    (hsize : i.size = size) (hby : i.bytes = bytes) (hzs : z.cells.size = size) (hsz : 0 < size)
    (v : Value) (n : Nat) (xs : List Value) (hs : a.eval s = v) (hown : w.ownsRow base e size v n xs)
    (ad : Addr) (m c : Nat) (news : List Value) (hx : a.eval x = .slice (some ad) m c) (hl : news.length = m * size) (hnews : ∀ j u, news[j]? = some u → w.cell? (ad.add j) = some u) (h1 : ∀ u ∈ news, u.oneCell' = true)
    (h63 : n + m ≤ maxLen) (hbytes : (n + m) * bytes ≤ 140737488355328) (hbase : base ≤ w.heap.size)
    (h : ∀ v' w', w'.ownsRow base e size v' (n + m) (xs ++ news) → w.grownBy w' v.ownBlock → Fresh w v v' → wpList P ops Q rest (a.put o.dst v') w') : wpList P ops Q (o :: rest) a w :=
  wpList_plain hgd fun _ hK => wp_append_own2 w s x t ho base e i z size bytes ht hi hz hsize hby hzs hsz v n xs hs hown ad m c news hx hl hnews h1 h63 hbytes hbase fun v' w' h2 h3 h4 => hK _ _ (h v' w' h2 h3 h4)

/-- append onto a row of the call's own, as one step of a region that draws. -/
theorem step_append_own2 {P : Program} {ops : Array Oper} {o : Oper} {a : Act} {w : World} {K : Act → World → Prop} {Q : Exit → Act → World → Prop} {E : Prop}
    (hgd : o.guard = none) (s x : Operand) (t : TypeId) (ho : o.op = .call { callee := .builtin .append, args := #[s, x], argTypes := #[t, t] })
    (base : Nat) (e : TypeId) (i : TypeInfo) (z : Value) (size bytes : Nat) (ht : P.underlying t = some (.slice e)) (hi : P.info? e = some i) (hz : i.zero = some z)
    (hsize : i.size = size) (hby : i.bytes = bytes) (hzs : z.cells.size = size) (hsz : 0 < size)
    (v : Value) (n : Nat) (xs : List Value) (hs : a.eval s = v) (hown : w.ownsRow base e size v n xs)
    (ad : Addr) (m c : Nat) (news : List Value) (hx : a.eval x = .slice (some ad) m c) (hl : news.length = m * size) (hnews : ∀ j u, news[j]? = some u → w.cell? (ad.add j) = some u) (h1 : ∀ u ∈ news, u.oneCell' = true)
    (h63 : n + m ≤ maxLen) (hbytes : (n + m) * bytes ≤ 140737488355328) (hbase : base ≤ w.heap.size)
    (h : ∀ v' w', w'.ownsRow base e size v' (n + m) (xs ++ news) → w.grownBy w' v.ownBlock → Fresh w v v' → K (a.put o.dst v') w') :
    if Region.wanted o (yielded ops a.tmps) = true then Oper.wp P o a w K Q else E := by
  have hw : Region.wanted o (yielded ops a.tmps) = true := by simp [Region.wanted, hgd]
  rw [if_pos hw]
  exact wp_append_own2 w s x t ho base e i z size bytes ht hi hz hsize hby hzs hsz v n xs hs hown ad m c news hx hl hnews h1 h63 hbytes hbase h

/-- The block of the row that a Writer at g holds. -/
def rowAt (w : World) (g : Nat) : Option Nat :=
  match w.heap[g]? with
  | some (.cells cs _ _) => (cs.getD 0 undef).ownBlock
  | _ => none

theorem rowAt_of {w : World} {g : Nat} {v : Value} {t : TypeId} {f : Nat × Nat} (h : w.heap[g]? = some (.cells #[v] t f)) : rowAt w g = v.ownBlock := by
  unfold rowAt; rw [h]; rfl

/-- What a Writer's call leaves as it was: all but its own cell, its own row, and new blocks. -/
structure Fw (g : Nat) (w w' : World) : Prop where
  os : w'.os = w.os
  tape : w'.tape = w.tape
  output : w'.output = w.output
  size : w.heap.size ≤ w'.heap.size
  block : ∀ k, k < w.heap.size → k ≠ g → rowAt w g ≠ some k → w'.heap[k]? = w.heap[k]? ∧ rowAt w' g ≠ some k

theorem Fw.refl (g : Nat) (w : World) : Fw g w w := ⟨rfl, rfl, rfl, Nat.le_refl _, fun _ _ _ h => ⟨rfl, h⟩⟩
theorem Fw.trans {g : Nat} {a b c : World} (h : Fw g a b) (k : Fw g b c) : Fw g a c :=
  ⟨k.os.trans h.os, k.tape.trans h.tape, k.output.trans h.output, Nat.le_trans h.size k.size, fun i hi hg hr => by
    obtain ⟨h1, h2⟩ := h.block i hi hg hr
    obtain ⟨k1, k2⟩ := k.block i (Nat.lt_of_lt_of_le hi h.size) hg h2
    exact ⟨k1.trans h1, k2⟩⟩
theorem Fw.below {g : Nat} {w w' : World} {bs : List Int} (h : Fw g w w') (hw : WrAt w g bs) : Below g w w' := by
  have hlt := hw.lt
  obtain ⟨v, ho, hv⟩ := hw
  refine ⟨h.os, h.tape, h.output, h.size, fun k hk => (h.block k (by omega) (by omega) ?_).1⟩
  rw [rowAt_of hv]
  intro e
  have := (ho.lt k e).1
  omega

/-- What is left when bytes have been put: the row's cell holds the new value. -/
theorem wr_put {w w0 w1 : World} {g : Nat} {v v' : Value} {bs xs ys : List Int} (hown : w.ownsRow (g + 1) 5 1 v bs.length (bs.map (Value.int .u8))) (hv : w.heap[g]? = some (.cells #[v] 229 (0, 0)))
    (h0 : w.grownBy w0 none) (hown' : w1.ownsRow (g + 1) 5 1 v' (bs.length + xs.length) (bs.map (Value.int .u8) ++ xs.map (Value.int .u8))) (hgrow : w0.grownBy w1 v.ownBlock) (hf : Fresh w0 v v') (hxy : xs = ys) :
    WrAt (w1.setCell ⟨g, 0, none⟩ v') g (bs ++ ys) ∧ Fw g w (w1.setCell ⟨g, 0, none⟩ v') := by
  subst hxy
  have hg1 := gtrans (gwide (row := v.ownBlock) h0) hgrow
  have hlt := lt_of_block hv
  have hr : v.ownBlock ≠ some g := by
    intro e
    have := (hown.lt g e).1
    omega
  have hv1 : w1.heap[g]? = some (.cells #[v] 229 (0, 0)) := (hg1.block g hlt (fun e => hr e.symm)).trans hv
  have hv2 := one_setCell (u := v') hv1
  refine ⟨⟨_, by simpa using ownsRow_setCell_below hown' (by simp) _, hv2⟩, hg1.os, hg1.tape, hg1.output, by simpa [World.setCell] using hg1.size, fun k hk hkg hkr => ?_⟩
  rw [rowAt_of hv] at hkr
  rw [rowAt_of hv2]
  refine ⟨(Below.heap_setCell _ _ _ _ (by simpa using hkg)).trans (hg1.block k hk (fun e => hkr e.symm)), fun e => ?_⟩
  rcases hf with hf | ⟨j, hj, hl⟩
  · exact hkr (hf.symm.trans e)
  · rw [hj] at e
    have := h0.size
    injection e with e
    omega

theorem g_alloc_drew (w : World) (o : Obj) : w.grownBy ((w.alloc o).drew) none := ⟨rfl, rfl, rfl, by show w.heap.size ≤ (w.alloc o).heap.size; simp, fun k hk _ => Below.heap_alloc w o k hk⟩

end Go.Proofs.YtnnmpaenainogaaGreat

namespace Go.Proofs.YtnnmpaenainogaaGreat
open Go.RowKit

set_option maxHeartbeats 400000 in
theorem out_any (w : World) (g : Nat) (bs : List Int) (h : WrAt w g bs) (hl : bs.length ≤ 140737488355328) :
    Calls Tryz.prog 79 #[.pointer (some ⟨g, 0, none⟩)] w fun r w' => ∃ ao c, r = .returned (.slice ao bs.length c) ∧
      w'.ownsRow w.heap.size 5 1 (.slice ao bs.length c) bs.length (bs.map (Value.int .u8)) ∧ w.grownBy w' none := by
  obtain ⟨v, hown, hv⟩ := h
  obtain ⟨ao, c, rfl⟩ := own_shape hown
  have hc0 := cell_of_one hv
  have H := Lib.hid (clone_any w _ _ bs (Seq.owned hown) (Nat.le_refl _) hl)
  clear hown hv
  go_enter Tryz.func79, Tryz.ntmps79
  go_wp2_with (go_at_call 68; refine H.out.mono ?_; rintro r w2 ⟨ao, c, rfl, ho2, hg2⟩)
  go_ret
  exact ⟨_, _, rfl, ho2, hg2⟩

set_option maxHeartbeats 400000 in
theorem out_nil (w : World) :
    Calls Tryz.prog 79 #[.pointer none] w fun r w' => r = .returned (.slice none 0 0) ∧ w = w' := by
  go_enter Tryz.func79, Tryz.ntmps79
  go_wp2
  go_ret
  exact ⟨rfl, rfl⟩

/-- Behind an append onto the writer's row: its own cell still holds what it held. -/
theorem wr_still {w w' : World} {g : Nat} {t : TypeId} {u : Value} {row : Option Nat} (hv : w.heap[g]? = some (.cells #[u] t (0, 0))) (hg : w.grownBy w' row) (hr : row ≠ some g) : w'.heap[g]? = some (.cells #[u] t (0, 0)) :=
  (hg.block g (lt_of_block hv) (fun e => hr e.symm)).trans hv

theorem own_row {w : World} {base size n : Nat} {e : TypeId} {v : Value} {xs : List Value} (h : w.ownsRow base e size v n xs) {g : Nat} (hg : g < base) : v.ownBlock ≠ some g := by
  intro e
  have := (h.lt g e).1
  omega

theorem rightSize_yes (n : Int) (w : World) (h1 : 1 ≤ n) (h2 : n ≤ 8) :
    Calls Tryz.prog 122 #[.int .i64 n] w fun r w' => r = .returned (.bool true) ∧ w = w' :=
  (rightSize_any n w).mono fun r w' h => by simpa [h1, h2] using h
theorem rightSize_no (n : Int) (w : World) (h : n < 1 ∨ 8 < n) :
    Calls Tryz.prog 122 #[.int .i64 n] w fun r w' => r = .returned (.bool false) ∧ w = w' :=
  (rightSize_any n w).mono fun r w' k => by
    have e : (decide (1 ≤ n) && decide (n ≤ 8)) = false := by simp; omega
    simpa [e] using k

/-- The bytes of a number, k of size many. -/
def numB (x : Int) (size k : Nat) : List Int := (List.range k).map fun i => x / 256 ^ (size - 1 - i) % 256

theorem numB_snoc (x : Int) (n k : Nat) : numB x n (k + 1) = numB x n k ++ [x / 256 ^ (n - 1 - k) % 256] := by simp [numB, List.range_succ]

theorem cell_one_drew (w : World) (v : Value) (t : TypeId) : ∀ j u, [v][j]? = some u → ((w.alloc (.cells #[v] t)).drew).cell? ((⟨w.heap.size, 0, none⟩ : Addr).add j) = some u := cell_one_new w v t
theorem one_cell (v : Value) (h : v.oneCell' = true) : ∀ u ∈ [v], u.oneCell' = true := by intro u hu; simp at hu; subst hu; exact h

theorem drew_still {w : World} {g : Nat} {x : Obj} (hv : w.heap[g]? = some x) (o : Obj) : ((w.alloc o).drew).heap[g]? = some x :=
  (Below.heap_alloc w o g (lt_of_block hv)).trans hv

theorem WrAt.own {w : World} {g : Nat} {bs : List Int} (h : WrAt w g bs) : ∃ ao c, w.ownsRow (g + 1) 5 1 (.slice ao bs.length c) bs.length (bs.map (Value.int .u8)) ∧ w.heap[g]? = some (.cells #[.slice ao bs.length c] 229 (0, 0)) := by
  obtain ⟨u, hown, hv⟩ := h
  obtain ⟨ao, c, rfl⟩ := own_shape hown
  exact ⟨ao, c, hown, hv⟩

set_option maxHeartbeats 800000 in
theorem wnum_in (w : World) (g n : Nat) (x : Int) (bs : List Int) (h : WrAt w g bs) (_hx0 : 0 ≤ x) (_hx1 : x ≤ 18446744073709551615) (h1 : 1 ≤ n) (h8 : n ≤ 8) (hl : bs.length + n ≤ 140737488355328) :
    Calls Tryz.prog 77 #[.pointer (some ⟨g, 0, none⟩), .int .u64 x, .int .i64 n] w fun r w' => r = .returned (.tuple #[]) ∧ WrAt w' g (bs ++ numB x n n) ∧ Fw g w w' := by
  obtain ⟨i0, hi, hz0, hz1, hz2⟩ := info_parts infoU8
  go_enter Tryz.func77, Tryz.ntmps77
  go_wp2_with (go_at_call 122; refine (rightSize_yes _ _ (by omega) (by omega)).mono ?_; rintro r w1 ⟨rfl, rfl⟩)
  go_loopw [15] (fun i wr => ∃ k : Nat, k ≤ n ∧ i = .int .i64 k ∧ WrAt wr g (bs ++ numB x n k) ∧ Fw g w wr) (fun i _ => n - (intOf i).toNat)
  case atStart => exact ⟨0, Nat.zero_le _, rfl, by simpa [numB] using h, Fw.refl _ _⟩
  case round =>
    obtain ⟨k, hk, rfl, hwr, hbl⟩ := hrel
    by_cases hlt : k < n
    · have hlen : (bs ++ numB x n k).length = bs.length + k := by simp [numB]
      have hsn : bs ++ numB x n (k + 1) = (bs ++ numB x n k) ++ [x / 256 ^ (n - 1 - k) % 256] := by rw [numB_snoc, List.append_assoc]
      generalize bs ++ numB x n k = l at *
      have HS := Lib.hid hsn
      have HL := Lib.hid hlen
      clear hsn hlen h
      have hgl := hwr.lt
      obtain ⟨ao, c, hown, hv⟩ := hwr.own
      have HR := Lib.hid (own_row hown (Nat.lt_succ_self g))
      have hc0 := cell_of_one hv
      have HO := Lib.hid hown
      have HV := Lib.hid hv
      clear hown hv hwr
      go_wp2
      have e1 : IntKind.i64.wrap ((n : Int) - 1) = (n : Int) - 1 := IntWalk.i64_in _ (by omega)
      have e2 : IntKind.i64.wrap ((n : Int) - 1 - (k : Int)) = (n : Int) - 1 - (k : Int) := IntWalk.i64_in _ (by omega)
      have e3 : IntKind.i64.wrap (8 * ((n : Int) - 1 - (k : Int))) = 8 * ((n : Int) - 1 - (k : Int)) := IntWalk.i64_in _ (by omega)
      have hs0 : 0 ≤ 8 * ((n : Int) - 1 - (k : Int)) := by omega
      have HX := Lib.hid (show IntKind.u8.wrap (x / 2 ^ (8 * ((n : Int) - 1 - (k : Int))).toNat) = x / 256 ^ (n - 1 - k) % 256 by
        rw [IntKind.wrap_u8', show (8 * ((n : Int) - 1 - (k : Int))).toNat = 8 * (n - 1 - k) by omega, Int.pow_mul]; rfl)
      have hs1 : 8 * ((n : Int) - 1 - (k : Int)) ≤ 64 := by omega
      go_region_law (refine step_append_own2 rfl (.tmp 22) (.tmp 31) 32 rfl (g + 1) 5 i0 (.int .u8 0) 1 1 Tryz.underlying32 hi hz0 hz1 hz2 rfl (by decide) _ _ _ rfl (HO.out.alloc _) ⟨wr.heap.size, 0, none⟩ 1 1 [.int .u8 (IntKind.u8.wrap (x / 2 ^ (8 * ((n : Int) - 1 - (k : Int))).toNat))] rfl rfl (cell_one_drew _ _ _) (one_cell _ rfl) (by rw [HL.out]; unfold maxLen; omega) (by rw [HL.out]; omega) (by simp; omega) ?_; intro v' w1 hown' hgrow hfr; obtain ⟨ao', c', rfl⟩ := own_shape hown'; have hv1 := wr_still (drew_still HV.out _) hgrow HR.out; have k0 := cell_of_one hv1; have e0 := free_of_one hv1; have R := Lib.hid (wr_put HO.out HV.out (g_alloc_drew wr _) (xs := [_]) hown' hgrow hfr (congrArg (fun y => [y]) HX.out)); clear hown' hgrow hv1 hfr)
      all_goals
        go_wp2
        go_roundw
        case rel => exact ⟨k + 1, by omega, by go_num, by rw [HS.out]; exact R.out.1, hbl.trans R.out.2⟩
        case measure => simp [intOf]; omega
    · obtain rfl : k = n := by omega
      go_wp2
      go_end0
      exact ⟨rfl, hwr, hbl⟩

end Go.Proofs.YtnnmpaenainogaaGreat

namespace Go.Proofs.YtnnmpaenainogaaGreat
open Go.RowKit

/-- An entry. -/
structure En where
  key : List Int
  val : List Int
  long : Int
  first : Int

structure EnOk (x : En) : Prop where
  k : Byt x.key
  v : Byt x.val
  kl : x.key.length ≤ 100000
  vl : x.val.length ≤ 100000
  l0 : -9223372036854775808 ≤ x.long
  l1 : x.long ≤ 9223372036854775807
  f0 : 0 ≤ x.first
  f1 : x.first ≤ 4294967295

/-- How two keys stand. -/
def cmpL : List Int → List Int → Int
  | [], [] => 0
  | [], _ :: _ => -1
  | _ :: _, [] => 1
  | a :: s, b :: bs => if a < b then -1 else if b < a then 1 else cmpL s bs
def cmpI (a b : Int) : Int := if a < b then -1 else if b < a then 1 else 0

theorem cmpL_nil : ∀ l : List Int, cmpL [] l = if l.length = 0 then 0 else -1
  | [] => rfl
  | _ :: _ => rfl
theorem cmpL_drop {a b : List Int} {k : Nat} (ha : k < a.length) (hb : k < b.length) :
    cmpL (a.drop k) (b.drop k) = if cmpI (a.getD k 0) (b.getD k 0) = 0 then cmpL (a.drop (k + 1)) (b.drop (k + 1)) else cmpI (a.getD k 0) (b.getD k 0) := by
  rw [List.drop_eq_getElem_cons ha, List.drop_eq_getElem_cons hb, cmpL]
  simp only [List.getD_eq_getElem?_getD, List.getElem?_eq_getElem ha, List.getElem?_eq_getElem hb, Option.getD_some, cmpI]
  split
  · simp
  · split <;> simp
theorem cmpL_end {a b : List Int} {k : Nat} (ha : a.length ≤ k) (hb : k ≤ b.length) : cmpL (a.drop k) (b.drop k) = if b.length = k then 0 else -1 := by
  rw [List.drop_eq_nil_of_le ha, cmpL_nil, List.length_drop]
  by_cases h : b.length = k
  · rw [if_pos h, if_pos (by omega)]
  · rw [if_neg h, if_neg (by omega)]
theorem cmpL_over {a b : List Int} {k : Nat} (ha : k < a.length) (hb : b.length ≤ k) : cmpL (a.drop k) (b.drop k) = 1 := by
  rw [List.drop_eq_nil_of_le hb, List.drop_eq_getElem_cons ha]; rfl
theorem cmpL_range : ∀ a b : List Int, cmpL a b = -1 ∨ cmpL a b = 0 ∨ cmpL a b = 1
  | [], [] => by simp [cmpL]
  | [], _ :: _ => by simp [cmpL]
  | _ :: _, [] => by simp [cmpL]
  | a :: s, b :: bs => by
    rw [cmpL]
    split
    · simp
    · split
      · simp
      · exact cmpL_range s bs
theorem cmpL_refl : ∀ a : List Int, cmpL a a = 0
  | [] => rfl
  | a :: s => by simp [cmpL, cmpL_refl s]
theorem cmpL_eq : ∀ a b : List Int, cmpL a b = 0 → a = b
  | [], [], _ => rfl
  | [], _ :: _, h => by simp [cmpL] at h
  | _ :: _, [], h => by simp [cmpL] at h
  | a :: s, b :: bs, h => by
    rw [cmpL] at h
    split at h
    · simp at h
    · split at h
      · simp at h
      · rw [cmpL_eq s bs h, show a = b by omega]
theorem cmpL_trans : ∀ a b c : List Int, cmpL a b < 0 → cmpL b c < 0 → cmpL a c < 0
  | [], _, [], h, k => by
    rename_i b
    cases b with
    | nil => simp [cmpL] at h
    | cons x xs => simp [cmpL] at k
  | [], _, _ :: _, _, _ => by simp [cmpL]
  | _ :: _, [], _, h, _ => by simp [cmpL] at h
  | _ :: _, _ :: _, [], _, k => by simp [cmpL] at k
  | a :: s, b :: bs, c :: cs, h, k => by
    rw [cmpL] at h k ⊢
    by_cases h1 : a < b
    · by_cases h2 : b < c
      · rw [if_pos (by omega)]; decide
      · rw [if_neg h2] at k
        by_cases h3 : c < b
        · rw [if_pos h3] at k; omega
        · rw [if_pos (by omega)]; decide
    · rw [if_neg h1] at h
      by_cases h2 : b < a
      · rw [if_pos h2] at h; omega
      · rw [if_neg h2] at h
        by_cases h3 : b < c
        · rw [if_pos (by omega)]; decide
        · rw [if_neg h3] at k
          by_cases h4 : c < b
          · rw [if_pos h4] at k; omega
          · rw [if_neg h4] at k
            rw [if_neg (by omega), if_neg (by omega)]
            exact cmpL_trans s bs cs h k
theorem cmpL_anti : ∀ a b : List Int, cmpL a b = - cmpL b a
  | [], [] => rfl
  | [], _ :: _ => rfl
  | _ :: _, [] => rfl
  | a :: s, b :: bs => by
    rw [cmpL, cmpL]
    by_cases h1 : a < b
    · rw [if_pos h1, if_neg (by omega), if_pos h1]
    · by_cases h2 : b < a
      · rw [if_neg h1, if_pos h2, if_pos h2]; rfl
      · rw [if_neg h1, if_neg h2, if_neg h2, if_neg h1]
        exact cmpL_anti s bs

theorem numB_len (x : Int) (n k : Nat) : (numB x n k).length = k := by simp [numB]
/-- What pages of a kind have: cells, how long they are, and which entries are told by one. -/
structure Lay where
  kind : Int
  cell : En → List Int
  len : En → Nat
  good : En → Prop
def EntOk (Y : Lay) (c : List Int) (x : En) : Prop := c = Y.cell x ∧ Y.good x
class LayOk (Y : Lay) : Prop where
  k0 : 0 ≤ Y.kind
  k1 : Y.kind < 256
  lenE : ∀ x, (Y.cell x).length = Y.len x
  inj : ∀ c x y, EntOk Y c x → EntOk Y c y → x = y
section
variable {Y : Lay}
theorem cell_len [LayOk Y] (x : En) : (Y.cell x).length = Y.len x := LayOk.lenE x
theorem kmod [LayOk Y] : Y.kind % 256 = Y.kind := by have := LayOk.k0 (Y := Y); have := LayOk.k1 (Y := Y); omega

/-- How many bytes the first k cells have. -/
def cs (Y : Lay) (l : List En) : Nat → Nat
  | 0 => 0
  | k + 1 => cs Y l k + (match l[k]? with | some x => Y.len x | none => 0)
theorem cs_snoc {l : List En} {k : Nat} {x : En} (h : l[k]? = some x) : cs Y l (k + 1) = cs Y l k + Y.len x := by rw [cs, h]
theorem cs_mono (l : List En) : ∀ {a b : Nat}, a ≤ b → cs Y l a ≤ cs Y l b
  | a, 0, h => by rw [show a = 0 by omega]; exact Nat.le_refl _
  | a, b + 1, h => by
    by_cases e : a = b + 1
    · rw [e]; exact Nat.le_refl _
    · exact Nat.le_trans (cs_mono l (show a ≤ b by omega)) (by rw [cs]; omega)
/-- How many bytes the first k entries fill. -/
def fillK (Y : Lay) (l : List En) (k : Nat) : Nat := 4 + 2 * k + cs Y l k
def fillL (Y : Lay) (l : List En) : Nat := fillK Y l l.length
theorem fillK_snoc {l : List En} {k : Nat} {x : En} (h : l[k]? = some x) : fillK Y l (k + 1) = fillK Y l k + (2 + Y.len x) := by
  unfold fillK; rw [cs_snoc h]; omega
theorem fillK_mono (l : List En) {a b : Nat} (h : a ≤ b) : fillK Y l a ≤ fillK Y l b := by
  have := cs_mono (Y := Y) l h
  unfold fillK; omega

/-- The first k cells, as they lie at the page's end. -/
def tlB (Y : Lay) (l : List En) : Nat → List Int
  | 0 => []
  | k + 1 => (match l[k]? with | some x => Y.cell x | none => []) ++ tlB Y l k
theorem tlB_snoc {l : List En} {k : Nat} {x : En} (h : l[k]? = some x) : tlB Y l (k + 1) = Y.cell x ++ tlB Y l k := by rw [tlB, h]
theorem tlB_len [LayOk Y] (l : List En) : ∀ k, (tlB Y l k).length = cs Y l k
  | 0 => rfl
  | k + 1 => by
    rw [tlB, cs, List.length_append, tlB_len l k]
    cases l[k]? with
    | none => simp
    | some x => simp only [cell_len]; omega
/-- The head, with the first k places. -/
def hdB (Y : Lay) (l : List En) (size : Nat) : Nat → List Int
  | 0 => ((([] ++ numB Y.kind 1 1) ++ numB 0 1 1) ++ numB l.length 2 2)
  | k + 1 => hdB Y l size k ++ numB ((size - cs Y l (k + 1) : Nat) : Int) 2 2
theorem hdB_len (l : List En) (size : Nat) : ∀ k, (hdB Y l size k).length = 4 + 2 * k
  | 0 => by simp [hdB, numB_len]
  | k + 1 => by rw [hdB, List.length_append, hdB_len l size k, numB_len]; omega
/-- What a page has, its first k cells put. -/
def bdB (Y : Lay) (l : List En) (size k : Nat) : List Int := List.replicate (size - cs Y l k) 0 ++ tlB Y l k
theorem bdB_len [LayOk Y] {l : List En} {size k : Nat} (h : cs Y l k ≤ size) : (bdB Y l size k).length = size := by
  rw [bdB, List.length_append, List.length_replicate, tlB_len]; omega
/-- A page. -/
def pageB (Y : Lay) (l : List En) (size : Nat) : List Int := hdB Y l size l.length ++ (List.replicate (size - cs Y l l.length - (4 + 2 * l.length)) 0 ++ tlB Y l l.length)
theorem pageB_len [LayOk Y] {l : List En} {size : Nat} (h : fillL Y l ≤ size) : (pageB Y l size).length = size := by
  unfold fillL fillK at h
  rw [pageB, List.length_append, List.length_append, List.length_replicate, tlB_len, hdB_len]; omega
theorem bdB_snoc [LayOk Y] {l : List En} {size k : Nat} {x : En} (hx : l[k]? = some x) (h : cs Y l k + Y.len x ≤ size) :
    (bdB Y l size k).take (size - cs Y l (k + 1)) ++ Y.cell x ++ (bdB Y l size k).drop (size - cs Y l (k + 1) + Y.len x) = bdB Y l size (k + 1) := by
  have e := cs_snoc (Y := Y) hx
  have e2 : size - cs Y l (k + 1) + Y.len x = size - cs Y l k := by omega
  have hr : (List.replicate (size - cs Y l k) (0 : Int)).length = size - cs Y l k := by simp
  rw [e2, bdB, List.drop_append_of_le_length (by omega), List.drop_eq_nil_of_le (by omega), List.take_append_of_le_length (by omega), List.take_replicate, List.nil_append, bdB, tlB_snoc hx, List.append_assoc, Nat.min_eq_left (by omega)]
theorem page_last [LayOk Y] {l : List En} {size : Nat} (h : fillL Y l ≤ size) :
    (bdB Y l size l.length).take 0 ++ hdB Y l size l.length ++ (bdB Y l size l.length).drop (0 + (hdB Y l size l.length).length) = pageB Y l size := by
  unfold fillL fillK at h
  rw [List.take_zero, List.nil_append, Nat.zero_add, hdB_len, bdB, List.drop_append_of_le_length (by simp; omega), List.drop_replicate, pageB]

theorem numB1 (X : Int) : numB X 1 1 = [X % 256] := by simp [numB]
theorem numB2 (X : Int) : numB X 2 2 = [X / 256 % 256, X % 256] := by simp [numB, List.range_succ]
theorem numB4 (X : Int) : numB X 4 4 = [X / 16777216 % 256, X / 65536 % 256, X / 256 % 256, X % 256] := by simp [numB, List.range_succ]
theorem numB_byt (X : Int) (n k : Nat) : Byt (numB X n k) := by
  intro y hy
  simp only [numB, List.mem_map] at hy
  obtain ⟨i, _, rfl⟩ := hy
  omega
theorem be1 {X : Int} (h0 : 0 ≤ X) (h1 : X < 256) : beVal (numB X 1 1) = X := by rw [numB1]; simp [beVal]; omega
theorem be2 {X : Int} (h0 : 0 ≤ X) (h1 : X < 65536) : beVal (numB X 2 2) = X := by rw [numB2]; simp [beVal]; omega
theorem be4 {X : Int} (h0 : 0 ≤ X) (h1 : X < 4294967296) : beVal (numB X 4 4) = X := by rw [numB4]; simp [beVal]; omega
theorem num1 {o : List Int} (hb : Byt o) (hl : o.length = 1) : numB (beVal o) 1 1 = o := by
  match o, hl with
  | [a], _ =>
    have := hb a (by simp)
    rw [numB1]; simp [beVal]; omega
theorem num2 {o : List Int} (hb : Byt o) (hl : o.length = 2) : numB (beVal o) 2 2 = o := by
  match o, hl with
  | [a, b], _ =>
    have := hb a (by simp); have := hb b (by simp)
    rw [numB2]; simp [beVal]; omega
theorem num4 {o : List Int} (hb : Byt o) (hl : o.length = 4) : numB (beVal o) 4 4 = o := by
  match o, hl with
  | [a, b, c, d], _ =>
    have := hb a (by simp); have := hb b (by simp); have := hb c (by simp); have := hb d (by simp)
    rw [numB4]; simp [beVal]; omega

theorem nx_app {a b : List Int} {n : Int} (h : (a.length : Int) = n) : nx (a ++ b) 0 n true = (b, 0, a) := by
  subst h
  have : ¬ ((a ++ b).length : Int) < (a.length : Int) := by simp; omega
  simp only [nx, if_neg this]
  simp
/-- Where no error is, bytes were there. -/
theorem nx_ok {bs r o : List Int} {e n : Int} (h : nx bs e n true = (r, 0, o)) (hn : 0 ≤ n) : e = 0 ∧ bs = o ++ r ∧ (o.length : Int) = n := by
  unfold nx at h
  split at h
  · rename_i he; injection h with _ h2; injection h2 with h3 _; exact absurd h3 he
  · rename_i he
    split at h
    · rename_i h2; cases h2
    · split at h
      · injection h with _ h2; injection h2 with h3 _; cases h3
      · rename_i hl
        injection h with h1 h2; injection h2 with _ h3
        subst h1; subst h3
        refine ⟨by omega, by simp, ?_⟩
        simp; omega
theorem nx_outlen {bs r o : List Int} {e e' n : Int} (h : nx bs e n true = (r, e', o)) (hn : 0 ≤ n) : (o.length : Int) ≤ n := by
  unfold nx at h
  split at h
  · injection h with _ h2; injection h2 with _ h3; subst h3; simpa using hn
  · split at h
    · injection h with _ h2; injection h2 with _ h3; subst h3; simpa using hn
    · split at h
      · injection h with _ h2; injection h2 with _ h3; subst h3; simpa using hn
      · injection h with _ h2; injection h2 with _ h3; subst h3; simp; omega
theorem nx_both {bs r o : List Int} {e e' n : Int} {t : Bool} (h : nx bs e n t = (r, e', o)) (hb : Byt bs) : Byt r ∧ Byt o ∧ r.length ≤ bs.length ∧ o.length ≤ bs.length := by
  have h1 := nx_byt hb e n t
  have h2 := nx_rest bs e n t
  have h3 := nx_len bs e n t
  rw [h] at h1 h2 h3
  exact ⟨h1.1, h1.2, h2, h3⟩

/-- The bytes b are laid as a page of the entries l. -/
structure Laid (Y : Lay) (b : List Int) (l : List En) : Prop where
  got : ∀ x ∈ l, Y.good x
  few : l.length ≤ 65535
  small : b.length ≤ 65535
  fill : fillL Y l ≤ b.length
  page : b = pageB Y l b.length

/-- The places alone. -/
def plB (Y : Lay) (l : List En) (size : Nat) : Nat → List Int
  | 0 => []
  | k + 1 => plB Y l size k ++ numB ((size - cs Y l (k + 1) : Nat) : Int) 2 2
theorem plB_len (l : List En) (size : Nat) : ∀ k, (plB Y l size k).length = 2 * k
  | 0 => rfl
  | k + 1 => by rw [plB, List.length_append, plB_len l size k, numB_len]; omega
theorem hdB_pl [LayOk Y] (l : List En) (size : Nat) : ∀ k, hdB Y l size k = ([Y.kind, 0] ++ numB l.length 2 2) ++ plB Y l size k
  | 0 => by rw [hdB, plB, List.append_nil, numB1, numB1, kmod]; rfl
  | k + 1 => by rw [hdB, hdB_pl l size k, plB, List.append_assoc]

theorem tlB_drop [LayOk Y] {l : List En} : ∀ {n k : Nat}, k ≤ n → (tlB Y l n).drop (cs Y l n - cs Y l k) = tlB Y l k
  | 0, k, h => by rw [show k = 0 by omega]; rfl
  | n + 1, k, h => by
    by_cases e : k = n + 1
    · rw [e, Nat.sub_self]; rfl
    · have ih := tlB_drop (l := l) (n := n) (k := k) (by omega)
      have hm := cs_mono (Y := Y) l (show k ≤ n by omega)
      rcases hx : l[n]? with _ | x
      · have h1 : tlB Y l (n + 1) = tlB Y l n := by rw [tlB, hx]; rfl
        have h2 : cs Y l (n + 1) = cs Y l n := by rw [cs, hx]; rfl
        rw [h1, h2]; exact ih
      · have h2 := cs_snoc (Y := Y) hx
        have h3 := cell_len (Y := Y) x
        rw [tlB_snoc hx, List.drop_append, List.drop_eq_nil_of_le (by omega), List.nil_append, show cs Y l (n + 1) - cs Y l k - (Y.cell x).length = cs Y l n - cs Y l k by omega]
        exact ih
/-- A page's end, from where the first k cells begin. -/
theorem page_drop [LayOk Y] {l : List En} {b : List Int} (h : Laid Y b l) {k : Nat} (hk : k ≤ l.length) : b.drop (b.length - cs Y l k) = tlB Y l k := by
  have hf := h.fill
  have hm := cs_mono (Y := Y) l hk
  unfold fillL fillK at hf
  have hp := h.page
  generalize hS : b.length = S at *
  subst hp
  have h1 : (hdB Y l S l.length).length = 4 + 2 * l.length := hdB_len _ _ _
  rw [pageB, List.drop_append, List.drop_eq_nil_of_le (by omega), List.nil_append, List.drop_append, List.drop_eq_nil_of_le (by simp; omega), List.nil_append]
  rw [show S - cs Y l k - (hdB Y l S l.length).length - (List.replicate (S - cs Y l l.length - (4 + 2 * l.length)) (0 : Int)).length = cs Y l l.length - cs Y l k by rw [h1]; simp; omega]
  exact tlB_drop hk
/-- The cell of the k-th entry. -/
theorem page_cell [LayOk Y] {l : List En} {b : List Int} (h : Laid Y b l) {k : Nat} {x : En} (hx : l[k]? = some x) : (b.drop (b.length - cs Y l (k + 1))).take (Y.len x) = Y.cell x := by
  have hk : k < l.length := (List.getElem?_eq_some_iff.1 hx).1
  rw [page_drop h (by omega), tlB_snoc hx, List.take_append_of_le_length (by rw [cell_len]; exact Nat.le_refl _), List.take_of_length_le (by rw [cell_len]; exact Nat.le_refl _)]
/-- The head of a page. -/
theorem page_head [LayOk Y] {l : List En} {b : List Int} (h : Laid Y b l) : ∃ r, b = ([Y.kind, 0] ++ numB l.length 2 2) ++ (plB Y l b.length l.length ++ r) ∧ r = List.replicate (b.length - cs Y l l.length - (4 + 2 * l.length)) 0 ++ tlB Y l l.length := by
  refine ⟨_, ?_, rfl⟩
  have hp := h.page
  rw [pageB, hdB_pl, List.append_assoc] at hp
  exact hp
theorem plB_split {l : List En} {size : Nat} : ∀ {n k : Nat}, k < n → ∃ r, plB Y l size n = plB Y l size k ++ (numB ((size - cs Y l (k + 1) : Nat) : Int) 2 2 ++ r)
  | 0, k, h => by omega
  | n + 1, k, h => by
    by_cases e : k = n
    · subst e; exact ⟨[], by rw [plB, List.append_nil]⟩
    · obtain ⟨r, hr⟩ := plB_split (l := l) (size := size) (n := n) (k := k) (by omega)
      exact ⟨r ++ numB ((size - cs Y l (n + 1) : Nat) : Int) 2 2, by rw [plB, hr]; simp⟩

/-- Are bytes noughts, each of them? -/
def allZ (xs : List Int) : Bool := xs.all (fun c => c == 0)
/-- How far a page has been read: the entries so far, where the next one ends, what the Reader has left. -/
structure RdTo (Y : Lay) (b : List Int) (C : Nat) (k E : Nat) (xs : List En) (bs : List Int) (e : Int) : Prop where
  len : xs.length = k
  got : ∀ x ∈ xs, Y.good x
  csl : E + cs Y xs k = b.length
  tl : b.drop E = tlB Y xs k
  hd : e = 0 → b = ([Y.kind, 0] ++ numB C 2 2) ++ (plB Y (xs) b.length k ++ bs)
  all : ∀ L, Laid Y b L → L.length = C ∧ e = 0 ∧ xs = L.take k

theorem cs_take (l : List En) : ∀ {k n : Nat}, k ≤ n → cs Y (l.take n) k = cs Y l k
  | 0, _, _ => rfl
  | k + 1, n, h => by
    rw [cs, cs, cs_take l (show k ≤ n by omega), List.getElem?_take, if_pos (by omega)]
theorem cs_app (l m : List En) : ∀ {k : Nat}, k ≤ l.length → cs Y (l ++ m) k = cs Y l k
  | 0, _ => rfl
  | k + 1, h => by
    rw [cs, cs, cs_app l m (show k ≤ l.length by omega), List.getElem?_append_left (by omega)]
theorem tlB_app (l m : List En) : ∀ {k : Nat}, k ≤ l.length → tlB Y (l ++ m) k = tlB Y l k
  | 0, _ => rfl
  | k + 1, h => by
    rw [tlB, tlB, tlB_app l m (show k ≤ l.length by omega), List.getElem?_append_left (by omega)]
theorem plB_app (l m : List En) (size : Nat) : ∀ {k : Nat}, k ≤ l.length → plB Y (l ++ m) size k = plB Y l size k
  | 0, _ => rfl
  | k + 1, h => by
    rw [plB, plB, plB_app l m size (show k ≤ l.length by omega), cs_app l m h]
theorem plB_take (l : List En) (size : Nat) : ∀ {k n : Nat}, k ≤ n → plB Y (l.take n) size k = plB Y l size k
  | 0, _, _ => rfl
  | k + 1, n, h => by
    rw [plB, plB, plB_take l size (show k ≤ n by omega), cs_take l (show k + 1 ≤ n by omega)]

/-- The head read: nothing else so far. -/
theorem RdTo.start [LayOk Y] {b b1 b2 b3 o1 o2 o3 : List Int} {e1 e2 e3 : Int} {C : Nat} (hb : Byt b) (x1 : nx b 0 1 true = (b1, e1, o1)) (h1 : beVal o1 = Y.kind) (x2 : nx b1 e1 1 true = (b2, e2, o2)) (h2 : beVal o2 = 0) (x3 : nx b2 e2 2 true = (b3, e3, o3)) (hC : beVal o3 = (C : Int)) :
    RdTo Y b C 0 b.length [] b3 e3 := by
  obtain ⟨c1, bo1, _, _⟩ := nx_both x1 hb
  obtain ⟨c2, bo2, _, _⟩ := nx_both x2 c1
  obtain ⟨c3, bo3, _, _⟩ := nx_both x3 c2
  refine ⟨rfl, (fun x hx => by cases hx), rfl, by rw [List.drop_length]; rfl, fun he => ?_, fun L hL => ?_⟩
  · subst he
    obtain ⟨r2, p2, l3⟩ := nx_ok x3 (by decide)
    subst r2
    obtain ⟨r1, p1, l2⟩ := nx_ok x2 (by decide)
    subst r1
    obtain ⟨_, p0, l1⟩ := nx_ok x1 (by decide)
    rw [← hC, num2 bo3 (by omega), plB, List.nil_append]
    have q1 := num1 bo1 (by omega)
    have q2 := num1 bo2 (by omega)
    rw [h1, numB1, kmod] at q1
    rw [h2, numB1] at q2
    rw [p0, ← q1, p1, ← q2, p2]
    simp
  · obtain ⟨r, hr, _⟩ := page_head hL
    have hfew := hL.few
    rw [show ([Y.kind, 0] ++ numB (L.length : Int) 2 2) ++ (plB Y L b.length L.length ++ r) = [Y.kind] ++ ([0] ++ (numB (L.length : Int) 2 2 ++ (plB Y L b.length L.length ++ r))) by simp] at hr
    rw [hr, nx_app (by rfl)] at x1
    injection x1 with a1 x1; injection x1 with a2 a3
    subst a1; subst a2
    rw [nx_app (by rfl)] at x2
    injection x2 with a1 x2; injection x2 with a2 a3
    subst a1; subst a2
    rw [nx_app (by rw [numB_len]; rfl)] at x3
    injection x3 with a1 x3; injection x3 with a2 a3
    subst a1; subst a2; subst a3
    rw [be2 (by omega) (by omega)] at hC
    exact ⟨by omega, rfl, rfl⟩
/-- No page begins otherwise. -/
theorem laid_one [LayOk Y] {b b1 o1 : List Int} {e1 : Int} (x1 : nx b 0 1 true = (b1, e1, o1)) (h1 : beVal o1 ≠ Y.kind) (L : List En) : ¬ Laid Y b L := by
  intro hL
  obtain ⟨r, hr, _⟩ := page_head hL
  rw [show ([Y.kind, 0] ++ numB (L.length : Int) 2 2) ++ (plB Y L b.length L.length ++ r) = [Y.kind] ++ ([0] ++ (numB (L.length : Int) 2 2 ++ (plB Y L b.length L.length ++ r))) by simp] at hr
  rw [hr, nx_app (by rfl)] at x1
  injection x1 with a1 x1; injection x1 with a2 a3
  subst a3
  exact h1 (by simp [beVal])
theorem laid_two [LayOk Y] {b b1 b2 o1 o2 : List Int} {e1 e2 : Int} (x1 : nx b 0 1 true = (b1, e1, o1)) (x2 : nx b1 e1 1 true = (b2, e2, o2)) (h2 : beVal o2 ≠ 0) (L : List En) : ¬ Laid Y b L := by
  intro hL
  obtain ⟨r, hr, _⟩ := page_head hL
  rw [show ([Y.kind, 0] ++ numB (L.length : Int) 2 2) ++ (plB Y L b.length L.length ++ r) = [Y.kind] ++ ([0] ++ (numB (L.length : Int) 2 2 ++ (plB Y L b.length L.length ++ r))) by simp] at hr
  rw [hr, nx_app (by rfl)] at x1
  injection x1 with a1 x1; injection x1 with a2 a3
  subst a1; subst a2
  rw [nx_app (by rfl)] at x2
  injection x2 with a1 x2; injection x2 with a2 a3
  subst a3
  exact h2 rfl
/-- Of a page the next place is where its entry begins. -/
theorem RdTo.place [LayOk Y] {b bs bs' o : List Int} {e e' : Int} {C k E : Nat} {xs : List En} (h : RdTo Y b C k E xs bs e) (hk : k < C) (hx : nx bs e 2 true = (bs', e', o)) {L : List En} (hL : Laid Y b L) :
    e' = 0 ∧ beVal o = ((b.length - cs Y L (k + 1) : Nat) : Int) ∧ E = b.length - cs Y L k ∧ ∃ x, L[k]? = some x ∧ cs Y L (k + 1) = cs Y L k + Y.len x ∧ cs Y L (k + 1) ≤ b.length ∧ (b.drop (b.length - cs Y L (k + 1))).take (Y.len x) = Y.cell x ∧ Y.good x := by
  obtain ⟨hlen, he, hxs⟩ := h.all L hL
  subst he
  have hkL : k < L.length := by omega
  obtain ⟨x, hx'⟩ : ∃ x, L[k]? = some x := ⟨_, List.getElem?_eq_getElem hkL⟩
  have hc := cs_snoc (Y := Y) hx'
  have hm := cs_mono (Y := Y) L (show k + 1 ≤ L.length by omega)
  have hf := hL.fill
  unfold fillL fillK at hf
  have hE : E = b.length - cs Y L k := by
    have := h.csl
    rw [hxs, cs_take L (Nat.le_refl k)] at this
    omega
  obtain ⟨r, hr, _⟩ := page_head hL
  obtain ⟨r2, hr2⟩ := plB_split (l := L) (size := b.length) hkL
  have hh := h.hd rfl
  rw [hr2] at hr
  rw [hxs, plB_take L b.length (Nat.le_refl k), ← hlen] at hh
  have hbs : bs = numB ((b.length - cs Y L (k + 1) : Nat) : Int) 2 2 ++ (r2 ++ r) := by
    have := hh.symm.trans hr
    simp only [List.append_assoc, List.append_cancel_left_eq, List.cons_append, List.nil_append] at this
    simpa using this
  have hsm := hL.small
  rw [hbs, nx_app (by rw [numB_len]; rfl)] at hx
  injection hx with a1 hx; injection hx with a2 a3
  subst a2; subst a3
  exact ⟨rfl, be2 (by omega) (by omega), hE, x, hx', hc, by omega, page_cell hL hx', hL.got x (List.mem_of_getElem? hx')⟩

theorem RdTo.step [LayOk Y] {b bs bs' o : List Int} {e e' : Int} {C k E A : Nat} {xs : List En} {x : En} (h : RdTo Y b C k E xs bs e) (hb : Byt bs) (hk : k < C) (hx : nx bs e 2 true = (bs', e', o)) (hA : beVal o = (A : Int)) (hAE : A ≤ E) (hc : EntOk Y ((b.drop A).take (E - A)) x) :
    RdTo Y b C (k + 1) A (xs ++ [x]) bs' e' := by
  have hlen := h.len
  have hcsl := h.csl
  have hEl : E ≤ b.length := by omega
  have hget : (xs ++ [x])[k]? = some x := by rw [List.getElem?_append_right (by omega), hlen, Nat.sub_self]; rfl
  have hcx : Y.len x = E - A := by
    rw [← cell_len, ← hc.1, List.length_take, List.length_drop]; omega
  have hcs : cs Y (xs ++ [x]) (k + 1) = cs Y xs k + Y.len x := by rw [cs_snoc hget, cs_app _ _ (by omega)]
  refine ⟨by simp [hlen], fun y hy => ?_, by omega, ?_, fun he => ?_, fun L hL => ?_⟩
  · rcases List.mem_append.1 hy with hy | hy
    · exact h.got y hy
    · have : y = x := by simpa using hy
      subst this; exact hc.2
  · rw [tlB_snoc hget, tlB_app _ _ (by omega), ← h.tl, ← hc.1, show b.drop E = (b.drop A).drop (E - A) by rw [List.drop_drop]; congr 1; omega, List.take_append_drop]
  · subst he
    obtain ⟨r, hbs, ho⟩ := nx_ok hx (by decide)
    obtain ⟨_, bo, _, _⟩ := nx_both hx hb
    refine (h.hd r).trans ?_
    rw [plB, plB_app _ _ _ (by omega), hcs, show b.length - (cs Y xs k + Y.len x) = A by omega, ← hA, num2 bo (by omega), hbs]
    simp
  · obtain ⟨p1, p2, p3, y, hy, p4, p5, p6, p7⟩ := h.place hk hx hL
    obtain ⟨q1, q2, q3⟩ := h.all L hL
    have hAL : A = b.length - cs Y L (k + 1) := by omega
    have : x = y := LayOk.inj _ _ _ hc ⟨by rw [← p6, ← hAL, show E - A = Y.len y by omega], p7⟩
    subst this
    refine ⟨q1, p1, ?_⟩
    rw [q3, List.take_add_one, hy]; rfl
theorem RdTo.over [LayOk Y] {b bs bs' o : List Int} {e e' : Int} {C k E A : Nat} {xs : List En} (h : RdTo Y b C k E xs bs e) (hk : k < C) (hx : nx bs e 2 true = (bs', e', o)) (hA : beVal o = (A : Int)) (hAE : E < A) (L : List En) : ¬ Laid Y b L := by
  intro hL
  obtain ⟨p1, p2, p3, y, hy, p4, p5, p6, p7⟩ := h.place hk hx hL
  omega
theorem RdTo.bad [LayOk Y] {b bs bs' o : List Int} {e e' : Int} {C k E A : Nat} {xs : List En} (h : RdTo Y b C k E xs bs e) (hk : k < C) (hx : nx bs e 2 true = (bs', e', o)) (hA : beVal o = (A : Int)) (hAE : A ≤ E) (hc : ∀ y, ¬ EntOk Y ((b.drop A).take (E - A)) y) (L : List En) : ¬ Laid Y b L := by
  intro hL
  obtain ⟨p1, p2, p3, y, hy, p4, p5, p6, p7⟩ := h.place hk hx hL
  have hAL : A = b.length - cs Y L (k + 1) := by omega
  exact hc y ⟨by rw [← p6, ← hAL, show E - A = Y.len y by omega], p7⟩
theorem allZ_rep : ∀ (xs : List Int), allZ xs = true → xs = List.replicate xs.length 0
  | [], _ => rfl
  | x :: l, h => by
    simp only [allZ, List.all_cons, Bool.and_eq_true, beq_iff_eq] at h
    have ih := allZ_rep l h.2
    rw [List.length_cons, List.replicate_succ, ← ih, h.1]
theorem rep_allZ (n : Nat) : allZ (List.replicate n 0) = true := by simp [allZ]
theorem nx_neg {bs r o : List Int} {e e' m : Int} (h : nx bs e m (decide (0 ≤ m)) = (r, e', o)) (he : e' = 0) : 0 ≤ m := by
  refine Int.not_lt.1 fun hm => ?_
  have hd : decide (0 ≤ m) = false := by simp; omega
  rw [hd] at h
  unfold nx at h
  split at h
  · rename_i h0; injection h with _ h2; injection h2 with h3 _; exact h0 (h3.trans he)
  · simp at h; omega
theorem RdTo.fin [LayOk Y] {b bs bs' free : List Int} {e e' m : Int} {C E : Nat} {xs : List En} (h : RdTo Y b C C E xs bs e) (hC : C ≤ 65535) (hm : m = (E : Int) - 4 - (C : Int) * 2) (hx : nx bs e m (decide (0 ≤ m)) = (bs', e', free)) :
    (e' = 0 ∧ allZ free = true → b.length ≤ 65535 → Laid Y b xs) ∧ (∀ L, Laid Y b L → (e' = 0 ∧ allZ free = true) ∧ xs = L) := by
  have hlen := h.len
  have hcsl := h.csl
  refine ⟨fun ⟨he, hz⟩ hsm => ?_, fun L hL => ?_⟩
  · have h0 := nx_neg hx he
    have hd : decide (0 ≤ m) = true := by simpa using h0
    rw [hd] at hx
    subst he
    obtain ⟨r, hbs, ho⟩ := nx_ok hx h0
    have hh := h.hd r
    have hzr := allZ_rep free hz
    have hbl := congrArg List.length hh
    simp only [List.length_append, plB_len, numB_len, List.length_cons, List.length_nil] at hbl
    have hbl2 := congrArg List.length hbs
    rw [List.length_append] at hbl2
    have htl : bs' = tlB Y xs C := by
      have h1 := h.tl
      rw [hh, hbs] at h1
      rw [← h1, List.drop_append, List.drop_eq_nil_of_le (by simp [numB_len]; omega), List.nil_append, List.drop_append, List.drop_eq_nil_of_le (by rw [plB_len]; simp [numB_len]; omega), List.nil_append, List.drop_append, List.drop_eq_nil_of_le (by rw [plB_len]; simp [numB_len]; omega), List.nil_append]
      have hz0 : ∀ q : Nat, q = 0 → bs' = List.drop q bs' := fun q hq => by rw [hq]; rfl
      exact hz0 _ (by rw [plB_len]; simp [numB_len]; omega)
    refine ⟨h.got, by omega, hsm, by unfold fillL fillK; rw [hlen]; omega, ?_⟩
    rw [pageB, hdB_pl, hlen]
    have e1 : b.length - cs Y xs C - (4 + 2 * C) = free.length := by omega
    rw [e1, ← hzr, ← htl, List.append_assoc, ← hbs]
    exact hh
  · obtain ⟨q1, q2, q3⟩ := h.all L hL
    have hxL : xs = L := by rw [q3, ← q1, List.take_length]
    subst hxL
    subst q2
    have hh := h.hd rfl
    obtain ⟨r, hr, hre⟩ := page_head hL
    have hf := hL.fill
    unfold fillL fillK at hf
    rw [hlen] at hr hre hf
    have hbs : bs = r := by
      have := hh.symm.trans hr
      simpa using this
    have h0 : 0 ≤ m := by omega
    have hd : decide (0 ≤ m) = true := by simpa using h0
    rw [hd, hbs, hre, nx_app (by simp; omega)] at hx
    injection hx with a1 hx; injection hx with a2 a3
    subst a2; subst a3
    exact ⟨⟨rfl, rep_allZ _⟩, rfl⟩

theorem rep_byt (n : Nat) : Byt (List.replicate n 0) := fun x hx => by rw [List.eq_of_mem_replicate hx]; omega
theorem hdB_byt (l : List En) (S : Nat) : ∀ k, Byt (hdB Y l S k)
  | 0 => by
    rw [hdB]
    have h0 : Byt [] := fun x hx => by cases hx
    exact ((h0.app (numB_byt _ _ _)).app (numB_byt _ _ _)).app (numB_byt _ _ _)
  | k + 1 => by rw [hdB]; exact (hdB_byt l S k).app (numB_byt _ _ _)
/-- A page is that of one list of entries alone. -/
theorem laid_uniq [LayOk Y] {b : List Int} {l m : List En} (h : Laid Y b l) (k : Laid Y b m) : l = m := by
  have hb : (plB Y l b.length l.length).length + 4 ≤ b.length := by have := h.fill; unfold fillL fillK at this; rw [plB_len]; omega
  obtain ⟨r1, p1, _⟩ := page_head h
  obtain ⟨r2, p2, _⟩ := page_head k
  have hlen : l.length = m.length := by
    have e := p1.symm.trans p2
    have e2 := List.append_inj e (by simp [numB_len])
    have e3 := List.append_inj e2.1 rfl
    have e4 := congrArg beVal e3.2
    have := h.few; have := k.few
    rw [be2 (by omega) (by omega), be2 (by omega) (by omega)] at e4
    omega
  have key : ∀ n, n ≤ l.length → l.take n = m.take n ∧ cs Y l n = cs Y m n := by
    intro n
    induction n with
    | zero => intro _; exact ⟨rfl, rfl⟩
    | succ n ih =>
      intro hn
      obtain ⟨i1, i2⟩ := ih (by omega)
      obtain ⟨x, hx⟩ : ∃ x, l[n]? = some x := ⟨_, List.getElem?_eq_getElem (by omega)⟩
      obtain ⟨y, hy⟩ : ∃ y, m[n]? = some y := ⟨_, List.getElem?_eq_getElem (by omega)⟩
      have hcx := cs_snoc (Y := Y) hx
      have hcy := cs_snoc (Y := Y) hy
      have hmx := cs_mono (Y := Y) l (show n + 1 ≤ l.length by omega)
      have hmy := cs_mono (Y := Y) m (show n + 1 ≤ m.length by omega)
      have hfl := h.fill
      have hfm := k.fill
      unfold fillL fillK at hfl hfm
      have hc : cs Y l (n + 1) = cs Y m (n + 1) := by
        obtain ⟨s1, q1⟩ := plB_split (l := l) (size := b.length) (n := l.length) (k := n) (by omega)
        obtain ⟨s2, q2⟩ := plB_split (l := m) (size := b.length) (n := m.length) (k := n) (by omega)
        rw [q1] at p1
        rw [q2] at p2
        have e := p1.symm.trans p2
        have e2 := List.append_inj e (by simp [numB_len])
        have e3 := e2.2
        simp only [List.append_assoc] at e3
        have e4 := List.append_inj e3 (by rw [plB_len, plB_len])
        have e5 := List.append_inj e4.2 (by rw [numB_len, numB_len])
        have e6 := congrArg beVal e5.1
        have := h.small
        rw [be2 (by omega) (by omega), be2 (by omega) (by omega)] at e6
        omega
      have hcell1 := page_cell h hx
      have hcell2 := page_cell k hy
      rw [hc, show Y.len x = Y.len y by omega] at hcell1
      have : x = y := LayOk.inj (Y.cell x) _ _ ⟨rfl, h.got x (List.mem_of_getElem? hx)⟩ ⟨hcell1.symm.trans hcell2, k.got y (List.mem_of_getElem? hy)⟩
      subst this
      exact ⟨by rw [List.take_add_one, List.take_add_one, i1, hx, hy], hc⟩
  have := (key l.length (Nat.le_refl _)).1
  rw [List.take_length, hlen, List.take_length] at this
  exact this
end
end Go.Proofs.YtnnmpaenainogaaGreat

namespace Go.Proofs.YtnnmpaenainogaaGreat
open Go.RowKit

set_option maxHeartbeats 400000 in
theorem wraw_any (w : World) (g B : Nat) (bs xs : List Int) (v : Value) (h : WrAt w g bs) (hs : Seq B w v xs) (hl : bs.length + xs.length ≤ 140737488355328) :
    Calls Tryz.prog 76 #[.pointer (some ⟨g, 0, none⟩), v] w fun r w' => r = .returned (.tuple #[]) ∧ WrAt w' g (bs ++ xs) ∧ Fw g w w' := by
  obtain ⟨i0, hi, hz0, hz1, hz2⟩ := info_parts infoU8
  have hlt := h.lt
  obtain ⟨u, hown, hv⟩ := h
  have hrow := own_row hown (Nat.lt_succ_self g)
  have hrow2 := hown.lt
  obtain ⟨ao, c, rfl⟩ := own_shape hown
  have hc0 := cell_of_one hv
  have hs' := hs
  obtain ⟨bo, d, rfl, h1, h2, h3, h4⟩ := hs
  cases bo with
  | none =>
    have hn : xs = [] := by
      cases xs with
      | nil => rfl
      | cons x xs => have := h3 rfl; simp at h1; omega
    subst hn
    have hd := h3 rfl
    subst hd
    have hf0 := free_of_one hv
    clear hs' h4 h3
    go_enter Tryz.func76, Tryz.ntmps76
    go_wp2_with (at_builtin; (refine wpList_append_own_none rfl _ _ 32 rfl (g + 1) 5 i0 1 Tryz.underlying32 hi _ _ _ rfl hown rfl ?_))
    go_end0
    have R := wr_put (xs := []) (w1 := w) hown hv (grefl _ _) (by simpa using hown) (grefl _ _) (Or.inl rfl) rfl
    exact ⟨rfl, R.1, R.2⟩
  | some a =>
    obtain ⟨_, hc⟩ := hs'.cells
    clear hs' h4 h3
    go_enter Tryz.func76, Tryz.ntmps76
    go_wp2_with (at_builtin; refine wpList_append_own2 _ rfl _ _ 32 rfl (g + 1) 5 i0 (.int .u8 0) 1 1 Tryz.underlying32 hi hz0 hz1 hz2 rfl (by decide) _ _ _ rfl hown a xs.length d (xs.map (Value.int .u8)) rfl (by simp) ?c1 bcell1 ?c3 ?c4 ?c5 ?_)
    case c1 => exact hc
    case c3 => unfold maxLen; omega
    case c5 => omega
    · intro v' w1 hown' hgrow hfr
      have R := Lib.hid (wr_put hown hv (grefl _ _) hown' hgrow hfr rfl)
      have hv1 := wr_still hv hgrow hrow
      obtain ⟨ao', c', rfl⟩ := own_shape hown'
      have k0 := cell_of_one hv1
      have e0 := free_of_one hv1
      clear hgrow hfr hv hown hown'
      go_wp2
      go_end0
      exact ⟨rfl, R.out.1, R.out.2⟩

set_option maxHeartbeats 400000 in
theorem wraw_nil (w : World) (v : Value) :
    Calls Tryz.prog 76 #[.pointer none, v] w fun r w' => r = .returned (.tuple #[]) ∧ w = w' := by
  go_enter Tryz.func76, Tryz.ntmps76
  go_wp2
  exact bodyPost_ret (results_none rfl _ _ _) rfl ⟨rfl, rfl⟩

end Go.Proofs.YtnnmpaenainogaaGreat

namespace Go.Proofs.YtnnmpaenainogaaGreat
open Go.RowKit

/-- What stands while bytes are read. -/
structure RS (g : Nat) (w0 w : World) (bs : List Int) (e : Int) : Prop where
  rd : RdAt w g bs e
  byt : Byt bs
  len : bs.length ≤ 140737488355328
  g0 : w0.heap.size ≤ g
  bel : Below w0.heap.size w0 w
theorem RS.far {g : Nat} {w0 w w' : World} {bs : List Int} {e : Int} (h : RS g w0 w bs e) (k : w.grownBy w' none) : RS g w0 w' bs e :=
  ⟨h.rd.kept (fun i hi => k.block i (by have := h.rd.lt; omega) (by simp)), h.byt, h.len, h.g0, h.bel.trans ((gbelow k).mono h.bel.size)⟩
theorem RS.set {g : Nat} {w0 w : World} {bs : List Int} {e : Int} (h : RS g w0 w bs e) (a : Addr) (u : Value) (ha : g < a.block) : RS g w0 (w.setCell a u) bs e :=
  ⟨h.rd.kept (fun i hi => Below.heap_setCell _ _ _ _ (by omega)), h.byt, h.len, h.g0, h.bel.setCell (by have := h.g0; omega) u⟩
theorem RS.num {g : Nat} {w0 w : World} {bs b1 out : List Int} {e e1 : Int} (h : RS g w0 w bs e) (n : Int) (h1 : 1 ≤ n) (h8 : n ≤ 8) (hx : nx bs e n true = (b1, e1, out)) :
    Calls Tryz.prog 149 #[.pointer (some ⟨g, 0, none⟩), .int .i64 n] w fun r w' => r = .returned (.int .u64 (beVal out)) ∧ RS g w0 w' b1 e1 ∧ w.grownBy w' (some g) := by
  have hd : (decide (1 ≤ n) && decide (n ≤ 8)) = true := by simp [h1, h8]
  have hq := num_any w g bs e n h.rd h.byt (by have := h.len; omega)
  rw [hd, hx] at hq
  obtain ⟨q1, q2, q3, q4⟩ := nx_both hx h.byt
  exact hq.mono fun r w' ⟨er, hr, hg⟩ => ⟨er, ⟨hr, q1, by have := h.len; omega, h.g0, h.bel.grown hg h.bel.size (fun k hk => by injection hk with hk; have := h.g0; omega)⟩, hg⟩
theorem RS.raw {g : Nat} {w0 w : World} {bs b1 out : List Int} {e e1 : Int} (h : RS g w0 w bs e) (n : Int) (t : Bool) (ht : decide (0 ≤ n) = t) (hx : nx bs e n t = (b1, e1, out)) :
    Calls Tryz.prog 150 #[.pointer (some ⟨g, 0, none⟩), .int .i64 n] w fun r w' => ∃ ao c, r = .returned (.slice ao out.length c) ∧ w'.ownsRow w.heap.size 5 1 (.slice ao out.length c) out.length (out.map (Value.int .u8)) ∧
      RS g w0 w' b1 e1 ∧ w.grownBy w' (some g) := by
  subst ht
  have hq := raw_any w g bs e n h.rd (by have := h.len; omega)
  rw [hx] at hq
  obtain ⟨q1, q2, q3, q4⟩ := nx_both hx h.byt
  exact hq.mono fun r w' ⟨ao, c, er, ho, hr, hg⟩ => ⟨ao, c, er, ho, ⟨hr, q1, by have := h.len; omega, h.g0, h.bel.grown hg h.bel.size (fun k hk => by injection hk with hk; have := h.g0; omega)⟩, hg⟩

end Go.Proofs.YtnnmpaenainogaaGreat
