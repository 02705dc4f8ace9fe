/-
  Layer 3: the contract of the reference's Grow where it goes well. Own work.
-/
import Derived.Test.YtnodclijlhoobaaDskD
import Derived.Deep.OwnRows
import Derived.Laws.AppendOwnNone
namespace Go.Proofs.Ytnodclijlhoobaa
open Go.RowKit

/-- A page of noughts as a string. -/
def zeroS (s : Nat) : ByteArray := strOfNums (List.replicate s 0)

theorem run_append_none' {P : Program} {w : World} (base : Nat) (t ty e : TypeId) (i : TypeInfo) (size : Nat) (ht : P.underlying t = some (.slice e)) (hi : P.info? e = some i)
    (v : Value) (n c : Nat) (xs : List Value) (hown : w.ownsRow base e size v n xs) : (Builtin.append_ #[t, t] ty #[v, .slice none 0 c]).run P w = .ok v w := by
  rcases hown.2 with ⟨rfl, rfl⟩ | ⟨g, cap, cur, rfl, _, _, hnc, _⟩
  · simp [Builtin.append_, run_underlying ht, sizeOf, typeInfo, hi, Builtin.lenOf, Builtin.firstCells]
  · simp [Builtin.append_, run_underlying ht, sizeOf, typeInfo, hi, Builtin.lenOf, Builtin.firstCells, hnc, storeCells]
theorem wpList_append_none' {P : Program} {w : World} {ops : Array Oper} {rest : List Oper} {o : Oper} {a : Act} {Q : Exit → Act → World → Prop} (hgd : o.guard = none) (s x : Operand) (t : TypeId)
    (ho : o.op = .call { callee := .builtin .append, args := #[s, x], argTypes := #[t, t] })
    (base : Nat) (e : TypeId) (i : TypeInfo) (size c : Nat) (ht : P.underlying t = some (.slice e)) (hi : P.info? e = some i)
    (v : Value) (n : Nat) (xs : List Value) (hs : a.eval s = v) (hown : w.ownsRow base e size v n xs) (hx : a.eval x = .slice none 0 c)
    (h : wpList P ops Q rest (a.put o.dst v) w) : wpList P ops Q (o :: rest) a w := by
  refine wpList_plain hgd fun K hK => ?_
  have hrun := run_append_none' (P := P) (w := w) base t o.type e i size ht hi v n c xs hown
  unfold Oper.wp
  simp [execOp, ho, resolve, invoke, builtin, hs, hx, hrun, Result.andThen]
  exact hK _ _ h

set_option maxRecDepth 100000 in
set_option maxHeartbeats 4000000 in
theorem rgrow_some (w : World) (s l : Nat) (ad : Addr) (gn gc : Nat) (la : Option Addr) (ln lc : Nat) (f : Int) (c : Nat) (good : List ByteArray) (n : Nat)
    (hg : Row w.heap.size w (.slice (some ad) gn gc) good.length (good.map Value.string)) (hn : gn ≤ n) (hl : n ≤ l) (hl2 : l ≤ 65536) (hs : s ≤ 4096)
    (hf : -9223372036854775808 ≤ f) (hf2 : f ≤ 9223372036854775807) (hc : c < 9223372036854775807) (h0 : f ≠ 0) :
    Calls Try.prog 19 #[.agg (dcs s l (some ad) gn gc la ln lc f c), .int .i64 (n : Int)] w fun r w' => ∃ ga' gc', r = .returned (.tuple #[.agg (dcs s l ga' n gc' la ln lc (fnext f) (c + 1)), .int .i64 0]) ∧
      Row w'.heap.size w' (.slice ga' n gc') n ((good ++ List.replicate (n - gn) (zeroS s)).map Value.string) ∧ w.grownBy w' none := by
  have hgn : gn = good.length := by obtain ⟨_, _, hv, _⟩ := hg; cases hv; rfl
  have hcell : ∀ j u, (good.map Value.string)[j]? = some u → w.cell? (ad.add j) = some u := by
    intro j u hu
    have hj := (List.getElem?_eq_some_iff.1 hu).1
    obtain ⟨b0, o0, hab, _, hcc⟩ := hg.at (fun e => by rw [e] at hj; simp at hj)
    cases hab
    rw [Addr.add_lit, hcc j hj, hu]
  have HC := Lib.hid hcell
  have HGn := Lib.hid hgn
  obtain ⟨f', hf'⟩ : ∃ x, x = fnext f := ⟨_, rfl⟩
  have HF := Lib.hid hf'
  rw [← hf']
  have h1 : ¬ (n : Int) < (gn : Int) := by omega
  have h2 : ¬ (l : Int) < (n : Int) := by omega
  obtain ⟨i0, hi0, hz0, hz1, hz2⟩ := info_parts infoStr
  have hmk := fun w => run_make_row' (P := Try.prog) 22 5 (.int .u8 0) 1 Try.underlying22 infoU8 rfl .i64 .i64 s (by omega) (by omega) w
  clear hg hgn hcell hf'
  go_enter Try.func19, Try.ntmps19
  go_wp2_with (first
    | (go_at_call 54; refine (rcount_ok _ s l (some ad) gn gc la ln lc f c hf hf2 hc h0).mono ?_; rintro r w1 ⟨rfl, rfl⟩; rw [← HF.out])
    | (at_builtin; refine wpList_append_own _ rfl _ _ 29 rfl (w.heap.size + 4) 9 i0 (.string ByteArray.empty) 1 16 Try.underlying29 hi0 hz0 hz1 hz2 rfl (by decide) _ _ _ rfl (World.ownsRow_nil _ (w.heap.size + 4) _ _) ad gn gc (good.map Value.string) rfl ?c0 ?c1 scell1 ?c3 ?c4 ?c5 ?_))
  case c0 => rw [List.length_map, ← HGn.out]; omega
  case c1 =>
    intro j u hu
    exact cell_alloc (cell_alloc (cell_alloc (cell_alloc (HC.out j u hu))))
  case c3 => unfold maxLen; omega
  case c4 => omega
  case c5 => simp
  intro v1 w1 hown hg1 _
  have hown : w1.ownsRow (w.heap.size + 4) 9 1 v1 gn (good.map Value.string) := by simpa only [Nat.zero_add, List.nil_append] using hown
  have hs1 : w.heap.size + 4 ≤ w1.heap.size := by have := hg1.size; simp at this; omega
  have hbox : w1.heap[w.heap.size]? = some (.cells (dcs s l (some ad) gn gc la ln lc f' (c + 1)) 32 (0, 0)) := (hg1.block _ (by first | (simp; done) | (simp; omega)) (by simp [Value.ownBlock])).trans (keep_alloc (keep_alloc (two_lit0 _ _ _) _) _)
  have hres : w1.heap[w.heap.size + 1]? = some (.cells (dcs 0 0 none 0 0 none 0 0 0 0) 32 (0, 0)) := (hg1.block _ (by first | (simp; done) | (simp; omega)) (by simp [Value.ownBlock])).trans (keep_alloc (keep_alloc (two_lit1 _ _ _) _) _)
  have HG1 := Lib.hid (gtrans (four_grown w _ _ _ _) hg1)
  have HO := Lib.hid hown
  have HR := Lib.hid hres
  have HB := Lib.hid hbox
  have HZ := Lib.hid hs1
  clear hg1 hown hres hbox hs1
  go_wp2
  go_loopg [7] (n - gn) (fun g v wr => ∃ k : Nat, k + g = n - gn ∧ wr.ownsRow (w.heap.size + 4) 9 1 v (gn + k) ((good ++ List.replicate k (zeroS s)).map Value.string) ∧
    wr.heap[w.heap.size]? = some (.cells (dcs s l (some ad) gn gc la ln lc f' (c + 1)) 32 (0, 0)) ∧ wr.heap[w.heap.size + 1]? = some (.cells (dcs 0 0 none 0 0 none 0 0 0 0) 32 (0, 0)) ∧ w.grownBy wr none ∧ w.heap.size + 4 ≤ wr.heap.size)
  case atStart => exact ⟨0, by omega, by simpa using HO.out, HB.out, HR.out, HG1.out, HZ.out⟩
  case round =>
    obtain ⟨k, hk, ho, hb, hr, hg, hz⟩ := hrel
    obtain ⟨va, vc, rfl⟩ := own_shape ho
    have HOk := Lib.hid ho
    have HBk := Lib.hid hb
    have HRk := Lib.hid hr
    have HGk := Lib.hid hg
    have HZk := Lib.hid hz
    obtain ⟨⟨b0, b1, b2, b3, b4, b5⟩, bf0, bf1, bf2, bf3, bf4, bf5⟩ := cells6 hb
    clear ho hb hr hg hz HO HB HR HG1 HZ
    obtain ⟨q, hq⟩ : ∃ q, q = gn + k := ⟨_, rfl⟩
    rw [← hq] at HOk ⊢
    have HQ := Lib.hid hq
    by_cases hlt : q < n
    · obtain ⟨g, rfl⟩ : ∃ g, gk = g + 1 := ⟨gk - 1, by omega⟩
      have hqi : (q : Int) < (n : Int) := by omega
      clear hq
      have hSA : Seq (wr.alloc (.cells (madeCells #[Value.int .u8 0] s) 5)).heap.size (wr.alloc (.cells (madeCells #[Value.int .u8 0] s) 5)) (.slice (some ⟨wr.heap.size, 0, none⟩) s s) (List.replicate s 0) := by
        refine Seq.owned1 (base := wr.heap.size) (by simp) ⟨by simp, .inr ⟨wr.heap.size, s, _, rfl, Nat.le_refl _, heap_alloc_new _ _, Nat.le_refl _, by unfold maxLen; omega, by rw [size_madeCells, Nat.mul_one], ?_⟩⟩
        rw [toList_madeCells_one, Nat.mul_one, List.map_replicate, List.take_of_length_le (by simp)]
      have hcv : (convert 22 9 (.slice (some ⟨wr.heap.size, 0, none⟩) s s)).run Try.prog (wr.alloc (.cells (madeCells #[Value.int .u8 0] s) 5)) = .ok (.string (zeroS s)) (wr.alloc (.cells (madeCells #[Value.int .u8 0] s) 5)) := seq_string hSA
      clear hSA
      go_wp2_with (first
        | (at_builtin; refine wpList_append_own _ rfl _ _ 29 rfl (w.heap.size + 4) 9 i0 (.string ByteArray.empty) 1 16 Try.underlying29 hi0 hz0 hz1 hz2 rfl (by decide) _ _ _ rfl ((HOk.out.alloc _).alloc _) ⟨wr.heap.size + 1, 0, none⟩ 1 1 [.string (zeroS s)] rfl rfl ?d1 ?d2 ?d3 ?d4 ?d5 ?_))
      case d1 =>
        intro j u hu
        have hj := (List.getElem?_eq_some_iff.1 hu).1
        rw [Addr.add_lit, Nat.zero_add, World.cell?_alloc_at _ _ _ _ (by simp), ← hu]
        match j, hj with
        | 0, _ => rfl
      case d2 => intro u hu; simp at hu; subst hu; rfl
      case d3 => unfold maxLen; omega
      case d4 => omega
      case d5 => have := HZk.out; simp; omega
      intro v2 w2 hown2 hg2 _
      have hgr : wr.grownBy w2 (Value.slice va q vc).ownBlock := gtrans (World.grownBy_alloc _ _ _) (gtrans (World.grownBy_alloc _ _ _) hg2)
      have hne : ∀ j, j < w.heap.size + 4 → some j ≠ (Value.slice va q vc).ownBlock := fun j hj e => by
        have := (HOk.out.lt j e.symm).1
        omega
      have hb2 := (hgr.block w.heap.size (lt_of_block HBk.out) (hne _ (by omega))).trans HBk.out
      have hr2 := (hgr.block (w.heap.size + 1) (lt_of_block HRk.out) (hne _ (by omega))).trans HRk.out
      have HO2 : Hid (w2.ownsRow (w.heap.size + 4) 9 1 v2 (gn + (k + 1)) ((good ++ List.replicate (k + 1) (zeroS s)).map Value.string)) := Lib.hid (by
        rw [List.map_append, List.map_replicate, List.replicate_succ', show gn + (k + 1) = q + 1 by have := HQ.out; omega]; simpa only [List.map_append, List.map_replicate, List.append_assoc] using hown2)
      have HB2 := Lib.hid hb2
      have HR2 := Lib.hid hr2
      have HG2 : Hid (w.grownBy w2 none) := Lib.hid ⟨hgr.os.trans HGk.out.os, hgr.tape.trans HGk.out.tape, hgr.output.trans HGk.out.output, Nat.le_trans HGk.out.size hgr.size, fun j hj _ => (hgr.block j (Nat.lt_of_lt_of_le hj HGk.out.size) (hne j (by omega))).trans (HGk.out.block j hj (by simp))⟩
      have HZ2 := Lib.hid (Nat.le_trans HZk.out hgr.size)
      clear hown2 hg2 hgr hne hb2 hr2 hcv
      go_wp2
      go_roundg g
      case measure => omega
      case rel => exact ⟨k + 1, by omega, HO2.out, HB2.out, HR2.out, HG2.out, HZ2.out⟩
    · have hqn : q = n := by omega
      have hkn : k = n - gn := by omega
      clear hq hlt
      subst hqn
      clear hkn
      obtain ⟨⟨r0, r1, r2, r3, r4, r5⟩, rf0, rf1, rf2, rf3, rf4, rf5⟩ := cells6 HRk.out
      have hnq : ¬ (q : Int) < (q : Int) := by omega
      go_wp2
      have hne : ∀ j, j < w.heap.size + 4 → (Value.slice va q vc).ownBlock = none ∨ (Value.slice va q vc).ownBlock ≠ some j := fun j hj => Or.inr fun e => by
        have := (HOk.out.lt j e).1
        omega
      have k1 := gset wr ⟨w.heap.size, 2, none⟩ (.slice va q vc)
      have hr1 := (heap_setCell_other wr ⟨w.heap.size, 2, none⟩ (w.heap.size + 1) (.slice va q vc) (by simp)).trans HRk.out
      have k2 := grown6 (wr.setCell ⟨w.heap.size, 2, none⟩ (.slice va q vc)) (w.heap.size + 1) (.int .i64 (s : Int)) (.int .i64 (l : Int)) (.slice va q vc) (.slice la ln lc) (.int .i64 f') (.int .i64 ((c : Int) + 1))
      refine bodyPost_ret (results_D rfl _ _ (w.heap.size + 1) _ _ rfl rfl (store6 hr1 _ _ _ _ _ _) rfl) rfl ⟨va, vc, rfl, ?_, gnew (gnew HGk.out k1 (Nat.le_refl _)) k2 (by omega)⟩
      have hkq : k = q - gn := by have := HQ.out; omega
      rw [← hkq]
      have hRow : Row _ _ (.slice va q vc) q ((good ++ List.replicate k (zeroS s)).map Value.string) := Row.owned ((HOk.out.kept k1 (hne w.heap.size (by omega))).kept k2 (hne (w.heap.size + 1) (by omega))) (by decide)
      simpa only [List.map_append, List.map_replicate] using hRow

set_option maxRecDepth 100000 in
set_option maxHeartbeats 4000000 in
theorem rgrow_none (w : World) (s l : Nat) (gn gc : Nat) (la : Option Addr) (ln lc : Nat) (f : Int) (c : Nat) (good : List ByteArray) (n : Nat)
    (hg : Row w.heap.size w (.slice none gn gc) good.length (good.map Value.string)) (hn : gn ≤ n) (hl : n ≤ l) (hl2 : l ≤ 65536) (hs : s ≤ 4096)
    (hf : -9223372036854775808 ≤ f) (hf2 : f ≤ 9223372036854775807) (hc : c < 9223372036854775807) (h0 : f ≠ 0) :
    Calls Try.prog 19 #[.agg (dcs s l none gn gc la ln lc f c), .int .i64 (n : Int)] w fun r w' => ∃ ga' gc', r = .returned (.tuple #[.agg (dcs s l ga' n gc' la ln lc (fnext f) (c + 1)), .int .i64 0]) ∧
      Row w'.heap.size w' (.slice ga' n gc') n ((good ++ List.replicate (n - gn) (zeroS s)).map Value.string) ∧ w.grownBy w' none := by
  have hgn : gn = good.length := by obtain ⟨_, _, hv, _⟩ := hg; cases hv; rfl
  have hgd : good = [] := by
    cases good with
    | nil => rfl
    | cons x xs => obtain ⟨_, _, h, _⟩ := hg.at (by simp); cases h
  subst hgd
  obtain ⟨f', hf'⟩ : ∃ x, x = fnext f := ⟨_, rfl⟩
  have HF := Lib.hid hf'
  rw [← hf']
  have h1 : ¬ (n : Int) < 0 := by omega
  have h2 : ¬ (l : Int) < (n : Int) := by omega
  obtain ⟨i0, hi0, hz0, hz1, hz2⟩ := info_parts infoStr
  have hmk := fun w => run_make_row' (P := Try.prog) 22 5 (.int .u8 0) 1 Try.underlying22 infoU8 rfl .i64 .i64 s (by omega) (by omega) w
  clear hg hf'
  go_enter Try.func19, Try.ntmps19
  go_wp2_with (first
    | (go_at_call 54; refine (rcount_ok _ s l none 0 gc la ln lc f c hf hf2 hc h0).mono ?_; rintro r w1 ⟨rfl, rfl⟩; rw [← HF.out])
    | (at_builtin; refine wpList_append_none' rfl _ _ 29 rfl (w.heap.size + 4) 9 i0 1 gc Try.underlying29 hi0 (.slice none 0 0) 0 [] rfl (World.ownsRow_nil _ (w.heap.size + 4) _ _) rfl ?_))
  go_wp2
  go_loopg [7] n (fun g v wr => ∃ k : Nat, k + g = n ∧ wr.ownsRow (w.heap.size + 4) 9 1 v k ((([] : List ByteArray) ++ List.replicate k (zeroS s)).map Value.string) ∧
    wr.heap[w.heap.size]? = some (.cells (dcs s l none 0 gc la ln lc f' (c + 1)) 32 (0, 0)) ∧ wr.heap[w.heap.size + 1]? = some (.cells (dcs 0 0 none 0 0 none 0 0 0 0) 32 (0, 0)) ∧ w.grownBy wr none ∧ w.heap.size + 4 ≤ wr.heap.size)
  case atStart => exact ⟨0, by omega, World.ownsRow_nil _ _ _ _, keep_alloc (keep_alloc (two_lit0 _ _ _) _) _, keep_alloc (keep_alloc (two_lit1 _ _ _) _) _, four_grown _ _ _ _ _, by simp⟩
  case round =>
    obtain ⟨k, hk, ho, hb, hr, hg, hz⟩ := hrel
    obtain ⟨va, vc, rfl⟩ := own_shape ho
    have HOk := Lib.hid ho
    have HBk := Lib.hid hb
    have HRk := Lib.hid hr
    have HGk := Lib.hid hg
    have HZk := Lib.hid hz
    obtain ⟨⟨b0, b1, b2, b3, b4, b5⟩, bf0, bf1, bf2, bf3, bf4, bf5⟩ := cells6 hb
    clear ho hb hr hg hz
    obtain ⟨q, hq⟩ : ∃ q, q = k := ⟨_, rfl⟩
    rw [← hq] at HOk ⊢
    have HQ := Lib.hid hq
    by_cases hlt : q < n
    · obtain ⟨g, rfl⟩ : ∃ g, gk = g + 1 := ⟨gk - 1, by omega⟩
      have hqi : (q : Int) < (n : Int) := by omega
      clear hq
      have hSA : Seq (wr.alloc (.cells (madeCells #[Value.int .u8 0] s) 5)).heap.size (wr.alloc (.cells (madeCells #[Value.int .u8 0] s) 5)) (.slice (some ⟨wr.heap.size, 0, none⟩) s s) (List.replicate s 0) := by
        refine Seq.owned1 (base := wr.heap.size) (by simp) ⟨by simp, .inr ⟨wr.heap.size, s, _, rfl, Nat.le_refl _, heap_alloc_new _ _, Nat.le_refl _, by unfold maxLen; omega, by rw [size_madeCells, Nat.mul_one], ?_⟩⟩
        rw [toList_madeCells_one, Nat.mul_one, List.map_replicate, List.take_of_length_le (by simp)]
      have hcv : (convert 22 9 (.slice (some ⟨wr.heap.size, 0, none⟩) s s)).run Try.prog (wr.alloc (.cells (madeCells #[Value.int .u8 0] s) 5)) = .ok (.string (zeroS s)) (wr.alloc (.cells (madeCells #[Value.int .u8 0] s) 5)) := seq_string hSA
      clear hSA
      go_wp2_with (first
        | (at_builtin; refine wpList_append_own _ rfl _ _ 29 rfl (w.heap.size + 4) 9 i0 (.string ByteArray.empty) 1 16 Try.underlying29 hi0 hz0 hz1 hz2 rfl (by decide) _ _ _ rfl ((HOk.out.alloc _).alloc _) ⟨wr.heap.size + 1, 0, none⟩ 1 1 [.string (zeroS s)] rfl rfl ?d1 ?d2 ?d3 ?d4 ?d5 ?_))
      case d1 =>
        intro j u hu
        have hj := (List.getElem?_eq_some_iff.1 hu).1
        rw [Addr.add_lit, Nat.zero_add, World.cell?_alloc_at _ _ _ _ (by simp), ← hu]
        match j, hj with
        | 0, _ => rfl
      case d2 => intro u hu; simp at hu; subst hu; rfl
      case d3 => unfold maxLen; omega
      case d4 => omega
      case d5 => have := HZk.out; simp; omega
      intro v2 w2 hown2 hg2 _
      have hgr : wr.grownBy w2 (Value.slice va q vc).ownBlock := gtrans (World.grownBy_alloc _ _ _) (gtrans (World.grownBy_alloc _ _ _) hg2)
      have hne : ∀ j, j < w.heap.size + 4 → some j ≠ (Value.slice va q vc).ownBlock := fun j hj e => by
        have := (HOk.out.lt j e.symm).1
        omega
      have hb2 := (hgr.block w.heap.size (lt_of_block HBk.out) (hne _ (by omega))).trans HBk.out
      have hr2 := (hgr.block (w.heap.size + 1) (lt_of_block HRk.out) (hne _ (by omega))).trans HRk.out
      have HO2 : Hid (w2.ownsRow (w.heap.size + 4) 9 1 v2 (k + 1) ((([] : List ByteArray) ++ List.replicate (k + 1) (zeroS s)).map Value.string)) := Lib.hid (by
        rw [List.map_append, List.map_replicate, List.replicate_succ', show k + 1 = q + 1 by have := HQ.out; omega]; have e := HQ.out; subst e; simpa only [List.map_append, List.map_replicate, List.append_assoc, List.nil_append, List.map_nil] using hown2)
      have HB2 := Lib.hid hb2
      have HR2 := Lib.hid hr2
      have HG2 : Hid (w.grownBy w2 none) := Lib.hid ⟨hgr.os.trans HGk.out.os, hgr.tape.trans HGk.out.tape, hgr.output.trans HGk.out.output, Nat.le_trans HGk.out.size hgr.size, fun j hj _ => (hgr.block j (Nat.lt_of_lt_of_le hj HGk.out.size) (hne j (by omega))).trans (HGk.out.block j hj (by simp))⟩
      have HZ2 := Lib.hid (Nat.le_trans HZk.out hgr.size)
      clear hown2 hg2 hgr hne hb2 hr2 hcv
      go_wp2
      go_roundg g
      case measure => omega
      case rel => exact ⟨k + 1, by omega, HO2.out, HB2.out, HR2.out, HG2.out, HZ2.out⟩
    · have hqn : q = n := by omega
      have hkn : k = n := by omega
      clear hq hlt
      subst hqn
      clear hkn
      obtain ⟨⟨r0, r1, r2, r3, r4, r5⟩, rf0, rf1, rf2, rf3, rf4, rf5⟩ := cells6 HRk.out
      have hnq : ¬ (q : Int) < (q : Int) := by omega
      go_wp2
      have hne : ∀ j, j < w.heap.size + 4 → (Value.slice va q vc).ownBlock = none ∨ (Value.slice va q vc).ownBlock ≠ some j := fun j hj => Or.inr fun e => by
        have := (HOk.out.lt j e).1
        omega
      have k1 := gset wr ⟨w.heap.size, 2, none⟩ (.slice va q vc)
      have hr1 := (heap_setCell_other wr ⟨w.heap.size, 2, none⟩ (w.heap.size + 1) (.slice va q vc) (by simp)).trans HRk.out
      have k2 := grown6 (wr.setCell ⟨w.heap.size, 2, none⟩ (.slice va q vc)) (w.heap.size + 1) (.int .i64 (s : Int)) (.int .i64 (l : Int)) (.slice va q vc) (.slice la ln lc) (.int .i64 f') (.int .i64 ((c : Int) + 1))
      refine bodyPost_ret (results_D rfl _ _ (w.heap.size + 1) _ _ rfl rfl (store6 hr1 _ _ _ _ _ _) rfl) rfl ⟨va, vc, rfl, ?_, gnew (gnew HGk.out k1 (Nat.le_refl _)) k2 (by omega)⟩
      have hRow : Row _ _ (.slice va q vc) q ((([] : List ByteArray) ++ List.replicate q (zeroS s)).map Value.string) := Row.owned ((HOk.out.kept k1 (hne w.heap.size (by omega))).kept k2 (hne (w.heap.size + 1) (by omega))) (by decide)
      simpa only [List.map_append, List.map_replicate, List.nil_append, List.map_nil, Nat.sub_zero] using hRow


/-- More pages, of noughts. -/
theorem rgrow_ok (w : World) (s l : Nat) (ga : Option Addr) (gn gc : Nat) (la : Option Addr) (ln lc : Nat) (f : Int) (c : Nat) (good : List ByteArray) (n : Nat)
    (hg : Row w.heap.size w (.slice ga gn gc) good.length (good.map Value.string)) (hn : gn ≤ n) (hl : n ≤ l) (hl2 : l ≤ 65536) (hs : s ≤ 4096)
    (hf : -9223372036854775808 ≤ f) (hf2 : f ≤ 9223372036854775807) (hc : c < 9223372036854775807) (h0 : f ≠ 0) :
    Calls Try.prog 19 #[.agg (dcs s l ga gn gc la ln lc f c), .int .i64 (n : Int)] w fun r w' => ∃ ga' gc', r = .returned (.tuple #[.agg (dcs s l ga' n gc' la ln lc (fnext f) (c + 1)), .int .i64 0]) ∧
      Row w'.heap.size w' (.slice ga' n gc') n ((good ++ List.replicate (n - gn) (zeroS s)).map Value.string) ∧ w.grownBy w' none := by
  cases ga with
  | none => exact rgrow_none w s l gn gc la ln lc f c good n hg hn hl hl2 hs hf hf2 hc h0
  | some ad => exact rgrow_some w s l ad gn gc la ln lc f c good n hg hn hl hl2 hs hf hf2 hc h0

end Go.Proofs.Ytnodclijlhoobaa
