/-
  Layer 4: a page of entries as bytes; a copy into a row of the call's own; what stands while a page is put. Own work.
-/
import Derived.Test.YtnodclijlhoobaaLefD
import Derived.Laws.CopyRow
import Derived.Laws.CopyOwn
import Derived.Deep.RegionLaw
namespace Go.Proofs.Ytnodclijlhoobaa
open Go.RowKit

/-- The first k cells, as they lie at the page's end. -/
def tlB (l : List En) : Nat → List Int
  | 0 => []
  | k + 1 => (match l[k]? with | some x => cellB x | none => []) ++ tlB l k
theorem tlB_snoc {l : List En} {k : Nat} {x : En} (h : l[k]? = some x) : tlB l (k + 1) = cellB x ++ tlB l k := by rw [tlB, h]
theorem tlB_len (l : List En) : ∀ k, (tlB l k).length = cs l k
  | 0 => rfl
  | k + 1 => by
    rw [tlB, cs, List.length_append, tlB_len l k]
    cases l[k]? with
    | none => simp
    | some x => simp only [cellB_len]; omega
/-- The head, with the first k places. -/
def hdB (l : List En) (size : Nat) : Nat → List Int
  | 0 => ((([] ++ numB 1 1 1) ++ numB 0 1 1) ++ numB l.length 2 2)
  | k + 1 => hdB l size k ++ numB ((size - cs l (k + 1) : Nat) : Int) 2 2
theorem hdB_len (l : List En) (size : Nat) : ∀ k, (hdB l size k).length = 4 + 2 * k
  | 0 => by simp [hdB, numB_len]
  | k + 1 => by rw [hdB, List.length_append, hdB_len l size k, numB_len]; omega
/-- What a page has, its first k cells put. -/
def bdB (l : List En) (size k : Nat) : List Int := List.replicate (size - cs l k) 0 ++ tlB l k
theorem bdB_len {l : List En} {size k : Nat} (h : cs l k ≤ size) : (bdB l size k).length = size := by
  rw [bdB, List.length_append, List.length_replicate, tlB_len]; omega
/-- A page. -/
def pageB (l : List En) (size : Nat) : List Int := hdB l size l.length ++ (List.replicate (size - cs l l.length - (4 + 2 * l.length)) 0 ++ tlB l l.length)
theorem pageB_len {l : List En} {size : Nat} (h : fillL l ≤ size) : (pageB l size).length = size := by
  unfold fillL fillK at h
  rw [pageB, List.length_append, List.length_append, List.length_replicate, tlB_len, hdB_len]; omega
theorem bdB_snoc {l : List En} {size k : Nat} {x : En} (hx : l[k]? = some x) (h : cs l k + cl x ≤ size) :
    (bdB l size k).take (size - cs l (k + 1)) ++ cellB x ++ (bdB l size k).drop (size - cs l (k + 1) + cl x) = bdB l size (k + 1) := by
  have e := cs_snoc hx
  have e2 : size - cs l (k + 1) + cl x = size - cs l k := by omega
  have hr : (List.replicate (size - cs l k) (0 : Int)).length = size - cs l k := by simp
  rw [e2, bdB, List.drop_append_of_le_length (by omega), List.drop_eq_nil_of_le (by omega), List.take_append_of_le_length (by omega), List.take_replicate, List.nil_append, bdB, tlB_snoc hx, List.append_assoc, Nat.min_eq_left (by omega)]
theorem page_last {l : List En} {size : Nat} (h : fillL l ≤ size) :
    (bdB l size l.length).take 0 ++ hdB l size l.length ++ (bdB l size l.length).drop (0 + (hdB l size l.length).length) = pageB l size := by
  unfold fillL fillK at h
  rw [List.take_zero, List.nil_append, Nat.zero_add, hdB_len, bdB, List.drop_append_of_le_length (by simp; omega), List.drop_replicate, pageB]

/-- A copy out of a row of the call's own into another, whole. -/
theorem copy_run {w : World} {gb off dLen dCap n cc base : Nat} {ac : Option Addr} {bs xs : List Int} (hp : w.heap[gb]? = some (.cells (bs.map (Value.int .u8)).toArray 5 (0, 0)))
    (ho : w.ownsRow base 5 1 (.slice ac n cc) n (xs.map (.int .u8))) (h0 : 0 < n) (hd : n ≤ dLen) (hf : off + n ≤ bs.length) :
    ∀ ty, (Builtin.copy_ #[22, 22] ty #[.slice (some ⟨gb, off, none⟩) dLen dCap, .slice ac n cc]).run Try.prog w = .ok (goInt (n : Int)) (w.setRow gb ((bs.take off ++ xs ++ bs.drop (off + n)).map (Value.int .u8)).toArray) := by
  intro ty
  have hl : (xs.map (Value.int .u8)).length = n := by have := ho.1; omega
  have hl2 : xs.length = n := by simpa using hl
  obtain ⟨b, c, hv, hb, hc⟩ := own_at ho h0
  cases hv
  have h := run_copy_row (P := Try.prog) w 22 22 ty 5 gb off dLen dCap ⟨b, 0, none⟩ n cc (bs.map (Value.int .u8)).toArray 5 (xs.map (Value.int .u8)) Try.underlying22 (by kernel_rfl) hp (by rw [hl]; exact (Nat.min_eq_left hd).symm)
    (fun j v hj => by
      obtain ⟨hj1, hj2⟩ := List.getElem?_eq_some_iff.1 hj
      rw [Addr.add_lit, Nat.zero_add, hc j (by omega), ← hj2]
      simp [List.getD_eq_getElem?_getD, List.getElem?_eq_getElem (show j < xs.length by omega)]) (by simp; omega) bcell1
  rw [hl] at h
  rw [h]
  simp [List.map_append, List.map_take, List.map_drop]

theorem wpList_copy_at {P : Program} {w w2 : World} {ops : Array Oper} {rest : List Oper} {o : Oper} {a : Act} {Q : Exit → Act → World → Prop} (hgd : o.guard = none) (d s : Operand) (dT sT : TypeId)
    (ho : o.op = .call { callee := .builtin .copy, args := #[d, s], argTypes := #[dT, sT] }) (x y : Value) (n : Nat) (hd : a.eval d = x) (hs : a.eval s = y)
    (hrun : ∀ ty, (Builtin.copy_ #[dT, sT] ty #[x, y]).run P w = .ok (goInt n) w2) (h : wpList P ops Q rest (a.put o.dst (goInt n)) w2) : wpList P ops Q (o :: rest) a w := by
  refine wpList_plain hgd fun K hK => ?_
  unfold Oper.wp
  simp [execOp, ho, resolve, invoke, builtin, hd, hs, hrun, Result.andThen]
  exact hK _ _ h
theorem step_copy_at {P : Program} {ops : Array Oper} {o : Oper} {a : Act} {w w2 : World} {K : Act → World → Prop} {Q : Exit → Act → World → Prop} {E : Prop} (hgd : o.guard = none) (d s : Operand) (dT sT : TypeId)
    (ho : o.op = .call { callee := .builtin .copy, args := #[d, s], argTypes := #[dT, sT] }) (x y : Value) (n : Nat) (hd : a.eval d = x) (hs : a.eval s = y)
    (hrun : ∀ ty, (Builtin.copy_ #[dT, sT] ty #[x, y]).run P w = .ok (goInt n) w2) (h : K (a.put o.dst (goInt n)) w2) :
    if Region.wanted o (yielded ops a.tmps) = true then Oper.wp P o a w K Q else E := by
  have hw : Region.wanted o (yielded ops a.tmps) = true := by simp [Region.wanted, hgd]
  rw [if_pos hw]
  unfold Oper.wp
  simp [execOp, ho, resolve, invoke, builtin, hd, hs, hrun, Result.andThen]
  exact h

theorem setRow_other' (w : World) (g : Nat) (row : Array Value) (i : Nat) (h : i ≠ g) : (w.setRow g row).heap[i]? = w.heap[i]? := setRow_other w g i row h
theorem ownsRow_setRow {w : World} {base size n g : Nat} {e : TypeId} {v : Value} {xs : List Value} (h : w.ownsRow base e size v n xs) (hg : g < base) (row : Array Value) : (w.setRow g row).ownsRow base e size v n xs := by
  refine ⟨h.1, ?_⟩
  rcases h.2 with h2 | ⟨b, cap, cur, hv, hb, hh, rest⟩
  · exact .inl h2
  · exact .inr ⟨b, cap, cur, hv, hb, (setRow_other' w g row b (by omega)).trans hh, rest⟩

/-- What stands while a page is put. -/
structure PS (B gb g : Nat) (w0 w : World) (lv : Value) (l : List En) (bs hd : List Int) : Prop where
  hp : w.heap[gb]? = some (.cells (bs.map (Value.int .u8)).toArray 5 (0, 0))
  wr : WrAt w g hd
  en : Ents B w lv l
  Bgb : B ≤ gb
  gg : gb < g
  bel : Below w0.heap.size w0 w
  q0 : w0.heap.size ≤ gb
theorem PS.lt {B gb g : Nat} {w0 w : World} {lv : Value} {l : List En} {bs hd : List Int} (h : PS B gb g w0 w lv l bs hd) : g < w.heap.size := h.wr.lt
theorem PS.grown {B gb g : Nat} {w0 w w' : World} {lv : Value} {l : List En} {bs hd : List Int} (h : PS B gb g w0 w lv l bs hd) (k : w.grownBy w' none) : PS B gb g w0 w' lv l bs hd :=
  ⟨(k.block gb (lt_of_block h.hp) (by simp)).trans h.hp, h.wr.kept k, h.en.grown k (by have := h.lt; have := h.Bgb; have := h.gg; omega), h.Bgb, h.gg, h.bel.trans ((gbelow k).mono h.bel.size), h.q0⟩
theorem PS.put {B gb g : Nat} {w0 w : World} {lv : Value} {l : List En} {bs hd : List Int} (h : PS B gb g w0 w lv l bs hd) (bs' : List Int) : PS B gb g w0 (w.setRow gb (bs'.map (Value.int .u8)).toArray) lv l bs' hd := by
  refine ⟨setRow_heap w gb _ _ 5 _ h.hp, ?_, h.en.below fun i hi => setRow_other' _ _ _ _ (by have := h.Bgb; omega), h.Bgb, h.gg, below_setRow h.bel h.q0 _, h.q0⟩
  obtain ⟨v, hv, hh⟩ := h.wr
  exact ⟨v, ownsRow_setRow hv (by have := h.gg; omega) _, (setRow_other' _ _ _ _ (by have := h.gg; omega)).trans hh⟩
theorem PS.num {B gb g : Nat} {w0 w : World} {lv : Value} {l : List En} {bs hd : List Int} (h : PS B gb g w0 w lv l bs hd) (X : Int) (n : Nat) (m : Int) (hm : m = (n : Int)) (h0 : 0 ≤ X) (h1 : X ≤ 18446744073709551615) (hn1 : 1 ≤ n) (hn8 : n ≤ 8) (hl : hd.length ≤ 1000000) :
    Calls Try.prog 62 #[.pointer (some ⟨g, 0, none⟩), .int .u64 X, .int .i64 m] w fun r w' => r = .returned (.tuple #[]) ∧ PS B gb g w0 w' lv l bs (hd ++ numB X n n) := by
  subst hm
  refine (wnum_in w g n X hd h.wr h0 h1 hn1 hn8 (by omega)).mono fun r w' ⟨e, hw, hf⟩ => ⟨e, ?_⟩
  exact ⟨fw_heap hf h.wr h.gg h.hp, hw, h.en.below fun i hi => (hf.below h.wr).block i (by have := h.Bgb; have := h.gg; omega), h.Bgb, h.gg, h.bel.trans ((hf.below h.wr).mono (by have := h.q0; have := h.gg; omega)), h.q0⟩

end Go.Proofs.Ytnodclijlhoobaa
