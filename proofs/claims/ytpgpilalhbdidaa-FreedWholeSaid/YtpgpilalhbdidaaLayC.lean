/-
  Layers 4 and 5: a copy into a row of the call's own. Own work.
-/
import Derived.Test.YtpgpilalhbdidaaOctL
import Derived.Test.YtpgpilalhbdidaaOctE
import Derived.Laws.CopyRow
import Derived.Laws.CopyOwn
import Derived.Deep.RegionLaw
namespace Go.Proofs.Ytpgpilalhbdidaa
open Go.RowKit

/-- A copy out of a row of the call's own into another, whole. -/
theorem copy_run {w : World} {gb off dLen dCap n cc base : Nat} {ac : Option Addr} {bs xs : List Int} (hp : w.heap[gb]? = some (.cells (bs.map (Value.int .u8)).toArray 5 (0, 0)))
    (ho : w.ownsRow base 5 1 (.slice ac n cc) n (xs.map (.int .u8))) (h0 : 0 < n) (hd : n ≤ dLen) (hf : off + n ≤ bs.length) :
    ∀ ty, (Builtin.copy_ #[49, 49] ty #[.slice (some ⟨gb, off, none⟩) dLen dCap, .slice ac n cc]).run Try.prog w = .ok (goInt (n : Int)) (w.setRow gb ((bs.take off ++ xs ++ bs.drop (off + n)).map (Value.int .u8)).toArray) := by
  intro ty
  have hl : (xs.map (Value.int .u8)).length = n := by have := ho.1; omega
  have hl2 : xs.length = n := by simpa using hl
  obtain ⟨b, c, hv, hb, hc⟩ := own_at ho h0
  cases hv
  have h := run_copy_row (P := Try.prog) w 49 49 ty 5 gb off dLen dCap ⟨b, 0, none⟩ n cc (bs.map (Value.int .u8)).toArray 5 (xs.map (Value.int .u8)) Try.underlying49 (by kernel_rfl) hp (by rw [hl]; exact (Nat.min_eq_left hd).symm)
    (fun j v hj => by
      obtain ⟨hj1, hj2⟩ := List.getElem?_eq_some_iff.1 hj
      rw [Addr.add_lit, Nat.zero_add, hc j (by omega), ← hj2]
      simp [List.getD_eq_getElem?_getD, List.getElem?_eq_getElem (show j < xs.length by omega)]) (by simp; omega) bcell1
  rw [hl] at h
  rw [h]
  simp [List.map_append, List.map_take, List.map_drop]

theorem wpList_copy_at {P : Program} {w w2 : World} {ops : Array Oper} {rest : List Oper} {o : Oper} {a : Act} {Q : Exit → Act → World → Prop} (hgd : o.guard = none) (d s : Operand) (dT sT : TypeId)
    (ho : o.op = .call { callee := .builtin .copy, args := #[d, s], argTypes := #[dT, sT] }) (x y : Value) (n : Nat) (hd : a.eval d = x) (hs : a.eval s = y)
    (hrun : ∀ ty, (Builtin.copy_ #[dT, sT] ty #[x, y]).run P w = .ok (goInt n) w2) (h : wpList P ops Q rest (a.put o.dst (goInt n)) w2) : wpList P ops Q (o :: rest) a w := by
  refine wpList_plain hgd fun K hK => ?_
  unfold Oper.wp
  simp [execOp, ho, resolve, invoke, builtin, hd, hs, hrun, Result.andThen]
  exact hK _ _ h
theorem step_copy_at {P : Program} {ops : Array Oper} {o : Oper} {a : Act} {w w2 : World} {K : Act → World → Prop} {Q : Exit → Act → World → Prop} {E : Prop} (hgd : o.guard = none) (d s : Operand) (dT sT : TypeId)
    (ho : o.op = .call { callee := .builtin .copy, args := #[d, s], argTypes := #[dT, sT] }) (x y : Value) (n : Nat) (hd : a.eval d = x) (hs : a.eval s = y)
    (hrun : ∀ ty, (Builtin.copy_ #[dT, sT] ty #[x, y]).run P w = .ok (goInt n) w2) (h : K (a.put o.dst (goInt n)) w2) :
    if Region.wanted o (yielded ops a.tmps) = true then Oper.wp P o a w K Q else E := by
  have hw : Region.wanted o (yielded ops a.tmps) = true := by simp [Region.wanted, hgd]
  rw [if_pos hw]
  unfold Oper.wp
  simp [execOp, ho, resolve, invoke, builtin, hd, hs, hrun, Result.andThen]
  exact h

theorem setRow_other' (w : World) (g : Nat) (row : Array Value) (i : Nat) (h : i ≠ g) : (w.setRow g row).heap[i]? = w.heap[i]? := setRow_other w g i row h
theorem ownsRow_setRow {w : World} {base size n g : Nat} {e : TypeId} {v : Value} {xs : List Value} (h : w.ownsRow base e size v n xs) (hg : g < base) (row : Array Value) : (w.setRow g row).ownsRow base e size v n xs := by
  refine ⟨h.1, ?_⟩
  rcases h.2 with h2 | ⟨b, cap, cur, hv, hb, hh, rest⟩
  · exact .inl h2
  · exact .inr ⟨b, cap, cur, hv, hb, (setRow_other' w g row b (by omega)).trans hh, rest⟩

theorem fw_cell {g b o : Nat} {w w' : World} {bs : List Int} {v : Value} (hf : Fw g w w') (hw : WrAt w g bs) (hb : b < g) (hc : w.cell? ⟨b, o, none⟩ = some v) : w'.cell? ⟨b, o, none⟩ = some v :=
  (World.cell?_of_block (w := w) ((hf.below hw).block b hb)).trans hc
theorem fw_seq {g B : Nat} {w w' : World} {bs xs : List Int} {v : Value} (hf : Fw g w w') (hw : WrAt w g bs) (hb : B ≤ g) (hs : Seq B w v xs) : Seq B w' v xs :=
  hs.below fun i hi => (hf.below hw).block i (by omega)

theorem fw_heap {g q : Nat} {w w' : World} {bs : List Int} {x : Obj} (hf : Fw g w w') (hw : WrAt w g bs) (hq : q < g) (h : w.heap[q]? = some x) : w'.heap[q]? = some x := ((hf.below hw).block q hq).trans h

theorem out_len {w : World} {g n : Nat} {bs : List Int} (h : WrAt w g bs) (hn : bs.length = n) (hl : n ≤ 140737488355328) :
    Calls Try.prog 44 #[.pointer (some ⟨g, 0, none⟩)] w fun r w' => ∃ ao c, r = .returned (.slice ao n c) ∧
      w'.ownsRow w.heap.size 5 1 (.slice ao n c) n (bs.map (Value.int .u8)) ∧ w.grownBy w' none := by
  subst hn
  exact out_any w g bs h hl

theorem made_heap {q m : Nat} {w : World} (h : w.ownsRow q 5 1 (.slice (some ⟨q, 0, none⟩) m m) m (madeCells (Value.int .u8 0).cells (m * 1)).toList) : w.heap[q]? = some (.cells ((List.replicate m (0 : Int)).map (Value.int .u8)).toArray 5 (0, 0)) := by
  have e : (madeCells (Value.int .u8 0).cells (m * 1)).toList = (List.replicate m (0 : Int)).map (Value.int .u8) := by
    rw [Nat.mul_one, show (Value.int .u8 0).cells = #[Value.int .u8 0] from rfl, toList_madeCells_one, List.map_replicate]
  rw [e] at h
  rcases h.2 with ⟨hv, _⟩ | ⟨g, cap, cur, hv, hb, hh, h1, h2, h3, h4⟩
  · cases hv
  · cases hv
    rw [hh]
    have : cur.toList = (List.replicate m (0 : Int)).map (Value.int .u8) := by
      rw [← h4, List.take_of_length_le (by simp; omega)]
    rw [← this]

end Go.Proofs.Ytpgpilalhbdidaa
