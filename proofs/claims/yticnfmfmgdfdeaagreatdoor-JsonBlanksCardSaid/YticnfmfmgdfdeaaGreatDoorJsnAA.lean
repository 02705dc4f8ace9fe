/-
  Words for slices of bytes and what a call leaves of the world, for any seat whose program knows uint8, []uint8 and string. Own work.
-/
import Derived.Test.YticnfmfmgdfdeaaGreatDoorRows
import Derived.WalkKit
import Derived.WalkSpells
import Derived.WalkLawsBesides
import Derived.Lib.Hide
import Derived.ProofKit
import Derived.OpenShut
import Derived.ShutString
import Derived.ChangeOld
import Derived.OwnWalk

set_option linter.unusedVariables false
set_option linter.unusedSimpArgs false
namespace Go.Proofs.YticnfmfmgdfdeaaGreatDoor
open Go.RowKit

def Byt (l : List Int) : Prop := ∀ x ∈ l, 0 ≤ x ∧ x ≤ 255

theorem Byt.take {l : List Int} (h : Byt l) (k : Nat) : Byt (l.take k) := fun x hx => h x (List.mem_of_mem_take hx)
theorem Byt.drop {l : List Int} (h : Byt l) (k : Nat) : Byt (l.drop k) := fun x hx => h x (List.mem_of_mem_drop hx)
theorem Byt.app {l m : List Int} (h : Byt l) (k : Byt m) : Byt (l ++ m) := fun x hx => (List.mem_append.1 hx).elim (h x) (k x)
theorem Byt.get {l : List Int} (h : Byt l) (k : Nat) : 0 ≤ l.getD k 0 ∧ l.getD k 0 ≤ 255 := by
  rw [List.getD_eq_getElem?_getD]
  rcases Nat.lt_or_ge k l.length with hk | hk
  · rw [List.getElem?_eq_getElem hk]; exact h _ (List.getElem_mem hk)
  · rw [List.getElem?_eq_none hk]; simp

/-- The value v is a slice that reads as the bytes bs; its cells lie below block B. -/
def Seq (B : Nat) (w : World) (v : Value) (bs : List Int) : Prop :=
  ∃ ao c, v = .slice ao bs.length c ∧ bs.length ≤ c ∧ c ≤ maxLen ∧ (ao = none → c = 0) ∧
    (bs ≠ [] → ∃ b o, ao = some ⟨b, o, none⟩ ∧ b < B ∧ ∀ j, j < bs.length → w.cell? ⟨b, o + j, none⟩ = some (.int .u8 (bs.getD j 0)))

theorem gtrans {a b c : World} {row : Option Nat} (h : a.grownBy b row) (k : b.grownBy c row) : a.grownBy c row :=
  ⟨k.os.trans h.os, k.tape.trans h.tape, k.output.trans h.output, Nat.le_trans h.size k.size, fun i hi hn => (k.block i (Nat.lt_of_lt_of_le hi h.size) hn).trans (h.block i hi hn)⟩
theorem gwide {a b : World} {row : Option Nat} (h : a.grownBy b none) : a.grownBy b row :=
  ⟨h.os, h.tape, h.output, h.size, fun i hi _ => h.block i hi (by simp)⟩
theorem grefl (a : World) (row : Option Nat) : a.grownBy a row := ⟨rfl, rfl, rfl, Nat.le_refl _, fun _ _ _ => rfl⟩
theorem gbelow {a b : World} (h : a.grownBy b none) : Below a.heap.size a b := ⟨h.os, h.tape, h.output, h.size, fun i hi => h.block i hi (by simp)⟩
theorem gof {a b : World} (h : Below a.heap.size a b) (row : Option Nat) : a.grownBy b row := ⟨h.os, h.tape, h.output, h.size, fun i hi _ => h.block i hi⟩

theorem Seq.below {B : Nat} {w w' : World} {v : Value} {bs : List Int} (h : Seq B w v bs) (k : ∀ i, i < B → w'.heap[i]? = w.heap[i]?) : Seq B w' v bs := by
  obtain ⟨ao, c, hv, h1, h2, h3, h4⟩ := h
  refine ⟨ao, c, hv, h1, h2, h3, fun hne => ?_⟩
  obtain ⟨b, o, ha, hb, hc⟩ := h4 hne
  exact ⟨b, o, ha, hb, fun j hj => (World.cell?_of_block (w := w) (k b hb)).trans (hc j hj)⟩
theorem Seq.mono {B B' : Nat} {w : World} {v : Value} {bs : List Int} (h : Seq B w v bs) (k : B ≤ B') : Seq B' w v bs := by
  obtain ⟨ao, c, hv, h1, h2, h3, h4⟩ := h
  refine ⟨ao, c, hv, h1, h2, h3, fun hne => ?_⟩
  obtain ⟨b, o, ha, hb, hc⟩ := h4 hne
  exact ⟨b, o, ha, by omega, hc⟩
/-- What the call owns reads as bytes. -/
theorem Seq.owned {base : Nat} {w : World} {v : Value} {bs : List Int} (h : w.ownsRow base 5 1 v bs.length (bs.map (Value.int .u8))) : Seq w.heap.size w v bs := by
  rcases h.2 with ⟨rfl, hn⟩ | ⟨g, cap, cur, rfl, hb, hg, hc, hm, hs, ht⟩
  · exact ⟨none, 0, by rw [hn], by omega, by simp [maxLen], fun _ => rfl, fun hne => absurd (List.eq_nil_of_length_eq_zero hn) hne⟩
  · refine ⟨some ⟨g, 0, none⟩, cap, rfl, hc, hm, by simp, fun _ => ⟨g, 0, rfl, lt_of_block hg, fun j hj => ?_⟩⟩
    rw [Nat.zero_add, h.cellAt j (by omega)]
    simp [List.getElem?_map, List.getElem?_eq_getElem hj]

theorem cell_alloc {w : World} {a : Addr} {v : Value} {o : Obj} (h : w.cell? a = some v) : (w.alloc o).cell? a = some v :=
  (World.cell?_of_block (w := w) (Below.heap_alloc w o _ (World.block_lt_of_cell? _ _ h))).trans h

/-- A row that is owned is a slice of that length. -/
theorem own_shape {w : World} {base size n : Nat} {e : TypeId} {v : Value} {xs : List Value} (h : w.ownsRow base e size v n xs) : ∃ ao c, v = .slice ao n c := by
  rcases h.2 with ⟨rfl, rfl⟩ | ⟨g, cap, cur, rfl, _⟩
  · exact ⟨_, _, rfl⟩
  · exact ⟨_, _, rfl⟩

theorem bcell1 {bs : List Int} : ∀ u ∈ bs.map (Value.int .u8), u.oneCell' = true := by
  intro u hu; simp only [List.mem_map] at hu; obtain ⟨x, _, rfl⟩ := hu; rfl

theorem Seq.cells {B : Nat} {w : World} {a : Addr} {n c : Nat} {bs : List Int} (h : Seq B w (.slice (some a) n c) bs) :
    n = bs.length ∧ ∀ (j : Nat) (x : Int), bs[j]? = some x → w.cell? (a.add j) = some (.int .u8 x) := by
  obtain ⟨ao, c', hv, h1, h2, h3, h4⟩ := h
  cases hv
  refine ⟨rfl, fun j u hu => ?_⟩
  have hj : j < bs.length := (List.getElem?_eq_some_iff.1 hu).1
  obtain ⟨b, o, ha, hb, hc⟩ := h4 (by rintro rfl; simp at hj)
  cases ha
  rw [show (⟨b, o, none⟩ : Addr).add j = ⟨b, o + j, none⟩ by unfold Addr.add; split <;> simp_all, hc j hj]
  simp [hu]

/-- What the call owns, some bytes: where they lie. -/
theorem own_at {w : World} {base n : Nat} {v : Value} {bs : List Int} (h : w.ownsRow base 5 1 v n (bs.map (Value.int .u8))) (hn : 0 < n) :
    ∃ b c, v = .slice (some ⟨b, 0, none⟩) n c ∧ b < w.heap.size ∧ ∀ j, j < n → w.cell? ⟨b, j, none⟩ = some (.int .u8 (bs.getD j 0)) := by
  have hl := h.1
  have h' := h
  rcases h.2 with ⟨rfl, h0⟩ | ⟨g, cap, cur, rfl, hb, hg, hc, hm, hs, ht⟩
  · omega
  · refine ⟨g, cap, rfl, lt_of_block hg, fun j hj => ?_⟩
    simp at hl
    rw [h'.cellAt j (by omega)]
    simp [List.getElem?_map, List.getElem?_eq_getElem (show j < bs.length by omega)]

/-- A slice of bytes as a string. -/
theorem seq_string {B : Nat} {w : World} {v : Value} {bs : List Int} (h : Seq B w v bs) : (convert 48 9 v).run Tryz.prog w = .ok (.string (strOfNums bs)) w := by
  obtain ⟨ao, c, rfl, h1, h2, h3, h4⟩ := h
  cases bs with
  | cons x xs =>
    obtain ⟨b, o, rfl, _, hc⟩ := h4 (by simp)
    exact run_convert_bytes_arg w 48 5 Tryz.underlying48 Tryz.underlying5 b o _ c (x :: xs) rfl hc 9 Tryz.underlying9
  | nil =>
    cases ao with
    | none => exact run_convert_bytes_nil w 48 5 Tryz.underlying48 Tryz.underlying5 0 c 9 Tryz.underlying9
    | some a =>
      have hl : (loadCells a 0).run Tryz.prog w = .ok (([] : List Int).map (Value.int .u8)).toArray w := by
        have := run_loadCells_list (P := Tryz.prog) w a [] (by intro j v hj; simp at hj)
        simpa using this
      rw [show ([] : List Int).length = 0 from rfl, run_convert_bytes_string w 48 9 5 _ 0 c Tryz.underlying48 Tryz.underlying5 Tryz.underlying9, run_bytesToString w _ 0 c [] hl, foldl_push_bytes]
      rfl

/-- Writes to a block that was not there yet. -/
theorem gnew {a b c : World} {row : Option Nat} {r : Nat} (h : a.grownBy b row) (k : b.grownBy c (some r)) (hr : a.heap.size ≤ r) : a.grownBy c row :=
  ⟨k.os.trans h.os, k.tape.trans h.tape, k.output.trans h.output, Nat.le_trans h.size k.size, fun i hi hn => (k.block i (Nat.lt_of_lt_of_le hi h.size) (by intro e; injection e with e; omega)).trans (h.block i hi hn)⟩

theorem Seq.pre {B : Nat} {w : World} {ao : Option Addr} {n c : Nat} {bs : List Int} (h : Seq B w (.slice ao n c) bs) (k : Nat) (hk : k ≤ bs.length) : Seq B w (.slice ao k c) (bs.take k) := by
  obtain ⟨ao', c', hv, h1, h2, h3, h4⟩ := h
  cases hv
  have hl : (bs.take k).length = k := by simp; omega
  refine ⟨ao, c, by rw [hl], by omega, by omega, h3, fun hne => ?_⟩
  have hb : bs ≠ [] := by rintro rfl; simp at hne
  obtain ⟨b, o, ha, hb, hc⟩ := h4 hb
  refine ⟨b, o, ha, hb, fun j hj => ?_⟩
  rw [hc j (by omega)]
  simp [show j < k by omega]

theorem seq_nil (B : Nat) (w : World) : Seq B w (.slice none 0 0) [] := ⟨none, 0, rfl, Nat.le_refl _, by simp [maxLen], fun _ => rfl, fun h => absurd rfl h⟩

theorem Seq.tail0 {B : Nat} {w : World} {ao : Option Addr} {n : Nat} {bs : List Int} {k : Nat} (h : Seq B w (.slice ao n k) bs) : Seq B w (.slice ao (bs.length - k) 0) (bs.drop k) := by
  obtain ⟨ao', c', hv, h1, h2, h3, h4⟩ := h
  cases hv
  have hd : bs.drop k = [] := List.drop_eq_nil_of_le h1
  exact ⟨ao, 0, by rw [hd]; simp; omega, by rw [hd]; simp, by simp [maxLen], fun _ => rfl, fun hne => absurd hd hne⟩
theorem Seq.tail {B : Nat} {w : World} {ao : Option Addr} {n c : Nat} {bs : List Int} {k : Nat} (h : Seq B w (.slice ao n c) bs) (hk : k ≤ bs.length) :
    Seq B w (.slice (ao.map fun x => x.add k) (bs.length - k) (c - k)) (bs.drop k) := by
  obtain ⟨ao', c', hv, h1, h2, h3, h4⟩ := h
  cases hv
  refine ⟨_, c - k, by rw [List.length_drop], by simp; omega, by omega, fun h => ?_, fun hne => ?_⟩
  · have : ao = none := by simpa using h
    have := h3 this; omega
  · have hb : bs ≠ [] := by rintro rfl; simp at hne
    obtain ⟨b, o, rfl, hb, hc⟩ := h4 hb
    refine ⟨b, o + k, by simp [Addr.add], hb, fun j hj => ?_⟩
    rw [List.length_drop] at hj
    rw [Nat.add_assoc, hc (k + j) (by omega)]
    simp

theorem Seq.post {B : Nat} {w : World} {ao : Option Addr} {n c : Nat} {bs : List Int} {k : Nat} (h : Seq B w (.slice ao n c) bs) (hk : k ≤ n) :
    Seq B w (.slice (if c = k then ao else ao.map (·.add k)) (n - k) (c - k)) (bs.drop k) := by
  have hn : n = bs.length := by obtain ⟨_, _, hv, _⟩ := h; injection hv
  by_cases e : c = k
  · subst e; rw [if_pos rfl, Nat.sub_self, hn]; exact h.tail0
  · rw [if_neg e, hn]; exact h.tail (by omega)
theorem gdrew (w : World) : w.grownBy w.drew none := ⟨rfl, rfl, rfl, Nat.le_refl _, fun _ _ _ => rfl⟩
theorem drew_alloc (w : World) (o : Obj) : (w.alloc o).drew = w.drew.alloc o := rfl

theorem infoU8 : (Tryz.prog.info? 5).map (fun i => (i.zero, i.size, i.bytes)) = some (some (.int .u8 0), 1, 1) := by kernel_rfl
theorem gset (w : World) (a : Addr) (u : Value) : w.grownBy (w.setCell a u) (some a.block) :=
  ⟨rfl, rfl, rfl, by simp [World.setCell], fun k _ hk => Below.heap_setCell _ _ _ _ (fun e => hk (by rw [e]))⟩
theorem Seq.head {B : Nat} {w : World} {ao : Option Addr} {n c : Nat} {bs : List Int} (h : Seq B w (.slice ao n c) bs) (k : Nat) (hk : k ≤ bs.length) : Seq B w (.slice ao k k) (bs.take k) := by
  obtain ⟨ao', c', hv, h1, h2, h3, h4⟩ := h
  cases hv
  have hl : (bs.take k).length = k := by simp; omega
  refine ⟨ao, k, by rw [hl], by omega, by omega, fun h => ?_, fun hne => ?_⟩
  · have := h3 h; omega
  · have hb : bs ≠ [] := by rintro rfl; simp at hne
    obtain ⟨b, o, ha, hb, hc⟩ := h4 hb
    refine ⟨b, o, ha, hb, fun j hj => ?_⟩
    rw [hc j (by omega)]
    simp [show j < k by omega]
theorem Seq.cellAt {B : Nat} {w : World} {a : Option Addr} {n c : Nat} {bs : List Int} (h : Seq B w (.slice a n c) bs) (k : Nat) (hk : k < bs.length) : ∃ b o, a = some ⟨b, o, none⟩ ∧ w.cell? ⟨b, o + k, none⟩ = some (.int .u8 (bs.getD k 0)) := by
  obtain ⟨ao, c', hv, h1, h2, h3, h4⟩ := h
  cases hv
  obtain ⟨b, o, ha, _, hc⟩ := h4 (fun e => by have := congrArg List.length e; simp only [List.length_nil] at this; omega)
  exact ⟨b, o, ha, hc k hk⟩
theorem Seq.owned1 {base n : Nat} {w : World} {v : Value} {bs : List Int} (hl : bs.length = n) (h : w.ownsRow base 5 1 v n (bs.map (Value.int .u8))) : Seq w.heap.size w v bs := by
  subst hl
  exact Seq.owned h

theorem Seq.post1 {B : Nat} {w : World} {ao A : Option Addr} {n c : Nat} {bs : List Int} (h : Seq B w (.slice ao n c) bs) (hk : 1 ≤ n)
    (hA : (if c = 1 then ao else Option.map (fun x => (⟨x.block, x.off + 1, none⟩ : Addr)) ao) = A) : Seq B w (.slice A (n - 1) (c - 1)) (bs.drop 1) := by
  subst hA; exact h.post hk

/-- What 'make' lays reads as noughts. -/
theorem seq_made {base m q : Nat} {w : World} (h : w.ownsRow base 5 1 (.slice (some ⟨q, 0, none⟩) m m) m (madeCells (Value.int .u8 0).cells (m * 1)).toList) : Seq w.heap.size w (.slice (some ⟨q, 0, none⟩) m m) (List.replicate m 0) := by
  have e : (madeCells (Value.int .u8 0).cells (m * 1)).toList = (List.replicate m (0 : Int)).map (Value.int .u8) := by
    rw [Nat.mul_one, show (Value.int .u8 0).cells = #[Value.int .u8 0] from rfl, toList_madeCells_one, List.map_replicate]
  rw [e] at h
  have hl : m = (List.replicate m (0 : Int)).length := by simp
  generalize List.replicate m (0 : Int) = bs at h hl ⊢
  subst hl
  exact Seq.owned h


theorem two_lit0 (w : World) (a b : Obj) : ((w.alloc a).alloc b).heap[w.heap.size]? = some a := (Below.heap_alloc (w.alloc a) b w.heap.size (by simp)).trans (heap_alloc_new _ _)
theorem two_lit1 (w : World) (a b : Obj) : ((w.alloc a).alloc b).heap[w.heap.size + 1]? = some b := by
  have := heap_alloc_new (w.alloc a) b
  rwa [show (w.alloc a).heap.size = w.heap.size + 1 by simp] at this
theorem two_later0 {w w' : World} {a b : Obj} (h : ((w.alloc a).alloc b).grownBy w' none) : w'.heap[w.heap.size]? = some a := (h.block _ (by simp; omega) (by simp)).trans (two_lit0 w a b)
theorem two_later1 {w w' : World} {a b : Obj} (h : ((w.alloc a).alloc b).grownBy w' none) : w'.heap[w.heap.size + 1]? = some b := (h.block _ (by simp) (by simp)).trans (two_lit1 w a b)
theorem two_grown (w : World) (a b : Obj) : w.grownBy ((w.alloc a).alloc b) none := gtrans (World.grownBy_alloc _ _ _) (World.grownBy_alloc _ _ _)

open Go.ChangeShapes Go.WideShapes Go.ChangeAt
theorem ownKnob0 : ownKnob Tryz.prog.godebug = none := by kernel_rfl
theorem laidOut0 : laidOutB Tryz.prog = true := by kernel_rfl

theorem Seq.shape {B : Nat} {w : World} {v : Value} {bs : List Int} (h : Seq B w v bs) : ∃ ao c, v = .slice ao bs.length c ∧ c ≤ maxLen := by
  obtain ⟨ao, c, hv, _, h2, _⟩ := h
  exact ⟨ao, c, hv, h2⟩

/-- Cells that the reading of a row of bytes tells. -/
theorem seq_of_ints {w : World} {x : Addr} {len cap : Nat} {zs : List Int} (hl : len ≤ cap) (hm : cap ≤ maxLen) (hz : zs.length = cap) (hcell : ∀ i, i < zs.length → w.cell? (x.add i) = some (.int .u8 (zs.getD i 0))) :
    Seq w.heap.size w (.slice (some x) len cap) (zs.take len) := by
  have hlen : (zs.take len).length = len := by simp; omega
  refine ⟨some x, cap, by rw [hlen], by omega, hm, by simp, fun hne => ?_⟩
  have hpos : 0 < len := by
    rcases Nat.eq_zero_or_pos len with h | h
    · subst h; simp at hne
    · exact h
  obtain ⟨b, off, hx, hc⟩ := ints_at hcell (by omega)
  subst hx
  refine ⟨b, off, rfl, ?_, fun j hj => ?_⟩
  · have := World.block_lt_of_cell? _ _ (hc 0 (by omega)); simpa using this
  · rw [hc j (by omega)]
    simp [show j < len by omega]

/-- A slice of bytes that came in: what it reads as, and that its bytes are bytes. -/
theorem open_bytes {H : Type} {enc : TypeId × Value → H} {W : World} {d : DataW H} {p : List MemPlace} {a : Option Addr} {len cap : Nat}
    (h : ∃ fuel, DataW.trod enc Tryz.prog W 0 (fun _ => true) true fuel 48 [.slice a len cap] = some (d, p)) :
    ∃ bs, Seq W.heap.size W (.slice a len cap) bs ∧ Byt bs := by
  obtain ⟨fuel, hf⟩ := h
  rcases open_ints Tryz.underlying48 Tryz.underlying5 (by kernel_rfl) hf with ⟨hcs, _⟩ | ⟨x, l, c, zs, hcs, _, hl, hm, hz, _, hcell, hwz⟩
  · simp at hcs
    obtain ⟨rfl, rfl, rfl⟩ := hcs
    exact ⟨[], seq_nil _ _, fun x hx => by simp at hx⟩
  · simp at hcs
    obtain ⟨rfl, rfl, rfl⟩ := hcs
    exact ⟨zs.take len, seq_of_ints hl hm (by simpa using hz) hcell, fun y hy => bounds_u8 (hwz y (List.mem_of_mem_take hy))⟩

end Go.Proofs.YticnfmfmgdfdeaaGreatDoor
