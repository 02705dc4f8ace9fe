/-
  Words for slices of bytes and what a call leaves of the world, for any seat whose program knows uint8, []uint8 and string. Own work.
-/
import Derived.Test.YtildjdhoeilcfaaGreatRows
import Derived.WalkKit
import Derived.WalkSpells
import Derived.WalkLawsBesides
import Derived.Lib.Hide
import Derived.ProofKit
import Derived.OpenShut
import Derived.ShutString
import Derived.ChangeOld
import Derived.OwnWalk
import Derived.Deep.LoopGhost
import Derived.Tactics
import Derived.Tactics2
import Derived.Defers
import Derived.Laws.Pointers
import Derived.Laws.LoneSync
import Derived.Laws.NewBlocks
import Derived.RegionTactic
import Derived.RegionCalls
import Derived.ChangeAlike
import Derived.IntWalk
import Derived.Deep.OwnRows

namespace Go.Proofs.YtildjdhoeilcfaaGreat
open Go.RowKit

def Byt (l : List Int) : Prop := ∀ x ∈ l, 0 ≤ x ∧ x ≤ 255

theorem Byt.take {l : List Int} (h : Byt l) (k : Nat) : Byt (l.take k) := fun x hx => h x (List.mem_of_mem_take hx)
theorem Byt.drop {l : List Int} (h : Byt l) (k : Nat) : Byt (l.drop k) := fun x hx => h x (List.mem_of_mem_drop hx)
theorem Byt.app {l m : List Int} (h : Byt l) (k : Byt m) : Byt (l ++ m) := fun x hx => (List.mem_append.1 hx).elim (h x) (k x)
theorem Byt.get {l : List Int} (h : Byt l) (k : Nat) : 0 ≤ l.getD k 0 ∧ l.getD k 0 ≤ 255 := by
  rw [List.getD_eq_getElem?_getD]
  rcases Nat.lt_or_ge k l.length with hk | hk
  · rw [List.getElem?_eq_getElem hk]; exact h _ (List.getElem_mem hk)
  · rw [List.getElem?_eq_none hk]; simp

/-- The value v is a slice that reads as the bytes bs; its cells lie below block B. -/
def Seq (B : Nat) (w : World) (v : Value) (bs : List Int) : Prop :=
  ∃ ao c, v = .slice ao bs.length c ∧ bs.length ≤ c ∧ c ≤ maxLen ∧ (ao = none → c = 0) ∧
    (bs ≠ [] → ∃ b o, ao = some ⟨b, o, none⟩ ∧ b < B ∧ ∀ j, j < bs.length → w.cell? ⟨b, o + j, none⟩ = some (.int .u8 (bs.getD j 0)))

theorem gtrans {a b c : World} {row : Option Nat} (h : a.grownBy b row) (k : b.grownBy c row) : a.grownBy c row :=
  ⟨k.os.trans h.os, k.tape.trans h.tape, k.output.trans h.output, Nat.le_trans h.size k.size, fun i hi hn => (k.block i (Nat.lt_of_lt_of_le hi h.size) hn).trans (h.block i hi hn)⟩
theorem gwide {a b : World} {row : Option Nat} (h : a.grownBy b none) : a.grownBy b row :=
  ⟨h.os, h.tape, h.output, h.size, fun i hi _ => h.block i hi (by simp)⟩
theorem grefl (a : World) (row : Option Nat) : a.grownBy a row := ⟨rfl, rfl, rfl, Nat.le_refl _, fun _ _ _ => rfl⟩
theorem gbelow {a b : World} (h : a.grownBy b none) : Below a.heap.size a b := ⟨h.os, h.tape, h.output, h.size, fun i hi => h.block i hi (by simp)⟩
theorem gof {a b : World} (h : Below a.heap.size a b) (row : Option Nat) : a.grownBy b row := ⟨h.os, h.tape, h.output, h.size, fun i hi _ => h.block i hi⟩

theorem Seq.below {B : Nat} {w w' : World} {v : Value} {bs : List Int} (h : Seq B w v bs) (k : ∀ i, i < B → w'.heap[i]? = w.heap[i]?) : Seq B w' v bs := by
  obtain ⟨ao, c, hv, h1, h2, h3, h4⟩ := h
  refine ⟨ao, c, hv, h1, h2, h3, fun hne => ?_⟩
  obtain ⟨b, o, ha, hb, hc⟩ := h4 hne
  exact ⟨b, o, ha, hb, fun j hj => (World.cell?_of_block (w := w) (k b hb)).trans (hc j hj)⟩
theorem Seq.mono {B B' : Nat} {w : World} {v : Value} {bs : List Int} (h : Seq B w v bs) (k : B ≤ B') : Seq B' w v bs := by
  obtain ⟨ao, c, hv, h1, h2, h3, h4⟩ := h
  refine ⟨ao, c, hv, h1, h2, h3, fun hne => ?_⟩
  obtain ⟨b, o, ha, hb, hc⟩ := h4 hne
  exact ⟨b, o, ha, by omega, hc⟩
/-- What the call owns reads as bytes. -/
theorem Seq.owned {base : Nat} {w : World} {v : Value} {bs : List Int} (h : w.ownsRow base 5 1 v bs.length (bs.map (Value.int .u8))) : Seq w.heap.size w v bs := by
  rcases h.2 with ⟨rfl, hn⟩ | ⟨g, cap, cur, rfl, hb, hg, hc, hm, hs, ht⟩
  · exact ⟨none, 0, by rw [hn], by omega, by simp [maxLen], fun _ => rfl, fun hne => absurd (List.eq_nil_of_length_eq_zero hn) hne⟩
  · refine ⟨some ⟨g, 0, none⟩, cap, rfl, hc, hm, by simp, fun _ => ⟨g, 0, rfl, lt_of_block hg, fun j hj => ?_⟩⟩
    rw [Nat.zero_add, h.cellAt j (by omega)]
    simp [List.getElem?_map, List.getElem?_eq_getElem hj]

theorem cell_alloc {w : World} {a : Addr} {v : Value} {o : Obj} (h : w.cell? a = some v) : (w.alloc o).cell? a = some v :=
  (World.cell?_of_block (w := w) (Below.heap_alloc w o _ (World.block_lt_of_cell? _ _ h))).trans h

/-- A row that is owned is a slice of that length. -/
theorem own_shape {w : World} {base size n : Nat} {e : TypeId} {v : Value} {xs : List Value} (h : w.ownsRow base e size v n xs) : ∃ ao c, v = .slice ao n c := by
  rcases h.2 with ⟨rfl, rfl⟩ | ⟨g, cap, cur, rfl, _⟩
  · exact ⟨_, _, rfl⟩
  · exact ⟨_, _, rfl⟩

theorem bcell1 {bs : List Int} : ∀ u ∈ bs.map (Value.int .u8), u.oneCell' = true := by
  intro u hu; simp only [List.mem_map] at hu; obtain ⟨x, _, rfl⟩ := hu; rfl

theorem Seq.cells {B : Nat} {w : World} {a : Addr} {n c : Nat} {bs : List Int} (h : Seq B w (.slice (some a) n c) bs) :
    n = bs.length ∧ ∀ (j : Nat) (x : Int), bs[j]? = some x → w.cell? (a.add j) = some (.int .u8 x) := by
  obtain ⟨ao, c', hv, h1, h2, h3, h4⟩ := h
  cases hv
  refine ⟨rfl, fun j u hu => ?_⟩
  have hj : j < bs.length := (List.getElem?_eq_some_iff.1 hu).1
  obtain ⟨b, o, ha, hb, hc⟩ := h4 (by rintro rfl; simp at hj)
  cases ha
  rw [show (⟨b, o, none⟩ : Addr).add j = ⟨b, o + j, none⟩ by unfold Addr.add; split <;> simp_all, hc j hj]
  simp [hu]

/-- What the call owns, some bytes: where they lie. -/
theorem own_at {w : World} {base n : Nat} {v : Value} {bs : List Int} (h : w.ownsRow base 5 1 v n (bs.map (Value.int .u8))) (hn : 0 < n) :
    ∃ b c, v = .slice (some ⟨b, 0, none⟩) n c ∧ b < w.heap.size ∧ ∀ j, j < n → w.cell? ⟨b, j, none⟩ = some (.int .u8 (bs.getD j 0)) := by
  have hl := h.1
  have h' := h
  rcases h.2 with ⟨rfl, h0⟩ | ⟨g, cap, cur, rfl, hb, hg, hc, hm, hs, ht⟩
  · omega
  · refine ⟨g, cap, rfl, lt_of_block hg, fun j hj => ?_⟩
    simp at hl
    rw [h'.cellAt j (by omega)]
    simp [List.getElem?_map, List.getElem?_eq_getElem (show j < bs.length by omega)]

/-- A slice of bytes as a string. -/
theorem seq_string {B : Nat} {w : World} {v : Value} {bs : List Int} (h : Seq B w v bs) : (convert 32 9 v).run Tryz.prog w = .ok (.string (strOfNums bs)) w := by
  obtain ⟨ao, c, rfl, h1, h2, h3, h4⟩ := h
  cases bs with
  | cons x xs =>
    obtain ⟨b, o, rfl, _, hc⟩ := h4 (by simp)
    exact run_convert_bytes_arg w 32 5 Tryz.underlying32 Tryz.underlying5 b o _ c (x :: xs) rfl hc 9 Tryz.underlying9
  | nil =>
    cases ao with
    | none => exact run_convert_bytes_nil w 32 5 Tryz.underlying32 Tryz.underlying5 0 c 9 Tryz.underlying9
    | some a =>
      have hl : (loadCells a 0).run Tryz.prog w = .ok (([] : List Int).map (Value.int .u8)).toArray w := by
        have := run_loadCells_list (P := Tryz.prog) w a [] (by intro j v hj; simp at hj)
        simpa using this
      rw [show ([] : List Int).length = 0 from rfl, run_convert_bytes_string w 32 9 5 _ 0 c Tryz.underlying32 Tryz.underlying5 Tryz.underlying9, run_bytesToString w _ 0 c [] hl, foldl_push_bytes]
      rfl

/-- Writes to a block that was not there yet. -/
theorem gnew {a b c : World} {row : Option Nat} {r : Nat} (h : a.grownBy b row) (k : b.grownBy c (some r)) (hr : a.heap.size ≤ r) : a.grownBy c row :=
  ⟨k.os.trans h.os, k.tape.trans h.tape, k.output.trans h.output, Nat.le_trans h.size k.size, fun i hi hn => (k.block i (Nat.lt_of_lt_of_le hi h.size) (by intro e; injection e with e; omega)).trans (h.block i hi hn)⟩

theorem Seq.pre {B : Nat} {w : World} {ao : Option Addr} {n c : Nat} {bs : List Int} (h : Seq B w (.slice ao n c) bs) (k : Nat) (hk : k ≤ bs.length) : Seq B w (.slice ao k c) (bs.take k) := by
  obtain ⟨ao', c', hv, h1, h2, h3, h4⟩ := h
  cases hv
  have hl : (bs.take k).length = k := by simp; omega
  refine ⟨ao, c, by rw [hl], by omega, by omega, h3, fun hne => ?_⟩
  have hb : bs ≠ [] := by rintro rfl; simp at hne
  obtain ⟨b, o, ha, hb, hc⟩ := h4 hb
  refine ⟨b, o, ha, hb, fun j hj => ?_⟩
  rw [hc j (by omega)]
  simp [show j < k by omega]

theorem seq_nil (B : Nat) (w : World) : Seq B w (.slice none 0 0) [] := ⟨none, 0, rfl, Nat.le_refl _, by simp [maxLen], fun _ => rfl, fun h => absurd rfl h⟩

theorem Seq.tail0 {B : Nat} {w : World} {ao : Option Addr} {n : Nat} {bs : List Int} {k : Nat} (h : Seq B w (.slice ao n k) bs) : Seq B w (.slice ao (bs.length - k) 0) (bs.drop k) := by
  obtain ⟨ao', c', hv, h1, h2, h3, h4⟩ := h
  cases hv
  have hd : bs.drop k = [] := List.drop_eq_nil_of_le h1
  exact ⟨ao, 0, by rw [hd]; simp; omega, by rw [hd]; simp, by simp [maxLen], fun _ => rfl, fun hne => absurd hd hne⟩
theorem Seq.tail {B : Nat} {w : World} {ao : Option Addr} {n c : Nat} {bs : List Int} {k : Nat} (h : Seq B w (.slice ao n c) bs) (hk : k ≤ bs.length) :
    Seq B w (.slice (ao.map fun x => x.add k) (bs.length - k) (c - k)) (bs.drop k) := by
  obtain ⟨ao', c', hv, h1, h2, h3, h4⟩ := h
  cases hv
  refine ⟨_, c - k, by rw [List.length_drop], by simp; omega, by omega, fun h => ?_, fun hne => ?_⟩
  · have : ao = none := by simpa using h
    have := h3 this; omega
  · have hb : bs ≠ [] := by rintro rfl; simp at hne
    obtain ⟨b, o, rfl, hb, hc⟩ := h4 hb
    refine ⟨b, o + k, by simp [Addr.add], hb, fun j hj => ?_⟩
    rw [List.length_drop] at hj
    rw [Nat.add_assoc, hc (k + j) (by omega)]
    simp

theorem Seq.post {B : Nat} {w : World} {ao : Option Addr} {n c : Nat} {bs : List Int} {k : Nat} (h : Seq B w (.slice ao n c) bs) (hk : k ≤ n) :
    Seq B w (.slice (if c = k then ao else ao.map (·.add k)) (n - k) (c - k)) (bs.drop k) := by
  have hn : n = bs.length := by obtain ⟨_, _, hv, _⟩ := h; injection hv
  by_cases e : c = k
  · subst e; rw [if_pos rfl, Nat.sub_self, hn]; exact h.tail0
  · rw [if_neg e, hn]; exact h.tail (by omega)
theorem gdrew (w : World) : w.grownBy w.drew none := ⟨rfl, rfl, rfl, Nat.le_refl _, fun _ _ _ => rfl⟩
theorem drew_alloc (w : World) (o : Obj) : (w.alloc o).drew = w.drew.alloc o := rfl

theorem infoU8 : (Tryz.prog.info? 5).map (fun i => (i.zero, i.size, i.bytes)) = some (some (.int .u8 0), 1, 1) := by kernel_rfl
theorem gset (w : World) (a : Addr) (u : Value) : w.grownBy (w.setCell a u) (some a.block) :=
  ⟨rfl, rfl, rfl, by simp [World.setCell], fun k _ hk => Below.heap_setCell _ _ _ _ (fun e => hk (by rw [e]))⟩
theorem Seq.head {B : Nat} {w : World} {ao : Option Addr} {n c : Nat} {bs : List Int} (h : Seq B w (.slice ao n c) bs) (k : Nat) (hk : k ≤ bs.length) : Seq B w (.slice ao k k) (bs.take k) := by
  obtain ⟨ao', c', hv, h1, h2, h3, h4⟩ := h
  cases hv
  have hl : (bs.take k).length = k := by simp; omega
  refine ⟨ao, k, by rw [hl], by omega, by omega, fun h => ?_, fun hne => ?_⟩
  · have := h3 h; omega
  · have hb : bs ≠ [] := by rintro rfl; simp at hne
    obtain ⟨b, o, ha, hb, hc⟩ := h4 hb
    refine ⟨b, o, ha, hb, fun j hj => ?_⟩
    rw [hc j (by omega)]
    simp [show j < k by omega]
theorem Seq.cellAt {B : Nat} {w : World} {a : Option Addr} {n c : Nat} {bs : List Int} (h : Seq B w (.slice a n c) bs) (k : Nat) (hk : k < bs.length) : ∃ b o, a = some ⟨b, o, none⟩ ∧ w.cell? ⟨b, o + k, none⟩ = some (.int .u8 (bs.getD k 0)) := by
  obtain ⟨ao, c', hv, h1, h2, h3, h4⟩ := h
  cases hv
  obtain ⟨b, o, ha, _, hc⟩ := h4 (fun e => by have := congrArg List.length e; simp only [List.length_nil] at this; omega)
  exact ⟨b, o, ha, hc k hk⟩
theorem Seq.owned1 {base n : Nat} {w : World} {v : Value} {bs : List Int} (hl : bs.length = n) (h : w.ownsRow base 5 1 v n (bs.map (Value.int .u8))) : Seq w.heap.size w v bs := by
  subst hl
  exact Seq.owned h

theorem Seq.post1 {B : Nat} {w : World} {ao A : Option Addr} {n c : Nat} {bs : List Int} (h : Seq B w (.slice ao n c) bs) (hk : 1 ≤ n)
    (hA : (if c = 1 then ao else Option.map (fun x => (⟨x.block, x.off + 1, none⟩ : Addr)) ao) = A) : Seq B w (.slice A (n - 1) (c - 1)) (bs.drop 1) := by
  subst hA; exact h.post hk

/-- What 'make' lays reads as noughts. -/
theorem seq_made {base m q : Nat} {w : World} (h : w.ownsRow base 5 1 (.slice (some ⟨q, 0, none⟩) m m) m (madeCells (Value.int .u8 0).cells (m * 1)).toList) : Seq w.heap.size w (.slice (some ⟨q, 0, none⟩) m m) (List.replicate m 0) := by
  have e : (madeCells (Value.int .u8 0).cells (m * 1)).toList = (List.replicate m (0 : Int)).map (Value.int .u8) := by
    rw [Nat.mul_one, show (Value.int .u8 0).cells = #[Value.int .u8 0] from rfl, toList_madeCells_one, List.map_replicate]
  rw [e] at h
  have hl : m = (List.replicate m (0 : Int)).length := by simp
  generalize List.replicate m (0 : Int) = bs at h hl ⊢
  subst hl
  exact Seq.owned h


theorem two_lit0 (w : World) (a b : Obj) : ((w.alloc a).alloc b).heap[w.heap.size]? = some a := (Below.heap_alloc (w.alloc a) b w.heap.size (by simp)).trans (heap_alloc_new _ _)
theorem two_lit1 (w : World) (a b : Obj) : ((w.alloc a).alloc b).heap[w.heap.size + 1]? = some b := by
  have := heap_alloc_new (w.alloc a) b
  rwa [show (w.alloc a).heap.size = w.heap.size + 1 by simp] at this
theorem two_later0 {w w' : World} {a b : Obj} (h : ((w.alloc a).alloc b).grownBy w' none) : w'.heap[w.heap.size]? = some a := (h.block _ (by simp; omega) (by simp)).trans (two_lit0 w a b)
theorem two_later1 {w w' : World} {a b : Obj} (h : ((w.alloc a).alloc b).grownBy w' none) : w'.heap[w.heap.size + 1]? = some b := (h.block _ (by simp) (by simp)).trans (two_lit1 w a b)
theorem two_grown (w : World) (a b : Obj) : w.grownBy ((w.alloc a).alloc b) none := gtrans (World.grownBy_alloc _ _ _) (World.grownBy_alloc _ _ _)

open Go.ChangeShapes Go.WideShapes Go.ChangeAt
theorem ownKnob0 : ownKnob Tryz.prog.godebug = none := by kernel_rfl
theorem laidOut0 : laidOutB Tryz.prog = true := by kernel_rfl

theorem Seq.shape {B : Nat} {w : World} {v : Value} {bs : List Int} (h : Seq B w v bs) : ∃ ao c, v = .slice ao bs.length c ∧ c ≤ maxLen := by
  obtain ⟨ao, c, hv, _, h2, _⟩ := h
  exact ⟨ao, c, hv, h2⟩

/-- Cells that the reading of a row of bytes tells. -/
theorem seq_of_ints {w : World} {x : Addr} {len cap : Nat} {zs : List Int} (hl : len ≤ cap) (hm : cap ≤ maxLen) (hz : zs.length = cap) (hcell : ∀ i, i < zs.length → w.cell? (x.add i) = some (.int .u8 (zs.getD i 0))) :
    Seq w.heap.size w (.slice (some x) len cap) (zs.take len) := by
  have hlen : (zs.take len).length = len := by simp; omega
  refine ⟨some x, cap, by rw [hlen], by omega, hm, by simp, fun hne => ?_⟩
  have hpos : 0 < len := by
    rcases Nat.eq_zero_or_pos len with h | h
    · subst h; simp at hne
    · exact h
  obtain ⟨b, off, hx, hc⟩ := ints_at hcell (by omega)
  subst hx
  refine ⟨b, off, rfl, ?_, fun j hj => ?_⟩
  · have := World.block_lt_of_cell? _ _ (hc 0 (by omega)); simpa using this
  · rw [hc j (by omega)]
    simp [show j < len by omega]

/-- A slice of bytes that came in: what it reads as, and that its bytes are bytes. -/
theorem open_bytes {H : Type} {enc : TypeId × Value → H} {W : World} {d : DataW H} {p : List MemPlace} {a : Option Addr} {len cap : Nat}
    (h : ∃ fuel, DataW.trod enc Tryz.prog W 0 (fun _ => true) true fuel 32 [.slice a len cap] = some (d, p)) :
    ∃ bs, Seq W.heap.size W (.slice a len cap) bs ∧ Byt bs := by
  obtain ⟨fuel, hf⟩ := h
  rcases open_ints Tryz.underlying32 Tryz.underlying5 (by kernel_rfl) hf with ⟨hcs, _⟩ | ⟨x, l, c, zs, hcs, _, hl, hm, hz, _, hcell, hwz⟩
  · simp at hcs
    obtain ⟨rfl, rfl, rfl⟩ := hcs
    exact ⟨[], seq_nil _ _, fun x hx => by simp at hx⟩
  · simp at hcs
    obtain ⟨rfl, rfl, rfl⟩ := hcs
    exact ⟨zs.take len, seq_of_ints hl hm (by simpa using hz) hcell, fun y hy => bounds_u8 (hwz y (List.mem_of_mem_take hy))⟩

theorem gdrewN (w : World) (n : Nat) : w.grownBy (w.drewN n) none := ⟨rfl, rfl, rfl, Nat.le_refl _, fun _ _ _ => rfl⟩
theorem ret_int {k : IntKind} {a b : Int} (h : a = b) : Ending.returned (.int k a) = .returned (.int k b) := by rw [h]
theorem own_base {w : World} {b b' size n : Nat} {e : TypeId} {v : Value} {xs : List Value} (h : w.ownsRow b e size v n xs) (k : b' ≤ b) : w.ownsRow b' e size v n xs :=
  ⟨h.1, h.2.imp id fun ⟨g, cap, cur, hv, hb, rest⟩ => ⟨g, cap, cur, hv, Nat.le_trans k hb, rest⟩⟩


end Go.Proofs.YtildjdhoeilcfaaGreat

namespace Go.Proofs.YtildjdhoeilcfaaGreat
open Go.RowKit

/-- Block k holds cells of type t. -/
def TagIs (w : World) (k : Nat) (t : TypeId) : Prop := ∃ cs f, w.heap[k]? = some (.cells cs t f)
theorem TagIs.uniq {w : World} {k : Nat} {s t : TypeId} (h : TagIs w k s) (g : TagIs w k t) : s = t := by
  obtain ⟨_, _, h⟩ := h; obtain ⟨_, _, g⟩ := g; rw [h] at g; injection g with g; injection g
/-- Block k is one of a disk's own. -/
def Dtag (w : World) (k : Nat) : Prop := ∃ t, TagIs w k t ∧ (t = 112 ∨ t = 146 ∨ t = 143)
theorem Dtag.of {w : World} {k : Nat} {t : TypeId} (h : TagIs w k t) (ht : t = 112 ∨ t = 146 ∨ t = 143) : Dtag w k := ⟨t, h, ht⟩
theorem Dtag.no {w : World} {k : Nat} {t : TypeId} (h : TagIs w k t) (ht : ¬ (t = 112 ∨ t = 146 ∨ t = 143)) : ¬ Dtag w k := fun ⟨s, g, e⟩ => ht (h.uniq g ▸ e)

/-- What a disk's call leaves as it was: all below B, and all that isn't a disk's own. -/
structure Dfr (B : Nat) (w w' : World) : Prop where
  os : w'.os = w.os
  tape : w'.tape = w.tape
  output : w'.output = w.output
  size : w.heap.size ≤ w'.heap.size
  block : ∀ k, k < w.heap.size → (k < B ∨ ¬ Dtag w k) → w'.heap[k]? = w.heap[k]?
theorem Dfr.refl (B : Nat) (w : World) : Dfr B w w := ⟨rfl, rfl, rfl, Nat.le_refl _, fun _ _ _ => rfl⟩
theorem Dtag.same {w w' : World} {k : Nat} (h : w'.heap[k]? = w.heap[k]?) : Dtag w' k → Dtag w k := fun ⟨t, ⟨cs, f, g⟩, e⟩ => ⟨t, ⟨cs, f, h ▸ g⟩, e⟩
theorem Dfr.trans {B : Nat} {a b c : World} (h : Dfr B a b) (k : Dfr B b c) : Dfr B a c :=
  ⟨k.os.trans h.os, k.tape.trans h.tape, k.output.trans h.output, Nat.le_trans h.size k.size, fun i hi hc => by
    have h1 := h.block i hi hc
    exact (k.block i (Nat.lt_of_lt_of_le hi h.size) (hc.imp id fun hn g => hn (g.same h1))).trans h1⟩
theorem Dfr.mono {B B' : Nat} {w w' : World} (h : Dfr B w w') (k : B' ≤ B) : Dfr B' w w' :=
  ⟨h.os, h.tape, h.output, h.size, fun i hi hc => h.block i hi (hc.imp (fun g => Nat.lt_of_lt_of_le g k) id)⟩
theorem dfr_new {B : Nat} {w w' : World} (h : w.grownBy w' none) : Dfr B w w' := ⟨h.os, h.tape, h.output, h.size, fun k hk _ => h.block k hk (by simp)⟩
theorem dfr_row {B : Nat} {w w' : World} {row : Option Nat} (h : w.grownBy w' row) (hr : ∀ k, row = some k → B ≤ k ∧ Dtag w k) : Dfr B w w' :=
  ⟨h.os, h.tape, h.output, h.size, fun k hk hc => h.block k hk fun e => by
    obtain ⟨h1, h2⟩ := hr k e.symm
    rcases hc with hc | hc
    · omega
    · exact hc h2⟩
theorem Dfr.below {B : Nat} {w w' : World} (h : Dfr B w w') (hB : B ≤ w.heap.size) : Below B w w' := ⟨h.os, h.tape, h.output, h.size, fun k hk => h.block k (by omega) (.inl hk)⟩

/-- The row's block holds such elements. -/
theorem own_tag {w : World} {base size n : Nat} {e : TypeId} {v : Value} {xs : List Value} (h : w.ownsRow base e size v n xs) : ∀ k, v.ownBlock = some k → base ≤ k ∧ k < w.heap.size ∧ TagIs w k e := by
  intro k hk
  rcases h.2 with ⟨rfl, _⟩ | ⟨g, cap, cur, rfl, hb, hg, _⟩
  · simp [Value.ownBlock] at hk
  · simp [Value.ownBlock] at hk
    subst hk
    exact ⟨hb, lt_of_block hg, cur, _, hg⟩
/-- A row is left as it was where a row of other elements is written to. -/
theorem own_far {w w' : World} {base size n : Nat} {e t : TypeId} {v : Value} {xs : List Value} {row : Option Nat} (h : w.ownsRow base e size v n xs) (hg : w.grownBy w' row) (hr : ∀ k, row = some k → TagIs w k t) (ht : t ≠ e) : w'.ownsRow base e size v n xs := by
  refine h.kept hg ?_
  cases hv : v.ownBlock with
  | none => exact .inl rfl
  | some k =>
    refine .inr fun e' => ht ((hr k e'.symm).uniq (own_tag h k hv).2.2)
theorem Dfr.own {B : Nat} {w w' : World} {base size n : Nat} {e : TypeId} {v : Value} {xs : List Value} (hd : Dfr B w w') (h : w.ownsRow base e size v n xs) (ht : ¬ (e = 112 ∨ e = 146 ∨ e = 143)) : w'.ownsRow base e size v n xs := by
  refine ⟨h.1, ?_⟩
  rcases h.2 with hn | ⟨g, cap, cur, rfl, hb, hgg, rest⟩
  · exact .inl hn
  · exact .inr ⟨g, cap, cur, rfl, hb, (hd.block g (lt_of_block hgg) (.inr (Dtag.no ⟨cur, _, hgg⟩ ht))).trans hgg, rest⟩
/-- A page's bytes. -/
def Own8 (B : Nat) (w : World) (n : Nat) (v : Value) (bs : List Int) : Prop := w.ownsRow B 5 1 v n (bs.map (Value.int .u8))
theorem Own8.len {B n : Nat} {w : World} {v : Value} {bs : List Int} (h : Own8 B w n v bs) : bs.length = n := by simpa using h.1
theorem Own8.seq {B n : Nat} {w : World} {v : Value} {bs : List Int} (h : Own8 B w n v bs) : Seq w.heap.size w v bs := Seq.owned1 h.len h

/-- The disk. -/
structure SM where
  size : Nat
  limit : Nat
  pg : List (List Int × List Int)
  loose : List (Nat × List Int)
  fails : Bool
  ahead : Int
  calls : Nat
  once : Bool

def dbox (M : SM) (pv lv nv : Value) : Array Value :=
  #[.int .i64 (M.size : Int), .int .i64 (M.limit : Int), pv, lv, .int .i64 (M.calls : Int), .bool M.fails, .int .i64 M.ahead, .int .u32 (if M.once then 1 else 0), .int .i32 0, .int .u32 0, nv]

abbrev PgV := (Value × Value) × (List Int × List Int)
abbrev LoV := Nat × (Value × List Int)
def pcells (ps : List PgV) : List Value := ps.flatMap fun y => [y.1.1, y.1.2]
def wcells (ls : List LoV) : List Value := ls.flatMap fun y => [.int .i64 (y.1 : Int), y.2.1]

/-- The disk's rows: pages, loose writes, noughts. -/
structure Rws (B : Nat) (w : World) (n : Nat) (pv lv nv : Value) (ps : List PgV) (ls : List LoV) (once : Bool) : Prop where
  pown : w.ownsRow B 146 2 pv ps.length (pcells ps)
  pall : ∀ y ∈ ps, Own8 B w n y.1.1 y.2.1 ∧ Own8 B w n y.1.2 y.2.2
  lown : w.ownsRow B 143 2 lv ls.length (wcells ls)
  lall : ∀ y ∈ ls, Own8 B w n y.2.1 y.2.2
  nown : if once then Own8 B w n nv (List.replicate n 0) else nv = .slice none 0 0

theorem Own8.far {B n : Nat} {w w' : World} {v : Value} {bs : List Int} {t : TypeId} {row : Option Nat} (h : Own8 B w n v bs) (hg : w.grownBy w' row) (hr : ∀ k, row = some k → TagIs w k t) (ht : t ≠ 5) : Own8 B w' n v bs := own_far h hg hr ht

/-- The rows stand where the box is written to. -/
theorem Rws.far {B n : Nat} {w w' : World} {pv lv nv : Value} {ps : List PgV} {ls : List LoV} {once : Bool} {row : Option Nat} (h : Rws B w n pv lv nv ps ls once) (hg : w.grownBy w' row) (hr : ∀ k, row = some k → TagIs w k 112) : Rws B w' n pv lv nv ps ls once where
  pown := own_far h.pown hg hr (by decide)
  pall := fun y hy => ⟨(h.pall y hy).1.far hg hr (by decide), (h.pall y hy).2.far hg hr (by decide)⟩
  lown := own_far h.lown hg hr (by decide)
  lall := fun y hy => (h.lall y hy).far hg hr (by decide)
  nown := by
    have := h.nown
    cases once
    · exact this
    · exact Own8.far (this : Own8 _ _ _ _ _) hg hr (by decide)
theorem Rws.new {B n : Nat} {w w' : World} {pv lv nv : Value} {ps : List PgV} {ls : List LoV} {once : Bool} (h : Rws B w n pv lv nv ps ls once) (hg : w.grownBy w' none) : Rws B w' n pv lv nv ps ls once := h.far hg (fun k e => by simp at e)
theorem Rws.mono {B B' n : Nat} {w : World} {pv lv nv : Value} {ps : List PgV} {ls : List LoV} {once : Bool} (h : Rws B w n pv lv nv ps ls once) (k : B' ≤ B) : Rws B' w n pv lv nv ps ls once where
  pown := own_base h.pown k
  pall := fun y hy => ⟨own_base (h.pall y hy).1 k, own_base (h.pall y hy).2 k⟩
  lown := own_base h.lown k
  lall := fun y hy => own_base (h.lall y hy) k
  nown := by
    have := h.nown
    cases once
    · exact this
    · exact own_base (this : Own8 _ _ _ _ _) k

/-- The disk M lies in block d, all of it from block B on. -/
def DskAt (B : Nat) (w : World) (d : Nat) (M : SM) : Prop :=
  ∃ pv lv nv ps ls, B ≤ d ∧ w.heap[d]? = some (.cells (dbox M pv lv nv) 112 (0, 0)) ∧ Rws B w M.size pv lv nv ps ls M.once ∧ M.pg = ps.map (·.2) ∧ M.loose = ls.map (fun y => (y.1, y.2.2))
theorem DskAt.new {B d : Nat} {w w' : World} {M : SM} (h : DskAt B w d M) (hg : w.grownBy w' none) : DskAt B w' d M := by
  obtain ⟨pv, lv, nv, ps, ls, h1, h2, h3, h4, h5⟩ := h
  exact ⟨pv, lv, nv, ps, ls, h1, (hg.block d (lt_of_block h2) (by simp)).trans h2, h3.new hg, h4, h5⟩
theorem DskAt.mono {B B' d : Nat} {w : World} {M : SM} (h : DskAt B w d M) (k : B' ≤ B) : DskAt B' w d M := by
  obtain ⟨pv, lv, nv, ps, ls, h1, h2, h3, h4, h5⟩ := h
  exact ⟨pv, lv, nv, ps, ls, by omega, h2, h3.mono k, h4, h5⟩
theorem DskAt.lt {B d : Nat} {w : World} {M : SM} (h : DskAt B w d M) : d < w.heap.size := by
  obtain ⟨pv, lv, nv, ps, ls, h1, h2, h3, h4, h5⟩ := h
  exact lt_of_block h2

/-- The box's cells. -/
theorem cells11 {W : World} {q : Nat} {x0 x1 x2 x3 x4 x5 x6 x7 x8 x9 x10 : Value} {t : TypeId} (h : W.heap[q]? = some (.cells #[x0, x1, x2, x3, x4, x5, x6, x7, x8, x9, x10] t (0, 0))) :
    (W.cell? ⟨q, 0, none⟩ = some x0 ∧ W.cell? ⟨q, 1, none⟩ = some x1 ∧ W.cell? ⟨q, 2, none⟩ = some x2 ∧ W.cell? ⟨q, 3, none⟩ = some x3 ∧ W.cell? ⟨q, 4, none⟩ = some x4 ∧ W.cell? ⟨q, 5, none⟩ = some x5 ∧ W.cell? ⟨q, 6, none⟩ = some x6 ∧ W.cell? ⟨q, 7, none⟩ = some x7 ∧ W.cell? ⟨q, 8, none⟩ = some x8 ∧ W.cell? ⟨q, 9, none⟩ = some x9 ∧ W.cell? ⟨q, 10, none⟩ = some x10) := by
  refine ⟨?_, ?_, ?_, ?_, ?_, ?_, ?_, ?_, ?_, ?_, ?_⟩ <;> simp [World.cell?, h]
theorem free11 {W : World} {q : Nat} {cs : Array Value} {t : TypeId} (h : W.heap[q]? = some (.cells cs t (0, 0))) (j : Nat) : W.frozen? ⟨q, j, none⟩ = false := by
  simp [World.frozen?, h]
theorem set_box {W : World} {q : Nat} {cs : Array Value} {t : TypeId} (h : W.heap[q]? = some (.cells cs t (0, 0))) (j : Nat) (u : Value) : (W.setCell ⟨q, j, none⟩ u).heap[q]? = some (.cells (cs.setIfInBounds j u) t (0, 0)) := heap_setCell_same _ q j _ t u h

end Go.Proofs.YtildjdhoeilcfaaGreat

namespace Go.Proofs.YtildjdhoeilcfaaGreat

theorem iadd_any (a : Addr) (x : Int) (w : World) (hc : w.cell? (a.add 0) = some (.int .i64 x)) (h0 : a.add 0 = a) (hz : w.frozen? a = false) (h1 : 0 ≤ x) (h2 : x < 9223372036854775807) :
    Calls Tryz.prog 130 #[.pointer (some a), .int .i64 1] w fun r w' => r = .returned (.int .i64 (x + 1)) ∧ w.setCell a (.int .i64 (x + 1)) = w' := by
  rw [h0] at hc
  have hadd := run_call_add (P := Tryz.prog) Tryz.func179 (by kernel_rfl) (by kernel_rfl) (by kernel_rfl) .i64 (by kernel_rfl) (y := 1) (s := x + 1) hc hz (by
    have e : IntKind.i64.wrap (x + 1) = x + 1 := IntWalk.i64_in _ (by omega)
    simp [go_sem, e])
  go_enter Tryz.func130, Tryz.ntmps130
  go_wp2
  go_ret
  exact ⟨rfl, rfl⟩

theorem disable (w : World) : (callFunc 291 #[]).run Tryz.prog w = .ok (.value (.tuple #[])) w := run_call_mark0 Tryz.func291 (by kernel_rfl) (by kernel_rfl) (by kernel_rfl) .disable (by kernel_rfl) w
theorem enable (w : World) : (callFunc 293 #[]).run Tryz.prog w = .ok (.value (.tuple #[])) w := run_call_mark0 Tryz.func293 (by kernel_rfl) (by kernel_rfl) (by kernel_rfl) .enable (by kernel_rfl) w
theorem acquire (a : Addr) (w : World) : (callFunc 294 #[.pointer (some a)]).run Tryz.prog w = .ok (.value (.tuple #[])) w := run_call_marked Tryz.func294 (by kernel_rfl) (by kernel_rfl) (by kernel_rfl) .acquire (by kernel_rfl) a w
theorem releaseMerge (a : Addr) (w : World) : (callFunc 296 #[.pointer (some a)]).run Tryz.prog w = .ok (.value (.tuple #[])) w := run_call_marked Tryz.func296 (by kernel_rfl) (by kernel_rfl) (by kernel_rfl) .releaseMerge (by kernel_rfl) a w

set_option maxRecDepth 100000 in
/-- 'Store(true)' of an atomic.Bool, deferred: the cell holds 1. -/
theorem store_deferred (a : Addr) (x : Value) (u : FrameMode) (w : World) (hc : w.cell? a = some x) (hz : w.frozen? a = false) :
    CallsD Tryz.prog 285 #[.pointer (some a), .bool true] u w fun e u' w' => u' = u ∧ (e = .returned (.tuple #[]) ∧ w' = w.drew.setCell a (.int .u32 1)) := by
  have hc' : w.drew.cell? a = some x := by go_simp
  have hz' : w.drew.frozen? a = false := by go_simp
  have hst := run_call_store (P := Tryz.prog) Tryz.func289 (by kernel_rfl) (by kernel_rfl) (by kernel_rfl) (by kernel_rfl) (k := .u32) (y := 1) hc' hz'
  go_enter_d Tryz.func285, Tryz.ntmps285
  go_wp2
  go_region_calls
  all_goals (go_end0; exact ⟨rfl, rfl⟩)

set_option maxRecDepth 100000 in
set_option maxHeartbeats 1600000 in
/-- 'Unlock', deferred, the lock held and nobody waiting. -/
theorem unlock_deferred (a : Addr) (u : FrameMode) (w : World) (hc : w.cell? a = some (.int .i32 1)) (hz : w.frozen? a = false) :
    CallsD Tryz.prog 284 #[.pointer (some a)] u w fun e u' w' => u' = u ∧ (e = .returned (.tuple #[]) ∧ w' = w.setCell a (.int .i32 0)) := by
  have hd := disable
  have he := enable
  have hr := releaseMerge
  have hadd := run_call_add (P := Tryz.prog) Tryz.func297 (by kernel_rfl) (by kernel_rfl) (by kernel_rfl) .i32 (by kernel_rfl) (y := -1) (s := 0) hc hz (by simp [go_sem]; rfl)
  have hcv := run_convert_to_unsafe (P := Tryz.prog) (src := 397) (dst := 401) Tryz.underlying397 Tryz.underlying401 (by kernel_rfl) hc
  go_enter_d Tryz.func284, Tryz.ntmps284
  go_wp2
  go_end0
  go_wp2
  go_end0
  exact ⟨rfl, rfl⟩

set_option maxRecDepth 100000 in
set_option maxHeartbeats 1600000 in
/-- 'Lock', the lock free. -/
theorem lock_free (a : Addr) (w : World) (hc : w.cell? a = some (.int .i32 0)) (hz : w.frozen? a = false) :
    Calls Tryz.prog 283 #[.pointer (some a)] w fun e w' => e = .returned (.tuple #[]) ∧ w' = w.setCell a (.int .i32 1) := by
  have hd := disable
  have he := enable
  have ha := acquire
  have hcas := run_call_cas_hit (P := Tryz.prog) Tryz.func292 (by kernel_rfl) (by kernel_rfl) (by kernel_rfl) .i32 (by kernel_rfl) (y := 1) hc hz
  have hc' : (w.setCell a (.int .i32 1)).cell? a = some (.int .i32 1) := World.cell?_setCell_same w a _ hc
  have hcv := run_convert_to_unsafe (P := Tryz.prog) (src := 397) (dst := 401) Tryz.underlying397 Tryz.underlying401 (by kernel_rfl) hc'
  go_enter Tryz.func283, Tryz.ntmps283
  go_wp2
  first | go_end0 | (simp only [Exit.inBlock, Exit.then]; refine bodyPost_ret (results_none rfl _ _ _) rfl ?_) | refine bodyPost_ret (results_none rfl _ _ _) rfl ?_
  go_wp2
  go_end0
  exact ⟨rfl, rfl⟩

end Go.Proofs.YtildjdhoeilcfaaGreat

namespace Go.Proofs.YtildjdhoeilcfaaGreat
open Go.RowKit

def Same (w' w : World) : Prop := w'.heap = w.heap ∧ w'.os = w.os ∧ w'.tape = w.tape ∧ w'.output = w.output
theorem Same.grown {a b c : World} {row : Option Nat} (h : Same c b) (g : a.grownBy b row) : a.grownBy c row :=
  ⟨h.2.1.trans g.os, h.2.2.1.trans g.tape, h.2.2.2.trans g.output, by rw [h.1]; exact g.size, fun k hk hn => by rw [h.1]; exact g.block k hk hn⟩

theorem keep_alloc1 {w : World} {i : Nat} {x : Obj} (h : w.heap[i]? = some x) (o : Obj) : (w.alloc o).heap[i]? = some x := (Below.heap_alloc w o i (lt_of_block h)).trans h

theorem bload_any (a : Addr) (x : Int) (w : World) (hc : w.cell? a = some (.int .u32 x)) :
    Calls Tryz.prog 274 #[.pointer (some a)] w fun r w' => r = .returned (.bool (x != 0)) ∧ w = w' := by
  have hl := run_call_load (P := Tryz.prog) Tryz.func282 (by kernel_rfl) (by kernel_rfl) (by kernel_rfl) .u32 (by kernel_rfl) hc
  go_enter Tryz.func274, Tryz.ntmps274
  go_wp2
  go_ret
  exact ⟨rfl, rfl⟩

set_option maxRecDepth 100000 in
set_option maxHeartbeats 1000000 in
theorem blank1_any (pl : Addr) (d n : Nat) (x1 x2 x3 x4 x5 x6 x7 x8 x9 x10 : Value) (w : World) (hp : w.cell? pl = some (.pointer (some ⟨d, 0, none⟩))) (hn : n ≤ 4096)
    (hb : w.heap[d]? = some (.cells #[.int .i64 (n : Int), x1, x2, x3, x4, x5, x6, x7, x8, x9, x10] 112 (0, 0))) :
    Calls Tryz.prog 253 #[.pointer (some pl)] w fun e w' => e = .returned (.tuple #[]) ∧ Same w' ((w.alloc (.cells (madeCells #[Value.int .u8 0] n) 5)).setCell ⟨d, 10, none⟩ (.slice (some ⟨w.heap.size, 0, none⟩) n n)) := by
  have hmk := run_make_row' (P := Tryz.prog) 32 5 (.int .u8 0) 1 Tryz.underlying32 infoU8 rfl .i64 .i64 n (by omega) (by omega)
  have c0 := (cells11 hb).1
  have c10 : (w.alloc (.cells (madeCells #[Value.int .u8 0] n) 5)).cell? ⟨d, 10, none⟩ = some x10 := cell_alloc (cells11 hb).2.2.2.2.2.2.2.2.2.2
  have f10 : (w.alloc (.cells (madeCells #[Value.int .u8 0] n) 5)).frozen? ⟨d, 10, none⟩ = false := free11 ((Below.heap_alloc w _ d (lt_of_block hb)).trans hb) 10
  have hp2 : (w.alloc (.cells (madeCells #[Value.int .u8 0] n) 5)).cell? pl = some (.pointer (some ⟨d, 0, none⟩)) := cell_alloc hp
  have c02 : (w.alloc (.cells (madeCells #[Value.int .u8 0] n) 5)).cell? ⟨d, 0, none⟩ = some (.int .i64 (n : Int)) := cell_alloc c0
  go_enter Tryz.func253, Tryz.ntmps253
  go_wp2
  go_region
  all_goals (go_end0; exact ⟨rfl, rfl, rfl, rfl, rfl⟩)

/-- What 'doSlow' leaves. -/
def SlowP (w : World) (d n : Nat) (x1 x2 x3 x4 x5 x6 x9 : Value) (e : Ending) (w' : World) : Prop :=
  ∃ v, e = .returned (.tuple #[]) ∧ w'.heap[d]? = some (.cells #[.int .i64 (n : Int), x1, x2, x3, x4, x5, x6, .int .u32 1, .int .i32 0, x9, v] 112 (0, 0)) ∧ Own8 w.heap.size w' n v (List.replicate n 0) ∧ w.grownBy w' (some d)

set_option maxRecDepth 100000 in
set_option maxHeartbeats 2000000 in
theorem slow_any (pl : Addr) (d n : Nat) (hpd : pl.block ≠ d) (x1 x2 x3 x4 x5 x6 x9 x10 : Value) (w : World) (hp : w.cell? pl = some (.pointer (some ⟨d, 0, none⟩))) (hn : n ≤ 4096)
    (hb : w.heap[d]? = some (.cells #[.int .i64 (n : Int), x1, x2, x3, x4, x5, x6, .int .u32 0, .int .i32 0, x9, x10] 112 (0, 0))) :
    Calls Tryz.prog 275 #[.pointer (some ⟨d, 7, none⟩), .func (.func 253) #[] #[.pointer (some pl)]] w (SlowP w d n x1 x2 x3 x4 x5 x6 x9) := by
  have hlt := lt_of_block hb
  have b1 : (w.setCell ⟨d, 8, none⟩ (.int .i32 1)).heap[d]? = some (.cells #[.int .i64 (n : Int), x1, x2, x3, x4, x5, x6, .int .u32 0, .int .i32 1, x9, x10] 112 (0, 0)) := set_box hb 8 _
  have HB1 := Lib.hid b1
  have h7 := (cells11 b1).2.2.2.2.2.2.2.1
  have h8 := (cells11 hb).2.2.2.2.2.2.2.2.1
  have f8 := free11 hb 8
  have hp1 : (w.setCell ⟨d, 8, none⟩ (.int .i32 1)).cell? pl = some (.pointer (some ⟨d, 0, none⟩)) := (World.cell?_setCell_other _ ⟨d, 8, none⟩ pl _ (fun h => hpd (by rw [← h]))).trans hp
  have hnot : ∀ (x : Bool) (w : World), (Op.unary .not (.bool x)).run Tryz.prog w = .ok (.bool (!x)) w := fun _ _ => rfl
  clear hb b1
  go_enter_defers Tryz.func275, Tryz.ntmps275
  go_wp2_with (first
    | (go_at_call 283; refine (lock_free ⟨d, 8, none⟩ _ h8 f8).mono ?_; rintro e w' ⟨rfl, rfl⟩)
    | (go_at_call 274; refine (bload_any ⟨d, 7, none⟩ 0 _ h7).mono ?_; rintro e w' ⟨rfl, rfl⟩)
    | (go_at_call 253; refine (blank1_any pl d n x1 x2 x3 x4 x5 x6 _ _ x9 x10 _ hp1 hn HB1.out).mono ?_; rintro e w3 ⟨rfl, hal⟩))
  obtain ⟨q, hq⟩ : ∃ q, q = w.heap.size := ⟨_, rfl⟩
  have hsz : (w.setCell ⟨d, 8, none⟩ (.int .i32 1)).heap.size = q := by rw [hq]; simp [World.setCell]
  rw [hsz] at hal
  have ha3 : w3.heap[d]? = some (.cells #[.int .i64 (n : Int), x1, x2, x3, x4, x5, x6, .int .u32 0, .int .i32 1, x9, .slice (some ⟨q, 0, none⟩) n n] 112 (0, 0)) := by
    rw [hal.1]; exact set_box (keep_alloc1 HB1.out _) 10 _
  have hq3 : w3.heap[q]? = some (.cells (madeCells #[Value.int .u8 0] n) 5 (0, 0)) := by
    rw [hal.1, ← hsz]
    exact (heap_setCell_other _ _ _ _ (by rw [hsz, hq]; show w.heap.size ≠ d; omega)).trans (heap_alloc_new _ _)
  have hg3 : w.grownBy w3 (some d) := hal.grown (gtrans (gset w ⟨d, 8, none⟩ _) (gtrans (World.grownBy_alloc _ _ _) (gset _ ⟨d, 10, none⟩ _)))
  have HA := Lib.hid ha3
  have HQ := Lib.hid hq3
  have HG := Lib.hid hg3
  clear hal hsz ha3 hq3 hg3
  go_wp2
  have b7 := (cells11 HA.out).2.2.2.2.2.2.2.1
  have k7 : (w3.drew.setCell ⟨d, 7, none⟩ (.int .u32 1)).heap[d]? = some (.cells #[.int .i64 (n : Int), x1, x2, x3, x4, x5, x6, .int .u32 1, .int .i32 1, x9, .slice (some ⟨q, 0, none⟩) n n] 112 (0, 0)) := set_box (W := w3.drew) HA.out 7 _
  refine leaves_cons (f := 285) (args := #[.pointer (some ⟨d, 7, none⟩), .bool true]) (by simp) (by simp [go_sem]) ?_
  refine (store_deferred ⟨d, 7, none⟩ (.int .u32 0) .returning _ b7 (free11 HA.out 7)).mono ?_
  rintro e u' w'' ⟨rfl, rfl, rfl⟩
  refine leaves_cons (f := 284) (args := #[.pointer (some ⟨d, 8, none⟩)]) (by simp [settle]) (by simp [go_sem]) ?_
  refine (unlock_deferred ⟨d, 8, none⟩ _ _ (cells11 k7).2.2.2.2.2.2.2.2.1 (free11 k7 8)).mono ?_
  rintro e u' w'' ⟨rfl, rfl, rfl⟩
  have HK := Lib.hid (set_box k7 8 (.int .i32 0))
  have hfin : SlowP w d n x1 x2 x3 x4 x5 x6 x9 (.returned (.tuple #[])) ((w3.drew.setCell ⟨d, 7, none⟩ (.int .u32 1)).setCell ⟨d, 8, none⟩ (.int .i32 0)) := by
    have hdq : q ≠ d := by omega
    refine ⟨_, rfl, HK.out, ?_, gtrans HG.out (gtrans (gwide (gdrew w3)) (gtrans (gset _ ⟨d, 7, none⟩ _) (gset _ ⟨d, 8, none⟩ _)))⟩
    have hq4 : ((w3.drew.setCell ⟨d, 7, none⟩ (.int .u32 1)).setCell ⟨d, 8, none⟩ (.int .i32 0)).heap[q]? = some (.cells (madeCells #[Value.int .u8 0] n) 5 (0, 0)) :=
      (heap_setCell_other _ _ _ _ hdq).trans ((heap_setCell_other _ _ _ _ hdq).trans HQ.out)
    refine ⟨by simp, .inr ⟨q, n, _, rfl, by omega, hq4, Nat.le_refl _, by unfold maxLen; omega, by rw [size_madeCells, Nat.mul_one], ?_⟩⟩
    rw [toList_madeCells_one, Nat.mul_one, List.map_replicate, List.take_of_length_le (by simp)]
  have HF := Lib.hid hfin
  clear hfin
  clear HK k7 b7 HA HQ HG
  generalize ((w3.drew.setCell ⟨d, 7, none⟩ (.int .u32 1)).setCell ⟨d, 8, none⟩ (.int .i32 0)) = wz at HF ⊢
  have hr := HF.out
  have HR : Hid (∀ e, e = .returned (.tuple #[]) → SlowP w d n x1 x2 x3 x4 x5 x6 x9 e wz) := Lib.hid (fun e he => by rw [he]; exact hr)
  clear HF hr
  generalize SlowP w d n x1 x2 x3 x4 x5 x6 x9 = PP at HR ⊢
  have hgo : PP (.returned (.tuple #[])) wz := HR.out _ rfl
  simp [Leaves, settle, results, Tryz.results275, hgo]

/-- 'Do', not yet done. -/
theorem do_first (pl : Addr) (d n : Nat) (hpd : pl.block ≠ d) (x1 x2 x3 x4 x5 x6 x9 x10 : Value) (w : World) (hp : w.cell? pl = some (.pointer (some ⟨d, 0, none⟩))) (hn : n ≤ 4096)
    (hb : w.heap[d]? = some (.cells #[.int .i64 (n : Int), x1, x2, x3, x4, x5, x6, .int .u32 0, .int .i32 0, x9, x10] 112 (0, 0))) :
    Calls Tryz.prog 252 #[.pointer (some ⟨d, 7, none⟩), .func (.func 253) #[] #[.pointer (some pl)]] w (SlowP w d n x1 x2 x3 x4 x5 x6 x9) := by
  have h7 := (cells11 hb).2.2.2.2.2.2.2.1
  have hnot : ∀ (x : Bool) (w : World), (Op.unary .not (.bool x)).run Tryz.prog w = .ok (.bool (!x)) w := fun _ _ => rfl
  have HB := Lib.hid hb
  clear hb
  go_enter Tryz.func252, Tryz.ntmps252
  go_wp2_with (first
    | (go_at_call 274; refine (bload_any ⟨d, 7, none⟩ 0 _ h7).mono ?_; rintro e w' ⟨rfl, rfl⟩)
    | (go_at_call 275; refine (slow_any pl d n hpd x1 x2 x3 x4 x5 x6 x9 x10 _ hp hn HB.out).mono ?_; rintro e w3 ⟨v, rfl, h1, h2, h3⟩; have H1 := Lib.hid h1; have H2 := Lib.hid h2; have H3 := Lib.hid h3; clear h1 h2 h3))
  go_end0
  exact ⟨v, rfl, H1.out, H2.out, H3.out⟩

/-- 'Do', done already. -/
theorem do_done (d : Nat) (x : Int) (hx : (x != 0) = true) (fv : Value) (w : World) (h7 : w.cell? ⟨d, 7, none⟩ = some (.int .u32 x)) :
    Calls Tryz.prog 252 #[.pointer (some ⟨d, 7, none⟩), fv] w fun e w' => e = .returned (.tuple #[]) ∧ w = w' := by
  have hnot : ∀ (x : Bool) (w : World), (Op.unary .not (.bool x)).run Tryz.prog w = .ok (.bool (!x)) w := fun _ _ => rfl
  go_enter Tryz.func252, Tryz.ntmps252
  go_wp2_with (first
    | (go_at_call 274; refine (bload_any ⟨d, 7, none⟩ x _ h7).mono ?_; rintro e w' ⟨rfl, rfl⟩))
  go_end0
  exact ⟨rfl, rfl⟩

end Go.Proofs.YtildjdhoeilcfaaGreat

namespace Go.Proofs.YtildjdhoeilcfaaGreat
open Go.RowKit

theorem join8 (x c : Int) (h0 : 0 ≤ x) (h1 : x < 72057594037927936) (h2 : 0 ≤ c) (h3 : c ≤ 255) : bits BinOp.or IntKind.u64 (IntKind.u64.wrap (x * 256)) (IntKind.u64.wrap c) = x * 256 + c := by
  rw [IntWalk.u64_in _ (by omega), IntWalk.u64_in _ (by omega), u64_or _ _ (by omega) (by omega) (by omega) (by omega), nat_join 8 _ _ (by omega) (by omega)]
  omega
theorem join7 (x c : Int) (h0 : 0 ≤ x) (h1 : x < 144115188075855872) (h2 : 0 ≤ c) (h3 : c ≤ 127) : bits BinOp.or IntKind.u64 (IntKind.u64.wrap (x * 128)) (IntKind.u64.wrap c) = x * 128 + c := by
  rw [IntWalk.u64_in _ (by omega), IntWalk.u64_in _ (by omega), u64_or _ _ (by omega) (by omega) (by omega) (by omega), nat_join 7 _ _ (by omega) (by omega)]
  omega
/-- 'c &^ 128' on a byte. -/
theorem low7 (c : Int) (h2 : 0 ≤ c) (h3 : c ≤ 255) : bits BinOp.andNot IntKind.u8 c 128 = c % 128 := by
  rw [u8_andNot _ _ h2 (by omega) (by omega) (by omega)]
  have : c.toNat &&& (255 - (128 : Int).toNat) = c.toNat % 128 := nat_mask7 _
  rw [this]; omega
/-- '128 | c' on a byte. -/
theorem high7 (c : Int) (h2 : 0 ≤ c) (h3 : c ≤ 255) : bits BinOp.or IntKind.u8 128 c = 128 + c % 128 := by
  rw [u8_or _ _ (by omega) (by omega) h2 (by omega)]
  have h : (128 : Int).toNat ||| c.toNat = 128 + c.toNat % 128 := by
    rcases Nat.lt_or_ge c.toNat 128 with h | h
    · have := nat_join 7 128 c.toNat (by omega) (by omega)
      have e : (128 : Int).toNat = 128 := rfl
      rw [e, this]; omega
    · have h2 : c.toNat = 128 ||| (c.toNat - 128) := by rw [nat_join 7 128 (c.toNat - 128) (by omega) (by omega)]; omega
      have e : (128 : Int).toNat = 128 := rfl
      rw [e]
      have h3 : 128 ||| c.toNat = c.toNat := by
        rw [h2, ← Nat.or_assoc, Nat.or_self]
      rw [h3]; omega
  rw [h]; omega

/-- The number that bytes are, the highest first. -/
def beVal (l : List Int) : Int := l.foldl (fun x c => x * 256 + c) 0
theorem beVal_snoc (l : List Int) (c : Int) : beVal (l ++ [c]) = beVal l * 256 + c := by simp [beVal]
theorem foldl_bound : ∀ (l : List Int) (x : Int) (m : Nat), Byt l → 0 ≤ x → x < 256 ^ m → 0 ≤ l.foldl (fun x c => x * 256 + c) x ∧ l.foldl (fun x c => x * 256 + c) x < 256 ^ (m + l.length)
  | [], x, m, _, h0, h1 => by simpa using ⟨h0, h1⟩
  | c :: l, x, m, hb, h0, h1 => by
    have hc := hb c (by simp)
    have := foldl_bound l (x * 256 + c) (m + 1) (fun y hy => hb y (by simp [hy])) (by omega) (by rw [Int.pow_succ]; omega)
    simpa [Nat.add_assoc, Nat.add_comm 1] using this
theorem beVal_bound (l : List Int) (h : Byt l) : 0 ≤ beVal l ∧ beVal l < 256 ^ l.length := by
  have := foldl_bound l 0 0 h (by omega) (by simp)
  simpa [beVal] using this
theorem pow256_mono (a d : Nat) : (0 : Int) < 256 ^ a ∧ (256 : Int) ^ a ≤ 256 ^ (a + d) := by
  have h0 : ∀ a : Nat, (0 : Int) < 256 ^ a := fun a => by
    induction a with
    | zero => simp
    | succ a ih => rw [Int.pow_succ]; omega
  refine ⟨h0 a, ?_⟩
  induction d with
  | zero => simp
  | succ d ih => rw [← Nat.add_assoc, Int.pow_succ]; have := h0 (a + d); omega
theorem beVal_lt (l : List Int) (h : Byt l) (k : Nat) (hk : l.length ≤ k) : beVal l < 256 ^ k :=
  Int.lt_of_lt_of_le (beVal_bound l h).2 (by
    have := (pow256_mono l.length (k - l.length)).2
    rwa [show l.length + (k - l.length) = k by omega] at this)

/-- What next tells: the rest, the error, the bytes. -/
def nx (bs : List Int) (e n : Int) (right : Bool) : List Int × Int × List Int :=
  if e ≠ 0 then (bs, e, []) else if right = false then (bs, 1, []) else if (bs.length : Int) < n then (bs, 10, []) else (bs.drop n.toNat, 0, bs.take n.toNat)

theorem nx_len (bs : List Int) (e n : Int) (r : Bool) : (nx bs e n r).2.2.length ≤ bs.length := by
  unfold nx; split
  · simp
  · split
    · simp
    · split
      · simp
      · simp; omega
theorem nx_rest (bs : List Int) (e n : Int) (r : Bool) : (nx bs e n r).1.length ≤ bs.length := by
  unfold nx; split
  · simp
  · split
    · simp
    · split
      · simp
      · simp
theorem nx_byt {bs : List Int} (h : Byt bs) (e n : Int) (r : Bool) : Byt (nx bs e n r).1 ∧ Byt (nx bs e n r).2.2 := by
  have h0 : Byt [] := fun x hx => by simp at hx
  unfold nx; split
  · exact ⟨h, h0⟩
  · split
    · exact ⟨h, h0⟩
    · split
      · exact ⟨h, h0⟩
      · exact ⟨h.drop _, h.take _⟩

end Go.Proofs.YtildjdhoeilcfaaGreat
