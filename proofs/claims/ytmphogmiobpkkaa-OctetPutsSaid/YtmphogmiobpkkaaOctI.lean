/-
  The document's example is what it says: awake tells true, and leaves all that was there as it was. Own work.
-/
import Derived.Test.YtmphogmiobpkkaaOctF
import Derived.Test.YtmphogmiobpkkaaOctH
import Derived.Lib.SlBytesConst
namespace Go.Proofs.Ytmphogmiobpkkaa
open Go.RowKit

theorem WrAt.row {w : World} {g : Nat} {bs : List Int} (h : WrAt w g bs) : ∀ k, rowAt w g = some k → k < w.heap.size := by
  obtain ⟨v, ho, hv⟩ := h
  intro k hk
  rw [rowAt_of hv] at hk
  exact (ho.lt k hk).2

/-- A block that is none of the Writer's keeps its cells. -/
theorem Seq.far {g : Nat} {w w' : World} {b o c : Nat} {bs : List Int} (hs : ∀ j, j < bs.length → w.cell? ⟨b, o + j, none⟩ = some (.int .u8 (bs.getD j 0))) (hc : bs.length ≤ c) (hm : c ≤ maxLen) (hb : b < w.heap.size) (hg : b ≠ g) (hr : rowAt w g ≠ some b) (h : Fw g w w') : Seq (b + 1) w' (.slice (some ⟨b, o, none⟩) bs.length c) bs :=
  ⟨_, c, rfl, hc, hm, by simp, fun _ => ⟨b, o, rfl, by omega, fun j hj => (World.cell?_of_block (w := w) (h.block b hb hg hr).1).trans (hs j hj)⟩⟩

theorem varB_300 : varB 300 = [130, 44] := by
  rw [varB, hiB_big (by omega), hiB_small (by omega)]; rfl
theorem varB_2 : varB 2 = [2] := by
  rw [varB, hiB_small (by omega)]; rfl
theorem numB_258 : numB 258 3 3 = [0, 1, 2] := by decide

theorem rowAt_alloc {w : World} {g : Nat} (h : g < w.heap.size) (o : Obj) : rowAt (w.alloc o) g = rowAt w g := by
  unfold rowAt; rw [Below.heap_alloc w o g h]

/-- A literal's row, laid behind the Writer, stays through the Writer's calls. -/
theorem lit_far {w : World} {g : Nat} {bs xs : List Int} (hw : WrAt w g bs) {C : Array Value} {t : TypeId} {fr : Nat × Nat} (hC : ∀ j, j < xs.length → C[j]? = some (.int .u8 (xs.getD j 0))) (hm : xs.length ≤ maxLen) :
    ∀ w', Fw g (w.alloc (.cells C t fr)) w' → Seq (w.heap.size + 1) w' (.slice (some ⟨w.heap.size, 0, none⟩) xs.length xs.length) xs := by
  have hlt := hw.lt
  intro w' hf
  refine Seq.far (g := g) (w := w.alloc (.cells C t fr)) (fun j hj => ?_) (Nat.le_refl _) hm (by simp) (by omega) ?_ hf
  · rw [Nat.zero_add, World.cell?_alloc_mark]; exact hC j hj
  · rw [rowAt_alloc hlt]
    intro e
    have := hw.row _ e
    omega

/-- What the call owns, some bytes: where they lie. -/
theorem own_at {w : World} {base n : Nat} {v : Value} {bs : List Int} (h : w.ownsRow base 5 1 v n (bs.map (Value.int .u8))) (hn : 0 < n) :
    ∃ b c, v = .slice (some ⟨b, 0, none⟩) n c ∧ b < w.heap.size ∧ ∀ j, j < n → w.cell? ⟨b, j, none⟩ = some (.int .u8 (bs.getD j 0)) := by
  have hl := h.1
  have h' := h
  rcases h.2 with ⟨rfl, h0⟩ | ⟨g, cap, cur, rfl, hb, hg, hc, hm, hs, ht⟩
  · omega
  · refine ⟨g, cap, rfl, lt_of_block hg, fun j hj => ?_⟩
    simp at hl
    rw [h'.cellAt j (by omega)]
    simp [List.getElem?_map, List.getElem?_eq_getElem (show j < bs.length by omega)]

/-- A slice of bytes as a string. -/
theorem seq_string {B : Nat} {w : World} {v : Value} {bs : List Int} (h : Seq B w v bs) : (convert 27 9 v).run Try.prog w = .ok (.string (strOfNums bs)) w := by
  obtain ⟨ao, c, rfl, h1, h2, h3, h4⟩ := h
  cases bs with
  | cons x xs =>
    obtain ⟨b, o, rfl, _, hc⟩ := h4 (by simp)
    exact run_convert_bytes_arg w 27 5 Try.underlying27 Try.underlying5 b o _ c (x :: xs) rfl hc 9 Try.underlying9
  | nil =>
    cases ao with
    | none => exact run_convert_bytes_nil w 27 5 Try.underlying27 Try.underlying5 0 c 9 Try.underlying9
    | some a =>
      have hl : (loadCells a 0).run Try.prog w = .ok (([] : List Int).map (Value.int .u8)).toArray w := by
        have := run_loadCells_list (P := Try.prog) w a [] (by intro j v hj; simp at hj)
        simpa using this
      rw [show ([] : List Int).length = 0 from rfl, run_convert_bytes_string w 27 9 5 _ 0 c Try.underlying27 Try.underlying5 Try.underlying9, run_bytesToString w _ 0 c [] hl, foldl_push_bytes]
      rfl

/-- Writes to a block that was not there yet. -/
theorem gnew {a b c : World} {row : Option Nat} {r : Nat} (h : a.grownBy b row) (k : b.grownBy c (some r)) (hr : a.heap.size ≤ r) : a.grownBy c row :=
  ⟨k.os.trans h.os, k.tape.trans h.tape, k.output.trans h.output, Nat.le_trans h.size k.size, fun i hi hn => (k.block i (Nat.lt_of_lt_of_le hi h.size) (by intro e; injection e with e; omega)).trans (h.block i hi hn)⟩

/-- A Reader that has just been made: its bytes lie in blocks from lo on. -/
def RdNew (w : World) (lo g : Nat) (bs : List Int) : Prop :=
  ∃ v, w.ownsRow lo 5 1 v bs.length (bs.map (Value.int .u8)) ∧ (∀ k, v.ownBlock = some k → k < g) ∧ w.heap[g]? = some (.cells #[v, .int .i64 0] 59 (0, 0))
theorem RdNew.rd {w : World} {lo g : Nat} {bs : List Int} (h : RdNew w lo g bs) : RdAt w g bs 0 := by
  obtain ⟨v, ho, hb, hg⟩ := h
  refine ⟨v, ?_, hg⟩
  obtain ⟨ao, c, hv, h1, h2, h3, h4⟩ := Seq.owned ho
  refine ⟨ao, c, hv, h1, h2, h3, fun hne => ?_⟩
  obtain ⟨b, o, ha, _, hc⟩ := h4 hne
  subst ha
  subst hv
  exact ⟨b, o, rfl, hb b rfl, hc⟩
theorem RdNew.kept {w w' : World} {lo g : Nat} {bs : List Int} (h : RdNew w lo g bs) (k : ∀ i, lo ≤ i → i ≤ g → w'.heap[i]? = w.heap[i]?) (hlo : lo ≤ g) : RdNew w' lo g bs := by
  obtain ⟨v, ho, hb, hg⟩ := h
  refine ⟨v, ⟨ho.1, ?_⟩, hb, (k g hlo (Nat.le_refl _)).trans hg⟩
  rcases ho.2 with h0 | ⟨r, cap, cur, rfl, hr, hh, rest⟩
  · exact .inl h0
  · exact .inr ⟨r, cap, cur, rfl, hr, (k r hr (Nat.le_of_lt (hb r rfl))).trans hh, rest⟩
set_option maxHeartbeats 400000 in
theorem newR_new (w : World) (B : Nat) (v : Value) (bs : List Int) (hs : Seq B w v bs) (hB : B ≤ w.heap.size) (hl : bs.length ≤ 140737488355328) :
    Calls Try.prog 18 #[v] w fun r w' => ∃ g, r = .returned (.pointer (some ⟨g, 0, none⟩)) ∧ w.heap.size ≤ g ∧ RdNew w' w.heap.size g bs ∧ w.grownBy w' none := by
  go_enter Try.func18, Try.ntmps18
  go_wp2_with (go_at_call 28; refine (clone_any _ _ _ _ hs hB hl).mono ?_; rintro r w1 ⟨ao, c, rfl, hown, hgr⟩)
  go_ret
  have hsz := hgr.size
  exact ⟨w1.heap.size, rfl, hsz, ⟨_, hown.alloc _, fun k hk => (hown.lt k hk).2, heap_alloc_new _ _⟩, gtrans hgr (World.grownBy_alloc _ _ _)⟩

theorem out_len {w : World} {g n : Nat} {bs : List Int} (h : WrAt w g bs) (hn : bs.length = n) (hl : n ≤ 140737488355328) :
    Calls Try.prog 17 #[.pointer (some ⟨g, 0, none⟩)] w fun r w' => ∃ ao c, r = .returned (.slice ao n c) ∧
      w'.ownsRow w.heap.size 5 1 (.slice ao n c) n (bs.map (Value.int .u8)) ∧ Seq w'.heap.size w' (.slice ao n c) bs ∧ w.grownBy w' none := by
  subst hn
  exact (out_any w g bs h hl).mono fun r w' ⟨ao, c, hr, ho, hg⟩ => ⟨ao, c, hr, ho, Seq.owned ho, hg⟩

theorem Seq.pre {B : Nat} {w : World} {ao : Option Addr} {n c : Nat} {bs : List Int} (h : Seq B w (.slice ao n c) bs) (k : Nat) (hk : k ≤ bs.length) : Seq B w (.slice ao k c) (bs.take k) := by
  obtain ⟨ao', c', hv, h1, h2, h3, h4⟩ := h
  cases hv
  have hl : (bs.take k).length = k := by simp; omega
  refine ⟨ao, c, by rw [hl], by omega, by omega, h3, fun hne => ?_⟩
  have hb : bs ≠ [] := by rintro rfl; simp at hne
  obtain ⟨b, o, ha, hb, hc⟩ := h4 hb
  refine ⟨b, o, ha, hb, fun j hj => ?_⟩
  rw [hc j (by omega)]
  simp [show j < k by omega]

def exB : List Int := [130, 44, 0, 1, 2, 2, 97, 98]
theorem exB_byt : Byt exB := by intro x hx; simp [exB] at hx; omega
theorem ex_vx : vx exB 0 = ([0, 1, 2, 2, 97, 98], 0, 300) := by decide
theorem ex_nx : nx [0, 1, 2, 2, 97, 98] 0 3 (decide ((1 : Int) ≤ 3) && decide ((3 : Int) ≤ 8)) = ([2, 97, 98], 0, [0, 1, 2]) := by decide
theorem ex_be : beVal [0, 1, 2] = 258 := by decide
theorem ex_bx : bx [2, 97, 98] 0 2 = ([], 0, [97, 98]) := by decide

theorem ex_out {w : World} {g : Nat} (h : WrAt w g exB) :
    Calls Try.prog 17 #[.pointer (some ⟨g, 0, none⟩)] w fun r w' => ∃ b c, r = .returned (.slice (some ⟨b, 0, none⟩) 8 c) ∧ b < w'.heap.size ∧
      (∀ j, j < 8 → w'.cell? ⟨b, j, none⟩ = some (.int .u8 (exB.getD j 0))) ∧ Seq w'.heap.size w' (.slice (some ⟨b, 0, none⟩) 8 c) exB ∧ w.grownBy w' none :=
  (out_any w g exB h (by decide)).mono fun r w' ⟨ao, c, hr, ho, hg⟩ => by
    obtain ⟨b, c', hv, hb, hc⟩ := own_at ho (by decide)
    have hq := Seq.owned ho
    rw [hv] at hr hq
    exact ⟨b, c', hr, hb, hc, hq, hg⟩
theorem ex_num {w : World} {g : Nat} (h : RdAt w g [0, 1, 2, 2, 97, 98] 0) :
    Calls Try.prog 20 #[.pointer (some ⟨g, 0, none⟩), .int .i64 3] w fun r w' => r = .returned (.int .u64 258) ∧ RdAt w' g [2, 97, 98] 0 ∧ w.grownBy w' (some g) := by
  have := num_at h ex_nx (by intro x hx; simp at hx; omega) (by decide)
  rw [ex_be] at this; exact this
theorem ex_bytes {w : World} {g : Nat} (h : RdAt w g [2, 97, 98] 0) :
    Calls Try.prog 21 #[.pointer (some ⟨g, 0, none⟩), .int .i64 2] w fun r w' => ∃ ao c, r = .returned (.slice ao 2 c) ∧
      (convert 27 9 (.slice ao 2 c)).run Try.prog w' = .ok (.string ⟨#[97, 98]⟩) w' ∧ RdAt w' g [] 0 ∧ w.grownBy w' (some g) :=
  (rbytes_at h ex_bx (by intro x hx; simp at hx; omega) (by decide) (by omega) (by omega)).mono fun r w' ⟨ao, c, hr, ho, hd, hg⟩ => ⟨ao, c, hr, seq_string (Seq.owned ho), hd, hg⟩

set_option maxHeartbeats 1000000 in
theorem awake_any (w : World) :
    Calls Try.prog 8 #[] w fun r w' => r = .returned (.bool true) ∧ w.grownBy w' none := by
  have V300 := Lib.hid varB_300
  have V2 := Lib.hid varB_2
  have N258 := Lib.hid numB_258
  have kc := fun (w : World) (C : Array Value) (n c : Nat) => Lib.run_convert_bytes_const (P := Try.prog) w 27 5 C n c Try.underlying27 Try.underlying5
  go_enter Try.func8, Try.ntmps8
  go_wp2_with (first
    | (go_at_call 9; refine (newW_any _).mono ?_; rintro r w1 ⟨rfl, hw1, hg1⟩; have hs1 := hg1.size)
    | (go_at_call 12; refine (wvar_any w1 _ 300 _ hw1 (by omega) (by omega) (by simp)).mono ?_; rintro r w2 ⟨rfl, hw2, hf2⟩)
    | (go_at_call 10; refine (wnum_in w2 _ 3 258 _ hw2 (by omega) (by omega) (by omega) (by omega) (by rw [show (300 : Int).toNat = 300 from rfl, V300.out]; simp)).mono ?_; rintro r w3 ⟨rfl, hw3, hf3⟩; have hb3 := (hf2.trans hf3).below hw1; have hl3 := hw3.lt; clear hf2 hf3 hw2 hw1)
    | (go_at_call 14; refine (wbytes_any _ _ (w3.heap.size + 1) _ [97, 98] _ (hw3.kept (World.grownBy_alloc _ _ _)) (lit_far hw3 (by intro j hj; match j, hj with | 0, _ => rfl | 1, _ => rfl) (by simp [maxLen])) (by rw [show (300 : Int).toNat = 300 from rfl, V300.out, N258.out]; simp)).mono ?_; rintro r w4 ⟨rfl, hw4, hf4⟩; have hb4 := hf4.below (hw3.kept (World.grownBy_alloc _ _ _)); have hx4 : WrAt w4 w.heap.size exB := (by rw [show (300 : Int).toNat = 300 from rfl, V300.out, N258.out, show ([97, 98] : List Int).length = 2 from rfl, V2.out] at hw4; exact hw4); have hgA : w.grownBy w4 none := gof ((gbelow hg1).trans (hb3.trans (((Below.refl _ w3).alloc (Nat.le_of_lt hl3) _).trans hb4))) none; clear hw3 hw4 hf4 hb4 hb3 hl3 hg1 hs1)
    | (go_at_call 17; refine (ex_out hx4).mono ?_; rintro r w5 ⟨b, c, rfl, hb5, hc5, hs5, hg5⟩; have HC := Lib.hid hc5; clear hc5 hx4)
    | (go_at_call 18; refine (newR_any w5 _ _ exB hs5 (Nat.le_refl _) (by decide)).mono ?_; rintro r w6 ⟨gr, rfl, hgr, hr6, hg6⟩; clear hs5)
    | (go_at_call 19; refine (rvar_at hr6 ex_vx exB_byt (by decide)).mono ?_; rintro r w7 ⟨rfl, hr7, hg7⟩; clear hr6)
    | (go_at_call 20; refine (ex_num hr7).mono ?_; rintro r w8 ⟨rfl, hr8, hg8⟩; clear hr7)
    | (go_at_call 21; refine (ex_bytes hr8).mono ?_; rintro r w9 ⟨az, cz, rfl, hz, hr9, hg9⟩; have hgB := gtrans (gwide (row := some gr) hg6) (gtrans hg7 (gtrans hg8 hg9)); have HCC := Lib.hid (fun (j : Nat) (hj : j < 8) => hgB.cell (HC.out j hj) (by intro e; injection e with e; simp at e; omega)); have c0 := HCC.out 0 (by decide); have c1 := HCC.out 1 (by decide); have c3 := HCC.out 3 (by decide); have c4 := HCC.out 4 (by decide); simp only [exB, List.getD_cons_zero, List.getD_cons_succ] at c0 c1 c3 c4; clear hr8 hg6 hg7 hg8 hg9)
    | (go_at_call 22; refine (end_any _ _ _ _ hr9).mono ?_; rintro r w10 ⟨rfl, rfl⟩; rw [show endOf [] 0 = 0 from rfl]))
  go_ret
  exact ⟨rfl, gnew (gtrans hgA hg5) hgB (Nat.le_trans (gtrans hgA hg5).size hgr)⟩

end Go.Proofs.Ytmphogmiobpkkaa
