/-
  A row of pages of the call's own, as it is sorted; cmp.Less at pages; insertionSort. Own work; what is sorted, and that it is, is said by the library's plain functions.
-/
import Derived.Test.YtildjdhoeilcfaaGreatPgrAT
import Derived.Sort.AssemblyPlain
import Derived.Sort.Row
import Derived.Deep.QuietTactic
import Derived.BigQuiet
import Derived.Deep.LoopGhost
import Derived.Shelf.Small.Bits
import Derived.Test.YtildjdhoeilcfaaGreatProg
import Derived.Test.YtildjdhoeilcfaaGreatPgrAG

namespace Go.Proofs.YtildjdhoeilcfaaGreat
open Go.RowKit Go.Maps

def ltN (x y : Nat) : Bool := decide (x < y)
theorem swo_ltN : Sort.SWO ltN :=
  ⟨fun x => by simp [ltN], fun x y z h k => by simp only [ltN, decide_eq_true_eq] at *; omega, fun x y z h k => by simp only [ltN, decide_eq_false_iff_not] at *; omega⟩

/-- Block blk of w is a row of 'cap' pages' cells; the first of them hold d; all else is as in w0. -/
structure RowAt (w0 : World) (blk cap : Nat) (w : World) (d : Array Nat) : Prop where
  row : ∃ c : Array Value, w.heap[blk]? = some (.cells c 42 (0, 0)) ∧ c.size = cap ∧ ∀ j, j < d.size → c[j]? = some (encP d[j]!)
  gr : w0.grownBy w (some blk)
  lt : blk < w0.heap.size
  fit : d.size ≤ cap
theorem RowAt.cell {w0 w : World} {blk cap : Nat} {d : Array Nat} (h : RowAt w0 blk cap w d) {j : Nat} (hj : j < d.size) : w.cell? ⟨blk, j, none⟩ = some (.int .u32 ((d[j]! : Nat) : Int)) := by
  obtain ⟨c, hb, hs, hc⟩ := h.row
  simp only [World.cell?, hb]
  exact hc j hj
theorem RowAt.froz {w0 w : World} {blk cap : Nat} {d : Array Nat} (h : RowAt w0 blk cap w d) (j : Nat) : w.frozen? ⟨blk, j, none⟩ = false := by
  obtain ⟨c, hb, hs, hc⟩ := h.row
  exact free_row hb j
theorem RowAt.grown {w0 w w' : World} {blk cap : Nat} {d : Array Nat} (h : RowAt w0 blk cap w d) (k : w.grownBy w' none) : RowAt w0 blk cap w' d := by
  obtain ⟨c, hb, hs, hc⟩ := h.row
  exact ⟨⟨c, (k.block blk (lt_of_block hb) (by simp)).trans hb, hs, hc⟩, gtrans h.gr (gwide k), h.lt, h.fit⟩
theorem RowAt.drewN {w0 w : World} {blk cap : Nat} {d : Array Nat} (h : RowAt w0 blk cap w d) (n : Nat) : RowAt w0 blk cap (w.drewN n) d := h.grown (gdrewN w n)
theorem RowAt.drew {w0 w : World} {blk cap : Nat} {d : Array Nat} (h : RowAt w0 blk cap w d) : RowAt w0 blk cap w.drew d := h.grown (gdrew w)
/-- A store beside the row. -/
theorem RowAt.beside {w0 w : World} {blk cap g : Nat} {d : Array Nat} (h : RowAt w0 blk cap w d) (hg : w0.heap.size ≤ g) (k : Nat) (u : Value) : RowAt w0 blk cap (w.setCell ⟨g, k, none⟩ u) d := by
  obtain ⟨c, hb, hs, hc⟩ := h.row
  have hne : blk ≠ g := by have := h.lt; omega
  exact ⟨⟨c, (set_other _ _ _ (by simpa using hne)).trans hb, hs, hc⟩, gnew h.gr (gset w ⟨g, k, none⟩ u) hg, h.lt, h.fit⟩
/-- One store into the row. -/
theorem RowAt.put {w0 w : World} {blk cap : Nat} {d : Array Nat} (h : RowAt w0 blk cap w d) {i : Nat} (hi : i < d.size) (x : Nat) : RowAt w0 blk cap (w.setCell ⟨blk, i, none⟩ (encP x)) (d.setIfInBounds i x) := by
  obtain ⟨c, hb, hs, hc⟩ := h.row
  refine ⟨⟨c.setIfInBounds i (encP x), ?_, by simpa using hs, fun j hj => ?_⟩, gtrans h.gr (gset w ⟨blk, i, none⟩ _), h.lt, by simpa using h.fit⟩
  · simp [World.setCell, Array.getElem?_modify, hb]
  · have hj' : j < d.size := by simpa using hj
    by_cases e : j = i
    · subst e
      rw [Sort.getElem!_set_same d j x hi]
      have := hc j hi
      have hjc : j < c.size := (Array.getElem?_eq_some_iff.1 this).1
      simp [hjc]
    · rw [Sort.getElem!_set_other d i j x e, Array.getElem?_setIfInBounds, if_neg (fun e' => e e'.symm)]
      exact hc j hj'
theorem RowAt.swap {w0 w : World} {blk cap : Nat} {d : Array Nat} (h : RowAt w0 blk cap w d) {i j x y : Nat} (hi : i < d.size) (hj : j < d.size) (hx : d[j]! = x) (hy : d[i]! = y) :
    RowAt w0 blk cap ((w.setCell ⟨blk, i, none⟩ (.int .u32 (x : Int))).setCell ⟨blk, j, none⟩ (.int .u32 (y : Int))) (Sort.swp d i j) := by
  subst hx; subst hy
  exact (h.put hi d[j]!).put (by simpa using hj) d[i]!
theorem size_swp' (d : Array Nat) (i j : Nat) : (Sort.swp d i j).size = d.size := by simp [Sort.swp]

set_option maxHeartbeats 400000 in
theorem nan_any (a : Int) (w : World) : Calls Tryz.prog 255 #[.int .u32 a] w fun r w' => r = .returned (.bool false) ∧ w = w' := by
  go_enter Tryz.func255, Tryz.ntmps255
  go_wp2
  go_ret
  exact ⟨rfl, rfl⟩
set_option maxHeartbeats 400000 in
theorem less_any (x y : Nat) (b : Bool) (hb : ltN x y = b) (w : World) : Calls Tryz.prog 264 #[.int .u32 (x : Int), .int .u32 (y : Int)] w fun r w' => r = .returned (.bool b) ∧ w' = w := by
  by_cases h : x < y
  · have hi : (x : Int) < (y : Int) := by omega
    have HB := Lib.hid (show b = true by rw [← hb]; simpa [ltN] using h)
    go_enter Tryz.func264, Tryz.ntmps264
    go_wp2_with (first
      | (go_at_call 255; refine (nan_any _ w).mono ?_; rintro r w1 ⟨rfl, rfl⟩))
    go_ret
    exact ⟨by rw [HB.out]; rfl, rfl⟩
  · have hi : ¬ (x : Int) < (y : Int) := by omega
    have HB := Lib.hid (show b = false by rw [← hb]; simpa [ltN] using h)
    go_enter Tryz.func264, Tryz.ntmps264
    go_wp2_with (first
      | (go_at_call 255; refine (nan_any _ w).mono ?_; rintro r w1 ⟨rfl, rfl⟩))
    go_ret
    exact ⟨by rw [HB.out]; rfl, rfl⟩

end Go.Proofs.YtildjdhoeilcfaaGreat

namespace Go.Proofs.YtildjdhoeilcfaaGreat
open Go.RowKit Go.Maps

theorem insInner_go (a j : Nat) (d : Array Nat) (h : a < j + 1) (hl : ltN d[j + 1]! d[j]! = true) : Sort.insInner ltN a (j + 1) d = Sort.insInner ltN a j (Sort.swp d (j + 1) j) := by
  conv => lhs; unfold Sort.insInner
  rw [if_pos (by simp [hl]; omega)]
theorem insInner_stop (a j : Nat) (d : Array Nat) (h : ¬ (a < j + 1 ∧ ltN d[j + 1]! d[j]! = true)) : Sort.insInner ltN a (j + 1) d = d := by
  conv => lhs; unfold Sort.insInner
  rw [if_neg]
  intro k
  simp only [Bool.and_eq_true, decide_eq_true_eq] at k
  exact h ⟨k.1, k.2⟩
theorem insInner_low (a j : Nat) (d : Array Nat) (h : j ≤ a) : Sort.insInner ltN a j d = d := by
  cases j with
  | zero => rfl
  | succ j => exact insInner_stop a j d (fun k => by omega)

theorem insOuter_go (a b i : Nat) (d : Array Nat) (h : i < b) : Sort.insOuter ltN a b i d = Sort.insOuter ltN a b (i + 1) (Sort.insInner ltN a i d) := by
  conv => lhs; unfold Sort.insOuter
  rw [if_pos h]

set_option maxHeartbeats 4000000 in
set_option maxRecDepth 100000 in
theorem insertion_any (w0 w : World) (blk cap a b : Nat) (d : Array Nat) (h : RowAt w0 blk cap w d) (hab : a ≤ b) (hb : b ≤ d.size) (hsz : d.size ≤ 100000) :
    Calls Tryz.prog 258 #[.slice (some ⟨blk, 0, none⟩) d.size cap, .int .i64 (a : Int), .int .i64 (b : Int)] w fun r w' => r = .returned (.tuple #[]) ∧ RowAt w0 blk cap w' (Sort.insertionSort ltN d a b) := by
  obtain ⟨n, hn⟩ : ∃ n, n = d.size := ⟨_, rfl⟩
  have H0 := Lib.hid h
  have HN := Lib.hid hn
  rw [← hn] at hb hsz ⊢
  clear h hn
  go_enter Tryz.func258, Tryz.ntmps258
  go_wp2
  go_loopg [6] (b - a) (fun g v wr => ∃ (i : Nat) (dk : Array Nat), v = .int .i64 (i : Int) ∧ a + 1 ≤ i ∧ i ≤ b + 1 ∧ b ≤ g + i ∧ RowAt w0 blk cap wr dk ∧ Hid (dk.size = n ∧ Sort.insOuter ltN a b i dk = Sort.insertionSort ltN d a b))
  case atStart => exact ⟨a + 1, d, by simp, Nat.le_refl _, by omega, by omega, H0.out, Lib.hid ⟨HN.out.symm, rfl⟩⟩
  case round =>
    obtain ⟨i, dk, rfl, h1, h2, h3, hrow, HK⟩ := hrel
    have HR := Lib.hid hrow
    clear hrow
    by_cases hib : i < b
    · have hibi : (i : Int) < (b : Int) := by omega
      go_wp2
      go_loopg [7] i (fun g2 v2 wr2 => ∃ (j : Nat) (dj : Array Nat), v2 = .int .i64 (j : Int) ∧ j = g2 ∧ j ≤ i ∧ RowAt w0 blk cap wr2 dj ∧ Hid (dj.size = n ∧ Sort.insInner ltN a j dj = Sort.insInner ltN a i dk))
      case atStart => exact ⟨i, dk, rfl, rfl, Nat.le_refl _, HR.out, Lib.hid ⟨HK.out.1, rfl⟩⟩
      case round =>
        obtain ⟨j, dj, rfl, rfl, hji, hrow2, HJ⟩ := hrel
        have HR2 := Lib.hid hrow2
        by_cases hja : a < j
        · have hja1 : (a : Int) < (j : Int) := by omega
          have hj1 : (1 : Int) ≤ (j : Int) := by omega
          have hjs : j < dj.size := by rw [HJ.out.1]; omega
          have c1 := hrow2.cell hjs
          have c2 := hrow2.cell (show j - 1 < dj.size by omega)
          have f1 := hrow2.froz j
          have f2 := hrow2.froz (j - 1)
          obtain ⟨x, hx⟩ : ∃ x, dj[j]! = x := ⟨_, rfl⟩
          obtain ⟨y, hy⟩ : ∃ y, dj[j - 1]! = y := ⟨_, rfl⟩
          rw [hx] at c1
          rw [hy] at c2
          have HX := Lib.hid hx
          have HY := Lib.hid hy
          have hjn : (j : Int) < (n : Int) := by rw [HJ.out.1] at hjs; omega
          have hjn2 : (j : Int) - 1 < (n : Int) := by omega
          have hw1 : IntKind.i64.wrap ((j : Int) - 1) = (j : Int) - 1 := IntWalk.i64_in _ ⟨by omega, by omega⟩
          clear hx hy hrow2 hjs
          obtain ⟨lb, hlb⟩ : ∃ lb, ltN x y = lb := ⟨_, rfl⟩
          have HL := Lib.hid hlb
          clear hlb
          go_wp2_with fail
          go_quiet (first | (go_at_call 264; refine Calls.quiet_of_same (less_any x y lb HL.out _)))
          have HR3 := Lib.hid (HR2.out.drewN nq)
          have d1 : (wr.drewN nq).cell? ⟨blk, j, none⟩ = _ := c1
          have d2 : (wr.drewN nq).cell? ⟨blk, j - 1, none⟩ = _ := c2
          have g1 : (wr.drewN nq).frozen? ⟨blk, j, none⟩ = _ := f1
          have g2 : (wr.drewN nq).frozen? ⟨blk, j - 1, none⟩ = _ := f2
          clear c1 c2 f1 f2
          generalize wr.drewN nq = W at HR3 d1 d2 g1 g2 ⊢
          cases lb with
          | true =>
            go_wp2_with fail
            go_region
            all_goals
              go_wp2
              go_roundg (j - 1)
              case rel =>
                refine ⟨j - 1, Sort.swp dj j (j - 1), by congr 1; omega, rfl, by omega, HR3.out.drew.swap (by rw [HJ.out.1]; omega) (by rw [HJ.out.1]; omega) HY.out HX.out, Lib.hid ⟨by rw [size_swp']; exact HJ.out.1, ?_⟩⟩
                rw [← HJ.out.2]
                have e := insInner_go a (j - 1) dj (by omega)
                rw [show j - 1 + 1 = j by omega] at e
                exact (e (by rw [HX.out, HY.out]; exact HL.out)).symm
              case measure => omega
          | false =>
            go_wp2
            go_roundg (b - (i + 1))
            case rel =>
              refine ⟨i + 1, dj, by simp, by omega, by omega, by omega, HR3.out, Lib.hid ⟨HJ.out.1, ?_⟩⟩
              have e := insInner_stop a (j - 1) dj
              rw [show j - 1 + 1 = j by omega, HX.out, HY.out, HL.out] at e
              rw [← HK.out.2, insOuter_go a b i dk hib, ← HJ.out.2, e (by simp)]
            case measure => omega
        · have hja2 : ¬ (a : Int) < (j : Int) := by omega
          go_wp2_with fail
          go_quiet (first | (go_at_call 264; refine Calls.quiet_of_same (less_any 0 0 false rfl _)))
          go_wp2
          go_roundg (b - (i + 1))
          case rel =>
            refine ⟨i + 1, dj, by simp, by omega, by omega, by omega, HR2.out.drewN nq, Lib.hid ⟨HJ.out.1, ?_⟩⟩
            rw [← HK.out.2, insOuter_go a b i dk hib, ← HJ.out.2, insInner_low a j dj (by omega)]
          case measure => omega
    · have hibi : ¬ (i : Int) < (b : Int) := by omega
      have HE := Lib.hid (show dk = Sort.insertionSort ltN d a b by
        rw [← HK.out.2]
        unfold Sort.insOuter
        rw [if_neg hib])
      go_wp2
      go_end0
      exact ⟨rfl, by rw [← HE.out]; exact HR.out⟩

end Go.Proofs.YtildjdhoeilcfaaGreat

namespace Go.Proofs
open Go.Shelf
def Tryz.lays129_ren : Go.Shelf.Ren := ⟨fun | 129 => 268 | n => n, fun | 53 => 35 | 3 => 3 | 4 => 4 | 46 => 205 | 5 => 5 | 9 => 9 | n => n, fun | n => n⟩
theorem Tryz.lays129 : Go.Proofs.Lays.n129 Tryz.prog Tryz.lays129_ren := {
  mixed := by kernel_rfl
  f129 := Tryz.func268.trans (congrArg some (by kernel_rfl))
  t3 := Tryz.underlying3
  a3 := Tryz.isAgg3
  z3 := Tryz.sizeOf3
  v3 := Tryz.zeroValue3
  t4 := Tryz.underlying4
  a4 := Tryz.isAgg4
  z4 := Tryz.sizeOf4
  v4 := Tryz.zeroValue4
  t5 := Tryz.underlying5
  a5 := Tryz.isAgg5
  z5 := Tryz.sizeOf5
  v5 := Tryz.zeroValue5
  t9 := Tryz.underlying9
  a9 := Tryz.isAgg9
  z9 := Tryz.sizeOf9
  v9 := Tryz.zeroValue9
  t46 := Tryz.underlying205
  a46 := Tryz.isAgg205
  z46 := Tryz.sizeOf205
  v46 := Tryz.zeroValue205
  t53 := Tryz.underlying35
  a53 := Tryz.isAgg35
  z53 := Tryz.sizeOf35
  v53 := Tryz.zeroValue35 }
theorem Tryz.bits_Len64 (x : Int) (w : World) (h0 : 0 ≤ x) (h1 : x ≤ 18446744073709551615) :
    Calls Tryz.prog 268 #[.int .u64 x] w fun e w' => e = .returned (.int .i64 (Lib.bitLen x.toNat)) ∧ w' = w := Any.bits_Len64 Tryz.lays129 x w h0 h1
end Go.Proofs

namespace Go.Proofs.YtildjdhoeilcfaaGreat
open Go.RowKit Go.Maps

/-- slices.Sort lays pages, whose rising row is L, so: of up to N pages. -/
def SortOk (N : Nat) : Prop := ∀ (w : World) (base n : Nat) (v : Value) (ss L : List Nat), w.ownsRow base 42 1 v n (ss.map encP) → ss.Perm L → Srt L → 0 < n → n ≤ N →
  Calls Tryz.prog 194 #[v] w fun r w' => r = .returned (.tuple #[]) ∧ w'.ownsRow base 42 1 v n (L.map encP) ∧ w.grownBy w' v.ownBlock

/-- What is sorted, of what rises strictly, is that. -/
theorem sorted_is {d d' : Array Nat} {L : List Nat} (hp : Sort.PermIn 0 d.size d d') (hs : Sort.SortedIn ltN 0 d.size d') (hL : d.toList.Perm L) (hr : Srt L) : d'.toList = L := by
  have hsz := hp.1
  have hperm : d'.toList.Perm d.toList := by
    have h := hp.2.2
    have e1 : (d'.extract 0 d.size).toList = d'.toList := by rw [← hsz]; simp
    have e2 : (d.extract 0 d.size).toList = d.toList := by simp
    rwa [e1, e2] at h
  have hnd : d'.toList.Nodup := (hperm.trans hL).nodup_iff.2 (srt_nodup hr)
  have hsrt : Srt d'.toList := by
    unfold Srt
    rw [List.pairwise_iff_getElem]
    intro i j hi hj hij
    have hi' : i < d'.size := by simpa using hi
    have hj' : j < d'.size := by simpa using hj
    have h := hs i j (Nat.zero_le _) hij (by omega)
    rw [getElem!_pos d' i hi', getElem!_pos d' j hj'] at h
    simp only [ltN, decide_eq_false_iff_not] at h
    have hne : d'.toList[i] ≠ d'.toList[j] := List.pairwise_iff_getElem.1 hnd i j hi hj hij
    simp at hne ⊢
    omega
  exact srt_ext hsrt hr fun x => (hperm.trans hL).mem_iff

theorem rowAt_own {w : World} {base n blk cap : Nat} {ss : List Nat} (h : w.ownsRow base 42 1 (.slice (some ⟨blk, 0, none⟩) n cap) n (ss.map encP)) : RowAt w blk cap w ss.toArray ∧ ss.length = n ∧ n ≤ cap ∧ cap ≤ maxLen ∧ base ≤ blk := by
  have hl : ss.length = n := by have := h.1; simpa using this
  rcases h.2 with ⟨hv, _⟩ | ⟨g, cap', cur, hv, hb, hg, hnc, hcm, hcs, ht⟩
  · cases hv
  · injection hv with e1 e2 e3
    injection e1 with e1
    injection e1 with e1 _ _
    subst e1; subst e3
    refine ⟨⟨⟨cur, hg, by simpa using hcs, fun j hj => ?_⟩, grefl _ _, lt_of_block hg, by simp; omega⟩, hl, hnc, hcm, hb⟩
    have hj' : j < ss.length := by simpa using hj
    have h2 : (ss.map encP)[j]? = some (encP ss[j]) := by simp [hj']
    rw [← ht, List.getElem?_take] at h2
    rw [if_pos (by omega)] at h2
    rw [getElem!_pos ss.toArray j hj]
    simpa using h2
theorem own_rowAt {w0 w : World} {base n blk cap : Nat} {d : Array Nat} (h : RowAt w0 blk cap w d) (hb : base ≤ blk) (hn : d.size = n) (hm : cap ≤ maxLen) : w.ownsRow base 42 1 (.slice (some ⟨blk, 0, none⟩) n cap) n (d.toList.map encP) := by
  obtain ⟨c, hc, hs, hk⟩ := h.row
  have hf := h.fit
  refine ⟨by simpa using hn, .inr ⟨blk, cap, c, rfl, hb, hc, by omega, hm, by simpa using hs, ?_⟩⟩
  apply List.ext_getElem?
  intro j
  rw [List.getElem?_take]
  by_cases hj : j < n * 1
  · rw [if_pos hj]
    have hjd : j < d.size := by omega
    have := hk j hjd
    rw [getElem!_pos d j hjd] at this
    simpa [hjd] using this
  · rw [if_neg hj, List.getElem?_eq_none (by simp; omega)]

set_option maxHeartbeats 1000000 in
theorem len_any (x : Nat) (hx : x ≤ 18446744073709551615) (w : World) : Calls Tryz.prog 236 #[.int .u64 (x : Int)] w fun r w' => r = .returned (.int .i64 (Lib.bitLen x : Int)) ∧ w = w' := by
  go_enter Tryz.func236, Tryz.ntmps236
  go_wp2_with (first
    | (go_at_call 268; refine (Tryz.bits_Len64 (x : Int) w (by omega) (by omega)).mono ?_; rintro r w1 ⟨rfl, rfl⟩))
  go_ret
  exact ⟨by simp, rfl⟩

set_option maxRecDepth 100000 in
set_option maxHeartbeats 1000000 in
theorem pdq_few (w0 w : World) (blk cap a b : Nat) (lim : Int) (d : Array Nat) (h : RowAt w0 blk cap w d) (hab : a ≤ b) (hb : b ≤ d.size) (hsz : d.size ≤ 100000) (h12 : b - a ≤ 12) :
    Calls Tryz.prog 235 #[.slice (some ⟨blk, 0, none⟩) d.size cap, .int .i64 (a : Int), .int .i64 (b : Int), .int .i64 lim] w fun r w' => r = .returned (.tuple #[]) ∧ RowAt w0 blk cap w' (Sort.insertionSort ltN d a b) := by
  have hi : (b : Int) - (a : Int) ≤ 12 := by omega
  have hi2 : (0 : Int) ≤ (b : Int) - (a : Int) := by omega
  have H := Lib.hid h
  clear h
  go_enter Tryz.func235, Tryz.ntmps235
  go_wp2
  go_loopg [1, 2, 3] 1 (fun g v1 v2 v3 wr => v1 = .int .i64 (a : Int) ∧ v2 = .int .i64 (b : Int) ∧ v3 = .int .i64 lim ∧ w = wr)
  case atStart => exact ⟨rfl, rfl, rfl, rfl⟩
  case round =>
    obtain ⟨rfl, rfl, rfl, rfl⟩ := hrel
    go_wp2_with (first
      | (go_at_call 258; refine (insertion_any w0 w blk cap a b d H.out hab hb hsz).mono ?_; rintro r w1 ⟨rfl, hr⟩; have HR := Lib.hid hr; clear hr))
    (try simp only [Exit.inBlock, Exit.then])
    refine bodyPost_ret (results_none rfl _ _ _) rfl ?_
    exact ⟨rfl, HR.out⟩

set_option maxHeartbeats 1000000 in
theorem sort_few : SortOk 12 := by
  intro w base n v ss L hown hperm hr hpos hn
  rcases id hown.2 with ⟨rfl, h0⟩ | ⟨blk, cap, cur, rfl, _⟩
  · omega
  · obtain ⟨hrow, hl, hnc, hcm, hbb⟩ := rowAt_own hown
    have hsz : ss.toArray.size = n := by simpa using hl
    have hins := Sort.insertionSort_holds (lt := ltN) swo_ltN ss.toArray 0 n (Nat.zero_le _) (by omega)
    have hfin := sorted_is (L := L) (d := ss.toArray) (d' := Sort.insertionSort ltN ss.toArray 0 n) (by rw [hsz]; exact hins.1) (by rw [hsz]; exact hins.2) (by simpa using hperm) hr
    have hn2 : (n : Int) ≤ 12 := by omega
    have H := Lib.hid hrow
    have HF := Lib.hid hfin
    have HP := Lib.hid hins.1.1
    clear hown hperm hins hfin hrow
    go_enter Tryz.func194, Tryz.ntmps194
    go_wp2_with (first
      | (go_at_call 236; refine (len_any n (by omega) w).mono ?_; rintro r w1 ⟨rfl, rfl⟩)
      | (go_at_call 235; have K := pdq_few w w blk cap 0 n (Lib.bitLen n : Int) ss.toArray H.out (Nat.zero_le _) (by omega) (by omega) (by omega); rw [hsz] at K; refine K.mono ?_; clear K; rintro r w1 ⟨rfl, hr1⟩; have HR := Lib.hid hr1; clear hr1))
    go_end0
    have h := own_rowAt (n := n) HR.out hbb (HP.out.trans hsz) hcm
    rw [HF.out] at h
    exact ⟨rfl, h, HR.out.gr⟩

end Go.Proofs.YtildjdhoeilcfaaGreat

namespace Go.Proofs.YtildjdhoeilcfaaGreat
open Go.RowKit Go.Maps

set_option maxHeartbeats 1000000 in
theorem sorted_any (N : Nat) (hN : SortOk N) (hN9 : N ≤ 100000) (w : World) (Bm b : Nat) (L : List Nat) (hm : w.cell? ⟨Bm, 0, none⟩ = some (.map (some b))) (hS : SetAt w b L) (hL : L.length ≤ N) (h0 : L ≠ []) :
    Calls Tryz.prog 147 #[.func (.func 276) #[] #[.pointer (some ⟨Bm, 0, none⟩)]] w fun r w' => ∃ a c, r = .returned (.slice a L.length c) ∧ OwnP w.heap.size w' (.slice a L.length c) L ∧ w.grownBy w' none := by
  have hsr := hS.2.1
  have h32 := hS.2.2
  have hpos := List.length_pos_iff.2 h0
  go_enter Tryz.func147, Tryz.ntmps147
  go_wp2_with (first
    | (go_at_call 193; (with_reducible refine (collect_any w Bm b L hm hS (Nat.le_trans hL hN9)).mono ?_); rintro r w1 ⟨v, ss, rfl, hp, ho, hg⟩; have hl := hp.length_eq; have K := hN w1 w.heap.size ss.length v ss L ho.1 hp hsr (by omega) (by omega); obtain ⟨a1, c1, rfl⟩ := own_shape ho.1; have HG := Lib.hid hg; have HK := Lib.hid K; have HL := Lib.hid hl; have HO := Lib.hid ho; clear hp ho hg K hl)
    | (go_at_call 194; refine HK.out.mono ?_; rintro r w2 ⟨rfl, h2, hg2⟩; have H2 := Lib.hid h2; have HG2 := Lib.hid hg2; clear h2 hg2))
  go_ret
  refine ⟨a1, c1, by rw [← HL.out]; rfl, ⟨by rw [← HL.out]; exact H2.out, h32⟩, grow_own HG.out HO.out.1 HG2.out (Nat.le_refl _)⟩

set_option maxHeartbeats 2000000 in
theorem record_any (N : Nat) (hN : SortOk N) (hN9 : N ≤ 100000) (w : World) (base b t : Nat) (L : List Nat) (lv : Value) (es : List (Value × Rc)) (hS : SetAt w b L) (hL : L.length ≤ N) (hes : RcOwns base w lv es) (hel : es.length ≤ 200000) (hb : base ≤ w.heap.size) (ht : t < 18446744073709551616) :
    Calls Tryz.prog 232 #[.map (some b), lv, .int .u64 (t : Int)] w fun r w' => ∃ v' es', r = .returned v' ∧ RcOwns base w' v' es' ∧ es'.map (·.2) = es.map (·.2) ++ recM L t ∧ w.grownBy w' lv.ownBlock := by
  obtain ⟨j0, hj, hw0, hw1, hw2⟩ := info_parts infoRec
  have hown := hS.1
  by_cases h0 : L = []
  · have hsz : Maps.size (setD L) = 0 := by rw [size_setD, h0]; rfl
    have HE := Lib.hid (show recM L t = [] by unfold recM; rw [if_pos h0])
    have HES := Lib.hid hes
    clear hes h0
    go_enter Tryz.func232, Tryz.ntmps232
    go_wp2_with (first
      | (at_len; refine wpList_len_own _ rfl _ 157 rfl 42 97 Tryz.underlying157 _ b _ _ rfl hown ?_)
      | go_in)
    go_ret
    exact ⟨lv, es, rfl, HES.out, by rw [HE.out]; simp, grefl _ _⟩
  · have hsz : ¬ Maps.size (setD L) = 0 := by rw [size_setD]; exact fun e => h0 (List.eq_nil_of_length_eq_zero e)
    have hszb : ((Maps.size (setD L) : Int) == 0) = false := by simp; omega
    have HE := Lib.hid (show recM L t = [(t, L)] by unfold recM; rw [if_neg h0])
    have HES := Lib.hid hes
    have HS := Lib.hid hS
    have HNE := Lib.hid h0
    have HNN := Lib.hid hN
    have HNL := Lib.hid hL
    clear hes h0 hS hN hL
    go_enter Tryz.func232, Tryz.ntmps232
    go_wp2_with (first
      | (at_len; refine wpList_len_own _ rfl _ 157 rfl 42 97 Tryz.underlying157 _ b _ _ rfl hown ?_)
      | (go_at_call 257; (with_reducible refine (keys_any w (some b)).mono ?_); rintro r w1 ⟨rfl, rfl⟩)
      | (go_at_call 147; have K := sorted_any N HNN.out hN9 (w.alloc (.cells #[.map (some b)] 157)) w.heap.size b L (by rw [World.cell?_alloc_mark]; rfl) (HS.out.grown (World.grownBy_alloc _ _ _)) HNL.out HNE.out; (with_reducible refine K.mono ?_); clear K; rintro r w2 ⟨a2, c2, rfl, ho, hg⟩; have hg2 := gtrans (World.grownBy_alloc w (.cells #[.map (some b)] 157) none) hg; have HG2 := Lib.hid hg2; have HO2 := Lib.hid (ho.mono (show w.heap.size ≤ (w.alloc (.cells #[.map (some b)] 157)).heap.size by simp)); have HR2 := Lib.hid (HES.out.grown hg2); clear ho hg hg2)
      | (at_builtin; refine wpList_append_own _ rfl _ _ 68 rfl base 141 j0 (.agg #[.int .u64 0, .slice none 0 0]) 2 32 Tryz.underlying68 hj hw0 hw1 hw2 rfl (by decide) lv es.length (es.flatMap rcl) rfl (HR2.out.row.alloc _) ⟨w2.heap.size, 0, none⟩ 1 1 (rcl (.slice a2 L.length c2, (t, []))) rfl rfl (lit2 w2 t (.slice a2 L.length c2)) (one2 a2 L.length c2 t) (by unfold maxLen; omega) (by omega) (by have := HG2.out.size; simp; omega) ?_; intro v' w4 hown' hgrow _; have HO4 := Lib.hid hown'; have HG4 := Lib.hid hgrow; clear hown' hgrow)
      | go_in)
    go_ret
    have hR3 := HR2.out.grown (World.grownBy_alloc w2 (.cells #[.int .u64 (t : Int), .slice a2 L.length c2] 141) none)
    have hp3 : OwnP base (w2.alloc (.cells #[.int .u64 (t : Int), .slice a2 L.length c2] 141)) (.slice a2 L.length c2) L := (HO2.out.grown (World.grownBy_alloc w2 _ none)).mono hb
    exact ⟨v', es ++ [(.slice a2 L.length c2, (t, L))], rfl, hR3.push (y := (.slice a2 L.length c2, (t, L))) hp3 ht HO4.out HG4.out, by rw [HE.out]; simp, gtrans (gwide (gtrans HG2.out (World.grownBy_alloc w2 _ none))) HG4.out⟩

end Go.Proofs.YtildjdhoeilcfaaGreat

namespace Go.Proofs.YtildjdhoeilcfaaGreat
open Go.RowKit Go.Maps

def RecsR (w : World) (l : List Rc) (r : Ending) (w' : World) : Prop := ∃ v es, r = .returned v ∧ RcOwns w.heap.size w' v es ∧ es.map (·.2) = l ∧ w.grownBy w' none

theorem records_nil (w : World) (t : Int) : Calls Tryz.prog 190 #[.pointer none, .int .u64 t] w fun r w' => r = .returned (.slice none 0 0) ∧ w = w' := by
  go_enter Tryz.func190, Tryz.ntmps190
  go_wp2
  go_ret
  exact ⟨rfl, rfl⟩

set_option maxHeartbeats 2000000 in
theorem records_any (N : Nat) (hN : SortOk N) (hN9 : N ≤ 100000) {H : Nat → Prop} (w : World) (B t : Nat) (M : Sp) (h : SpAt B H w M) (h1 : M.us.length ≤ N) (h2 : M.go.length ≤ N) (h3 : ∀ r ∈ M.ws, r.2 ≠ [] ∧ r.2.length ≤ 100000) (h4 : M.ws.length ≤ 100000) (ht : t < 18446744073709551616) :
    Calls Tryz.prog 190 #[.pointer (some ⟨B + 4, 0, none⟩), .int .u64 (t : Int)] w fun r w' => RecsR w (recsM M t) r w' := by
  obtain ⟨j0, hj, hw0, hw1, hw2⟩ := info_parts infoRec
  obtain ⟨wv, hf, hr⟩ := h
  obtain ⟨ao, c, rfl⟩ := hr.shape
  obtain ⟨n, hn⟩ : ∃ n, n = M.ws.length := ⟨_, rfl⟩
  rw [← hn] at hf hr h4
  obtain ⟨f0, f1, f2, f3, f4, f5, f6, f7⟩ := hf.cells
  have HF := Lib.hid hf
  have HR := Lib.hid hr
  have HN := Lib.hid hn
  have HS := Lib.hid hN
  have H3 := Lib.hid h3
  have H1 := Lib.hid h1
  have H2 := Lib.hid h2
  have hn7 : (n : Int) ≤ 100000 := by omega
  clear hf hr hn hN h3 h1 h2 f0 f1 f2 f4 f5 f6
  go_enter Tryz.func190, Tryz.ntmps190
  go_wp2_with (first
    | (go_at_call 232; have K := record_any N HS.out hN9 w w.heap.size B 0 M.us (.slice none 0 0) [] HF.out.us H1.out (RcOwns.nil _ _) (by simp) (Nat.le_refl _) (by omega); rw [show ((0 : Nat) : Int) = 0 from rfl] at K; (with_reducible refine K.mono ?_); clear K; rintro r w1 ⟨v1, es1, rfl, ho1, he1, hg1⟩; obtain ⟨-, -, -, -, -, -, -, g7⟩ := (HF.out.grown hg1).cells; have HO1 := Lib.hid ho1; have HE1 := Lib.hid he1; have HG1 := Lib.hid hg1; clear ho1 he1 hg1))
  go_loopg [5, 20] n (fun g lv i wr => ∃ (k : Nat) (es : List (Value × Rc)), k + g = n ∧ i = .int .i64 (k : Int) ∧ RcOwns w.heap.size wr lv es ∧ w.grownBy wr none ∧ Hid (es.map (·.2) = recM M.us 0 ++ M.ws.take k))
  case atStart => exact ⟨0, es1, by omega, rfl, HO1.out, HG1.out, Lib.hid (by rw [HE1.out]; simp)⟩
  case round =>
    obtain ⟨k, es, hk, rfl, ho, hg, HE⟩ := hrel
    have HO := Lib.hid ho
    have HG := Lib.hid hg
    have hel : es.length ≤ 100001 := by
      have h5 := congrArg List.length HE.out
      have h6 : (recM M.us 0).length ≤ 1 := by unfold recM; split <;> simp
      have h7 : (M.ws.take k).length ≤ M.ws.length := by rw [List.length_take]; omega
      have h8 := HN.out
      simp only [List.length_map, List.length_append] at h5
      omega
    clear ho hg
    by_cases hlt : k < n
    · have hki : (k : Int) < (n : Int) := by omega
      have hkl : k < M.ws.length := by rw [← HN.out]; exact hlt
      obtain ⟨r, hr⟩ : ∃ r, M.ws[k]? = some r := ⟨M.ws[k], List.getElem?_eq_getElem hkl⟩
      obtain ⟨b, o, rfl, hRb, c0, hT64, a1, q1, c1, hp⟩ := HR.out.at k r hr
      have d0 := HG.out.cell c0 (by simp)
      have d1 := HG.out.cell c1 (by simp)
      have HTK := Lib.hid (take_snoc hr)
      have hmem : r ∈ M.ws := List.mem_of_getElem? hr
      obtain ⟨hpn, hpl⟩ := H3.out r hmem
      obtain ⟨T, ps⟩ := r
      have HPN := Lib.hid (show ps ≠ [] from hpn)
      simp only at d0 d1 hp hpl hT64
      have HPL := Lib.hid (show ps.length ≤ 35184372088831 by omega)
      have HP := Lib.hid (hp.grown (gtrans HG.out (World.grownBy_alloc wr (.cells #[.int .u64 (T : Int), .slice a1 ps.length q1] 141) none)))
      clear hp hr c0 c1 hmem hpn
      generalize hm : ps.length = m at d1
      rw [hm] at HP hpl
      have HM := Lib.hid hm
      clear hm
      go_wp2_with (first
        | (go_at_call 101; (with_reducible refine (copied_any _ _ T a1 m q1 ps HP.out HPN.out HPL.out).mono ?_); rintro r w3 ⟨a2, c2, rfl, ho3, hg3⟩; have hg4 := gtrans (World.grownBy_alloc wr (.cells #[.int .u64 (T : Int), .slice a1 m q1] 141) none) hg3; have HO3 := Lib.hid (ho3.mono (show w.heap.size ≤ (wr.alloc (.cells #[.int .u64 (T : Int), .slice a1 m q1] 141)).heap.size by have := HG.out.size; simp; omega)); have HR3 := Lib.hid (HO.out.grown hg4); have HG3 := Lib.hid (gtrans HG.out hg4); clear ho3 hg3 hg4)
        | (at_builtin; refine wpList_append_own _ rfl _ _ 68 rfl w.heap.size 141 j0 (.agg #[.int .u64 0, .slice none 0 0]) 2 32 Tryz.underlying68 hj hw0 hw1 hw2 rfl (by decide) _ es.length (es.flatMap rcl) rfl (HR3.out.row.alloc _) ⟨w3.heap.size, 0, none⟩ 1 1 (rcl (.slice a2 m c2, (T, []))) rfl rfl (lit2 w3 T (.slice a2 m c2)) (one2 a2 m c2 T) (by unfold maxLen; omega) (by omega) (by have := HG3.out.size; simp; omega) ?_; intro v' w4 hown' hgrow _; have HO4 := Lib.hid hown'; have HG4 := Lib.hid hgrow; clear hown' hgrow))
      have hR3 := HR3.out.grown (World.grownBy_alloc w3 (.cells #[.int .u64 (T : Int), .slice a2 m c2] 141) none)
      have hp3 : OwnP w.heap.size (w3.alloc (.cells #[.int .u64 (T : Int), .slice a2 m c2] 141)) (.slice a2 m c2) ps := HO3.out.grown (World.grownBy_alloc w3 _ none)
      have hp4 := hR3.push (y := (.slice a2 m c2, (T, ps))) hp3 hT64 HO4.out HG4.out
      have hg4 := grow_own (gtrans HG3.out (World.grownBy_alloc w3 _ none)) hR3.row HG4.out (Nat.le_refl _)
      have HP4 := Lib.hid hp4
      have HG5 := Lib.hid hg4
      clear hR3 hp3 hp4 hg4
      go_roundg (n - (k + 1))
      case rel => exact ⟨k + 1, es ++ [(.slice a2 m c2, (T, ps))], by omega, by simp, HP4.out, HG5.out, Lib.hid (by rw [HTK.out, List.map_append, HE.out, List.append_assoc]; rfl)⟩
      case measure => omega
    · have hki : ¬ (k : Int) < (n : Int) := by omega
      have e : k = n := by omega
      have HE2 := Lib.hid (show es.map (·.2) = recM M.us 0 ++ M.ws by rw [HE.out, e, HN.out, List.take_length])
      obtain ⟨-, -, -, -, -, k5, -, -⟩ := (HF.out.grown HG.out).cells
      clear e
      go_wp2_with (first
        | (go_at_call 232; have K := record_any N HS.out hN9 wr w.heap.size (B + 2) t M.go _ es (HF.out.grown HG.out).go H2.out HO.out (by omega) HG.out.size ht; (with_reducible refine K.mono ?_); clear K; rintro r w5 ⟨v5, es5, rfl, ho5, he5, hg5⟩; have HO5 := Lib.hid ho5; have HE5 := Lib.hid he5; have HG5 := Lib.hid (grow_own HG.out HO.out.row hg5 (Nat.le_refl _)); clear ho5 he5 hg5))
      go_ret
      exact ⟨v5, es5, rfl, HO5.out, by rw [HE5.out, HE2.out]; rfl, HG5.out⟩

end Go.Proofs.YtildjdhoeilcfaaGreat

namespace Go.Proofs.YtildjdhoeilcfaaGreat
open Go.RowKit Go.Maps

/-- An element that is read as it is. -/
def heldR (v : Value) : Option (DataW Value × List MemPlace) := some (.held v, [])
def pgD (K : List Nat) (V : Nat → Value) : DataW Value := .map (K.map fun p => (keyL p, .held (V p)))
theorem heldR_inv {v u : Value} {ps : List MemPlace} (h : heldR v = some (.held u, ps)) : v = u := by
  unfold heldR at h
  simp at h
  exact h.1
theorem has_pgD (K : List Nat) (V : Nat → Value) (p : Nat) : Maps.has (pgD K V) (keyL p) = decide (p ∈ K) := by
  unfold pgD
  rw [Maps.has_eq, List.any_map]
  induction K with
  | nil => simp
  | cons y r ih =>
    rw [List.any_cons, ih]
    simp only [Function.comp, keyL_same, List.mem_cons]
    by_cases h : y = p
    · subst h; simp
    · have : ¬ p = y := fun e => h e.symm
      simp [h, this]
theorem at_pgD (V : Nat → Value) (p : Nat) (z : DataW Value) : ∀ (K : List Nat), p ∈ K → (pgD K V).atKey (keyL p) z = .held (V p)
  | [], h => by cases h
  | y :: r, h => by
    have ih := at_pgD V p z r
    unfold pgD DataW.atKey at *
    simp only [List.map_cons, List.find?_cons, keyL_same]
    by_cases e : y = p
    · subst e; simp
    · have : (y == p) = false := by simpa using e
      rw [this]
      exact ih (by rcases List.mem_cons.1 h with k | k
                   · exact absurd k.symm e
                   · exact k)
theorem filt_pgD (K : List Nat) (V : Nat → Value) (p : Nat) : (K.map fun q => (keyL q, (.held (V q) : DataW Value))).filter (fun x => !x.1.sameKey (keyL p)) = (del p K).map fun q => (keyL q, .held (V q)) := by
  unfold del
  rw [List.filter_map]
  congr 1
  apply List.filter_congr
  intro x _
  simp [Function.comp, keyL_same]
theorem pgD_del (K : List Nat) (V : Nat → Value) (p : Nat) : (pgD K V).del (keyL p) = pgD (del p K) V := by
  show DataW.map _ = DataW.map _
  rw [filt_pgD]
def updV (V : Nat → Value) (p : Nat) (v : Value) : Nat → Value := fun q => if q = p then v else V q
theorem insert_pgD (V : Nat → Value) (p : Nat) (v : Value) : ∀ K : List Nat, (∀ q ∈ K, q ≠ p) → DataW.insert (keyL p, (.held v : DataW Value)) (K.map fun q => (keyL q, .held (V q))) = (insS p K).map fun q => (keyL q, .held (updV V p v q))
  | [], _ => by simp [DataW.insert, insS, updV]
  | y :: r, h => by
    have e1 : ∀ q ∈ y :: r, updV V p v q = V q := fun q hq => if_neg (h q hq)
    have e2 : (y :: r).map (fun q => (keyL q, (.held (V q) : DataW Value))) = (y :: r).map fun q => (keyL q, .held (updV V p v q)) := List.map_congr_left fun q hq => by rw [e1 q hq]
    rw [e2]
    simp only [List.map_cons]
    unfold DataW.insert insS
    simp only [keyL_before, decide_eq_true_eq]
    split
    · simp [updV]
    · have ih := insert_pgD V p v r fun q hq => h q (by simp [hq])
      have e3 : r.map (fun q => (keyL q, (.held (V q) : DataW Value))) = r.map fun q => (keyL q, .held (updV V p v q)) := List.map_congr_left fun q hq => by rw [e1 q (by simp [hq])]
      rw [e3] at ih
      rw [ih]
      simp
theorem pgD_put (K : List Nat) (V : Nat → Value) (p : Nat) (v : Value) : (pgD K V).put (keyL p) (.held v) = pgD (ins p K) (updV V p v) := by
  show DataW.map _ = DataW.map _
  rw [filt_pgD, insert_pgD V p v (del p K) (fun q hq => by unfold del at hq; simpa using (List.mem_filter.1 hq).2)]
  rfl
theorem size_pgD (K : List Nat) (V : Nat → Value) : Maps.size (pgD K V) = K.length := by
  unfold pgD
  rw [Maps.size_eq, List.length_map]
theorem pg_tight {w : World} {P : Program} {k : TypeId} {R : Value → Option (DataW Value × List MemPlace)} {b n : Nat} {K : List Nat} {V : Nat → Value} (h : w.ownsMap P k R b n (pgD K V)) : w.ownsMap P k R b K.length (pgD K V) := by
  obtain ⟨es, clock, hb, F, _, hD⟩ := h
  refine ⟨es, clock, hb, F, ?_, hD⟩
  have := congrArg Maps.size hD
  rw [size_pgD, Maps.size_eq, length_sorted, List.length_map] at this
  simpa using (Nat.le_of_eq this.symm)

/-- Block b is a map that has pages K, rising, with the bytes C of each. -/
def PgsAt (w : World) (b S : Nat) (K : List Nat) (C : Nat → List Int) : Prop :=
  ∃ V, w.ownsMap Tryz.prog 42 heldR b K.length (pgD K V) ∧ Srt K ∧ (∀ p ∈ K, p < 4294967296) ∧ ∀ p ∈ K, Own8 0 w S (V p) (C p)
theorem PgsAt.ek {w : World} {b S : Nat} {K : List Nat} {C : Nat → List Int} (h : PgsAt w b S K C) : ek w b = none ∧ b < w.heap.size := by
  obtain ⟨V, ⟨es, c, hb, _⟩, _⟩ := h
  exact ⟨ek_map hb, lt_of_block hb⟩
theorem PgsAt.kept {P : Option TypeId → Prop} {B : Nat} {w w' : World} {b S : Nat} {K : List Nat} {C : Nat → List Int} (h : PgsAt w b S K C) (k : Kfr P B w w') (hb : w'.heap[b]? = w.heap[b]?) (h8 : ¬ P (some 5)) : PgsAt w' b S K C := by
  obtain ⟨V, ⟨es, c, h1, h2⟩, h3, h4, h5⟩ := h
  exact ⟨V, ⟨es, c, hb.trans h1, h2⟩, h3, h4, fun p hp => k.own8 (h5 p hp) h8⟩
theorem PgsAt.kfr {P : Option TypeId → Prop} {B : Nat} {w w' : World} {b S : Nat} {K : List Nat} {C : Nat → List Int} (h : PgsAt w b S K C) (k : Kfr P B w w') (h0 : ¬ P none) (h8 : ¬ P (some 5)) : PgsAt w' b S K C :=
  h.kept k (k.block b h.ek.2 (.inr (by rw [h.ek.1]; exact h0))) h8
theorem pgs_made (w : World) (S : Nat) (C : Nat → List Int) : PgsAt (w.alloc (.map #[] 0)) w.heap.size S [] C := ⟨fun _ => .slice none 0 0, World.ownsMap_made _ _ _ _, List.Pairwise.nil, by simp, by simp⟩
def updC (C : Nat → List Int) (p : Nat) (b : List Int) : Nat → List Int := fun q => if q = p then b else C q

/-- A space as it lies, its records' rows known by their kinds. -/
def SpOk (B : Nat) (w : World) (M : Sp) : Prop := ∃ H : Nat → Prop, SpAt B H w M ∧ ∀ b, H b → ek w b = some 141 ∨ ek w b = some 42
theorem SpAt.five {B : Nat} {H : Nat → Prop} {w : World} {M : Sp} (h : SpAt B H w M) : ∀ i, B ≤ i → i < B + 5 → (ek w i = none ∨ ek w i = some 193) ∧ i < w.heap.size := by
  obtain ⟨wv, hf, _⟩ := h
  intro i h1 h2
  have hs : ∀ {b L}, SetAt w b L → ek w b = none ∧ b < w.heap.size := fun {b L} k => by
    obtain ⟨⟨es, c, hb, _⟩, _⟩ := k
    exact ⟨ek_map hb, lt_of_block hb⟩
  rcases (by omega : i = B ∨ i = B + 1 ∨ i = B + 2 ∨ i = B + 3 ∨ i = B + 4) with e | e | e | e | e
  · subst e; exact ⟨.inl (hs hf.us).1, (hs hf.us).2⟩
  · subst e; exact ⟨.inl (hs hf.fr).1, (hs hf.fr).2⟩
  · subst e; exact ⟨.inl (hs hf.go).1, (hs hf.go).2⟩
  · subst e; exact ⟨.inl (hs hf.wa).1, (hs hf.wa).2⟩
  · subst e; exact ⟨.inr (ek_of hf.box), lt_of_block hf.box⟩
/-- What a space's call writes to. -/
def KS (t : Option TypeId) : Prop := t = none ∨ t = some 193
theorem sfr_kfr {B : Nat} {H : Nat → Prop} {w w' : World} {M : Sp} (h : SpAt B H w M) (k : Sfr B w w') : Kfr KS B w w' :=
  ⟨k.os, k.tape, k.output, k.size, fun i hi hp => k.block i hi (by
    rcases hp with e | e
    · exact .inl e
    · refine Decidable.byContradiction fun n => e ?_
      exact (h.five i (by omega) (by omega)).1)⟩
theorem SpAt.keep {B B' : Nat} {H : Nat → Prop} {P : Option TypeId → Prop} {w w' : World} {M : Sp} (h : SpAt B H w M) (hH : ∀ b, H b → ek w b = some 141 ∨ ek w b = some 42) (k : Kfr P B' w w') (h5 : ∀ i, B ≤ i → i < B + 5 → w'.heap[i]? = w.heap[i]?) (h1 : ¬ P (some 141)) (h2 : ¬ P (some 42)) :
    SpAt B H w' M ∧ ∀ b, H b → ek w' b = some 141 ∨ ek w' b = some 42 := by
  have hb : ∀ b, H b → w'.heap[b]? = w.heap[b]? := fun b hb => by
    rcases hH b hb with e | e
    · exact k.block b (ek_lt e) (.inr (by rw [e]; exact h1))
    · exact k.block b (ek_lt e) (.inr (by rw [e]; exact h2))
  obtain ⟨wv, hf, hr⟩ := h
  exact ⟨⟨wv, hf.kept h5, hr.kept fun b hb' _ => hb b hb'.2⟩, fun b hb' => by rw [ek_same (hb b hb')]; exact hH b hb'⟩
theorem SpOk.kfr {P : Option TypeId → Prop} {B B' : Nat} {w w' : World} {M : Sp} (h : SpOk B w M) (k : Kfr P B' w w') (h0 : ¬ P none) (h1 : ¬ P (some 193)) (h2 : ¬ P (some 141)) (h3 : ¬ P (some 42)) : SpOk B w' M := by
  obtain ⟨H, hs, hH⟩ := h
  obtain ⟨a, b⟩ := hs.keep hH k (fun i i1 i2 => by
    obtain ⟨e, e2⟩ := hs.five i i1 i2
    exact k.block i e2 (.inr (by rcases e with e | e <;> rw [e] <;> assumption))) h2 h3
  exact ⟨H, a, b⟩
/-- Another map may have changed. -/
theorem SpOk.map {B b : Nat} {w w' : World} {M : Sp} (h : SpOk B w M) (g : w.grownBy w' (some b)) (hb : ek w b = none) (hn : b < B ∨ B + 5 ≤ b) : SpOk B w' M := by
  obtain ⟨H, hs, hH⟩ := h
  have k : Kfr (fun x => x = none) 0 w w' := Kfr.row g (Nat.zero_le _) hb
  obtain ⟨a, c⟩ := hs.keep hH k (fun i i1 i2 => g.block i (hs.five i i1 i2).2 (by intro e; injection e with e; omega)) (by simp) (by simp)
  exact ⟨H, a, c⟩
/-- Behind a space's own call. -/
theorem SpOk.op {B : Nat} {w w' : World} {M M' : Sp} {H : Nat → Prop} {v : Value} {r : Ending} (hs : SpAt B H w M) (hH : ∀ b, H b → ek w b = some 141 ∨ ek w b = some 42) (h : OpR B H w M' v r w') : SpOk B w' M' := by
  obtain ⟨_, h1, h2⟩ := h
  have k := sfr_kfr hs h2
  exact ⟨H, h1, fun b hb => by
    rcases hH b hb with e | e
    · left; rw [k.ek (ek_lt e) (.inr (by rw [e]; rintro (x | x) <;> simp at x))]; exact e
    · right; rw [k.ek (ek_lt e) (.inr (by rw [e]; rintro (x | x) <;> simp at x))]; exact e⟩

end Go.Proofs.YtildjdhoeilcfaaGreat
