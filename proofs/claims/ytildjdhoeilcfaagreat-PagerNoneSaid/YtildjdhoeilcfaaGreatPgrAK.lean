/-
  Layout: the contracts of its smallest calls: a page's size, bytes that are noughts. Own work.
-/
import Derived.Test.YtildjdhoeilcfaaGreatPgrAI
import Derived.Deep.QuietTactic
import Derived.BigQuiet
import Derived.Deep.LoopGhost
import Derived.Test.YtildjdhoeilcfaaGreatRows
import Derived.WalkKit
import Derived.WalkSpells
import Derived.WalkLawsBesides
import Derived.Deep.WholeRow
import Derived.Lib.Hide
import Derived.Test.YtildjdhoeilcfaaGreatPgrAA
import Derived.Test.YtildjdhoeilcfaaGreatPgrAJ
import Derived.Test.YtildjdhoeilcfaaGreatPgrAF
import Derived.Lib.Bytes

namespace Go.Proofs.YtildjdhoeilcfaaGreat
open Go.RowKit

set_option maxHeartbeats 400000 in
theorem lsize_any (n : Int) (w : World) :
    Calls Tryz.prog 65 #[.int .i64 n] w fun r w' => r = .returned (.bool (decide (512 ≤ n) && decide (n ≤ 4096))) ∧ w = w' := by
  by_cases h : 512 ≤ n
  · go_enter Tryz.func65, Tryz.ntmps65
    go_wp2
    go_ret
    exact ⟨by simp [h], rfl⟩
  · go_enter Tryz.func65, Tryz.ntmps65
    go_wp2
    go_ret
    exact ⟨by simp; omega, rfl⟩

theorem lsize_yes (n : Int) (w : World) (h1 : 512 ≤ n) (h2 : n ≤ 4096) : Calls Tryz.prog 65 #[.int .i64 n] w fun r w' => r = .returned (.bool true) ∧ w = w' :=
  (lsize_any n w).mono fun r w' h => by simpa [h1, h2] using h
theorem lsize_no (n : Int) (w : World) (h : ¬ (512 ≤ n ∧ n ≤ 4096)) : Calls Tryz.prog 65 #[.int .i64 n] w fun r w' => r = .returned (.bool false) ∧ w = w' :=
  (lsize_any n w).mono fun r w' k => by
    have e : (decide (512 ≤ n) && decide (n ≤ 4096)) = false := by simp; omega
    rwa [e] at k

set_option maxHeartbeats 400000 in
theorem nought1_any (a : Int) (w : World) : Calls Tryz.prog 133 #[.int .u8 a] w fun r w' => r = .returned (.bool (a != 0)) ∧ w = w' := by
  go_enter Tryz.func133, Tryz.ntmps133
  go_wp2
  go_ret
  exact ⟨rfl, rfl⟩
theorem allZ_drop {xs : List Int} {k : Nat} (h : k < xs.length) : allZ (xs.drop k) = (xs.getD k 0 == 0 && allZ (xs.drop (k + 1))) := by
  unfold allZ
  rw [List.drop_eq_getElem_cons h, List.all_cons, List.getD_eq_getElem?_getD, List.getElem?_eq_getElem h]
  rfl
theorem allZ_end {xs : List Int} {k : Nat} (h : xs.length ≤ k) : allZ (xs.drop k) = true := by rw [List.drop_eq_nil_of_le h]; rfl

/-- What IndexFunc tells of bytes: below 0 just if all are noughts. -/
def IdxR (xs : List Int) (w w' : World) (r : Ending) : Prop := ∃ i : Int, r = .returned (.int .i64 i) ∧ (i < 0 ↔ allZ xs = true) ∧ w = w'

set_option maxHeartbeats 1000000 in
theorem index_any (w : World) (B : Nat) (a1 : Option Addr) (n1 c1 : Nat) (xs : List Int) (h1 : Seq B w (.slice a1 n1 c1) xs) :
    Calls Tryz.prog 181 #[.slice a1 n1 c1, .func (.func 133) #[] #[]] w fun r w' => IdxR xs w w' r := by
  have e1 : n1 = xs.length := by obtain ⟨_, _, hv, _⟩ := h1; injection hv
  have hm1 : n1 ≤ 9223372036854775807 := by obtain ⟨_, _, hv, h3, h4, _⟩ := h1; injection hv; unfold maxLen at h4; omega
  have E1 := Lib.hid e1
  have H1 := Lib.hid h1
  clear e1 h1
  go_enter Tryz.func181, Tryz.ntmps181
  go_wp2
  go_loop [8] (fun i => ∃ k : Nat, k ≤ n1 ∧ i = .int .i64 k ∧ Hid (allZ xs = allZ (xs.drop k))) (fun i => n1 - (intOf i).toNat)
  case atStart => exact ⟨0, Nat.zero_le _, rfl, Lib.hid rfl⟩
  case round =>
    obtain ⟨k, hk1, rfl, HC⟩ := hrel
    by_cases hlt : k < n1
    · obtain ⟨b1, o1, rfl, hc1⟩ := H1.out.cellAt k (by have := E1.out; omega)
      have HD := Lib.hid (allZ_drop (xs := xs) (k := k) (by have := E1.out; omega))
      generalize xs.getD k 0 = x at *
      by_cases he : x = 0
      · subst he
        go_wp2_with (go_at_call 133; refine (nought1_any _ _).mono ?_; rintro r w1 ⟨rfl, rfl⟩)
        go_round
        case rel => exact ⟨k + 1, by omega, by go_num, Lib.hid (HC.out.trans (by rw [HD.out]; rfl))⟩
        case measure => simp [intOf]; omega
      · have hb : (x != 0) = true := by simpa using he
        have HF := Lib.hid (show ¬ allZ xs = true by rw [HC.out, HD.out]; simp [he])
        clear he
        go_wp2_with (go_at_call 133; refine (nought1_any _ _).mono ?_; rintro r w1 ⟨rfl, rfl⟩)
        go_ret
        exact ⟨k, rfl, ⟨fun h => by omega, fun h => absurd h HF.out⟩, rfl⟩
    · obtain rfl : k = n1 := by omega
      have HF := Lib.hid (show allZ xs = true by rw [HC.out]; exact allZ_end (by have := E1.out; omega))
      go_wp2
      go_ret
      exact ⟨-1, rfl, ⟨fun _ => HF.out, fun _ => by decide⟩, rfl⟩

theorem index_neg {w : World} {B : Nat} {a1 : Option Addr} {n1 c1 : Nat} {xs : List Int} (h1 : Seq B w (.slice a1 n1 c1) xs) (hz : allZ xs = true) :
    Calls Tryz.prog 181 #[.slice a1 n1 c1, .func (.func 133) #[] #[]] w fun r w' => ∃ i : Int, r = .returned (.int .i64 i) ∧ i < 0 ∧ w = w' :=
  (index_any w B a1 n1 c1 xs h1).mono fun _ _ ⟨i, e, hi, hw⟩ => ⟨i, e, hi.2 hz, hw⟩
theorem index_pos {w : World} {B : Nat} {a1 : Option Addr} {n1 c1 : Nat} {xs : List Int} (h1 : Seq B w (.slice a1 n1 c1) xs) (hz : ¬ allZ xs = true) :
    Calls Tryz.prog 181 #[.slice a1 n1 c1, .func (.func 133) #[] #[]] w fun r w' => ∃ i : Int, r = .returned (.int .i64 i) ∧ 0 ≤ i ∧ w = w' :=
  (index_any w B a1 n1 c1 xs h1).mono fun _ _ ⟨i, e, hi, hw⟩ => ⟨i, e, Int.not_lt.1 (fun h => hz (hi.1 h)), hw⟩

set_option maxHeartbeats 1000000 in
theorem noughts_any (w : World) (B : Nat) (a1 : Option Addr) (n1 c1 : Nat) (xs : List Int) (h1 : Seq B w (.slice a1 n1 c1) xs) :
    Calls Tryz.prog 96 #[.slice a1 n1 c1] w fun r w' => r = .returned (.bool (allZ xs)) ∧ w = w' := by
  have H1 := Lib.hid h1
  clear h1
  by_cases hz : allZ xs = true
  · have HZ := Lib.hid hz
    have HI := Lib.hid (index_neg H1.out hz)
    rw [hz]
    clear hz
    go_enter Tryz.func96, Tryz.ntmps96
    go_wp2_with (first
      | (go_at_call 181; refine HI.out.mono ?_; rintro r w1 ⟨i, rfl, hi, rfl⟩; have hi2 : decide (0 ≤ i) = false := by simp; omega)
      | go_in)
    go_ret
    exact ⟨rfl, rfl⟩
  · have hz2 : allZ xs = false := by simpa using hz
    have HZ := Lib.hid hz
    have HI := Lib.hid (index_pos H1.out hz)
    rw [hz2]
    clear hz hz2
    go_enter Tryz.func96, Tryz.ntmps96
    go_wp2_with (first
      | (go_at_call 181; refine HI.out.mono ?_; rintro r w1 ⟨i, rfl, hi, rfl⟩; have hi2 : decide (0 ≤ i) = true := by simpa using hi)
      | go_in)
    go_ret
    exact ⟨rfl, rfl⟩

end Go.Proofs.YtildjdhoeilcfaaGreat

namespace Go.Proofs.YtildjdhoeilcfaaGreat
open Go.RowKit

theorem xorI (a b : Nat) (ha : a < 4294967296) (hb : b < 4294967296) : bits .xor .u32 (a : Int) (b : Int) = ((a ^^^ b : Nat) : Int) := u32_xor_nat a b ha hb

set_option maxHeartbeats 400000 in
theorem bitMore_any (n : Nat) (w : World) (hn : n < 4294967296) :
    Calls Tryz.prog 150 #[.int .u32 (n : Int)] w fun r w' => r = .returned (.int .u32 ((bm n : Nat) : Int)) ∧ w = w' := by
  have hx : bits .xor .u32 ((n : Int) / 2) 3988292384 = ((n / 2 ^^^ 3988292384 : Nat) : Int) := xorI (n / 2) 3988292384 (by omega) (by omega)
  by_cases h : n % 2 = 1
  · have h1 : (n : Int) % 2 = 1 := by omega
    have hb : bm n = n / 2 ^^^ 3988292384 := by unfold bm; rw [if_pos h]
    rw [hb]
    clear hb h
    go_enter Tryz.func150, Tryz.ntmps150
    go_wp2_with (rw [hx])
    go_ret
    exact ⟨rfl, rfl⟩
  · have h1 : (n : Int) % 2 = 0 := by omega
    have hb : bm n = n / 2 := by unfold bm; rw [if_neg h]
    rw [hb]
    clear hb h
    go_enter Tryz.func150, Tryz.ntmps150
    go_wp2
    go_ret
    exact ⟨rfl, rfl⟩

theorem gtrans2 {a b c : World} {row : Option Nat} (h : a.grownBy b row) (k : b.grownBy c row) : a.grownBy c row :=
  ⟨k.os.trans h.os, k.tape.trans h.tape, k.output.trans h.output, Nat.le_trans h.size k.size, fun i hi hn => (k.block i (Nat.lt_of_lt_of_le hi h.size) hn).trans (h.block i hi hn)⟩

/-- What four bits do, the first k of them made. -/
def halfV (k j : Nat) : Value := .int .u32 ((if j < k then bms 4 j else 0 : Nat) : Int)
def halfC (k : Nat) : Array Value := ((List.range 16).map (halfV k)).toArray
theorem halfC_size (k : Nat) : (halfC k).size = 16 := by simp [halfC]
theorem halfC_get (k j : Nat) (hj : j < 16) : (halfC k)[j]? = some (halfV k j) := by simp [halfC, hj]
theorem halfC_set (k : Nat) (hk : k < 16) : (halfC k).setIfInBounds k (.int .u32 ((bms 4 k : Nat) : Int)) = halfC (k + 1) := by
  apply Array.ext_getElem?
  intro j
  rw [Array.getElem?_setIfInBounds]
  by_cases hj : j < 16
  · rw [halfC_get _ _ hj, halfC_get _ _ hj, halfC_size]
    by_cases he : k = j
    · subst he; simp [halfV, hk]
    · have : (j < k + 1) = (j < k) := by apply propext; omega
      simp [he, halfV, this]
  · have h0 : ∀ k, (halfC k)[j]? = none := fun k => Array.getElem?_eq_none (by rw [halfC_size]; omega)
    rw [h0, h0]
    have : ¬ k = j := by omega
    simp [this]

theorem halfC_full : halfC 16 = #[.int .u32 0, .int .u32 498536548, .int .u32 997073096, .int .u32 651767980, .int .u32 1994146192, .int .u32 1802195444, .int .u32 1303535960, .int .u32 1342533948, .int .u32 3988292384, .int .u32 4027552580, .int .u32 3604390888, .int .u32 3412177804, .int .u32 2607071920, .int .u32 2262029012, .int .u32 2685067896, .int .u32 3183342108] := by kernel_rfl
theorem halfC_none : halfC 0 = #[.int .u32 0, .int .u32 0, .int .u32 0, .int .u32 0, .int .u32 0, .int .u32 0, .int .u32 0, .int .u32 0, .int .u32 0, .int .u32 0, .int .u32 0, .int .u32 0, .int .u32 0, .int .u32 0, .int .u32 0, .int .u32 0] := by kernel_rfl

set_option maxHeartbeats 1000000 in
theorem halfSums_any (w : World) :
    Calls Tryz.prog 109 #[] w fun r w' => r = .returned (.agg (halfC 16)) ∧ w.grownBy w' none := by
  go_enter Tryz.func109, Tryz.ntmps109
  go_wp2
  go_loopg [4] 16 (fun g i wr => ∃ k : Nat, k + g = 16 ∧ i = .int .i64 k ∧ wr = (w.alloc (.cells (halfC 0) 203)).alloc (.cells (halfC k) 203))
  case atStart => exact ⟨0, rfl, rfl, rfl⟩
  case round =>
    obtain ⟨k, hk, rfl, rfl⟩ := hrel
    by_cases hlt : k < 16
    · obtain ⟨g, rfl⟩ : ∃ g, gk = g + 1 := ⟨gk - 1, by omega⟩
      have hki : (k : Int) < 16 := by omega
      have hsz := halfC_size k
      have HS := Lib.hid (halfC_set k hlt)
      go_wp2
      go_loopg [3, 9] 4 (fun g x i wr => ∃ j : Nat, j + g = 4 ∧ i = .int .i64 j ∧ x = .int .u32 ((bms j k : Nat) : Int) ∧ wr = (w.alloc (.cells (halfC 0) 203)).alloc (.cells (halfC k) 203))
      case atStart => exact ⟨0, rfl, rfl, by go_num, rfl⟩
      case round =>
        obtain ⟨j, hj, rfl, rfl, rfl⟩ := hrel
        by_cases hj4 : j < 4
        · obtain ⟨h, rfl⟩ : ∃ h, gk = h + 1 := ⟨gk - 1, by omega⟩
          have hji : (j : Int) < 4 := by omega
          have HJ := Lib.hid (bms_succ j k)
          have HL := Lib.hid (bms_lt j (x := k) (by omega))
          obtain ⟨x, hx⟩ : ∃ x, x = bms j k := ⟨_, rfl⟩
          rw [← hx] at HJ HL ⊢
          have HX := Lib.hid hx
          clear hx HS
          go_wp2_with (go_at_call 150; have K := bitMore_any x ((w.alloc (.cells (halfC 0) 203)).alloc (.cells (halfC k) 203)) HL.out; ((with_reducible refine K.mono ?_); clear K; rintro r w' ⟨rfl, rfl⟩))
          go_roundg h
          case measure => omega
          case rel => exact ⟨j + 1, by omega, by go_num, by rw [HJ.out], rfl⟩
        · obtain rfl : j = 4 := by omega
          have hx : (bms 4 k) < 4294967296 := bms_lt 4 (by omega)
          obtain ⟨x, hx⟩ : ∃ x, x = bms 4 k := ⟨_, rfl⟩
          rw [← hx] at HS ⊢
          clear hx
          go_wp2
          go_roundg g
          case measure => omega
          case rel => exact ⟨k + 1, by omega, by go_num, by rw [← HS.out]⟩
    · obtain rfl : k = 16 := by omega
      have H16 := Lib.hid (halfC_size 16)
      rw [halfC_full, halfC_none]
      go_wp2
      rw [← halfC_full]
      have hb : ((w.alloc (.cells (halfC 16) 203)).alloc (.cells (halfC 16) 203)).heap[w.heap.size]? = some (.cells (halfC 16) 203 (0, 0)) :=
        (Below.heap_alloc (w.alloc (.cells (halfC 16) 203)) (.cells (halfC 16) 203) w.heap.size (by simp)).trans (heap_alloc_last _ _)
      exact bodyPost_ret (v := .agg (halfC 16)) (results_cell_row rfl _ _ w.heap.size 203 (halfC 16) (0, 0) _ rfl hb Tryz.underlying203 rfl (by rw [H16.out]; kernel_rfl)) rfl ⟨rfl, gtrans2 (World.grownBy_alloc _ _ _) (World.grownBy_alloc _ _ _)⟩

end Go.Proofs.YtildjdhoeilcfaaGreat

namespace Go.Proofs.YtildjdhoeilcfaaGreat
open Go.RowKit

/-- The value v is a slice of slices that read as the rows ls; all cells lie below block B. -/
def SeqS (B : Nat) (w : World) (v : Value) (ls : List (List Int)) : Prop :=
  ∃ ao c, v = .slice ao ls.length c ∧ ls.length ≤ 9223372036854775807 ∧ (ls ≠ [] → ∃ b o, ao = some ⟨b, o, none⟩ ∧ b < B ∧ ∀ j, j < ls.length → ∃ vj, w.cell? ⟨b, o + j, none⟩ = some vj ∧ Seq B w vj (ls.getD j []))

theorem SeqS.below {B : Nat} {w w' : World} {v : Value} {ls : List (List Int)} (h : SeqS B w v ls) (k : ∀ i, i < B → w'.heap[i]? = w.heap[i]?) : SeqS B w' v ls := by
  obtain ⟨ao, c, hv, hl, h4⟩ := h
  refine ⟨ao, c, hv, hl, fun hne => ?_⟩
  obtain ⟨b, o, ha, hb, hc⟩ := h4 hne
  refine ⟨b, o, ha, hb, fun j hj => ?_⟩
  obtain ⟨vj, hcj, hs⟩ := hc j hj
  exact ⟨vj, (World.cell?_of_block (w := w) (k b hb)).trans hcj, hs.below k⟩

theorem xorI_div (x m : Nat) (hx : x < 4294967296) (hm : (x : Int) % 16 = m) : bits .xor .u32 ((x : Int) / 16) ((bms 4 m : Nat) : Int) = ((bms 4 x : Nat) : Int) := by
  have e : m = x % 16 := by omega
  subst e
  have := xorI (x / 16) (bms 4 (x % 16)) (by omega) (bms_lt 4 (by omega))
  rw [show ((x / 16 : Nat) : Int) = (x : Int) / 16 by omega] at this
  rw [this, bm4 x]

theorem halfC_one (k : Nat) : (halfC k).all (·.oneCell') = true := by simp [halfC, halfV, Value.oneCell']
theorem flat_take {ls : List (List Int)} {k : Nat} (hk : k < ls.length) : (ls.take (k + 1)).flatten = (ls.take k).flatten ++ ls.getD k [] := by
  rw [List.take_succ_eq_append_getElem hk, List.flatten_append]; simp [List.getElem?_eq_getElem hk]
theorem byt_row {ls : List (List Int)} (h : ∀ l ∈ ls, Byt l) (k : Nat) : Byt (ls.getD k []) := by
  rw [List.getD_eq_getElem?_getD]
  rcases Nat.lt_or_ge k ls.length with hk | hk
  · rw [List.getElem?_eq_getElem hk]; exact h _ (List.getElem_mem hk)
  · rw [List.getElem?_eq_none hk]; intro x hx; simp at hx
theorem byt_flat {ls : List (List Int)} (h : ∀ l ∈ ls, Byt l) : Byt ls.flatten := by
  intro x hx
  obtain ⟨l, hl, hxl⟩ := List.mem_flatten.1 hx
  exact h l hl x hxl

set_option maxHeartbeats 2000000 in
theorem of_any (w : World) (v : Value) (ls : List (List Int)) (h : SeqS w.heap.size w v ls) (hb : ∀ l ∈ ls, Byt l) :
    Calls Tryz.prog 70 #[v] w fun r w' => r = .returned (.int .u32 ((crcN ls.flatten : Nat) : Int)) ∧ w.grownBy w' none := by
  obtain ⟨ao, c, rfl, hl, h4⟩ := h
  obtain ⟨n, hn⟩ : ∃ n, n = ls.length := ⟨_, rfl⟩
  rw [← hn] at hl ⊢
  have HN := Lib.hid hn
  have HB := Lib.hid hb
  have H4 := Lib.hid h4
  clear h4 hn hb
  go_enter Tryz.func70, Tryz.ntmps70
  go_wp2_with (go_at_call 109; refine (halfSums_any _).mono ?_; rintro r w1 ⟨rfl, hg1⟩; have H1 := Lib.hid hg1; clear hg1; have hsc := run_storeCells_new (P := Tryz.prog) w1 203 (halfC 0) (halfC 16) (by rw [halfC_size]; kernel_rfl) (by rw [halfC_size, halfC_size]) (halfC_one 16); rw [halfC_none] at hsc)
  clear hsc
  have HC : ∀ m, m < 16 → (w1.alloc (.cells (halfC 16) 203)).cell? ⟨w1.heap.size, m, none⟩ = some (.int .u32 ((bms 4 m : Nat) : Int)) := fun m hm => by
    rw [World.cell?_alloc_mark, halfC_get 16 m hm]; simp [halfV, hm]
  have HG : w.grownBy (w1.alloc (.cells (halfC 16) 203)) none := gtrans H1.out (World.grownBy_alloc _ _ _)
  generalize w1.alloc (.cells (halfC 16) 203) = W at HC HG ⊢
  generalize w1.heap.size = q at HC HG ⊢
  clear H1
  have HC := Lib.hid HC
  have HG := Lib.hid HG
  generalize halfC 16 = hh
  go_loopg [4, 12] n (fun g x i wr => ∃ k : Nat, k + g = n ∧ i = .int .i64 k ∧ x = .int .u32 ((more 4294967295 (ls.take k).flatten : Nat) : Int) ∧ wr = W)
  case atStart => exact ⟨0, by omega, rfl, rfl, rfl⟩
  case round =>
    obtain ⟨k, hk, rfl, rfl, rfl⟩ := hrel
    by_cases hlt : k < n
    · obtain ⟨g, rfl⟩ : ∃ g, gk = g + 1 := ⟨gk - 1, by omega⟩
      have hki : (k : Int) < (n : Int) := by omega
      obtain ⟨b, o, rfl, hbb, hc⟩ := H4.out (by rintro rfl; have := HN.out; simp at this; omega)
      obtain ⟨vk, hck, hsk⟩ := hc k (by rw [← HN.out]; exact hlt)
      have hck := HG.out.cell (row := none) hck (by simp)
      have hsk := hsk.below (fun i hi => HG.out.block i hi (by simp))
      have HBk := Lib.hid (byt_row HB.out k)
      have HX0 := Lib.hid (more_lt _ (byt_flat (ls := ls.take k) fun l hl => HB.out l (List.mem_of_mem_take hl)) (x := 4294967295) (by decide))
      have HT := Lib.hid (show more 4294967295 (ls.take (k + 1)).flatten = more (more 4294967295 (ls.take k).flatten) (ls.getD k []) by rw [flat_take (by rw [← HN.out]; exact hlt), more_app])
      generalize more 4294967295 (ls.take k).flatten = X at HX0 HT ⊢
      generalize ls.getD k [] = bs at hsk HBk HT
      obtain ⟨ak, ck, rfl, hl1, hl2, _, hs4⟩ := hsk
      have hlm : bs.length ≤ 9223372036854775807 := by unfold maxLen at hl2; omega
      obtain ⟨m, hm⟩ : ∃ m, m = bs.length := ⟨_, rfl⟩
      rw [← hm] at hck hlm hl1
      have HM := Lib.hid hm
      have HS := Lib.hid hs4
      clear hm hs4 hc
      go_wp2
      go_loopg [4, 18] m (fun g x i wq => ∃ j : Nat, j + g = m ∧ i = .int .i64 j ∧ x = .int .u32 ((more X (bs.take j) : Nat) : Int) ∧ wq = wr)
      case atStart => exact ⟨0, by omega, rfl, rfl, rfl⟩
      case round =>
        obtain ⟨j, hj, rfl, rfl, rfl⟩ := hrel
        by_cases hjm : j < m
        · obtain ⟨h, rfl⟩ : ∃ h, gk = h + 1 := ⟨gk - 1, by omega⟩
          have hji : (j : Int) < (m : Int) := by omega
          obtain ⟨b', o', rfl, _, hc'⟩ := HS.out (by rintro rfl; have := HM.out; simp at this; omega)
          have hcj := hc' j (by rw [← HM.out]; exact hjm)
          have hbj := Byt.get HBk.out j
          clear hc'
          have HX1 := Lib.hid (more_lt (bs.take j) (Byt.take HBk.out j) HX0.out)
          have HU := Lib.hid (show more X (bs.take (j + 1)) = bms 8 (more X (bs.take j) ^^^ (bs.getD j 0).toNat) by
            rw [show bs.take (j + 1) = bs.take j ++ [bs.getD j 0] by rw [List.take_succ_eq_append_getElem (by rw [← HM.out]; exact hjm)]; simp [List.getElem?_eq_getElem (show j < bs.length by rw [← HM.out]; exact hjm)], more_app]; rfl)
          generalize more X (bs.take j) = Y at HX1 HU ⊢
          obtain ⟨z, hz⟩ : ∃ z : Nat, bs.getD j 0 = (z : Int) := ⟨(bs.getD j 0).toNat, by omega⟩
          rw [hz] at hcj hbj HU
          rw [Int.toNat_natCast] at HU
          clear hz
          have hxr := xorI Y z HX1.out (by omega)
          have HZ := Lib.hid (show Y ^^^ z < 4294967296 from Nat.xor_lt_two_pow (n := 32) HX1.out (by omega))
          go_wp2
          generalize (Y ^^^ z : Nat) = Z at HZ HU ⊢
          clear hxr
          go_loopg [4, 26] 2 (fun g x i wq => ∃ e : Nat, e + g = 2 ∧ i = .int .i64 e ∧ x = .int .u32 ((bms (4 * e) Z : Nat) : Int) ∧ wq = wr)
          case atStart => exact ⟨0, rfl, rfl, rfl, rfl⟩
          case round =>
            obtain ⟨e, he, rfl, rfl, rfl⟩ := hrel
            by_cases he2 : e < 2
            · obtain ⟨f, rfl⟩ : ∃ f, gk = f + 1 := ⟨gk - 1, by omega⟩
              have hei : (e : Int) < 2 := by omega
              have HE := Lib.hid (show bms (4 * (e + 1)) Z = bms 4 (bms (4 * e) Z) by rw [show 4 * (e + 1) = 4 * e + 4 by omega, bms_add])
              have HV := Lib.hid (bms_lt (4 * e) HZ.out)
              generalize bms (4 * e) Z = V at HE HV ⊢
              obtain ⟨i, hi⟩ : ∃ i : Nat, (V : Int) % 16 = i := ⟨V % 16, by omega⟩
              have hi16 : i < 16 := by omega
              have hii : (i : Int) < 16 := by omega
              have hci := HC.out i hi16
              have hxd := xorI_div V i HV.out hi
              go_wp2
              go_roundg f
              case measure => omega
              case rel => exact ⟨e + 1, by omega, by go_num, by rw [HE.out], rfl⟩
            · obtain rfl : e = 2 := by omega
              go_wp2
              go_roundg h
              case measure => omega
              case rel => exact ⟨j + 1, by omega, by go_num, by rw [HU.out], rfl⟩
        · obtain rfl : j = m := by omega
          have HF := Lib.hid (show bs.take j = bs by rw [HM.out]; exact List.take_length)
          go_wp2
          go_roundg g
          case measure => omega
          case rel => exact ⟨k + 1, by omega, by go_num, by rw [HT.out, HF.out], rfl⟩
    · obtain rfl : k = n := by omega
      have HF := Lib.hid (show ls.take k = ls by rw [HN.out]; exact List.take_length)
      have HX0 := Lib.hid (more_lt _ (byt_flat HB.out) (x := 4294967295) (by decide))
      have HR := Lib.hid (show crcN ls.flatten = more 4294967295 ls.flatten ^^^ 4294967295 from rfl)
      rw [HF.out]
      generalize more 4294967295 ls.flatten = X at HX0 HR ⊢
      have hfin : bits .xor .u32 IntKind.u32.max (X : Int) = ((X ^^^ 4294967295 : Nat) : Int) := by
        rw [Nat.xor_comm]; exact xorI 4294967295 X (by decide) HX0.out
      have HFin := Lib.hid hfin
      clear hfin
      go_wp2
      go_ret
      exact ⟨by rw [HR.out, ← HFin.out]; rfl, HG.out⟩

end Go.Proofs.YtildjdhoeilcfaaGreat

namespace Go.Proofs.YtildjdhoeilcfaaGreat
open Go.RowKit

theorem of_lit (w : World) (C : Array Value) (t : TypeId) (ls : List (List Int)) (n : Nat) (hn : n = ls.length) (hl : n ≤ 100)
    (hC : ∀ j, j < n → ∃ vj, C[j]? = some vj ∧ Seq w.heap.size w vj (ls.getD j [])) (hb : ∀ l ∈ ls, Byt l) :
    Calls Tryz.prog 70 #[.slice (some ⟨w.heap.size, 0, none⟩) n n] (w.alloc (.cells C t)) fun r w' => r = .returned (.int .u32 ((crcN ls.flatten : Nat) : Int)) ∧ (w.alloc (.cells C t)).grownBy w' none := by
  subst hn
  have hsz : (w.alloc (.cells C t)).heap.size = w.heap.size + 1 := by simp
  refine of_any _ _ ls ⟨_, _, rfl, by omega, fun _ => ⟨w.heap.size, 0, rfl, by rw [hsz]; omega, fun j hj => ?_⟩⟩ hb
  obtain ⟨vj, h1, h2⟩ := hC j hj
  refine ⟨vj, ?_, ?_⟩
  · rw [Nat.zero_add, World.cell?_alloc_mark]; exact h1
  · rw [hsz]
    exact (h2.below (fun i hi => Below.heap_alloc w _ i hi)).mono (by omega)

/-- The world behind a literal row and a call that leaves new blocks alone. -/
theorem glit {a b c : World} {o : Obj} (h : a.grownBy b none) (k : (b.alloc o).grownBy c none) : a.grownBy c none := gtrans h (gtrans (World.grownBy_alloc _ _ _) k)
theorem glit0 {b c : World} {o : Obj} (k : (b.alloc o).grownBy c none) : b.grownBy c none := gtrans (World.grownBy_alloc _ _ _) k
theorem Seq.grown {w w' : World} {v : Value} {bs : List Int} (h : Seq w.heap.size w v bs) (k : w.grownBy w' none) : Seq w'.heap.size w' v bs :=
  (h.below (fun i hi => k.block i hi (by simp))).mono k.size

/-- Of at a row of rows that lies whole in a block of its own, wherever that block lies. -/
theorem of_blk (W : World) (q : Nat) (C : Array Value) (t : TypeId) (fr : Nat × Nat) (ls : List (List Int)) (n : Nat) (hq : W.heap[q]? = some (.cells C t fr)) (hn : n = ls.length) (hl : n ≤ 100)
    (hC : ∀ j, j < n → ∃ vj, C[j]? = some vj ∧ Seq W.heap.size W vj (ls.getD j [])) (hb : ∀ l ∈ ls, Byt l) :
    Calls Tryz.prog 70 #[.slice (some ⟨q, 0, none⟩) n n] W fun r w' => r = .returned (.int .u32 ((crcN ls.flatten : Nat) : Int)) ∧ W.grownBy w' none := by
  subst hn
  refine of_any _ _ ls ⟨_, _, rfl, by omega, fun _ => ⟨q, 0, rfl, lt_of_block hq, fun j hj => ?_⟩⟩ hb
  obtain ⟨vj, h1, h2⟩ := hC j hj
  refine ⟨vj, ?_, h2⟩
  rw [Nat.zero_add, cell_of_row W q j C t fr hq]; exact h1
theorem ofb1 {W : World} {q : Nat} {t : TypeId} {fr : Nat × Nat} {v : Value} {l : List Int} (hq : W.heap[q]? = some (.cells #[v] t fr)) (h : Seq W.heap.size W v l) (hb : Byt l) :
    Calls Tryz.prog 70 #[.slice (some ⟨q, 0, none⟩) 1 1] W fun r w' => r = .returned (.int .u32 ((crcN l : Nat) : Int)) ∧ W.grownBy w' none := by
  have := of_blk W q #[v] t fr [l] 1 hq rfl (by decide) (fun j hj => match j, hj with | 0, _ => ⟨v, rfl, h⟩) (by simpa using hb)
  simpa only [List.flatten_cons, List.flatten_nil, List.append_nil] using this
theorem ofb3 {W : World} {q : Nat} {t : TypeId} {fr : Nat × Nat} {v0 v1 v2 : Value} {l0 l1 l2 : List Int} (hq : W.heap[q]? = some (.cells #[v0, v1, v2] t fr)) (h0 : Seq W.heap.size W v0 l0) (h1 : Seq W.heap.size W v1 l1) (h2 : Seq W.heap.size W v2 l2) (hb0 : Byt l0) (hb1 : Byt l1) (hb2 : Byt l2) :
    Calls Tryz.prog 70 #[.slice (some ⟨q, 0, none⟩) 3 3] W fun r w' => r = .returned (.int .u32 ((crcN (l0 ++ (l1 ++ l2)) : Nat) : Int)) ∧ W.grownBy w' none := by
  have := of_blk W q #[v0, v1, v2] t fr [l0, l1, l2] 3 hq rfl (by decide) (fun j hj => match j, hj with | 0, _ => ⟨v0, rfl, h0⟩ | 1, _ => ⟨v1, rfl, h1⟩ | 2, _ => ⟨v2, rfl, h2⟩) (fun l hl => by simp at hl; rcases hl with rfl | rfl | rfl <;> assumption)
  simpa only [List.flatten_cons, List.flatten_nil, List.append_nil] using this

theorem of1 {w : World} {t : TypeId} {v : Value} {l : List Int} {q : Nat} (hq : q = w.heap.size) (h : Seq w.heap.size w v l) (hb : Byt l) :
    Calls Tryz.prog 70 #[.slice (some ⟨q, 0, none⟩) 1 1] (w.alloc (.cells #[v] t)) fun r w' => r = .returned (.int .u32 ((crcN l : Nat) : Int)) ∧ w.grownBy w' none := by
  subst hq
  have := of_lit w #[v] t [l] 1 rfl (by decide) (fun j hj => match j, hj with | 0, _ => ⟨v, rfl, h⟩) (by simpa using hb)
  simp only [List.flatten_cons, List.flatten_nil, List.append_nil] at this
  exact this.mono fun r w' ⟨h1, h2⟩ => ⟨h1, glit0 h2⟩
theorem of2 {w : World} {t : TypeId} {v0 v1 : Value} {l0 l1 : List Int} {q : Nat} (hq : q = w.heap.size) (h0 : Seq w.heap.size w v0 l0) (h1 : Seq w.heap.size w v1 l1) (hb0 : Byt l0) (hb1 : Byt l1) :
    Calls Tryz.prog 70 #[.slice (some ⟨q, 0, none⟩) 2 2] (w.alloc (.cells #[v0, v1] t)) fun r w' => r = .returned (.int .u32 ((crcN (l0 ++ l1) : Nat) : Int)) ∧ w.grownBy w' none := by
  subst hq
  have := of_lit w #[v0, v1] t [l0, l1] 2 rfl (by decide) (fun j hj => match j, hj with | 0, _ => ⟨v0, rfl, h0⟩ | 1, _ => ⟨v1, rfl, h1⟩) (fun l hl => by simp at hl; rcases hl with rfl | rfl <;> assumption)
  simp only [List.flatten_cons, List.flatten_nil, List.append_nil] at this
  exact this.mono fun r w' ⟨h1, h2⟩ => ⟨h1, glit0 h2⟩
theorem of3 {w : World} {t : TypeId} {v0 v1 v2 : Value} {l0 l1 l2 : List Int} {q : Nat} (hq : q = w.heap.size) (h0 : Seq w.heap.size w v0 l0) (h1 : Seq w.heap.size w v1 l1) (h2 : Seq w.heap.size w v2 l2) (hb0 : Byt l0) (hb1 : Byt l1) (hb2 : Byt l2) :
    Calls Tryz.prog 70 #[.slice (some ⟨q, 0, none⟩) 3 3] (w.alloc (.cells #[v0, v1, v2] t)) fun r w' => r = .returned (.int .u32 ((crcN (l0 ++ (l1 ++ l2)) : Nat) : Int)) ∧ w.grownBy w' none := by
  subst hq
  have := of_lit w #[v0, v1, v2] t [l0, l1, l2] 3 rfl (by decide) (fun j hj => match j, hj with | 0, _ => ⟨v0, rfl, h0⟩ | 1, _ => ⟨v1, rfl, h1⟩ | 2, _ => ⟨v2, rfl, h2⟩) (fun l hl => by simp at hl; rcases hl with rfl | rfl | rfl <;> assumption)
  simp only [List.flatten_cons, List.flatten_nil, List.append_nil] at this
  exact this.mono fun r w' ⟨h1, h2⟩ => ⟨h1, glit0 h2⟩
theorem of0 (w : World) : Calls Tryz.prog 70 #[.slice none 0 0] w fun r w' => r = .returned (.int .u32 0) ∧ w.grownBy w' none :=
  of_any w _ [] ⟨none, 0, rfl, by simp, fun h => absurd rfl h⟩ (by simp)

/-- A literal row of bytes reads as what was written. -/
theorem lit_seq {w : World} {t : TypeId} {fr : Nat × Nat} {C : Array Value} {xs : List Int} {n q : Nat} (hq : q = w.heap.size) (hn : n = xs.length) (hm : n ≤ maxLen) (hC : ∀ j, j < n → C[j]? = some (.int .u8 (xs.getD j 0))) :
    Seq (w.alloc (.cells C t fr)).heap.size (w.alloc (.cells C t fr)) (.slice (some ⟨q, 0, none⟩) n n) xs := by
  subst hq hn
  refine ⟨_, xs.length, rfl, Nat.le_refl _, hm, by simp, fun _ => ⟨w.heap.size, 0, rfl, by simp, fun j hj => ?_⟩⟩
  rw [Nat.zero_add, World.cell?_alloc_mark]; exact hC j hj

end Go.Proofs.YtildjdhoeilcfaaGreat

namespace Go.Proofs.YtildjdhoeilcfaaGreat
open Go.RowKit

set_option maxHeartbeats 1000000 in
theorem mput_no (w : World) (M : Mt) (size : Int) (h : ¬ (mright M = true ∧ 512 ≤ size ∧ size ≤ 4096)) :
    Calls Tryz.prog 26 #[.agg (mtC M), .int .i64 size] w fun r w' => r = .returned (.tuple #[.slice none 0 0, .int .i64 1]) ∧ w.grownBy w' none := by
  cases hr : mright M
  · have HG := Lib.hid (World.grownBy_alloc w (.cells (mtC M) 44) none)
    have hmc : mtC M = #[.int .u64 (M.t : Int), .int .u32 (M.e : Int), .int .u32 (M.m : Int), .int .u32 (M.f : Int)] := rfl
    clear h
    go_enter Tryz.func26, Tryz.ntmps26
    go_wp2_with (go_at_call 30; refine (mright_any M _).mono ?_; rintro r w1 ⟨rfl, hg1⟩; rw [hr]; have HG1 := Lib.hid (gtrans HG.out hg1); clear hg1)
    go_ret2
    exact ⟨rfl, HG1.out⟩
  · have hs : ¬ (512 ≤ size ∧ size ≤ 4096) := fun k => h ⟨hr, k⟩
    have hmc : mtC M = #[.int .u64 (M.t : Int), .int .u32 (M.e : Int), .int .u32 (M.m : Int), .int .u32 (M.f : Int)] := rfl
    have HG := Lib.hid (World.grownBy_alloc w (.cells (mtC M) 44) none)
    clear h
    go_enter Tryz.func26, Tryz.ntmps26
    go_wp2_with (first
      | (go_at_call 30; refine (mright_any M _).mono ?_; rintro r w1 ⟨rfl, hg1⟩; rw [hr]; have HG1 := Lib.hid (gtrans HG.out hg1); clear hg1)
      | (go_at_call 65; refine (lsize_no _ _ hs).mono ?_; rintro r w2 ⟨rfl, rfl⟩))
    go_ret2
    exact ⟨rfl, HG1.out⟩

/-- What stands while a page is put: the bytes that are summed lie somewhere; the Writer at g has put bs. -/
structure PSt7 (g : Nat) (w0 w : World) (v : Value) (xs bs : List Int) : Prop where
  wr : WrAt w g bs
  sq : Seq g w v xs
  bel : Below w0.heap.size w0 w
  g0 : w0.heap.size ≤ g
theorem PSt7.step {g : Nat} {w0 w w' : World} {v : Value} {xs bs bs' : List Int} (h : PSt7 g w0 w v xs bs) (hw : WrAt w' g bs') (hf : Fw g w w') : PSt7 g w0 w' v xs bs' :=
  ⟨hw, fw_seq hf h.wr (Nat.le_refl _) h.sq, h.bel.trans ((hf.below h.wr).mono h.g0), h.g0⟩
theorem PSt7.far {g : Nat} {w0 w w' : World} {v : Value} {xs bs : List Int} (h : PSt7 g w0 w v xs bs) (k : w.grownBy w' none) : PSt7 g w0 w' v xs bs :=
  ⟨h.wr.kept k, h.sq.below (fun i hi => k.block i (by have := h.wr.lt; omega) (by simp)), h.bel.trans ((gbelow k).mono h.bel.size), h.g0⟩
theorem PSt7.num {g : Nat} {w0 w : World} {v : Value} {xs bs : List Int} (h : PSt7 g w0 w v xs bs) (X : Int) (n : Nat) (m : Int) (hm : m = (n : Int)) (h0 : 0 ≤ X) (h1 : X ≤ 18446744073709551615) (hn1 : 1 ≤ n) (hn8 : n ≤ 8) (hl : bs.length ≤ 1000000) :
    Calls Tryz.prog 69 #[.pointer (some ⟨g, 0, none⟩), .int .u64 X, .int .i64 m] w fun r w' => r = .returned (.tuple #[]) ∧ PSt7 g w0 w' v xs (bs ++ numB X n n) := by
  subst hm
  exact (wnum_in w g n X bs h.wr h0 h1 hn1 hn8 (by omega)).mono fun r w' ⟨e, hw, hf⟩ => ⟨e, h.step hw hf⟩
theorem PSt7.raw {g B : Nat} {w0 w : World} {v u : Value} {xs bs ys : List Int} (h : PSt7 g w0 w v xs bs) (hs : Seq B w u ys) (hl : bs.length ≤ 1000000) (hk : ys.length ≤ 100000) :
    Calls Tryz.prog 68 #[.pointer (some ⟨g, 0, none⟩), u] w fun r w' => r = .returned (.tuple #[]) ∧ PSt7 g w0 w' v xs (bs ++ ys) :=
  (wraw_any w g B bs ys u h.wr hs (by omega)).mono fun r w' ⟨e, hw, hf⟩ => ⟨e, h.step hw hf⟩

set_option maxHeartbeats 4000000 in
theorem mput_ok (w : World) (M : Mt) (h : MtOk M) (hr : mright M = true) (S : Nat) (h1 : 512 ≤ S) (h2 : S ≤ 4096) :
    Calls Tryz.prog 26 #[.agg (mtC M), .int .i64 (S : Int)] w fun r w' => ∃ ao c, r = .returned (.tuple #[.slice ao S c, .int .i64 0]) ∧
      w'.ownsRow w.heap.size 5 1 (.slice ao S c) S ((mpage M S).map (.int .u8)) ∧ w.grownBy w' none := by
  obtain ⟨i0, hi, hz0, hz1, hz2⟩ := info_parts infoU8
  have HM := Lib.hid h
  have HT := Lib.hid (told_byt M S)
  have HTL := Lib.hid (told_len M S)
  have HPL := Lib.hid (mpage_len (M := M) (size := S) (by omega))
  have hpe : mpage M S = (([] ++ told M S) ++ numB ((crcN (told M S) : Nat) : Int) 4 4) ++ List.replicate (S - 32) 0 := by simp [mpage]
  have hcl := crcN_lt (l := told M S) (told_byt M S)
  obtain ⟨C, hC⟩ : ∃ C, C = crcN (told M S) := ⟨_, rfl⟩
  rw [← hC] at hpe hcl
  obtain ⟨Z, hZ⟩ : ∃ Z, Z = S - 32 := ⟨_, rfl⟩
  rw [← hZ] at hpe
  have HPE := Lib.hid hpe
  have HC := Lib.hid hC
  have HZI := Lib.hid (show (S : Int) - 32 = (Z : Int) by omega)
  have hZ4 : Z ≤ 4096 := by omega
  have HG := Lib.hid (World.grownBy_alloc w (.cells (mtC M) 44) none)
  clear h hpe hC hZ
  have hmc : mtC M = #[.int .u64 (M.t : Int), .int .u32 (M.e : Int), .int .u32 (M.m : Int), .int .u32 (M.f : Int)] := rfl
  obtain ⟨ts, hts⟩ : ∃ ts, ts = told M S := ⟨_, rfl⟩
  rw [← hts] at HT HTL HPE HC
  have HTS := Lib.hid hts
  clear hts
  go_enter Tryz.func26, Tryz.ntmps26
  go_wp2_with (first
    | (go_at_call 30; refine (mright_any M _).mono ?_; rintro r w1 ⟨rfl, hg1⟩; rw [hr]; have HG1 := Lib.hid (gtrans HG.out hg1); have q0 := Lib.hid ((hg1.block w.heap.size (by simp) (by simp)).trans (heap_alloc_new _ _)); obtain ⟨z0, z1, z2, z3⟩ := mt_cells q0.out; clear hg1)
    | (go_at_call 65; refine (lsize_yes _ _ (by omega) (by omega)).mono ?_; rintro r w2 ⟨rfl, rfl⟩)
    | (go_at_call 66; have K := tell_any w1 M HM.out S h2; rw [← HTS.out, hmc] at K; ((with_reducible refine K.mono ?_); clear K; rintro r w3 ⟨at', ct, rfl, hot, hgt⟩); have HO3 := Lib.hid (Seq.owned1 HTL.out hot); have HG3 := Lib.hid (gtrans HG1.out hgt); clear hot hgt)
    | (go_at_call 67; refine (newW_any _).mono ?_; rintro r w4 ⟨rfl, hw4, hg4⟩; have HP := Lib.hid (show PSt7 w3.heap.size w w4 (.slice at' 28 ct) ts [] from ⟨hw4, HO3.out.below (fun i hi => hg4.block i hi (by simp)), gbelow (gtrans HG3.out hg4), HG3.out.size⟩); clear hw4 hg4 z0 z1 z2 z3)
    | (go_at_call 68; have K := HP.out.raw HP.out.sq (by simp) (by rw [HTL.out]; decide); ((with_reducible refine K.mono ?_); clear K; rintro r w5 ⟨rfl, hs⟩); have HP5 := Lib.hid hs; clear hs HP)
    | (go_at_call 70; have K := of1 (w := w5) (t := 32) (q := w5.heap.size) rfl (HP5.out.sq.mono (Nat.le_of_lt HP5.out.wr.lt)) HT.out; rw [← HC.out] at K; ((with_reducible refine K.mono ?_); clear K; rintro r w6 ⟨rfl, hg⟩); have HP6 := Lib.hid (HP5.out.far hg); clear hg HP5)
    | (go_at_call 69; have K := HP6.out.num (C : Int) 4 4 rfl (by omega) (by omega) (by omega) (by omega) (by simp [HTL.out]); ((with_reducible refine K.mono ?_); clear K; rintro r w7 ⟨rfl, hs⟩); have HP7 := Lib.hid hs; clear hs HP6)
    | (at_make; refine wpList_make_full _ rfl _ _ 32 rfl 0 5 i0 (.int .u8 0) 1 Tryz.underlying32 hi hz0 hz1 .i64 .i64 _ _ Z rfl rfl ?c1 ?c2 ?c3 ?c4 (Nat.zero_le _) ?_; (case c1 => have := HZI.out; omega); (case c2 => have := HZI.out; omega); (case c3 => rw [hz2]; omega); (case c4 => unfold maxLen; omega); intro wM hown hgM; have HSM := Lib.hid (seq_made hown); have HPM := Lib.hid (HP7.out.far hgM); clear hown hgM HP7)
    | (go_at_call 68; have K := HPM.out.raw HSM.out (by simp [HTL.out, numB_len]) (by simp; omega); ((with_reducible refine K.mono ?_); clear K; rintro r w8 ⟨rfl, hs⟩); have HP8 := Lib.hid hs; clear hs HPM HSM; rw [← HPE.out] at HP8)
    | (go_at_call 71; have K := out_len HP8.out.wr HPL.out (by omega); ((with_reducible refine K.mono ?_); clear K; rintro r wn ⟨ao, c, rfl, ho, hgo⟩; have HO := Lib.hid ho; have HGO := Lib.hid hgo; clear ho hgo)))
  go_ret2
  exact ⟨ao, c, rfl, own_base HO.out HP8.out.bel.size, gof (HP8.out.bel.trans ((gbelow HGO.out).mono HP8.out.bel.size)) none⟩

end Go.Proofs.YtildjdhoeilcfaaGreat

namespace Go.Proofs.YtildjdhoeilcfaaGreat
open Go.RowKit

/-- What stands while bytes are read. -/
structure RS (g : Nat) (w0 w : World) (bs : List Int) (e : Int) : Prop where
  rd : RdAt w g bs e
  byt : Byt bs
  len : bs.length ≤ 140737488355328
  g0 : w0.heap.size ≤ g
  bel : Below w0.heap.size w0 w
theorem RS.far {g : Nat} {w0 w w' : World} {bs : List Int} {e : Int} (h : RS g w0 w bs e) (k : w.grownBy w' none) : RS g w0 w' bs e :=
  ⟨h.rd.kept (fun i hi => k.block i (by have := h.rd.lt; omega) (by simp)), h.byt, h.len, h.g0, h.bel.trans ((gbelow k).mono h.bel.size)⟩
theorem RS.set {g : Nat} {w0 w : World} {bs : List Int} {e : Int} (h : RS g w0 w bs e) (a : Addr) (u : Value) (ha : g < a.block) : RS g w0 (w.setCell a u) bs e :=
  ⟨h.rd.kept (fun i hi => Below.heap_setCell _ _ _ _ (by omega)), h.byt, h.len, h.g0, h.bel.setCell (by have := h.g0; omega) u⟩
theorem RS.num {g : Nat} {w0 w : World} {bs b1 out : List Int} {e e1 : Int} (h : RS g w0 w bs e) (n : Int) (h1 : 1 ≤ n) (h8 : n ≤ 8) (hx : nx bs e n true = (b1, e1, out)) :
    Calls Tryz.prog 184 #[.pointer (some ⟨g, 0, none⟩), .int .i64 n] w fun r w' => r = .returned (.int .u64 (beVal out)) ∧ RS g w0 w' b1 e1 ∧ w.grownBy w' (some g) := by
  have hd : (decide (1 ≤ n) && decide (n ≤ 8)) = true := by simp [h1, h8]
  have hq := num_any w g bs e n h.rd h.byt (by have := h.len; omega)
  rw [hd, hx] at hq
  obtain ⟨q1, q2, q3, q4⟩ := nx_both hx h.byt
  exact hq.mono fun r w' ⟨er, hr, hg⟩ => ⟨er, ⟨hr, q1, by have := h.len; omega, h.g0, h.bel.grown hg h.bel.size (fun k hk => by injection hk with hk; have := h.g0; omega)⟩, hg⟩
theorem RS.raw {g : Nat} {w0 w : World} {bs b1 out : List Int} {e e1 : Int} (h : RS g w0 w bs e) (n : Int) (t : Bool) (ht : decide (0 ≤ n) = t) (hx : nx bs e n t = (b1, e1, out)) :
    Calls Tryz.prog 139 #[.pointer (some ⟨g, 0, none⟩), .int .i64 n] w fun r w' => ∃ ao c, r = .returned (.slice ao out.length c) ∧ w'.ownsRow w.heap.size 5 1 (.slice ao out.length c) out.length (out.map (Value.int .u8)) ∧
      RS g w0 w' b1 e1 ∧ w.grownBy w' (some g) := by
  subst ht
  have hq := raw_any w g bs e n h.rd (by have := h.len; omega)
  rw [hx] at hq
  obtain ⟨q1, q2, q3, q4⟩ := nx_both hx h.byt
  exact hq.mono fun r w' ⟨ao, c, er, ho, hr, hg⟩ => ⟨ao, c, er, ho, ⟨hr, q1, by have := h.len; omega, h.g0, h.bel.grown hg h.bel.size (fun k hk => by injection hk with hk; have := h.g0; omega)⟩, hg⟩

end Go.Proofs.YtildjdhoeilcfaaGreat

namespace Go.Proofs.YtildjdhoeilcfaaGreat
open Go.RowKit

theorem less_bytes : ∀ a b : List Int, Byt a → Byt b → Op.bytesLess (Lib.bytesOf a) (Lib.bytesOf b) = decide (cmpL a b < 0)
  | [], [], _, _ => by simp [Op.bytesLess, cmpL, Lib.bytesOf]
  | _ :: _, [], _, _ => by simp [Op.bytesLess, cmpL, Lib.bytesOf]
  | [], _ :: _, _, _ => by simp [Op.bytesLess, cmpL, Lib.bytesOf]
  | x :: a, y :: b, ha, hb => by
    have ih := less_bytes a b (fun z hz => ha z (by simp [hz])) (fun z hz => hb z (by simp [hz]))
    have hx := ha x (by simp)
    have hy := hb y (by simp)
    have e1 : (UInt8.ofNat x.toNat < UInt8.ofNat y.toNat) ↔ x < y := by
      rw [UInt8.lt_iff_toNat_lt, UInt8.toNat_ofNat', UInt8.toNat_ofNat']; omega
    have e2 : (UInt8.ofNat x.toNat = UInt8.ofNat y.toNat) ↔ x = y := by
      constructor
      · intro h
        have := congrArg UInt8.toNat h
        rw [UInt8.toNat_ofNat', UInt8.toNat_ofNat'] at this; omega
      · intro h; rw [h]
    show (decide (UInt8.ofNat x.toNat < UInt8.ofNat y.toNat) || ((UInt8.ofNat x.toNat == UInt8.ofNat y.toNat) && Op.bytesLess (Lib.bytesOf a) (Lib.bytesOf b))) = _
    rw [ih, cmpL]
    by_cases h1 : x < y
    · rw [if_pos h1]; simp [e1.2 h1]
    · rw [if_neg h1, decide_eq_false (fun h => h1 (e1.1 h)), Bool.false_or]
      by_cases h2 : y < x
      · rw [if_pos h2, beq_eq_false_iff_ne.2 (fun h => by have := e2.1 h; omega)]; simp
      · rw [if_neg h2, beq_iff_eq.2 (e2.2 (by omega)), Bool.true_and]
theorem less_str {a b : List Int} (ha : Byt a) (hb : Byt b) : Op.bytesLess (strOfNums a).toList (strOfNums b).toList = decide (cmpL a b < 0) := by
  rw [Lib.strOfNums_toList, Lib.strOfNums_toList, less_bytes a b ha hb]
theorem str_inj {a b : List Int} (ha : Byt a) (hb : Byt b) (h : strOfNums a = strOfNums b) : a = b := by
  have h1 := less_str ha hb
  have h2 := less_str hb ha
  rw [h] at h1
  have h3 := less_str hb hb
  rw [h1] at h3
  rw [← h] at h2
  have h4 := less_str ha ha
  rw [h2] at h4
  rw [cmpL_refl] at h3 h4
  have := cmpL_eq a b
  simp at h3 h4
  rcases cmpL_range a b with e | e | e
  · omega
  · exact this e
  · have := cmpL_eq b a
    rcases cmpL_range b a with e' | e' | e'
    · omega
    · exact (this e').symm
    · exact absurd e' (by have := cmpL_anti a b; omega)
theorem eq_str {a b : List Int} (ha : Byt a) (hb : Byt b) : ((strOfNums a).toList == (strOfNums b).toList) = decide (cmpL a b = 0) := by
  by_cases h : cmpL a b = 0
  · rw [cmpL_eq a b h, cmpL_refl]; simp
  · rw [decide_eq_false h, beq_eq_false_iff_ne]
    intro e
    apply h
    have e2 := less_str ha hb
    rw [e] at e2
    have e3 := less_str hb hb
    have e4 := less_str hb ha
    rw [← e] at e4
    have e5 := less_str ha ha
    rw [e2, cmpL_refl] at e3
    rw [e4, cmpL_refl] at e5
    simp at e3 e5
    rcases cmpL_range a b with k | k | k
    · omega
    · exact k
    · have := cmpL_anti a b; omega

theorem str_nil_no {k : List Int} (hk : Byt k) (h : k ≠ []) : ¬ (strOfNums k).toList = [] := fun e => by
  have h1 := eq_str hk (show Byt [] from fun x hx => by cases hx)
  rw [e, show (strOfNums []).toList = [] by simp [strOfNums]] at h1
  have h2 : cmpL k [] = 0 := by simpa using h1
  exact h (cmpL_eq _ _ h2)

end Go.Proofs.YtildjdhoeilcfaaGreat
