/-
  Words for byte slices, the octet Writer's and Reader's memory, and the contracts of octet's smallest calls. Own work.
-/
import Derived.Test.YtildjdhoeilcfaaGreatRows
import Derived.WalkKit
import Derived.WalkSpells
import Derived.WalkLawsBesides
import Derived.Lib.Hide
import Derived.Test.YtildjdhoeilcfaaGreatPgrAA

namespace Go.Proofs.YtildjdhoeilcfaaGreat
open Go.RowKit

/-- A Reader at block g: its rest reads as bs, its error is e. -/
def RdAt (w : World) (g : Nat) (bs : List Int) (e : Int) : Prop :=
  ∃ v, Seq g w v bs ∧ w.heap[g]? = some (.cells #[v, .int .i64 e] 304 (0, 0))

/-- A Writer at block g that has put bs. -/
def WrAt (w : World) (g : Nat) (bs : List Int) : Prop :=
  ∃ v, w.ownsRow (g + 1) 5 1 v bs.length (bs.map (Value.int .u8)) ∧ w.heap[g]? = some (.cells #[v] 202 (0, 0))

theorem two_cell0 {w : World} {b : Nat} {u v : Value} {t : TypeId} (h : w.heap[b]? = some (.cells #[u, v] t (0, 0))) : w.cell? ⟨b, 0, none⟩ = some u := by simp [World.cell?, h]
theorem two_cell1 {w : World} {b : Nat} {u v : Value} {t : TypeId} (h : w.heap[b]? = some (.cells #[u, v] t (0, 0))) : w.cell? ⟨b, 1, none⟩ = some v := by simp [World.cell?, h]
theorem two_free0 {w : World} {b : Nat} {u v : Value} {t : TypeId} (h : w.heap[b]? = some (.cells #[u, v] t (0, 0))) : w.frozen? ⟨b, 0, none⟩ = false := by simp [World.frozen?, h]
theorem two_free1 {w : World} {b : Nat} {u v : Value} {t : TypeId} (h : w.heap[b]? = some (.cells #[u, v] t (0, 0))) : w.frozen? ⟨b, 1, none⟩ = false := by simp [World.frozen?, h]
theorem two_set0 {w : World} {b : Nat} {u v x : Value} {t : TypeId} (h : w.heap[b]? = some (.cells #[u, v] t (0, 0))) : (w.setCell ⟨b, 0, none⟩ x).heap[b]? = some (.cells #[x, v] t (0, 0)) := by
  have hlt := lt_of_block h
  have h' : w.heap[b] = .cells #[u, v] t (0, 0) := by simpa [Array.getElem?_eq_getElem hlt] using h
  show (w.heap.modify b _)[b]? = _
  rw [Array.getElem?_eq_getElem (by simpa using hlt), Array.getElem_modify_self, h']
  rfl
theorem two_set1 {w : World} {b : Nat} {u v x : Value} {t : TypeId} (h : w.heap[b]? = some (.cells #[u, v] t (0, 0))) : (w.setCell ⟨b, 1, none⟩ x).heap[b]? = some (.cells #[u, x] t (0, 0)) := by
  have hlt := lt_of_block h
  have h' : w.heap[b] = .cells #[u, v] t (0, 0) := by simpa [Array.getElem?_eq_getElem hlt] using h
  show (w.heap.modify b _)[b]? = _
  rw [Array.getElem?_eq_getElem (by simpa using hlt), Array.getElem_modify_self, h']
  rfl

theorem RdAt.lt {w : World} {g : Nat} {bs : List Int} {e : Int} (h : RdAt w g bs e) : g < w.heap.size := by
  obtain ⟨v, _, hv⟩ := h; exact lt_of_block hv
theorem RdAt.kept {w w' : World} {g : Nat} {bs : List Int} {e : Int} (h : RdAt w g bs e) (k : ∀ i, i ≤ g → w'.heap[i]? = w.heap[i]?) : RdAt w' g bs e := by
  obtain ⟨v, hs, hv⟩ := h
  exact ⟨v, hs.below fun i hi => k i (by omega), (k g (Nat.le_refl _)).trans hv⟩
theorem WrAt.lt {w : World} {g : Nat} {bs : List Int} (h : WrAt w g bs) : g < w.heap.size := by
  obtain ⟨v, _, hv⟩ := h; exact lt_of_block hv
theorem WrAt.kept {w w' : World} {g : Nat} {bs : List Int} (h : WrAt w g bs) (k : w.grownBy w' none) : WrAt w' g bs := by
  obtain ⟨v, hs, hv⟩ := h
  exact ⟨v, hs.kept k (by cases v.ownBlock <;> simp), (k.block g (lt_of_block hv) (by simp)).trans hv⟩

set_option maxHeartbeats 400000 in
theorem err_any (w : World) (g : Nat) (bs : List Int) (e : Int) (h : RdAt w g bs e) :
    Calls Tryz.prog 226 #[.pointer (some ⟨g, 0, none⟩)] w fun r w' => r = .returned (.int .i64 e) ∧ w = w' := by
  obtain ⟨v, hs, hv⟩ := h
  have h1 := two_cell1 hv
  clear hv hs
  go_enter Tryz.func226, Tryz.ntmps226
  go_wp2
  go_ret
  exact ⟨rfl, rfl⟩
set_option maxHeartbeats 400000 in
theorem err_nil (w : World) :
    Calls Tryz.prog 226 #[.pointer none] w fun r w' => r = .returned (.int .i64 1) ∧ w = w' := by
  go_enter Tryz.func226, Tryz.ntmps226
  go_wp2
  go_ret
  exact ⟨rfl, rfl⟩
set_option maxHeartbeats 400000 in
theorem rightSize_any (n : Int) (w : World) :
    Calls Tryz.prog 108 #[.int .i64 n] w fun r w' => r = .returned (.bool (decide (1 ≤ n) && decide (n ≤ 8))) ∧ w = w' := by
  by_cases h : 1 ≤ n
  · go_enter Tryz.func108, Tryz.ntmps108
    go_wp2
    go_ret
    exact ⟨by simp [h], rfl⟩
  · go_enter Tryz.func108, Tryz.ntmps108
    go_wp2
    go_ret
    exact ⟨by simp; omega, rfl⟩
set_option maxHeartbeats 400000 in
theorem newW_any (w : World) :
    Calls Tryz.prog 67 #[] w fun r w' => r = .returned (.pointer (some ⟨w.heap.size, 0, none⟩)) ∧ WrAt w' w.heap.size [] ∧ w.grownBy w' none := by
  go_enter Tryz.func67, Tryz.ntmps67
  go_wp2
  go_ret
  exact ⟨rfl, ⟨_, World.ownsRow_nil _ _ _ _, heap_alloc_new _ _⟩, World.grownBy_alloc _ _ _⟩

end Go.Proofs.YtildjdhoeilcfaaGreat

namespace Go.Proofs.YtildjdhoeilcfaaGreat
open Go.RowKit

set_option maxHeartbeats 400000 in
theorem clone_any (w : World) (B : Nat) (v : Value) (bs : List Int) (hs : Seq B w v bs) (_hB : B ≤ w.heap.size) (hl : bs.length ≤ 140737488355328) :
    Calls Tryz.prog 60 #[v] w fun r w' => ∃ ao c, r = .returned (.slice ao bs.length c) ∧ w'.ownsRow w.heap.size 5 1 (.slice ao bs.length c) bs.length (bs.map (Value.int .u8)) ∧ w.grownBy w' none := by
  obtain ⟨i0, hi, hz0, hz1, hz2⟩ := info_parts infoU8
  have hs' := hs
  obtain ⟨ao, c, rfl, h1, h2, h3, h4⟩ := hs
  cases ao with
  | none =>
    have hn : bs = [] := by
      cases bs with
      | nil => rfl
      | cons x xs => have := h3 rfl; simp at h1; omega
    subst hn
    have hc0 := h3 rfl
    subst hc0
    clear hs' h4 h3
    have heq : ∀ w : World, (binOp .eql 32 (.slice none 0 0) (.slice none 0 0)).run Tryz.prog w = .ok (.bool true) w := fun w => Lib.run_eql_slice_nil w _ _ _ _ _ _ _ Tryz.underlying32
    go_enter Tryz.func60, Tryz.ntmps60
    go_wp2
    go_ret
    exact ⟨_, _, rfl, World.ownsRow_nil _ _ _ _, grefl _ _⟩
  | some a =>
    obtain ⟨_, hc⟩ := hs'.cells
    clear hs' h4 h3
    have heq : ∀ w : World, (binOp .eql 32 (.slice (some a) bs.length c) (.slice none 0 0)).run Tryz.prog w = .ok (.bool false) w := fun w => Lib.run_eql_slice_nil w _ _ _ _ _ _ _ Tryz.underlying32
    go_enter Tryz.func60, Tryz.ntmps60
    go_wp2_with (at_builtin; refine wpList_append_own _ rfl _ _ 32 rfl w.heap.size 5 i0 (.int .u8 0) 1 1 Tryz.underlying32 hi hz0 hz1 hz2 rfl (by decide) _ _ _ rfl (World.ownsRow_lit w #[] 0 (Nat.le_refl _) (by simp [maxLen]) rfl) a bs.length c (bs.map (Value.int .u8)) rfl (by simp) ?c1 bcell1 ?c3 ?c4 ?c5 ?_)
    case c1 =>
      intro j u hu
      exact cell_alloc (hc j u hu)
    case c3 => unfold maxLen; omega
    · intro v' w1 hown hgrow _
      obtain ⟨ao, c', rfl⟩ := own_shape hown
      go_wp2
      go_ret
      exact ⟨_, _, rfl, hown, gof (((Below.refl w.heap.size w).alloc (Nat.le_refl _) _).grown hgrow (by simp) (fun k h => by simp [Value.ownBlock] at h; omega)) _⟩

end Go.Proofs.YtildjdhoeilcfaaGreat

namespace Go.Proofs.YtildjdhoeilcfaaGreat
open Go.RowKit

end Go.Proofs.YtildjdhoeilcfaaGreat

namespace Go.Proofs.YtildjdhoeilcfaaGreat
open Go.RowKit

def cF (f : Bool) (a : Int) : Bool := f && decide (0 < a)
def cA (f : Bool) (a : Int) : Int := if f && decide (0 < a) then a - 1 else a
def cE (f : Bool) (a : Int) : Int := if f && !decide (0 < a) then 20 else 0

set_option maxHeartbeats 1000000 in
theorem count_any (w : World) (d : Nat) (x0 x1 x2 x3 x7 x8 x9 x10 : Value) (c : Nat) (f : Bool) (a : Int) (ha1 : -9223372036854775808 ≤ a) (ha2 : a ≤ 9223372036854775807) (hc : c < 9223372036854775807)
    (hb : w.heap[d]? = some (.cells #[x0, x1, x2, x3, .int .i64 (c : Int), .bool f, .int .i64 a, x7, x8, x9, x10] 112 (0, 0))) :
    Calls Tryz.prog 94 #[.pointer (some ⟨d, 0, none⟩)] w fun r w' => r = .returned (.int .i64 (cE f a)) ∧ w'.heap[d]? = some (.cells #[x0, x1, x2, x3, .int .i64 ((c + 1 : Nat) : Int), .bool (cF f a), .int .i64 (cA f a), x7, x8, x9, x10] 112 (0, 0)) ∧ w.grownBy w' (some d) ∧ w'.heap.size = w.heap.size := by
  have b1 : (w.setCell ⟨d, 4, none⟩ (.int .i64 ((c : Int) + 1))).heap[d]? = some (.cells #[x0, x1, x2, x3, .int .i64 ((c : Int) + 1), .bool f, .int .i64 a, x7, x8, x9, x10] 112 (0, 0)) := set_box hb 4 _
  have c4 := (cells11 hb).2.2.2.2.1
  have f4 := free11 hb 4
  have k5 := (cells11 b1).2.2.2.2.2.1
  have k6 := (cells11 b1).2.2.2.2.2.2.1
  have g5 := free11 b1 5
  have g6 := free11 b1 6
  have HB := Lib.hid b1
  have hnot : ∀ (x : Bool) (w : World), (Op.unary .not (.bool x)).run Tryz.prog w = .ok (.bool (!x)) w := fun _ _ => rfl
  clear hb b1
  cases f with
  | false =>
    go_enter Tryz.func94, Tryz.ntmps94
    go_wp2_with (first | (go_at_call 130; refine (iadd_any ⟨d, 4, none⟩ (c : Int) _ c4 rfl f4 (by omega) (by omega)).mono ?_; rintro e w' ⟨rfl, rfl⟩))
    go_ret
    exact ⟨rfl, HB.out, gset _ ⟨d, 4, none⟩ _, by simp [World.setCell]⟩
  | true =>
    by_cases h : 0 < a
    · have HF := Lib.hid (show cE true a = 0 ∧ cF true a = true ∧ cA true a = a - 1 by simp [cE, cF, cA, h])
      rw [HF.out.1, HF.out.2.1, HF.out.2.2]
      go_enter Tryz.func94, Tryz.ntmps94
      go_wp2_with (first | (go_at_call 130; refine (iadd_any ⟨d, 4, none⟩ (c : Int) _ c4 rfl f4 (by omega) (by omega)).mono ?_; rintro e w' ⟨rfl, rfl⟩))
      go_ret
      exact ⟨rfl, set_box HB.out 6 _, gtrans (gset _ ⟨d, 4, none⟩ _) (gset _ ⟨d, 6, none⟩ _), by simp [World.setCell]⟩
    · have HF := Lib.hid (show cE true a = 20 ∧ cF true a = false ∧ cA true a = a by simp [cE, cF, cA, h])
      rw [HF.out.1, HF.out.2.1, HF.out.2.2]
      go_enter Tryz.func94, Tryz.ntmps94
      go_wp2_with (first | (go_at_call 130; refine (iadd_any ⟨d, 4, none⟩ (c : Int) _ c4 rfl f4 (by omega) (by omega)).mono ?_; rintro e w' ⟨rfl, rfl⟩))
      go_ret
      exact ⟨rfl, set_box HB.out 5 _, gtrans (gset _ ⟨d, 4, none⟩ _) (gset _ ⟨d, 5, none⟩ _), by simp [World.setCell]⟩

set_option maxHeartbeats 400000 in
theorem dlen_any (w : World) (d : Nat) (ao : Option Addr) (n c : Nat) (h : w.cell? ⟨d, 2, none⟩ = some (.slice ao n c)) :
    Calls Tryz.prog 33 #[.pointer (some ⟨d, 0, none⟩)] w fun r w' => r = .returned (.int .i64 (n : Int)) ∧ w = w' := by
  go_enter Tryz.func33, Tryz.ntmps33
  go_wp2
  go_ret
  exact ⟨rfl, rfl⟩
set_option maxHeartbeats 400000 in
theorem size_any (w : World) (d : Nat) (x : Value) (h : w.cell? ⟨d, 0, none⟩ = some x) :
    Calls Tryz.prog 80 #[.pointer (some ⟨d, 0, none⟩)] w fun r w' => r = .returned x ∧ w = w' := by
  go_enter Tryz.func80, Tryz.ntmps80
  go_wp2
  go_ret
  exact ⟨rfl, rfl⟩
set_option maxHeartbeats 400000 in
theorem limit_any (w : World) (d : Nat) (x : Value) (h : w.cell? ⟨d, 1, none⟩ = some x) :
    Calls Tryz.prog 57 #[.pointer (some ⟨d, 0, none⟩)] w fun r w' => r = .returned x ∧ w = w' := by
  go_enter Tryz.func57, Tryz.ntmps57
  go_wp2
  go_ret
  exact ⟨rfl, rfl⟩
set_option maxHeartbeats 400000 in
theorem place_in (w : World) (d : Nat) (ao : Option Addr) (n c i : Nat) (h : w.cell? ⟨d, 2, none⟩ = some (.slice ao n c)) (hi : i < n) :
    Calls Tryz.prog 152 #[.pointer (some ⟨d, 0, none⟩), .int .i64 (i : Int)] w fun r w' => r = .returned (.int .i64 0) ∧ w = w' := by
  have h1 : (i : Int) < (n : Int) := by omega
  go_enter Tryz.func152, Tryz.ntmps152
  go_wp2_with (first | (go_at_call 33; refine (dlen_any _ d ao n c h).mono ?_; rintro e w' ⟨rfl, rfl⟩))
  go_ret
  exact ⟨rfl, rfl⟩
set_option maxHeartbeats 400000 in
theorem place_out (w : World) (d : Nat) (ao : Option Addr) (n c : Nat) (i : Int) (h : w.cell? ⟨d, 2, none⟩ = some (.slice ao n c)) (hi : i < 0 ∨ (n : Int) ≤ i) :
    Calls Tryz.prog 152 #[.pointer (some ⟨d, 0, none⟩), .int .i64 i] w fun r w' => r = .returned (.int .i64 15) ∧ w = w' := by
  by_cases h0 : i < 0
  · clear hi
    go_enter Tryz.func152, Tryz.ntmps152
    go_wp2
    go_ret
    exact ⟨rfl, rfl⟩
  · have h1 : (n : Int) ≤ i := by omega
    clear hi
    go_enter Tryz.func152, Tryz.ntmps152
    go_wp2_with (first | (go_at_call 33; refine (dlen_any _ d ao n c h).mono ?_; rintro e w' ⟨rfl, rfl⟩))
    go_ret
    exact ⟨rfl, rfl⟩
set_option maxHeartbeats 400000 in
theorem place_nil (w : World) (i : Int) :
    Calls Tryz.prog 152 #[.pointer none, .int .i64 i] w fun r w' => r = .returned (.int .i64 1) ∧ w = w' := by
  go_enter Tryz.func152, Tryz.ntmps152
  go_wp2
  go_ret
  exact ⟨rfl, rfl⟩

/-- May there be a disk of such pages, so many at most? -/
def May (s l : Int) : Prop := 512 ≤ s ∧ s ≤ 4096 ∧ s % 128 = 0 ∧ 1 ≤ l ∧ l ≤ 65536
instance (s l : Int) : Decidable (May s l) := by unfold May; exact inferInstance

/-- What New lays. -/
abbrev boxNew (s l : Nat) : Array Value := #[.int .i64 (s : Int), .int .i64 (l : Int), .slice none 0 0, .slice none 0 0, .int .i64 0, .bool false, .int .i64 0, .int .u32 0, .int .i32 0, .int .u32 0, .slice none 0 0]
set_option maxHeartbeats 1000000 in
theorem new_good (w : World) (s l : Nat) (h : May s l) :
    Calls Tryz.prog 10 #[.int .i64 (s : Int), .int .i64 (l : Int)] w fun r w' => r = .returned (.tuple #[.pointer (some ⟨w.heap.size, 0, none⟩), .int .i64 0]) ∧ w.alloc (.cells (boxNew s l) 112) = w' := by
  obtain ⟨h1, h2, h3, h4, h5⟩ := h
  have e1 : ¬ (s : Int) < 512 := by omega
  have e2 : ¬ (4096 : Int) < s := by omega
  have e4 : ¬ (l : Int) < 1 := by omega
  have e5 : ¬ (65536 : Int) < l := by omega
  have hnot : ∀ (x : Bool) (w : World), (Op.unary .not (.bool x)).run Tryz.prog w = .ok (.bool (!x)) w := fun _ _ => rfl
  go_enter Tryz.func10, Tryz.ntmps10
  go_wp2
  go_ret2
  exact ⟨rfl, rfl⟩

end Go.Proofs.YtildjdhoeilcfaaGreat

namespace Go.Proofs.YtildjdhoeilcfaaGreat
open Go.RowKit

set_option maxHeartbeats 2000000 in
theorem new_bad (w : World) (s l : Int) (h : ¬ May s l) :
    Calls Tryz.prog 10 #[.int .i64 s, .int .i64 l] w fun r w' => r = .returned (.tuple #[.pointer none, .int .i64 1]) ∧ w = w' := by
  have hnot : ∀ (x : Bool) (w : World), (Op.unary .not (.bool x)).run Tryz.prog w = .ok (.bool (!x)) w := fun _ _ => rfl
  have HM := Lib.hid h
  clear h
  by_cases c3 : s.tmod 128 = 0
  · have hb3 : (s.tmod 128 == 0) = true := by simpa using c3
    clear c3
    by_cases c1 : s < 512
    · go_enter Tryz.func10, Tryz.ntmps10
      go_wp2
      all_goals (go_ret2; exact ⟨rfl, rfl⟩)
    by_cases c2 : 4096 < s
    · go_enter Tryz.func10, Tryz.ntmps10
      go_wp2
      all_goals (go_ret2; exact ⟨rfl, rfl⟩)
    by_cases c4 : l < 1
    · go_enter Tryz.func10, Tryz.ntmps10
      go_wp2
      all_goals (go_ret2; exact ⟨rfl, rfl⟩)
    have c5 : 65536 < l := by
      by_cases h5 : 65536 < l
      · exact h5
      · have h3 : s.tmod 128 = 0 := by simpa using hb3
        refine absurd ⟨by omega, by omega, ?_, by omega, by omega⟩ HM.out
        rw [Int.tmod_eq_emod_of_nonneg (by omega)] at h3
        exact h3
    go_enter Tryz.func10, Tryz.ntmps10
    go_wp2
    all_goals (go_ret2; exact ⟨rfl, rfl⟩)
  · have hb3 : (s.tmod 128 == 0) = false := by simpa using c3
    clear c3
    go_enter Tryz.func10, Tryz.ntmps10
    go_wp2
    all_goals (go_ret2; exact ⟨rfl, rfl⟩)

set_option maxHeartbeats 1000000 in
theorem fail_any (w : World) (d : Nat) (x0 x1 x2 x3 x4 x5 x6 x7 x8 x9 x10 : Value) (n : Int)
    (hb : w.heap[d]? = some (.cells #[x0, x1, x2, x3, x4, x5, x6, x7, x8, x9, x10] 112 (0, 0))) :
    Calls Tryz.prog 23 #[.pointer (some ⟨d, 0, none⟩), .int .i64 n] w fun r w' => r = .returned (.tuple #[]) ∧ w'.heap[d]? = some (.cells #[x0, x1, x2, x3, x4, .bool (decide (0 ≤ n)), .int .i64 n, x7, x8, x9, x10] 112 (0, 0)) ∧ w.grownBy w' (some d) ∧ w'.heap.size = w.heap.size := by
  have b1 : (w.setCell ⟨d, 5, none⟩ (.bool (decide (0 ≤ n)))).heap[d]? = some (.cells #[x0, x1, x2, x3, x4, .bool (decide (0 ≤ n)), x6, x7, x8, x9, x10] 112 (0, 0)) := set_box hb 5 _
  have k5 := (cells11 hb).2.2.2.2.2.1
  have k6 := (cells11 hb).2.2.2.2.2.2.1
  have g5 := free11 hb 5
  have g6 := free11 hb 6
  have HB := Lib.hid b1
  clear hb b1
  by_cases hn : 0 ≤ n
  · have hd : decide (0 ≤ n) = true := by simpa using hn
    rw [hd] at HB ⊢
    go_enter Tryz.func23, Tryz.ntmps23
    go_wp2
    go_end0
    exact ⟨rfl, set_box HB.out 6 _, gtrans (gset _ ⟨d, 5, none⟩ _) (gset _ ⟨d, 6, none⟩ _), by simp [World.setCell]⟩
  · have hd : decide (0 ≤ n) = false := by simpa using hn
    rw [hd] at HB ⊢
    go_enter Tryz.func23, Tryz.ntmps23
    go_wp2
    go_end0
    exact ⟨rfl, set_box HB.out 6 _, gtrans (gset _ ⟨d, 5, none⟩ _) (gset _ ⟨d, 6, none⟩ _), by simp [World.setCell]⟩
set_option maxHeartbeats 1000000 in
theorem fail_nil (w : World) (n : Int) : Calls Tryz.prog 23 #[.pointer none, .int .i64 n] w fun r w' => r = .returned (.tuple #[]) ∧ w = w' := by
  go_enter Tryz.func23, Tryz.ntmps23
  go_wp2
  refine bodyPost_ret (results_none rfl _ _ _) rfl ?_
  exact ⟨rfl, rfl⟩

theorem infoDpage : (Tryz.prog.info? 146).map (fun i => (i.zero, i.size, i.bytes)) = some (some (.agg #[.slice none 0 0, .slice none 0 0]), 2, 48) := by kernel_rfl
theorem pcells_len (ps : List PgV) : (pcells ps).length = 2 * ps.length := by
  induction ps with
  | nil => rfl
  | cons x l ih => simp only [pcells, List.flatMap_cons, List.length_append, List.length_cons, List.length_nil] at ih ⊢; omega
theorem pcells_snoc (ps : List PgV) (y : PgV) : pcells (ps ++ [y]) = pcells ps ++ [y.1.1, y.1.2] := by simp [pcells]

/-- The rows where the pages' row is written to. -/
theorem Rws.pages {B n : Nat} {w w' : World} {pv pv' lv nv : Value} {ps ps' : List PgV} {ls : List LoV} {once : Bool} {row : Option Nat} (h : Rws B w n pv lv nv ps ls once) (hg : w.grownBy w' row) (hr : ∀ k, row = some k → TagIs w k 146)
    (hown : w'.ownsRow B 146 2 pv' ps'.length (pcells ps')) (hall : ∀ y ∈ ps', y ∈ ps ∨ (Own8 B w n y.1.1 y.2.1 ∧ Own8 B w n y.1.2 y.2.2)) : Rws B w' n pv' lv nv ps' ls once where
  pown := hown
  pall := fun y hy => by
    have := (hall y hy).elim (h.pall y) id
    exact ⟨this.1.far hg hr (by decide), this.2.far hg hr (by decide)⟩
  lown := own_far h.lown hg hr (by decide)
  lall := fun y hy => (h.lall y hy).far hg hr (by decide)
  nown := by
    have := h.nown
    cases once
    · exact this
    · exact Own8.far (this : Own8 _ _ _ _ _) hg hr (by decide)
/-- The rows where the loose writes' row is written to. -/
theorem Rws.looses {B n : Nat} {w w' : World} {pv lv lv' nv : Value} {ps : List PgV} {ls ls' : List LoV} {once : Bool} {row : Option Nat} (h : Rws B w n pv lv nv ps ls once) (hg : w.grownBy w' row) (hr : ∀ k, row = some k → TagIs w k 143)
    (hown : w'.ownsRow B 143 2 lv' ls'.length (wcells ls')) (hall : ∀ y ∈ ls', y ∈ ls ∨ Own8 B w n y.2.1 y.2.2) : Rws B w' n pv lv' nv ps ls' once where
  pown := own_far h.pown hg hr (by decide)
  pall := fun y hy => ⟨(h.pall y hy).1.far hg hr (by decide), (h.pall y hy).2.far hg hr (by decide)⟩
  lown := hown
  lall := fun y hy => ((hall y hy).elim (h.lall y) id).far hg hr (by decide)
  nown := by
    have := h.nown
    cases once
    · exact this
    · exact Own8.far (this : Own8 _ _ _ _ _) hg hr (by decide)

/-- A page whose bytes are for good. -/
abbrev mkPg (v : Value) (bs : List Int) : PgV := ((v, v), (bs, bs))
set_option maxRecDepth 100000 in
set_option maxHeartbeats 2000000 in
/-- A page more, at the level of the rows. -/
theorem add_rows (B : Nat) (w : World) (d n : Nat) (x0 x1 x4 x5 x6 x7 x8 x9 pv lv nv v : Value) (ps : List PgV) (ls : List LoV) (once : Bool) (bs : List Int) (hB : B ≤ d)
    (hb : w.heap[d]? = some (.cells #[x0, x1, pv, lv, x4, x5, x6, x7, x8, x9, nv] 112 (0, 0))) (hr : Rws B w n pv lv nv ps ls once) (hv : Own8 B w n v bs) (hl : ps.length ≤ 100000) :
    Calls Tryz.prog 72 #[.pointer (some ⟨d, 0, none⟩), v] w fun r w' => ∃ pv', r = .returned (.tuple #[]) ∧ w'.heap[d]? = some (.cells #[x0, x1, pv', lv, x4, x5, x6, x7, x8, x9, nv] 112 (0, 0)) ∧ Rws B w' n pv' lv nv (ps ++ [mkPg v bs]) ls once ∧ Dfr B w w' := by
  obtain ⟨va, vc, rfl⟩ := own_shape hv
  have hlt := lt_of_block hb
  obtain ⟨i0, hi0, hz0, hz1, hz2⟩ := info_parts infoDpage
  have c2 := (cells11 hb).2.2.1
  have HB := Lib.hid hb
  have HR := Lib.hid hr
  have HV := Lib.hid hv
  have hown0 := hr.pown
  obtain ⟨m, hm⟩ : ∃ m, m = ps.length := ⟨_, rfl⟩
  rw [← hm] at hown0 hl
  obtain ⟨pa, pc, rfl⟩ := own_shape hown0
  have HO := Lib.hid hown0
  have HM := Lib.hid hm
  clear hb hr hv hown0 hm
  go_enter Tryz.func72, Tryz.ntmps72
  go_wp2_with (at_builtin; refine wpList_append_own _ rfl _ _ 95 rfl B 146 i0 (.agg #[.slice none 0 0, .slice none 0 0]) 2 48 Tryz.underlying95 hi0 hz0 hz1 hz2 rfl (by decide) _ _ _ rfl (HO.out.alloc _) ⟨w.heap.size, 0, none⟩ 1 1 [.slice va n vc, .slice va n vc] rfl rfl ?d1 ?d2 ?d3 ?d4 ?d5 ?_)
  case d1 =>
    intro j u hu
    have hj := (List.getElem?_eq_some_iff.1 hu).1
    rw [Addr.add_lit, Nat.zero_add, World.cell?_alloc_mark, ← hu]
    match j, hj with
    | 0, _ => rfl
    | 1, _ => rfl
  case d2 => intro u hu; simp at hu; subst hu; rfl
  case d3 => unfold maxLen; omega
  case d4 => omega
  case d5 => simp; omega
  intro v2 w2 hown2 hg2 _
  obtain ⟨a2, e2, rfl⟩ := own_shape hown2
  have hg : w.grownBy w2 (Value.slice pa m pc).ownBlock := gtrans (World.grownBy_alloc _ _ _) hg2
  have htag : ∀ k, (Value.slice pa m pc).ownBlock = some k → TagIs w k 146 := fun k hk => (own_tag HO.out k hk).2.2
  have hdne : some d ≠ (Value.slice pa m pc).ownBlock := fun e => by
    have h1 := htag d e.symm
    have h2 : TagIs w d 112 := ⟨_, _, HB.out⟩
    exact absurd (h1.uniq h2) (by decide)
  have hb2 := (hg.block d hlt hdne).trans HB.out
  have k2 := (cells11 hb2).2.2.1
  have g2 := free11 hb2 2
  have hown2' : w2.ownsRow B 146 2 (.slice a2 (m + 1) e2) (ps ++ [mkPg (.slice va n vc) bs]).length (pcells (ps ++ [mkPg (.slice va n vc) bs])) := by
    rw [pcells_snoc, List.length_append, ← HM.out]; exact hown2
  have hrw := HR.out.pages hg htag hown2' (fun y hy => by
    rw [List.mem_append, List.mem_singleton] at hy
    rcases hy with hy | rfl
    · exact .inl hy
    · exact .inr ⟨HV.out, HV.out⟩)
  have HB2 := Lib.hid hb2
  have HRW := Lib.hid hrw
  have HFR : Hid (Dfr B w w2) := Lib.hid (dfr_row hg fun k hk => ⟨(own_tag HO.out k hk).1, Dtag.of (htag k hk) (by decide)⟩)
  clear hown2 hg2 hg htag hdne hb2 hown2' hrw hi0 hz0 hz1 hz2 c2
  go_wp2
  go_end0
  refine ⟨.slice a2 (m + 1) e2, rfl, set_box HB2.out 2 _, HRW.out.far (gset w2 ⟨d, 2, none⟩ _) (fun k e => ?_), HFR.out.trans (dfr_row (gset w2 ⟨d, 2, none⟩ _) fun k e => ?_)⟩
  · injection e with e; subst e; exact ⟨_, _, HB2.out⟩
  · injection e with e; subst e; exact ⟨hB, Dtag.of ⟨_, _, HB2.out⟩ (by decide)⟩

theorem DskAt.add {B d : Nat} {w : World} {M : SM} {v : Value} {bs : List Int} (h : DskAt B w d M) (hv : Own8 B w M.size v bs) (hl : M.pg.length ≤ 100000) :
    Calls Tryz.prog 72 #[.pointer (some ⟨d, 0, none⟩), v] w fun r w' => r = .returned (.tuple #[]) ∧ DskAt B w' d { M with pg := M.pg ++ [(bs, bs)] } ∧ Dfr B w w' := by
  obtain ⟨pv, lv, nv, ps, ls, h1, h2, h3, h4, h5⟩ := h
  refine (add_rows B w d M.size _ _ _ _ _ _ _ _ pv lv nv v ps ls M.once bs h1 h2 h3 hv (by rw [h4] at hl; simpa using hl)).mono ?_
  rintro r w' ⟨pv', rfl, hb, hr, hf⟩
  exact ⟨rfl, ⟨pv', lv, nv, _, ls, h1, hb, hr, by simp [h4], h5⟩, hf⟩

end Go.Proofs.YtildjdhoeilcfaaGreat

namespace Go.Proofs.YtildjdhoeilcfaaGreat
open Go.RowKit

theorem newM {w : World} {s l : Nat} {B : Nat} (hB : B ≤ w.heap.size) : DskAt B (w.alloc (.cells (boxNew s l) 112)) w.heap.size { size := s, limit := l, pg := [], loose := [], fails := false, ahead := 0, calls := 0, once := false } :=
  ⟨_, _, _, [], [], hB, heap_alloc_new _ _, ⟨World.ownsRow_nil _ _ _ _, fun y hy => by simp at hy, World.ownsRow_nil _ _ _ _, fun y hy => by simp at hy, rfl⟩, rfl, rfl⟩

/-- The disk behind a call that counts. -/
def cntM (M : SM) : SM := { M with calls := M.calls + 1, fails := cF M.fails M.ahead, ahead := cA M.fails M.ahead }
def Fine (M : SM) : Prop := -9223372036854775808 ≤ M.ahead ∧ M.ahead ≤ 9223372036854775807 ∧ M.calls < 9223372036854775807

theorem count_rows {B d n : Nat} {w : World} {x0 x1 x7 x8 x9 pv lv nv : Value} {c : Nat} {f : Bool} {a : Int} {ps : List PgV} {ls : List LoV} {once : Bool} (hB : B ≤ d)
    (hb : w.heap[d]? = some (.cells #[x0, x1, pv, lv, .int .i64 (c : Int), .bool f, .int .i64 a, x7, x8, x9, nv] 112 (0, 0))) (hr : Rws B w n pv lv nv ps ls once)
    (ha1 : -9223372036854775808 ≤ a) (ha2 : a ≤ 9223372036854775807) (hc : c < 9223372036854775807) :
    Calls Tryz.prog 94 #[.pointer (some ⟨d, 0, none⟩)] w fun r w' => r = .returned (.int .i64 (cE f a)) ∧ w'.heap[d]? = some (.cells #[x0, x1, pv, lv, .int .i64 ((c + 1 : Nat) : Int), .bool (cF f a), .int .i64 (cA f a), x7, x8, x9, nv] 112 (0, 0)) ∧ Rws B w' n pv lv nv ps ls once ∧
      w.grownBy w' (some d) ∧ w'.heap.size = w.heap.size ∧ Dfr B w w' := by
  refine (count_any w d x0 x1 pv lv x7 x8 x9 nv c f a ha1 ha2 hc hb).mono ?_
  rintro r w' ⟨rfl, h1, h2, h3⟩
  have ht : ∀ k, some d = some k → TagIs w k 112 := fun k e => by injection e with e; subst e; exact ⟨_, _, hb⟩
  exact ⟨rfl, h1, hr.far h2 ht, h2, h3, dfr_row h2 fun k e => ⟨by injection e with e; omega, Dtag.of (ht k e) (by decide)⟩⟩
theorem DskAt.count {B d : Nat} {w : World} {M : SM} (h : DskAt B w d M) (hF : Fine M) :
    Calls Tryz.prog 94 #[.pointer (some ⟨d, 0, none⟩)] w fun r w' => r = .returned (.int .i64 (cE M.fails M.ahead)) ∧ DskAt B w' d (cntM M) ∧ w.grownBy w' (some d) ∧ w'.heap.size = w.heap.size ∧ Dfr B w w' := by
  obtain ⟨pv, lv, nv, ps, ls, h1, h2, h3, h4, h5⟩ := h
  refine (count_rows h1 h2 h3 hF.1 hF.2.1 hF.2.2).mono ?_
  rintro r w' ⟨rfl, a1, a2, a3, a4, a5⟩
  exact ⟨rfl, ⟨pv, lv, nv, ps, ls, h1, a1, a2, h4, h5⟩, a3, a4, a5⟩

set_option maxRecDepth 100000 in
set_option maxHeartbeats 2000000 in
/-- The page of noughts, at the level of the rows. -/
theorem blank_rows (B : Nat) (w : World) (d n : Nat) (x1 x4 x5 x6 pv lv nv : Value) (ps : List PgV) (ls : List LoV) (once : Bool) (hB : B ≤ d) (hn : n ≤ 4096)
    (hb : w.heap[d]? = some (.cells #[.int .i64 (n : Int), x1, pv, lv, x4, x5, x6, .int .u32 (if once then 1 else 0), .int .i32 0, .int .u32 0, nv] 112 (0, 0))) (hr : Rws B w n pv lv nv ps ls once) :
    Calls Tryz.prog 223 #[.pointer (some ⟨d, 0, none⟩)] w fun r w' => ∃ nv', r = .returned nv' ∧ w'.heap[d]? = some (.cells #[.int .i64 (n : Int), x1, pv, lv, x4, x5, x6, .int .u32 1, .int .i32 0, .int .u32 0, nv'] 112 (0, 0)) ∧ Rws B w' n pv lv nv' ps ls true ∧ Dfr B w w' := by
  have hlt := lt_of_block hb
  have hmf : ∀ (fn : Fn) (first cap : Array Value) (w : World), (Instr.makeFunc fn first cap).run Tryz.prog w = .ok (.func fn first cap) w := fun _ _ _ _ => rfl
  have hpd : (⟨w.heap.size, 0, none⟩ : Addr).block ≠ d := by show w.heap.size ≠ d; omega
  have p0 : (w.alloc (.cells #[.pointer (some ⟨d, 0, none⟩)] 24)).cell? ⟨w.heap.size, 0, none⟩ = some (.pointer (some ⟨d, 0, none⟩)) := by simp
  cases once with
  | true =>
    have c7 : (w.alloc (.cells #[.pointer (some ⟨d, 0, none⟩)] 24)).cell? ⟨d, 7, none⟩ = some (.int .u32 1) := cell_alloc (cells11 hb).2.2.2.2.2.2.2.1
    have c10 : (w.alloc (.cells #[.pointer (some ⟨d, 0, none⟩)] 24)).cell? ⟨d, 10, none⟩ = some nv := cell_alloc (cells11 hb).2.2.2.2.2.2.2.2.2.2
    obtain ⟨na, nc, rfl⟩ := own_shape (show w.ownsRow B 5 1 nv n _ from hr.nown)
    have HB := Lib.hid hb
    have HR := Lib.hid hr
    clear hb hr
    go_enter Tryz.func223, Tryz.ntmps223
    go_wp2_with (first | (go_at_call 252; refine (do_done d 1 rfl _ _ c7).mono ?_; rintro e w' ⟨rfl, rfl⟩))
    go_ret
    exact ⟨_, rfl, keep_alloc1 HB.out _, HR.out.new (World.grownBy_alloc _ _ _), dfr_new (World.grownBy_alloc _ _ _)⟩
  | false =>
    have hb1 := keep_alloc1 hb (.cells #[.pointer (some ⟨d, 0, none⟩)] 24)
    have HB := Lib.hid hb
    have HB1 := Lib.hid hb1
    have HR := Lib.hid hr
    clear hb hr hb1
    go_enter Tryz.func223, Tryz.ntmps223
    go_wp2_with (first | (go_at_call 252; refine (do_first ⟨w.heap.size, 0, none⟩ d n hpd x1 pv lv x4 x5 x6 (.int .u32 0) nv _ p0 hn HB1.out).mono ?_; rintro e w3 ⟨v, rfl, h1, h2, h3⟩; have hgz : w.grownBy w3 (some d) := gtrans (World.grownBy_alloc _ _ _) h3; have p3 : w3.cell? ⟨w.heap.size, 0, none⟩ = some (.pointer (some ⟨d, 0, none⟩)) := h3.cell p0 (by simp; omega); have k10 := (cells11 h1).2.2.2.2.2.2.2.2.2.2; obtain ⟨na, nc, rfl⟩ := own_shape h2; have HG := Lib.hid hgz; have H1 := Lib.hid h1; have H2 := Lib.hid h2; clear h1 h2 h3 hgz p0))
    go_ret
    have ht : ∀ k, some d = some k → TagIs w k 112 := fun k e => by injection e with e; subst e; exact ⟨_, _, HB.out⟩
    have hr3 := HR.out.far HG.out ht
    exact ⟨_, rfl, H1.out, ⟨hr3.pown, hr3.pall, hr3.lown, hr3.lall, own_base (show w3.ownsRow _ 5 1 _ n _ from H2.out) (by simp; omega)⟩, dfr_row HG.out fun k e => ⟨by injection e with e; omega, Dtag.of (ht k e) (by decide)⟩⟩

theorem DskAt.blank {B d : Nat} {w : World} {M : SM} (h : DskAt B w d M) (hn : M.size ≤ 4096) :
    Calls Tryz.prog 223 #[.pointer (some ⟨d, 0, none⟩)] w fun r w' => ∃ nv, r = .returned nv ∧ Own8 B w' M.size nv (List.replicate M.size 0) ∧ DskAt B w' d { M with once := true } ∧ Dfr B w w' := by
  obtain ⟨pv, lv, nv, ps, ls, h1, h2, h3, h4, h5⟩ := h
  refine (blank_rows B w d M.size _ _ _ _ pv lv nv ps ls M.once h1 hn h2 h3).mono ?_
  rintro r w' ⟨nv', rfl, a1, a2, a3⟩
  exact ⟨nv', rfl, a2.nown, ⟨pv, lv, nv', ps, ls, h1, a1, a2, h4, h5⟩, a3⟩

theorem pcells_get : ∀ (ps : List PgV) (k : Nat) (y : PgV), ps[k]? = some y → (pcells ps)[k * 2]? = some y.1.1 ∧ (pcells ps)[k * 2 + 1]? = some y.1.2
  | [], k, x, h => by simp at h
  | y :: l, 0, x, h => by
    simp only [List.getElem?_cons_zero, Option.some.injEq] at h
    subst h
    exact ⟨rfl, rfl⟩
  | y :: l, k + 1, x, h => by
    simp only [List.getElem?_cons_succ] at h
    obtain ⟨h1, h2⟩ := pcells_get l k x h
    exact ⟨by rw [show (k + 1) * 2 = k * 2 + 1 + 1 by omega]; exact h1, by rw [show (k + 1) * 2 + 1 = k * 2 + 1 + 1 + 1 by omega]; exact h2⟩

/-- Where a page's cells lie. -/
theorem Rws.page {B n i : Nat} {w : World} {pv lv nv : Value} {ps : List PgV} {ls : List LoV} {once : Bool} (h : Rws B w n pv lv nv ps ls once) (hi : i < ps.length) :
    ∃ g c y, pv = .slice (some ⟨g, 0, none⟩) ps.length c ∧ ps[i]? = some y ∧ w.cell? ⟨g, i * 2, none⟩ = some y.1.1 ∧ w.cell? ⟨g, i * 2 + 1, none⟩ = some y.1.2 ∧ Own8 B w n y.1.1 y.2.1 ∧ Own8 B w n y.1.2 y.2.2 := by
  obtain ⟨y, hy⟩ : ∃ y, ps[i]? = some y := ⟨_, List.getElem?_eq_getElem hi⟩
  have hm := h.pall y (List.mem_of_getElem? hy)
  have ho := h.pown
  have ho' := ho
  obtain ⟨c1, c2⟩ := pcells_get ps i y hy
  rcases ho.2 with ⟨rfl, h0⟩ | ⟨g, cap, cur, rfl, hb, hg, hc, hmx, hs, ht⟩
  · omega
  · exact ⟨g, cap, y, rfl, hy, by rw [ho'.cellAt _ (by omega), c1], by rw [ho'.cellAt _ (by omega), c2], hm.1, hm.2⟩

set_option maxHeartbeats 2000000 in
theorem read_rows (B : Nat) (w : World) (d n i : Nat) (x1 x7 x8 x9 pv lv nv : Value) (c : Nat) (f : Bool) (a : Int) (ps : List PgV) (ls : List LoV) (once : Bool) (hB : B ≤ d)
    (hb : w.heap[d]? = some (.cells #[.int .i64 (n : Int), x1, pv, lv, .int .i64 (c : Int), .bool f, .int .i64 a, x7, x8, x9, nv] 112 (0, 0))) (hr : Rws B w n pv lv nv ps ls once)
    (ha1 : -9223372036854775808 ≤ a) (ha2 : a ≤ 9223372036854775807) (hc : c < 9223372036854775807) (hi : i < ps.length) (hn : n ≤ 4096) (h0 : cE f a = 0) (y : PgV) (hy : ps[i]? = some y) :
    Calls Tryz.prog 113 #[.pointer (some ⟨d, 0, none⟩), .int .i64 (i : Int)] w fun r w' => ∃ wc ao e, r = .returned (.tuple #[.slice ao n e, .int .i64 0]) ∧
      wc.heap[d]? = some (.cells #[.int .i64 (n : Int), x1, pv, lv, .int .i64 ((c + 1 : Nat) : Int), .bool (cF f a), .int .i64 (cA f a), x7, x8, x9, nv] 112 (0, 0)) ∧ Rws B wc n pv lv nv ps ls once ∧ w.grownBy wc (some d) ∧ wc.heap.size = w.heap.size ∧ Dfr B w wc ∧
      wc.grownBy w' none ∧ Own8 wc.heap.size w' n (.slice ao n e) y.2.2 := by
  obtain ⟨g, pc, -, rfl, -, -, -, -, -⟩ := hr.page hi
  have c2 := (cells11 hb).2.2.1
  have HB := Lib.hid hb
  have HR := Lib.hid hr
  have HY := Lib.hid hy
  have HI := Lib.hid hi
  have H0 := Lib.hid h0
  obtain ⟨m, hm⟩ : ∃ m, m = ps.length := ⟨_, rfl⟩
  rw [← hm] at c2 hi HB HR
  have HM := Lib.hid hm
  have hii : (i : Int) < (m : Int) := by omega
  clear hb hr hy h0 hm
  go_enter Tryz.func113, Tryz.ntmps113
  go_wp2_with (first
    | (go_at_call 152; ((with_reducible refine (place_in _ d _ m pc i c2 hi).mono ?_); rintro e w' ⟨rfl, rfl⟩))
    | (go_at_call 94; ((with_reducible refine (count_rows hB HB.out HR.out ha1 ha2 hc).mono ?_); rintro e w1 ⟨rfl, b1, r1, g1, s1, d1⟩; rw [H0.out]; have c21 := (cells11 b1).2.2.1; obtain ⟨g', pc', y1, hv, hy1, k1, k2, o1, o2⟩ := r1.page HI.out; rw [HY.out] at hy1; injection hy1 with hy1; subst hy1; simp only [Value.slice.injEq, Option.some.injEq, Addr.mk.injEq, and_true] at hv; obtain ⟨rfl, _, rfl⟩ := hv; obtain ⟨va, vc, hv2⟩ := own_shape o2; rw [hv2] at k2; have O2 : Hid (Own8 B w1 n (.slice va n vc) y.2.2) := Lib.hid (by rw [← hv2]; exact o2); have B1 := Lib.hid b1; have R1 := Lib.hid r1; have G1 := Lib.hid g1; have S1 := Lib.hid s1; have D1 := Lib.hid d1; have L2 := Lib.hid o2.len; clear b1 r1 g1 s1 d1 o1 o2 k1 hv2 c2))
    | (go_at_call 60; have K := clone_any w1 _ _ _ O2.out.seq (Nat.le_refl _) (by have := L2.out; omega); rw [L2.out] at K; ((with_reducible refine K.mono ?_); clear K; rintro e w2 ⟨ao, ce, rfl, hown, hg2⟩; have HO := Lib.hid hown; have HG := Lib.hid hg2; clear hown hg2)))
  go_ret2
  have hm := HM.out
  subst hm
  exact ⟨w1, ao, ce, rfl, B1.out, R1.out, G1.out, S1.out, D1.out, HG.out, HO.out⟩

/-- A page that is read. -/
def lastM (M : SM) (i : Nat) : List Int := (M.pg.getD i ([], [])).2
theorem DskAt.read {B d i : Nat} {w : World} {M : SM} (h : DskAt B w d M) (hF : Fine M) (hi : i < M.pg.length) (hn : M.size ≤ 4096) (h0 : cE M.fails M.ahead = 0) :
    Calls Tryz.prog 113 #[.pointer (some ⟨d, 0, none⟩), .int .i64 (i : Int)] w fun r w' => ∃ wc ao e, r = .returned (.tuple #[.slice ao M.size e, .int .i64 0]) ∧
      DskAt B wc d (cntM M) ∧ wc.heap.size = w.heap.size ∧ Dfr B w wc ∧ wc.grownBy w' none ∧ Own8 wc.heap.size w' M.size (.slice ao M.size e) (lastM M i) := by
  obtain ⟨pv, lv, nv, ps, ls, h1, h2, h3, h4, h5⟩ := h
  have hi' : i < ps.length := by rw [h4] at hi; simpa using hi
  refine (read_rows B w d M.size i _ _ _ _ pv lv nv _ _ _ ps ls M.once h1 h2 h3 hF.1 hF.2.1 hF.2.2 hi' hn h0 ps[i] (List.getElem?_eq_getElem hi')).mono ?_
  rintro r w' ⟨wc, ao, e, rfl, a1, a2, a3, a4, a5, a6, a7⟩
  refine ⟨wc, ao, e, rfl, ⟨pv, lv, nv, ps, ls, h1, a1, a2, h4, h5⟩, a4, a5, a6, ?_⟩
  have e1 : lastM M i = ps[i].2.2 := by simp [lastM, h4, List.getD_eq_getElem?_getD, List.getElem?_eq_getElem hi']
  rw [e1]; exact a7

set_option maxHeartbeats 1000000 in
theorem DskAt.read_io {B d i : Nat} {w : World} {M : SM} (h : DskAt B w d M) (hF : Fine M) (hi : i < M.pg.length) (h0 : cE M.fails M.ahead = 20) :
    Calls Tryz.prog 113 #[.pointer (some ⟨d, 0, none⟩), .int .i64 (i : Int)] w fun r w' => r = .returned (.tuple #[.slice none 0 0, .int .i64 20]) ∧ DskAt B w' d (cntM M) ∧ Dfr B w w' := by
  have h' := h
  obtain ⟨pv, lv, nv, ps, ls, h1, h2, h3, h4, h5⟩ := h
  have c2 := (cells11 h2).2.2.1
  have hi' : i < ps.length := by rw [h4] at hi; simpa using hi
  obtain ⟨pa, pc, rfl⟩ := own_shape h3.pown
  obtain ⟨m, hm⟩ : ∃ m, m = ps.length := ⟨_, rfl⟩
  rw [← hm] at c2 hi'
  have H0 := Lib.hid h0
  have HD := Lib.hid h'
  have HF := Lib.hid hF
  clear h1 h2 h3 h4 h5 h0 h' hF hm hi
  go_enter Tryz.func113, Tryz.ntmps113
  go_wp2_with (first
    | (go_at_call 152; ((with_reducible refine (place_in _ d _ m pc i c2 hi').mono ?_); rintro e w' ⟨rfl, rfl⟩))
    | (go_at_call 94; ((with_reducible refine (HD.out.count HF.out).mono ?_); rintro e w1 ⟨rfl, b1, g1, s1, d1⟩; rw [H0.out]; have B1 := Lib.hid b1; have D1 := Lib.hid d1; clear b1 g1 s1 d1)))
  go_ret2
  exact ⟨rfl, B1.out, D1.out⟩
set_option maxHeartbeats 1000000 in
theorem DskAt.read_out {B d : Nat} {i : Int} {w : World} {M : SM} (h : DskAt B w d M) (hi : i < 0 ∨ (M.pg.length : Int) ≤ i) :
    Calls Tryz.prog 113 #[.pointer (some ⟨d, 0, none⟩), .int .i64 i] w fun r w' => r = .returned (.tuple #[.slice none 0 0, .int .i64 15]) ∧ w = w' := by
  obtain ⟨pv, lv, nv, ps, ls, h1, h2, h3, h4, h5⟩ := h
  have c2 := (cells11 h2).2.2.1
  obtain ⟨pa, pc, rfl⟩ := own_shape h3.pown
  obtain ⟨m, hm⟩ : ∃ m, m = ps.length := ⟨_, rfl⟩
  have hl : M.pg.length = m := by rw [h4, hm]; simp
  rw [← hm] at c2
  rw [hl] at hi
  have HI := Lib.hid hi
  clear h1 h2 h3 h4 h5 hm hl hi
  go_enter Tryz.func113, Tryz.ntmps113
  go_wp2_with (first
    | (go_at_call 152; ((with_reducible refine (place_out _ d _ m pc i c2 HI.out).mono ?_); rintro e w' ⟨rfl, rfl⟩)))
  go_ret2
  exact ⟨rfl, rfl⟩
set_option maxHeartbeats 1000000 in
theorem read_nil (w : World) (i : Int) : Calls Tryz.prog 113 #[.pointer none, .int .i64 i] w fun r w' => r = .returned (.tuple #[.slice none 0 0, .int .i64 1]) ∧ w = w' := by
  go_enter Tryz.func113, Tryz.ntmps113
  go_wp2_with (first
    | (go_at_call 152; ((with_reducible refine (place_nil _ i).mono ?_); rintro e w' ⟨rfl, rfl⟩)))
  go_ret2
  exact ⟨rfl, rfl⟩

end Go.Proofs.YtildjdhoeilcfaaGreat
