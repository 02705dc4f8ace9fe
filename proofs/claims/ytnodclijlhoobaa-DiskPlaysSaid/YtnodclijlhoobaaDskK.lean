/-
  Layer 3: the contracts of the disk's small calls: count, place, Len, Size, Limit, Loose, Calls, New, Fail, add, blank. Own work.
-/
import Derived.Test.YtnodclijlhoobaaDskJ
import Derived.Test.YtnodclijlhoobaaClone
namespace Go.Proofs.Ytnodclijlhoobaa
open Go.RowKit

def cF (f : Bool) (a : Int) : Bool := f && decide (0 < a)
def cA (f : Bool) (a : Int) : Int := if f && decide (0 < a) then a - 1 else a
def cE (f : Bool) (a : Int) : Int := if f && !decide (0 < a) then 20 else 0

set_option maxHeartbeats 1000000 in
theorem count_any (w : World) (d : Nat) (x0 x1 x2 x3 x7 x8 x9 x10 : Value) (c : Nat) (f : Bool) (a : Int) (ha1 : -9223372036854775808 ≤ a) (ha2 : a ≤ 9223372036854775807) (hc : c < 9223372036854775807)
    (hb : w.heap[d]? = some (.cells #[x0, x1, x2, x3, .int .i64 (c : Int), .bool f, .int .i64 a, x7, x8, x9, x10] 111 (0, 0))) :
    Calls Try.prog 53 #[.pointer (some ⟨d, 0, none⟩)] w fun r w' => r = .returned (.int .i64 (cE f a)) ∧ w'.heap[d]? = some (.cells #[x0, x1, x2, x3, .int .i64 ((c + 1 : Nat) : Int), .bool (cF f a), .int .i64 (cA f a), x7, x8, x9, x10] 111 (0, 0)) ∧ w.grownBy w' (some d) ∧ w'.heap.size = w.heap.size := by
  have b1 : (w.setCell ⟨d, 4, none⟩ (.int .i64 ((c : Int) + 1))).heap[d]? = some (.cells #[x0, x1, x2, x3, .int .i64 ((c : Int) + 1), .bool f, .int .i64 a, x7, x8, x9, x10] 111 (0, 0)) := set_box hb 4 _
  have c4 := (cells11 hb).2.2.2.2.1
  have f4 := free11 hb 4
  have k5 := (cells11 b1).2.2.2.2.2.1
  have k6 := (cells11 b1).2.2.2.2.2.2.1
  have g5 := free11 b1 5
  have g6 := free11 b1 6
  have HB := Lib.hid b1
  have hnot : ∀ (x : Bool) (w : World), (Op.unary .not (.bool x)).run Try.prog w = .ok (.bool (!x)) w := fun _ _ => rfl
  clear hb b1
  cases f with
  | false =>
    go_enter Try.func53, Try.ntmps53
    go_wp2_with (first | (go_at_call 76; refine (add_any ⟨d, 4, none⟩ (c : Int) _ c4 rfl f4 (by omega) (by omega)).mono ?_; rintro e w' ⟨rfl, rfl⟩))
    go_ret
    exact ⟨rfl, HB.out, gset _ ⟨d, 4, none⟩ _, by simp [World.setCell]⟩
  | true =>
    by_cases h : 0 < a
    · have HF := Lib.hid (show cE true a = 0 ∧ cF true a = true ∧ cA true a = a - 1 by simp [cE, cF, cA, h])
      rw [HF.out.1, HF.out.2.1, HF.out.2.2]
      go_enter Try.func53, Try.ntmps53
      go_wp2_with (first | (go_at_call 76; refine (add_any ⟨d, 4, none⟩ (c : Int) _ c4 rfl f4 (by omega) (by omega)).mono ?_; rintro e w' ⟨rfl, rfl⟩))
      go_ret
      exact ⟨rfl, set_box HB.out 6 _, gtrans (gset _ ⟨d, 4, none⟩ _) (gset _ ⟨d, 6, none⟩ _), by simp [World.setCell]⟩
    · have HF := Lib.hid (show cE true a = 20 ∧ cF true a = false ∧ cA true a = a by simp [cE, cF, cA, h])
      rw [HF.out.1, HF.out.2.1, HF.out.2.2]
      go_enter Try.func53, Try.ntmps53
      go_wp2_with (first | (go_at_call 76; refine (add_any ⟨d, 4, none⟩ (c : Int) _ c4 rfl f4 (by omega) (by omega)).mono ?_; rintro e w' ⟨rfl, rfl⟩))
      go_ret
      exact ⟨rfl, set_box HB.out 5 _, gtrans (gset _ ⟨d, 4, none⟩ _) (gset _ ⟨d, 5, none⟩ _), by simp [World.setCell]⟩

set_option maxHeartbeats 400000 in
theorem len_any (w : World) (d : Nat) (ao : Option Addr) (n c : Nat) (h : w.cell? ⟨d, 2, none⟩ = some (.slice ao n c)) :
    Calls Try.prog 27 #[.pointer (some ⟨d, 0, none⟩)] w fun r w' => r = .returned (.int .i64 (n : Int)) ∧ w = w' := by
  go_enter Try.func27, Try.ntmps27
  go_wp2
  go_ret
  exact ⟨rfl, rfl⟩
set_option maxHeartbeats 400000 in
theorem loose_any (w : World) (d : Nat) (ao : Option Addr) (n c : Nat) (h : w.cell? ⟨d, 3, none⟩ = some (.slice ao n c)) :
    Calls Try.prog 28 #[.pointer (some ⟨d, 0, none⟩)] w fun r w' => r = .returned (.int .i64 (n : Int)) ∧ w = w' := by
  go_enter Try.func28, Try.ntmps28
  go_wp2
  go_ret
  exact ⟨rfl, rfl⟩
set_option maxHeartbeats 400000 in
theorem size_any (w : World) (d : Nat) (x : Value) (h : w.cell? ⟨d, 0, none⟩ = some x) :
    Calls Try.prog 29 #[.pointer (some ⟨d, 0, none⟩)] w fun r w' => r = .returned x ∧ w = w' := by
  go_enter Try.func29, Try.ntmps29
  go_wp2
  go_ret
  exact ⟨rfl, rfl⟩
set_option maxHeartbeats 400000 in
theorem limit_any (w : World) (d : Nat) (x : Value) (h : w.cell? ⟨d, 1, none⟩ = some x) :
    Calls Try.prog 30 #[.pointer (some ⟨d, 0, none⟩)] w fun r w' => r = .returned x ∧ w = w' := by
  go_enter Try.func30, Try.ntmps30
  go_wp2
  go_ret
  exact ⟨rfl, rfl⟩
set_option maxHeartbeats 400000 in
theorem calls_any (w : World) (d : Nat) (x : Int) (h : w.cell? ⟨d, 4, none⟩ = some (.int .i64 x)) :
    Calls Try.prog 31 #[.pointer (some ⟨d, 0, none⟩)] w fun r w' => r = .returned (.int .i64 x) ∧ w = w' := by
  go_enter Try.func31, Try.ntmps31
  go_wp2_with (first | (go_at_call 60; refine (load_any ⟨d, 4, none⟩ x _ h).mono ?_; rintro e w' ⟨rfl, rfl⟩))
  go_ret
  exact ⟨rfl, rfl⟩
set_option maxHeartbeats 400000 in
theorem nil_gets (w : World) : ∀ f ∈ [27, 28, 29, 30, 31], Calls Try.prog f #[.pointer none] w fun r w' => r = .returned (.int .i64 0) ∧ w = w' := by
  intro f hf
  simp only [List.mem_cons, List.not_mem_nil, or_false] at hf
  rcases hf with rfl | rfl | rfl | rfl | rfl
  · go_enter Try.func27, Try.ntmps27
    go_wp2
    go_ret
    exact ⟨rfl, rfl⟩
  · go_enter Try.func28, Try.ntmps28
    go_wp2
    go_ret
    exact ⟨rfl, rfl⟩
  · go_enter Try.func29, Try.ntmps29
    go_wp2
    go_ret
    exact ⟨rfl, rfl⟩
  · go_enter Try.func30, Try.ntmps30
    go_wp2
    go_ret
    exact ⟨rfl, rfl⟩
  · go_enter Try.func31, Try.ntmps31
    go_wp2
    go_ret
    exact ⟨rfl, rfl⟩

set_option maxHeartbeats 400000 in
theorem place_in (w : World) (d : Nat) (ao : Option Addr) (n c i : Nat) (h : w.cell? ⟨d, 2, none⟩ = some (.slice ao n c)) (hi : i < n) :
    Calls Try.prog 52 #[.pointer (some ⟨d, 0, none⟩), .int .i64 (i : Int)] w fun r w' => r = .returned (.int .i64 0) ∧ w = w' := by
  have h1 : (i : Int) < (n : Int) := by omega
  go_enter Try.func52, Try.ntmps52
  go_wp2_with (first | (go_at_call 27; refine (len_any _ d ao n c h).mono ?_; rintro e w' ⟨rfl, rfl⟩))
  go_ret
  exact ⟨rfl, rfl⟩
set_option maxHeartbeats 400000 in
theorem place_out (w : World) (d : Nat) (ao : Option Addr) (n c : Nat) (i : Int) (h : w.cell? ⟨d, 2, none⟩ = some (.slice ao n c)) (hi : i < 0 ∨ (n : Int) ≤ i) :
    Calls Try.prog 52 #[.pointer (some ⟨d, 0, none⟩), .int .i64 i] w fun r w' => r = .returned (.int .i64 15) ∧ w = w' := by
  by_cases h0 : i < 0
  · clear hi
    go_enter Try.func52, Try.ntmps52
    go_wp2
    go_ret
    exact ⟨rfl, rfl⟩
  · have h1 : (n : Int) ≤ i := by omega
    clear hi
    go_enter Try.func52, Try.ntmps52
    go_wp2_with (first | (go_at_call 27; refine (len_any _ d ao n c h).mono ?_; rintro e w' ⟨rfl, rfl⟩))
    go_ret
    exact ⟨rfl, rfl⟩
set_option maxHeartbeats 400000 in
theorem place_nil (w : World) (i : Int) :
    Calls Try.prog 52 #[.pointer none, .int .i64 i] w fun r w' => r = .returned (.int .i64 1) ∧ w = w' := by
  go_enter Try.func52, Try.ntmps52
  go_wp2
  go_ret
  exact ⟨rfl, rfl⟩

/-- May there be a disk of such pages, so many at most? -/
def May (s l : Int) : Prop := 512 ≤ s ∧ s ≤ 4096 ∧ s % 128 = 0 ∧ 1 ≤ l ∧ l ≤ 65536
instance (s l : Int) : Decidable (May s l) := by unfold May; exact inferInstance

/-- What New lays. -/
abbrev boxNew (s l : Nat) : Array Value := #[.int .i64 (s : Int), .int .i64 (l : Int), .slice none 0 0, .slice none 0 0, .int .i64 0, .bool false, .int .i64 0, .int .u32 0, .int .i32 0, .int .u32 0, .slice none 0 0]
set_option maxHeartbeats 1000000 in
theorem new_good (w : World) (s l : Nat) (h : May s l) :
    Calls Try.prog 48 #[.int .i64 (s : Int), .int .i64 (l : Int)] w fun r w' => r = .returned (.tuple #[.pointer (some ⟨w.heap.size, 0, none⟩), .int .i64 0]) ∧ w.alloc (.cells (boxNew s l) 111) = w' := by
  obtain ⟨h1, h2, h3, h4, h5⟩ := h
  have e1 : ¬ (s : Int) < 512 := by omega
  have e2 : ¬ (4096 : Int) < s := by omega
  have e4 : ¬ (l : Int) < 1 := by omega
  have e5 : ¬ (65536 : Int) < l := by omega
  have hnot : ∀ (x : Bool) (w : World), (Op.unary .not (.bool x)).run Try.prog w = .ok (.bool (!x)) w := fun _ _ => rfl
  go_enter Try.func48, Try.ntmps48
  go_wp2
  go_ret2
  exact ⟨rfl, rfl⟩

end Go.Proofs.Ytnodclijlhoobaa
