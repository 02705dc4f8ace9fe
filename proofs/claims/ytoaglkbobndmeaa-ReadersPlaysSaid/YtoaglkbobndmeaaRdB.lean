/-
  Layer 9: good; a slot's begin and end; Txn, End, Dead. Own work.
-/
import Derived.Test.YtoaglkbobndmeaaRdA
import Derived.Deep.QuietTactic
import Derived.BigQuiet
namespace Go.Proofs.Ytoaglkbobndmeaa
open Go.RowKit

theorem cells2 {w : World} {q : Nat} {a b : Value} {t : TypeId} (k : w.heap[q]? = some (.cells #[a, b] t (0, 0))) : w.cell? ⟨q, 0, none⟩ = some a ∧ w.cell? ⟨q, 1, none⟩ = some b := by
  simp [World.cell?, k]
theorem hcells (w : World) (a b : Value) (t : TypeId) : (w.alloc (.cells #[a, b] t)).cell? ⟨w.heap.size, 0, none⟩ = some a ∧ (w.alloc (.cells #[a, b] t)).cell? ⟨w.heap.size, 1, none⟩ = some b :=
  cells2 (heap_alloc_new w (.cells #[a, b] t (0, 0)))
theorem taken_nil (w : World) (i : Int) : Calls Try.prog 29 #[.pointer none, .int .i64 i] w fun r w' => r = .returned (.pointer none) ∧ w = w' := by
  by_cases h0 : i < 0
  · go_enter Try.func29, Try.ntmps29
    go_wp2
    go_ret
    exact ⟨rfl, rfl⟩
  · have h1 : 0 ≤ i := by omega
    go_enter Try.func29, Try.ntmps29
    go_wp2_with (first
      | (go_at_call 30; (with_reducible refine (size_nil w).mono ?_); rintro r w1 ⟨rfl, rfl⟩)
      | go_in)
    go_ret
    exact ⟨rfl, rfl⟩

set_option maxHeartbeats 1000000 in
theorem good_any (w : World) (b : Nat) (L : List Sl) (i : Int) (t : Nat) (h : TabAt b w L) :
    Calls Try.prog 27 #[.pointer (some ⟨b, 0, none⟩), .agg #[.int .i64 i, .int .u64 (t : Int)]] w fun r w' => r = .returned (ptrAt b i (goodM L i t)) ∧ w.grownBy w' none := by
  have H := Lib.hid (h.grown (World.grownBy_alloc w (.cells #[.int .i64 i, .int .u64 (t : Int)] 36) none))
  obtain ⟨e0, e1⟩ := hcells w (.int .i64 i) (.int .u64 (t : Int)) 36
  cases ht : takenM L i with
  | none =>
    have HT := Lib.hid ht
    have e : goodM L i t = none := by unfold goodM; rw [ht]; rfl
    rw [e]
    clear h ht e
    go_enter Try.func27, Try.ntmps27
    go_wp2_with (first
      | (go_at_call 29; (with_reducible refine (taken_any _ b L i H.out).mono ?_); rintro r w1 ⟨rfl, rfl⟩; rw [HT.out, ptrAt])
      | go_in)
    go_region
    all_goals (go_wp2; go_ret; exact ⟨rfl, gtrans (World.grownBy_alloc _ _ _) (gdrew _)⟩)
  | some s =>
    obtain ⟨q0, q1, q2⟩ := takenM_some ht
    obtain ⟨-, c1, -⟩ := H.out.cells q1
    have HT := Lib.hid ht
    have HG := Lib.hid (show goodM L i t = if s.turn = t then some s else none by
      unfold goodM; rw [ht]; by_cases z : s.turn = t <;> simp [z, Option.filter])
    clear h ht q1 q2
    by_cases hz : s.turn = t
    · rw [show goodM L i t = some s by rw [HG.out, if_pos hz]]
      rw [hz] at c1
      go_enter Try.func27, Try.ntmps27
      go_wp2_with (first
        | (go_at_call 29; (with_reducible refine (taken_any _ b L i H.out).mono ?_); rintro r w1 ⟨rfl, rfl⟩; rw [HT.out, ptrAt])
        | go_in)
      go_region
      all_goals (go_wp2; go_ret; exact ⟨rfl, gtrans (World.grownBy_alloc _ _ _) (gdrew _)⟩)
    · rw [show goodM L i t = none by rw [HG.out, if_neg hz]]
      have hz1 : ¬ (s.turn : Int) = (t : Int) := by omega
      have hz2 : ((s.turn : Int) == (t : Int)) = false := by simpa using hz1
      go_enter Try.func27, Try.ntmps27
      go_wp2_with (first
        | (go_at_call 29; (with_reducible refine (taken_any _ b L i H.out).mono ?_); rintro r w1 ⟨rfl, rfl⟩; rw [HT.out, ptrAt])
        | go_in)
      go_region
      all_goals (go_wp2; go_ret; exact ⟨rfl, gtrans (World.grownBy_alloc _ _ _) (gdrew _)⟩)

theorem good_nil (w : World) (i : Int) (t : Nat) :
    Calls Try.prog 27 #[.pointer none, .agg #[.int .i64 i, .int .u64 (t : Int)]] w fun r w' => r = .returned (.pointer none) ∧ w.grownBy w' none := by
  obtain ⟨e0, e1⟩ := hcells w (.int .i64 i) (.int .u64 (t : Int)) 36
  go_enter Try.func27, Try.ntmps27
  go_wp2_with (first
    | (go_at_call 29; (with_reducible refine (taken_nil _ i).mono ?_); rintro r w1 ⟨rfl, rfl⟩)
    | go_in)
  go_region
  all_goals (go_wp2; go_ret; exact ⟨rfl, gtrans (World.grownBy_alloc _ _ _) (gdrew _)⟩)

def sbeg (s : Sl) (x : Nat) : Sl := ⟨1, (s.turn + 1) % 18446744073709551616, x⟩
def send (s : Sl) : Sl := ⟨0, s.turn, 0⟩
theorem sbeg_ok (s : Sl) {x : Nat} (h : x < 18446744073709551616) : SlOk (sbeg s x) := ⟨by simp [sbeg], Nat.mod_lt _ (by decide), h⟩
theorem send_ok {s : Sl} (h : SlOk s) : SlOk (send s) := ⟨by simp [send], h.turn, by simp [send]⟩

set_option maxHeartbeats 1000000 in
theorem sbegin_any (w : World) (b i : Nat) (L : List Sl) (s : Sl) (x : Nat) (h : TabAt b w L) (hi : L[i]? = some s) :
    Calls Try.prog 25 #[.pointer (some ⟨b, 3 * i, none⟩), .int .u64 (x : Int)] w fun r w' => r = .returned (.tuple #[]) ∧ set3 w b i (sbeg s x) = w' := by
  obtain ⟨c0, c1, c2⟩ := h.cells hi
  have f0 := h.free (3 * i)
  have f1 := h.free (3 * i + 1)
  have f2 := h.free (3 * i + 2)
  have hw : IntKind.u64.wrap ((s.turn : Int) + 1) = (((s.turn + 1) % 18446744073709551616 : Nat) : Int) := by
    rw [show (((s.turn + 1) % 18446744073709551616 : Nat) : Int) = ((s.turn : Int) + 1) % 18446744073709551616 by omega]
    simp [IntKind.wrap, IntKind.signed, go_sem]
  have HW := Lib.hid hw
  clear h hi hw
  go_enter Try.func25, Try.ntmps25
  go_wp2_with (first
    | (go_at_call 32; (with_reducible refine (ustore_any ⟨b, 3 * i + 2, none⟩ (.int .u64 (s.rd : Int)) (.int .u64 0) (x : Int) _ rfl (by go_simp) (by go_simp)).mono ?_); rintro r w1 ⟨rfl, rfl⟩)
    | go_in)
  go_end0
  rw [HW.out]
  exact ⟨rfl, rfl⟩

set_option maxHeartbeats 1000000 in
theorem send_any (w : World) (b i : Nat) (L : List Sl) (s : Sl) (h : TabAt b w L) (hi : L[i]? = some s) :
    Calls Try.prog 28 #[.pointer (some ⟨b, 3 * i, none⟩)] w fun r w' => r = .returned (.tuple #[]) ∧ (w.setCell ⟨b, 3 * i, none⟩ (.int .i64 0)).setCell ⟨b, 3 * i + 2, none⟩ (.int .u64 0) = w' := by
  obtain ⟨c0, c1, c2⟩ := h.cells hi
  have f0 := h.free (3 * i)
  have f2 := h.free (3 * i + 2)
  clear h hi
  go_enter Try.func28, Try.ntmps28
  go_wp2_with (first
    | (go_at_call 32; (with_reducible refine (ustore_any ⟨b, 3 * i + 2, none⟩ (.int .u64 (s.rd : Int)) (.int .u64 0) 0 _ rfl (by go_simp) (by go_simp)).mono ?_); rintro r w1 ⟨rfl, rfl⟩)
    | go_in)
  go_end0
  exact ⟨rfl, rfl⟩

end Go.Proofs.Ytoaglkbobndmeaa
