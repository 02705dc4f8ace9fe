/-
  Layer 9: size, taken, good; a slot's begin and end. Own work.
-/
import Derived.Test.YtoaglkbobndmeaaRdM
import Derived.Laws.LoneSync
import Derived.RegionTactic
import Derived.RegionCalls
namespace Go.Proofs.Ytoaglkbobndmeaa
open Go.RowKit

theorem uload_any (a : Addr) (x : Int) (w : World) (h0 : a.add 0 = a) (hc : w.cell? a = some (.int .u64 x)) :
    Calls Try.prog 31 #[.pointer (some a)] w fun r w' => r = .returned (.int .u64 x) ∧ w = w' := by
  have hl := run_call_load (P := Try.prog) Try.func33 (by kernel_rfl) (by kernel_rfl) (by kernel_rfl) .u64 (by kernel_rfl) hc
  go_enter Try.func31, Try.ntmps31
  go_wp2
  go_ret
  exact ⟨rfl, rfl⟩

theorem ustore_any (a : Addr) (x y : Value) (v : Int) (w : World) (h0 : a.add 0 = a) (hc : w.cell? a = some x) (hz : w.frozen? a = false) :
    Calls Try.prog 32 #[.pointer (some a), .int .u64 v] w fun r w' => r = .returned (.tuple #[]) ∧ w.setCell a (.int .u64 v) = w' := by
  have hl := run_call_store (P := Try.prog) Try.func34 (by kernel_rfl) (by kernel_rfl) (by kernel_rfl) (by kernel_rfl) (k := .u64) (y := v) hc hz
  go_enter Try.func32, Try.ntmps32
  go_wp2
  go_end0
  exact ⟨rfl, rfl⟩

theorem size_any (w : World) (b : Nat) (L : List Sl) (h : TabAt b w L) : Calls Try.prog 30 #[.pointer (some ⟨b, 0, none⟩)] w fun r w' => r = .returned (.int .i64 (L.length : Int)) ∧ w = w' := by
  have hm := h.many
  clear h
  go_enter Try.func30, Try.ntmps30
  go_wp2
  go_ret
  exact ⟨rfl, rfl⟩
theorem size_nil (w : World) : Calls Try.prog 30 #[.pointer none] w fun r w' => r = .returned (.int .i64 0) ∧ w = w' := by
  go_enter Try.func30, Try.ntmps30
  go_wp2
  go_ret
  exact ⟨rfl, rfl⟩

set_option maxHeartbeats 1000000 in
theorem taken_any (w : World) (b : Nat) (L : List Sl) (i : Int) (h : TabAt b w L) :
    Calls Try.prog 29 #[.pointer (some ⟨b, 0, none⟩), .int .i64 i] w fun r w' => r = .returned (ptrAt b i (takenM L i)) ∧ w = w' := by
  have hms := h.most
  by_cases h0 : i < 0
  · have e : takenM L i = none := by unfold takenM; rw [if_neg (by omega)]
    rw [e]
    clear h
    go_enter Try.func29, Try.ntmps29
    go_wp2
    go_ret
    exact ⟨rfl, rfl⟩
  by_cases h1 : (L.length : Int) ≤ i
  · have e : takenM L i = none := by
      unfold takenM; rw [if_pos (by omega), List.getElem?_eq_none (by omega)]; rfl
    rw [e]
    have H := Lib.hid h
    clear h
    go_enter Try.func29, Try.ntmps29
    go_wp2_with (first
      | (go_at_call 30; (with_reducible refine (size_any w b L H.out).mono ?_); rintro r w1 ⟨rfl, rfl⟩)
      | go_in)
    go_ret
    exact ⟨rfl, rfl⟩
  have hl : i.toNat < L.length := by omega
  obtain ⟨s, hs⟩ : ∃ s, L[i.toNat]? = some s := ⟨L[i.toNat], List.getElem?_eq_getElem hl⟩
  obtain ⟨c0, c1, c2⟩ := h.cells hs
  have i126 : i < 126 := by omega
  have HT := Lib.hid (show takenM L i = if s.st = 0 then none else some s by
    unfold takenM; rw [if_pos (by omega), hs]; by_cases z : s.st = 0 <;> simp [z, Option.filter])
  have H := Lib.hid h
  clear h hs hms
  have i0 : 0 ≤ i := by omega
  rw [Nat.mul_comm] at c0
  by_cases hz : s.st = 0
  · have e : takenM L i = none := by rw [HT.out, if_pos hz]
    rw [e]
    rw [hz] at c0
    clear HT
    go_enter Try.func29, Try.ntmps29
    go_wp2_with (first
      | (go_at_call 30; (with_reducible refine (size_any w b L H.out).mono ?_); rintro r w1 ⟨rfl, rfl⟩)
      | go_in)
    go_ret
    exact ⟨rfl, rfl⟩
  · have e : takenM L i = some s := by rw [HT.out, if_neg hz]
    rw [e]
    have hz1 : ¬ (s.st : Int) = 0 := by omega
    have hzb : ((s.st : Int) == 0) = false := by simpa using hz1
    have hlb : decide ((L.length : Int) ≤ i) = false := by simpa using h1
    have hor : (decide ((L.length : Int) ≤ i) || (s.st : Int) == 0) = false := by rw [hzb, hlb]; rfl
    clear HT
    go_enter Try.func29, Try.ntmps29
    go_wp2_with (first
      | (go_at_call 30; (with_reducible refine (size_any w b L H.out).mono ?_); rintro r w1 ⟨rfl, rfl⟩)
      | go_in)
    go_ret
    exact ⟨by simp [ptrAt, Nat.mul_comm], rfl⟩

end Go.Proofs.Ytoaglkbobndmeaa
