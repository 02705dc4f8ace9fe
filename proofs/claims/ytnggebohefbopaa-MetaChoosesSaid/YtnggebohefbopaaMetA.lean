/-
  Layer 7: which metas may be: the contracts of rightPage, Right, Slot, and of the document's. Own work.
-/
import Derived.Test.YtnggebohefbopaaMetM
import Derived.Test.YtnggebohefbopaaOctE
namespace Go.Proofs.Ytnggebohefbopaa
open Go.RowKit

/-- A meta's four cells. -/
def mtC (M : Mt) : Array Value := #[.int .u64 (M.t : Int), .int .u32 (M.e : Int), .int .u32 (M.m : Int), .int .u32 (M.f : Int)]

set_option maxHeartbeats 400000 in
theorem rpage_any (p e : Nat) (w : World) :
    Calls Try.prog 32 #[.int .u32 (p : Int), .int .u32 (e : Int)] w fun r w' => r = .returned (.bool (rpg p e)) ∧ w = w' := by
  by_cases h0 : p = 0
  · subst h0
    go_enter Try.func32, Try.ntmps32
    go_wp2
    go_ret
    exact ⟨by simp [rpg], rfl⟩
  · have h0i : ¬ (p : Int) = 0 := by omega
    by_cases h1 : 2 ≤ p
    · have h1i : (2 : Int) ≤ (p : Int) := by omega
      go_enter Try.func32, Try.ntmps32
      go_wp2
      go_ret
      exact ⟨by simp [rpg, h0, h1], rfl⟩
    · have h1i : ¬ (2 : Int) ≤ (p : Int) := by omega
      go_enter Try.func32, Try.ntmps32
      go_wp2
      go_ret
      exact ⟨by simp [rpg, h0, h1], rfl⟩

set_option maxHeartbeats 400000 in
theorem kpage_any (p e : Nat) (w : World) :
    Calls Try.prog 33 #[.int .u32 (p : Int), .int .u32 (e : Int)] w fun r w' => r = .returned (.bool (rpg p e)) ∧ w = w' := by
  by_cases h0 : p = 0
  · subst h0
    go_enter Try.func33, Try.ntmps33
    go_wp2
    go_ret
    exact ⟨by simp [rpg], rfl⟩
  · have h0i : ¬ (p : Int) = 0 := by omega
    by_cases h1 : 2 ≤ p
    · have h1i : (2 : Int) ≤ (p : Int) := by omega
      go_enter Try.func33, Try.ntmps33
      go_wp2
      go_ret
      exact ⟨by simp [rpg, h0, h1], rfl⟩
    · have h1i : ¬ (2 : Int) ≤ (p : Int) := by omega
      go_enter Try.func33, Try.ntmps33
      go_wp2
      go_ret
      exact ⟨by simp [rpg, h0, h1], rfl⟩

set_option maxHeartbeats 400000 in
theorem mslot_any (t : Nat) (ht : t < 18446744073709551616) (w : World) :
    Calls Try.prog 16 #[.int .u64 (t : Int)] w fun r w' => r = .returned (.int .i64 ((t % 2 : Nat) : Int)) ∧ w = w' := by
  go_enter Try.func16, Try.ntmps16
  go_wp2
  go_ret
  exact ⟨by simp, rfl⟩

set_option maxHeartbeats 1000000 in
theorem mright_any (M : Mt) (w : World) :
    Calls Try.prog 14 #[.agg (mtC M)] w fun r w' => r = .returned (.bool (mright M)) ∧ w.grownBy w' none := by
  obtain ⟨t, e, m, f⟩ := M
  simp only [mtC, mright]
  by_cases h1 : 1 ≤ t
  · have h1i : (1 : Int) ≤ (t : Int) := by omega
    by_cases h2 : 2 ≤ e
    · have h2i : (2 : Int) ≤ (e : Int) := by omega
      cases h3 : rpg m e
      · go_enter Try.func14, Try.ntmps14
        go_wp2_with (go_at_call 32; refine (rpage_any _ _ _).mono ?_; rintro r w1 ⟨rfl, rfl⟩; rw [h3])
        go_ret
        exact ⟨by simp [h1, h2], World.grownBy_alloc _ _ _⟩
      · go_enter Try.func14, Try.ntmps14
        go_wp2_with (first
          | (go_at_call 32; with_reducible refine (rpage_any m e _).mono ?_; rintro r w1 ⟨rfl, rfl⟩; rw [h3])
          | (go_at_call 32; with_reducible refine (rpage_any f e _).mono ?_; rintro r w1 ⟨rfl, rfl⟩))
        go_ret
        exact ⟨by simp [h1, h2], World.grownBy_alloc _ _ _⟩
    · have h2i : ¬ (2 : Int) ≤ (e : Int) := by omega
      go_enter Try.func14, Try.ntmps14
      go_wp2
      go_ret
      exact ⟨by simp [h2], World.grownBy_alloc _ _ _⟩
  · have h1i : ¬ (1 : Int) ≤ (t : Int) := by omega
    go_enter Try.func14, Try.ntmps14
    go_wp2
    go_ret
    exact ⟨by simp [h1], World.grownBy_alloc _ _ _⟩

end Go.Proofs.Ytnggebohefbopaa
