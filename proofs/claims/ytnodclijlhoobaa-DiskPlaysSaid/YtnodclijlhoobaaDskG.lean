/-
  Layer 3: the contracts of the reference's Sync where it fails, and of Grow where it is refused or fails. Own work.
-/
import Derived.Test.YtnodclijlhoobaaDskD
namespace Go.Proofs.Ytnodclijlhoobaa
open Go.RowKit

set_option maxHeartbeats 1000000 in
theorem rsync_fail (w : World) (s l : Nat) (ga : Option Addr) (gn gc : Nat) (la : Option Addr) (ln lc : Nat) (c : Nat) (hc : c < 9223372036854775807) :
    Calls Try.prog 21 #[.agg (dcs s l ga gn gc la ln lc 0 c)] w fun r w' => r = .returned (.tuple #[.agg (dcs s l ga gn gc la ln lc (-1) (c + 1)), .int .i64 20]) ∧ w.grownBy w' none := by
  go_enter Try.func21, Try.ntmps21
  go_wp2_with (go_at_call 54; refine (rcount_err _ s l ga gn gc la ln lc c hc).mono ?_; rintro r w1 ⟨rfl, rfl⟩)
  exact bodyPost_ret (results_D rfl _ _ (w.heap.size + 1) _ _ rfl rfl (keep_alloc (keep_alloc (two_lit1 _ _ _) _) _) rfl) rfl ⟨rfl, four_grown _ _ _ _ _⟩
set_option maxHeartbeats 1000000 in
theorem rgrow_arg (w : World) (s l : Nat) (ga : Option Addr) (gn gc : Nat) (la : Option Addr) (ln lc : Nat) (f : Int) (c : Nat) (n : Int) (h : n < (gn : Int)) :
    Calls Try.prog 19 #[.agg (dcs s l ga gn gc la ln lc f c), .int .i64 n] w fun r w' => r = .returned (.tuple #[.agg (dcs s l ga gn gc la ln lc f c), .int .i64 1]) ∧ w.grownBy w' none := by
  go_enter Try.func19, Try.ntmps19
  go_wp2
  exact bodyPost_ret (results_D rfl _ _ (w.heap.size + 1) _ _ rfl rfl (two_lit1 _ _ _) rfl) rfl ⟨rfl, two_grown _ _ _⟩
set_option maxHeartbeats 1000000 in
theorem rgrow_full (w : World) (s l : Nat) (ga : Option Addr) (gn gc : Nat) (la : Option Addr) (ln lc : Nat) (f : Int) (c : Nat) (n : Int) (h : ¬ n < (gn : Int)) (h2 : (l : Int) < n) :
    Calls Try.prog 19 #[.agg (dcs s l ga gn gc la ln lc f c), .int .i64 n] w fun r w' => r = .returned (.tuple #[.agg (dcs s l ga gn gc la ln lc f c), .int .i64 21]) ∧ w.grownBy w' none := by
  go_enter Try.func19, Try.ntmps19
  go_wp2
  exact bodyPost_ret (results_D rfl _ _ (w.heap.size + 1) _ _ rfl rfl (two_lit1 _ _ _) rfl) rfl ⟨rfl, two_grown _ _ _⟩
set_option maxHeartbeats 1000000 in
theorem rgrow_fail (w : World) (s l : Nat) (ga : Option Addr) (gn gc : Nat) (la : Option Addr) (ln lc : Nat) (c : Nat) (n : Int) (h : ¬ n < (gn : Int)) (h2 : ¬ (l : Int) < n) (hc : c < 9223372036854775807) :
    Calls Try.prog 19 #[.agg (dcs s l ga gn gc la ln lc 0 c), .int .i64 n] w fun r w' => r = .returned (.tuple #[.agg (dcs s l ga gn gc la ln lc (-1) (c + 1)), .int .i64 20]) ∧ w.grownBy w' none := by
  go_enter Try.func19, Try.ntmps19
  go_wp2_with (go_at_call 54; refine (rcount_err _ s l ga gn gc la ln lc c hc).mono ?_; rintro r w1 ⟨rfl, rfl⟩)
  exact bodyPost_ret (results_D rfl _ _ (w.heap.size + 1) _ _ rfl rfl (keep_alloc (keep_alloc (two_lit1 _ _ _) _) _) rfl) rfl ⟨rfl, four_grown _ _ _ _ _⟩

end Go.Proofs.Ytnodclijlhoobaa
