/-
  DiskPlays where there is no disk, or too many bytes: what is told of a nil disk. Own work.
-/
import Derived.Test.YtnodclijlhoobaaDskBB
import Derived.Test.YtnodclijlhoobaaActs3
namespace Go.Proofs.Ytnodclijlhoobaa
open Go.RowKit

set_option maxRecDepth 100000 in
set_option maxHeartbeats 4000000 in
theorem plays_long (W : World) (s l : Int) (ao1 ao2 : Option Addr) (n c1 m c2 : Nat) (hn : 9000 < n) (hm : n ≤ maxLen) :
    Calls Try.prog 3 #[.int .i64 s, .int .i64 l, .slice ao1 n c1, .slice ao2 m c2] W fun r w' => r = .returned (.bool true) ∧ Below W.heap.size W w' := by
  have hnot : ∀ (x : Bool) (w : World), (Op.unary .not (.bool x)).run Try.prog w = .ok (.bool (!x)) w := fun _ _ => rfl
  unfold maxLen at hm
  have hni : (9000 : Int) < (n : Int) := by omega
  go_enter Try.func3, Try.ntmps3
  go_wp2_with (first
    | (go_at_call 10; refine (awake3_any _).mono ?_; rintro e wA ⟨rfl, hA⟩; have HA := Lib.hid (gbelow hA); clear hA))
  go_ret
  exact ⟨rfl, HA.out⟩

set_option maxRecDepth 100000 in
set_option maxHeartbeats 4000000 in
theorem plays_none (W : World) (s l : Int) (ao1 ao2 : Option Addr) (n c1 m c2 : Nat) (bs : List Int) (hs : Seq W.heap.size W (.slice ao1 n c1) bs) (hn : n ≤ 9000)
    (h1 : ∀ w, Calls Try.prog 11 #[.slice ao1 n c1, .int .i64 s, .int .i64 l] w fun r w' => r = .returned (.tuple #[.pointer none, .int .i64 1]) ∧ w.grownBy w' none)
    (h2 : ∀ w, Calls Try.prog 12 #[.string (strOfNums bs), .int .i64 s, .int .i64 l] w fun r w' => r = .returned (.tuple #[.agg (dcs 0 0 none 0 0 none 0 0 0 0), .int .i64 1]) ∧ w.grownBy w' none) :
    Calls Try.prog 3 #[.int .i64 s, .int .i64 l, .slice ao1 n c1, .slice ao2 m c2] W fun r w' => r = .returned (.bool true) ∧ Below W.heap.size W w' := by
  have hnot : ∀ (x : Bool) (w : World), (Op.unary .not (.bool x)).run Try.prog w = .ok (.bool (!x)) w := fun _ _ => rfl
  have hni : ¬ (9000 : Int) < (n : Int) := by omega
  have H1 := Lib.hid h1
  have H2 := Lib.hid h2
  have HS := Lib.hid hs
  clear h1 h2 hs
  go_enter Try.func3, Try.ntmps3
  go_wp2_with (first
    | (go_at_call 10; refine (awake3_any _).mono ?_; rintro e wA ⟨rfl, hA⟩; have HA := Lib.hid hA; clear hA)
    | (go_at_call 11; refine (H1.out _).mono ?_; rintro e w1 ⟨rfl, hg⟩; have HG1 := Lib.hid (gtrans HA.out hg); have hcv : (convert 22 9 (.slice ao1 n c1)).run Try.prog w1 = .ok (.string (strOfNums bs)) w1 := seq_string ((HS.out.below (fun i hi => HG1.out.block i hi (by simp))).mono HG1.out.size); clear hg)
    | (go_at_call 12; refine (H2.out _).mono ?_; rintro e w2 ⟨rfl, hg⟩; have HG2 := Lib.hid (gtrans HG1.out hg); clear hg hcv))
  refine wp_loop_rounds 1 ?_; rw [rounds_succ]
  go_wp2_with (first
    | (go_at_call 22; refine (fail_nil _ 1).mono ?_; rintro e w' ⟨rfl, rfl⟩)
    | (go_at_call 24; refine (crash_nil _ _).mono ?_; rintro e w' ⟨rfl, rfl⟩)
    | (go_at_call 16; refine (read_nil _ 0).mono ?_; rintro e w' ⟨rfl, rfl⟩)
    | (go_at_call 14; refine (write_nil _ 0 _).mono ?_; rintro e w' ⟨rfl, rfl⟩)
    | (go_at_call 20; refine (sync_nil _).mono ?_; rintro e w' ⟨rfl, rfl⟩)
    | (go_at_call 18; refine (grow_nil _ 1).mono ?_; rintro e w' ⟨rfl, rfl⟩)
    | (go_at_call 27; refine (nil_gets _ 27 (by decide)).mono ?_; rintro e w' ⟨rfl, rfl⟩)
    | (go_at_call 28; refine (nil_gets _ 28 (by decide)).mono ?_; rintro e w' ⟨rfl, rfl⟩)
    | (go_at_call 29; refine (nil_gets _ 29 (by decide)).mono ?_; rintro e w' ⟨rfl, rfl⟩)
    | (go_at_call 30; refine (nil_gets _ 30 (by decide)).mono ?_; rintro e w' ⟨rfl, rfl⟩)
    | (go_at_call 31; refine (nil_gets _ 31 (by decide)).mono ?_; rintro e w' ⟨rfl, rfl⟩))
  all_goals
    go_ret
    exact ⟨rfl, gbelow (gtrans HG2.out (World.grownBy_alloc _ _ _))⟩

end Go.Proofs.Ytnodclijlhoobaa
