/-
  Layer 3: the law's own 'alike'. Own work.
-/
import Derived.Test.YtnodclijlhoobaaDskT
import Derived.Test.YtnodclijlhoobaaDskA
import Derived.Deep.QuietTactic
import Derived.BigQuiet
namespace Go.Proofs.Ytnodclijlhoobaa
open Go.RowKit

set_option maxRecDepth 100000 in
set_option maxHeartbeats 2000000 in
theorem alike_any (B d : Nat) (w : World) (M : SM) (ga : Option Addr) (gc : Nat) (la : Option Addr) (lc : Nat) (f : Int) (h : DskAt B w d M) :
    Calls Try.prog 26 #[.pointer (some ⟨d, 0, none⟩), .agg (dcs M.size M.limit ga M.pg.length gc la M.loose.length lc f M.calls)] w fun r w' => r = .returned (.bool true) ∧ w.grownBy w' none := by
  have h' := h.new (World.grownBy_alloc w (.cells (dcs M.size M.limit ga M.pg.length gc la M.loose.length lc f M.calls) 32) none)
  obtain ⟨al, cl, c2⟩ := h'.len
  obtain ⟨am, cm, c3⟩ := h'.los
  obtain ⟨c0, c1, c4⟩ := h'.lim
  have hb := heap_alloc_new w (.cells (dcs M.size M.limit ga M.pg.length gc la M.loose.length lc f M.calls) 32)
  generalize M.size = s at *
  generalize M.limit = l at *
  generalize M.pg.length = m at *
  generalize M.loose.length = k at *
  generalize M.calls = c at *
  clear h h' hb
  go_enter Try.func26, Try.ntmps26
  go_wp2
  go_quiet ((first
    | (go_at_call 27; exact Calls.quiet_of_same ((len_any _ d al m cl (by exact c2)).mono fun _ _ h => ⟨h.1, h.2.symm⟩))
    | (go_at_call 29; exact Calls.quiet_of_same ((size_any _ d (.int .i64 (s : Int)) (by exact c0)).mono fun _ _ h => ⟨h.1, h.2.symm⟩))
    | (go_at_call 30; exact Calls.quiet_of_same ((limit_any _ d (.int .i64 (l : Int)) (by exact c1)).mono fun _ _ h => ⟨h.1, h.2.symm⟩))
    | (go_at_call 28; exact Calls.quiet_of_same ((loose_any _ d am k cm (by exact c3)).mono fun _ _ h => ⟨h.1, h.2.symm⟩))
    | (go_at_call 31; exact Calls.quiet_of_same ((calls_any _ d (c : Int) (by exact c4)).mono fun _ _ h => ⟨h.1, h.2.symm⟩))))
  go_wp2
  go_ret
  exact ⟨rfl, gtrans (World.grownBy_alloc _ _ _) (gdrewN _ _)⟩

end Go.Proofs.Ytnodclijlhoobaa
