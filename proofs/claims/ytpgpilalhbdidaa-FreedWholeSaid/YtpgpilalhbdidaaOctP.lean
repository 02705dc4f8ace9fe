/-
  The contract of octet's Reader.End. Own work.
-/
import Derived.Test.YtpgpilalhbdidaaOctD
namespace Go.Proofs.Ytpgpilalhbdidaa
open Go.RowKit

set_option maxHeartbeats 400000 in
theorem left_any (w : World) (g : Nat) (bs : List Int) (e : Int) (h : RdAt w g bs e) :
    Calls Try.prog 50 #[.pointer (some ⟨g, 0, none⟩)] w fun r w' => r = .returned (.int .i64 bs.length) ∧ w = w' := by
  obtain ⟨v, ⟨ao, c, rfl, _⟩, hv⟩ := h
  have h1 := two_cell0 hv
  clear hv
  go_enter Try.func50, Try.ntmps50
  go_wp2
  go_ret
  exact ⟨rfl, rfl⟩
set_option maxHeartbeats 400000 in
theorem left_nil (w : World) :
    Calls Try.prog 50 #[.pointer none] w fun r w' => r = .returned (.int .i64 0) ∧ w = w' := by
  go_enter Try.func50, Try.ntmps50
  go_wp2
  go_ret
  exact ⟨rfl, rfl⟩

end Go.Proofs.Ytpgpilalhbdidaa
