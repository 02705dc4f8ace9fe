/-
  Layer 7: what the laws of two metas have alike. Own work; the frame is the guide's.
-/
import Derived.Test.YtnggebohefbopaaMetX
import Derived.OwnWalk
import Derived.ProofKit
import Derived.OpenShut
import Derived.ShutString
import Derived.ChangeOld
namespace Go.Proofs.Ytnggebohefbopaa
open Go.RowKit

theorem mput_any (w : World) (M : Mt) (hM : MtOk M) (size : Int) :
    Calls Try.prog 12 #[.agg (mtC M), .int .i64 size] w fun r w' => ∃ ao n c e, r = .returned (.tuple #[.slice ao n c, .int .i64 e]) ∧ w.grownBy w' none := by
  rcases gput_or w M hM size with h | ⟨S, rfl, hG⟩
  · exact (mput_no w M size h).mono fun r w' ⟨e, hg⟩ => ⟨_, _, _, _, e, hg⟩
  · exact (mput_ok w M hG.ok hG.right S hG.lo hG.hi).mono fun r w' ⟨ao, c, e, _, hg⟩ => ⟨_, _, _, _, e, hg⟩
theorem ch_lt {M N : Mt} {S : Nat} (hM : Good M S) (hN : Good N S) (h0 : M.t % 2 = 0) (h1 : N.t % 2 = 1) (h : M.t < N.t) : chM (mpage M S) (mpage N S) = N ∧ chE (mpage M S) (mpage N S) = 0 := by
  have := ch_two hM hN h0 h1
  rwa [if_pos h] at this
theorem ch_ge {M N : Mt} {S : Nat} (hM : Good M S) (hN : Good N S) (h0 : M.t % 2 = 0) (h1 : N.t % 2 = 1) (h : ¬ M.t < N.t) : chM (mpage M S) (mpage N S) = M ∧ chE (mpage M S) (mpage N S) = 0 := by
  have := ch_two hM hN h0 h1
  rwa [if_neg h] at this
theorem own_grown {w w' : World} {base n : Nat} {v : Value} {bs : List Int} (h : w.ownsRow base 5 1 v n (bs.map (Value.int .u8))) (k : w.grownBy w' none) : w'.ownsRow base 5 1 v n (bs.map (Value.int .u8)) := World.ownsRow.kept h k (by cases v.ownBlock <;> simp)
theorem own_set4 {w : World} {base n q : Nat} {v : Value} {bs : List Int} (h : w.ownsRow base 5 1 v n (bs.map (Value.int .u8))) (hq : q < base) (a b c d : Value) :
    ((((w.setCell ⟨q, 0, none⟩ a).setCell ⟨q, 1, none⟩ b).setCell ⟨q, 2, none⟩ c).setCell ⟨q, 3, none⟩ d).ownsRow base 5 1 v n (bs.map (Value.int .u8)) :=
  ownsRow_setCell_below (ownsRow_setCell_below (ownsRow_setCell_below (ownsRow_setCell_below h (by simpa using hq) _) (by simpa using hq) _) (by simpa using hq) _) (by simpa using hq) _
/-- Two raw metas in boxes, and the world behind. -/
theorem two_size (w : World) (a b : Obj) : w.heap.size < ((w.alloc a).alloc b).heap.size := by simp; omega

end Go.Proofs.Ytnggebohefbopaa
