/-
  Layer 8: what the laws' walks share. Own work.
-/
import Derived.Test.YtoaglkbobndmeabSpcT
import Derived.Test.YtoaglkbobndmeabSpcU
namespace Go.Proofs.Ytoaglkbobndmeab
open Go.RowKit Go.Maps

theorem gbelow {a b : World} (h : a.grownBy b none) : Below a.heap.size a b := ⟨h.os, h.tape, h.output, h.size, fun i hi => h.block i hi (by simp)⟩
def NewOk (w : World) (en lim old : Nat) (l : List Rc) (r : Ending) (w' : World) : Prop := ∃ B, r = .returned (.tuple #[.pointer (some ⟨B + 4, 0, none⟩), .int .i64 0]) ∧ w.heap.size ≤ B ∧ SpAt B w'.heap.size w' (spOf en lim old l) ∧ w.grownBy w' none
/-- New, of 50 pages there and 60 that may be. -/
theorem new50 (w : World) (R : Nat → Prop) (ao : Option Addr) (n c : Nat) (old : Int) (l : List Rc) (hs : RSq R w (.slice ao n c) l) (h4 : right l 50 = true) (h0 : 0 ≤ old) (h1 : old ≤ 18446744073709551615) :
    Calls Try.prog 8 #[.int .u32 50, .int .u32 60, .slice ao n c, .int .u64 old] w fun r w' => NewOk w 50 60 old.toNat l r w' := by
  have e : ((old.toNat : Nat) : Int) = old := by omega
  have K := new_good w R ao n c 50 60 old.toNat l hs (by decide) (by decide) (by decide) h4 (by omega)
  rw [e] at K
  refine K.mono ?_
  rintro r w' ⟨B, wv, es, rfl, hB, hN, hg⟩
  exact ⟨B, rfl, hB, hN.at, hg⟩
theorem right50 (w : World) (R : Nat → Prop) (ao : Option Addr) (n c : Nat) (l : List Rc) (hs : RSq R w (.slice ao n c) l) (b : Bool) (hb : right l 50 = b) :
    Calls Try.prog 10 #[.slice ao n c, .int .u32 50] w fun r w' => r = .returned (.bool b) ∧ w.grownBy w' none := by
  subst hb
  exact right_any w R ao n c l 50 hs (by decide)

theorem usable50 {H : Nat} (w : World) (B old : Nat) (l : List Rc) (n : Nat) (h : SpAt B H w (spOf 50 60 old l)) (hn : n = (insAll (allOf (oldRecs old l)) []).length) :
    Calls Try.prog 21 #[.pointer (some ⟨B + 4, 0, none⟩)] w fun r w' => r = .returned (.int .i64 (n : Int)) ∧ w = w' := by
  subst hn
  exact usable_any w B _ h


end Go.Proofs.Ytoaglkbobndmeab
