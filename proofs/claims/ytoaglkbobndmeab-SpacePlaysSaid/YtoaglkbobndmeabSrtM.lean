/-
  slices.pdqsortOrdered at pages: its round, in parts. Own work; printed by tools/sort/mkpdq2.py.
-/
import Derived.Test.YtoaglkbobndmeabSrtL
namespace Go.Proofs.Ytoaglkbobndmeab
open Go.RowKit Go.Maps

/-- The first loop in a text. -/
def firstLoop : Code → Option Code
  | .loop c => some c
  | .seq a b => match firstLoop a with
    | some c => some c
    | none => firstLoop b
  | .block _ c => firstLoop c
  | .scope c => firstLoop c
  | .cond _ a b => match firstLoop a with
    | some c => some c
    | none => firstLoop b
  | _ => none
def cL : Code → Code
  | .seq a _ => a
  | .block _ c => c
  | .scope c => c
  | c => c
def cR : Code → Code
  | .seq _ b => b
  | .block _ c => c
  | .scope c => c
  | c => c
noncomputable def pdqIn : Code := cR ((Try.f40.body.bind firstLoop).getD .skip)
noncomputable def pdqS1 : Code := cL (cR pdqIn)
noncomputable def pdqS2 : Code := cL (cR (cR pdqIn))
noncomputable def pdqS3 : Code := cL (cR (cR (cR pdqIn)))
noncomputable def pdqS4 : Code := cL (cR (cR (cR (cR pdqIn))))
noncomputable def pdqS5 : Code := cL (cR (cR (cR (cR (cR pdqIn)))))
noncomputable def pdqS6 : Code := cL (cR (cR (cR (cR (cR (cR pdqIn))))))
noncomputable def pdqS7 : Code := cL (cR (cR (cR (cR (cR (cR (cR pdqIn)))))))
noncomputable def pdqS8 : Code := cR (cR (cR (cR (cR (cR (cR (cR pdqIn)))))))
def PdqR (w0 : World) (blk cap : Nat) (d : Array Nat) (a b : Nat) (r : Ending) (w' : World) : Prop :=
  r = .returned (.tuple #[]) ∧ ∃ dk, RowAt w0 blk cap w' dk ∧ Sort.PermIn a b d dk ∧ Sort.SortedIn ltN a b dk

end Go.Proofs.Ytoaglkbobndmeab
