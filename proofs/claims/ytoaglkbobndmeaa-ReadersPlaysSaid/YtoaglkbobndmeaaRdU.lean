/-
  ReadersPlays: what is done in a round, in parts. Own work; printed by tools/rd/mkplays.py.
-/
import Derived.Test.YtoaglkbobndmeaaRdS
import Derived.Deep.CutBlock
namespace Go.Proofs.Ytoaglkbobndmeaa
open Go.RowKit

/-- The first loop in a text. -/
def firstLoop : Code → Option Code
  | .loop c => some c
  | .seq a b => match firstLoop a with
    | some c => some c
    | none => firstLoop b
  | .block _ c => firstLoop c
  | .scope c => firstLoop c
  | .cond _ a b => match firstLoop a with
    | some c => some c
    | none => firstLoop b
  | _ => none
def cL : Code → Code
  | .seq a _ => a
  | .block _ c => c
  | .scope c => c
  | c => c
def cR : Code → Code
  | .seq _ b => b
  | .block _ c => c
  | .scope c => c
  | c => c
noncomputable def playsRound : Code := ((Try.f3.body.bind firstLoop).getD .skip)
/-- What follows the round's head: the block of a round. -/
noncomputable def playsIn : Code := cR (cL (cR playsRound))
noncomputable def playsSw : Code := cR (cL (cR (cR (cR playsIn))))
noncomputable def playsTail : Code := cR (cR (cR (cR playsIn)))

end Go.Proofs.Ytoaglkbobndmeaa
