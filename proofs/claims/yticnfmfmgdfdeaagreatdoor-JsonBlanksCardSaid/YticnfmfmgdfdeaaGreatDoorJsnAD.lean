/-
  JSON texts as plain lists: values, what a text is parsed as, a value's text, how two stand. Own work.
-/
import Derived.Test.YticnfmfmgdfdeaaGreatDoorJsnAB
import Derived.Lib.RuneBytes
import Derived.Lib.ValidU

set_option linter.unusedVariables false
set_option linter.unusedSimpArgs false
namespace Go.Proofs.YticnfmfmgdfdeaaGreatDoor
open Go.RowKit

inductive J where
  | null
  | bool (b : Bool)
  | num (n : Nm)
  | str (s : Bs)
  | arr (l : List J)
  | obj (ns : List Bs) (l : List J)

abbrev Rd (α : Type) := Except Int (α × Bs)
def blankB (b : UInt8) : Bool := b == 32 || b == 9 || b == 10 || b == 13
def blk (s : Bs) : Bs := s.dropWhile blankB
def numB (b : UInt8) : Bool := dig b || b == 43 || b == 45 || b == 46 || b == 101 || b == 69
def hexB (b : UInt8) : Option Nat :=
  if 48 ≤ b.toNat ∧ b.toNat ≤ 57 then some (b.toNat - 48) else if 97 ≤ b.toNat ∧ b.toNat ≤ 102 then some (b.toNat - 87)
  else if 65 ≤ b.toNat ∧ b.toNat ≤ 70 then some (b.toNat - 55) else none
/-- Digits of 16, from the front on. -/
def hexV : Nat → Bs → Option Nat
  | x, [] => some x
  | x, b :: l => match hexB b with | none => none | some y => hexV (16 * x + y) l
def hex4 (l : Bs) : Option Nat := if l.length < 6 then none else if Lib.hasPrefix l [92, 117] then hexV 0 ((l.drop 2).take 4) else none
def numbM (l : Bs) : Option (Nat × Nat) :=
  match hex4 l with
  | none => none
  | some x => if x < 55296 ∨ 57344 ≤ x then some (x, 6) else match hex4 (l.drop 6) with
    | none => none
    | some y => if 56320 ≤ x ∨ y < 56320 ∨ 57344 ≤ y then none else some (65536 + 1024 * (x - 55296) + y - 56320, 12)
/-- The sign that a text begins with from a backslash on; how many bytes tell it. -/
def escM (l : Bs) : Option (Nat × Nat) :=
  if l.length < 2 then none
  else if l.getD 1 0 = 34 ∨ l.getD 1 0 = 92 ∨ l.getD 1 0 = 47 then some ((l.getD 1 0).toNat, 2)
  else if l.getD 1 0 = 98 then some (8, 2) else if l.getD 1 0 = 102 then some (12, 2) else if l.getD 1 0 = 110 then some (10, 2)
  else if l.getD 1 0 = 114 then some (13, 2) else if l.getD 1 0 = 116 then some (9, 2) else numbM l
def brokenM (l : Bs) (c : Nat) : Bool := c == 65533 && !Lib.hasPrefix l [239, 191, 189]
/-- The rest of a string, behind its quote. -/
def qM : Nat → Bs → Option (Bs × Bs)
  | 0, _ => none
  | n + 1, l =>
    if l = [] then none
    else if (Lib.decodeL l).1 = 34 then some ([], l.drop 1)
    else if (Lib.decodeL l).1 = 92 then match escM l with
      | none => none
      | some (x, m) => (qM n (l.drop m)).map fun r => (Lib.encodeRune x ++ r.1, r.2)
    else if (Lib.decodeL l).1 < 32 ∨ brokenM l (Lib.decodeL l).1 = true then none
    else (qM n (l.drop (Lib.decodeL l).2)).map fun r => (Lib.encodeRune (Lib.decodeL l).1 ++ r.1, r.2)
def quotM (s : Bs) : Option (Bs × Bs) := if isH 34 s then qM s.tail.length s.tail else none

def wordM (w : Bs) (j : J) (s : Bs) : Rd J := if Lib.hasPrefix s w then .ok (j, s.drop w.length) else .error 11
def numJ (s : Bs) : Rd J := if (parseM (s.takeWhile numB)).2 = 0 then .ok (.num (parseM (s.takeWhile numB)).1, s.dropWhile numB) else .error (parseM (s.takeWhile numB)).2
def strJ (s : Bs) : Rd J := match quotM s with | none => .error 11 | some (t, r) => .ok (.str t, r)
/-- Things with commas between them. -/
def rowM {α : Type} (T : α → Bs → Rd α) (e : UInt8) : Nat → α → Bs → Rd α
  | 0, _, _ => .error 0
  | n + 1, x, s => match T x s with
    | .error c => .error c
    | .ok (y, r) => if isH e (blk r) then .ok (y, (blk r).tail) else if isH 44 (blk r) then rowM T e n y (blk r).tail else .error 11
def rowsM {α : Type} (T : α → Bs → Rd α) (e : UInt8) (x : α) (s : Bs) : Rd α :=
  if isH e (blk s) then .ok (x, (blk s).tail) else rowM T e (s.length + 1) x (blk s)
def itemM (P : Bs → Rd J) (x : List J) (s : Bs) : Rd (List J) := match P s with | .error c => .error c | .ok (j, r) => .ok (x ++ [j], r)
def ltB (a b : Bs) : Bool := Op.bytesLess a b
def posM (ns : List Bs) (m : Bs) : Nat := (ns.takeWhile (fun a => ltB a m)).length
def hasM (ns : List Bs) (m : Bs) : Bool := ns[posM ns m]? == some m
def membM (P : Bs → Rd J) (x : List Bs × List J) (s : Bs) : Rd (List Bs × List J) :=
  match quotM (blk s) with
  | none => .error 11
  | some (m, r) =>
    if hasM x.1 m then .error 31
    else if isH 58 (blk r) then match P (blk r).tail with
      | .error c => .error c
      | .ok (j, r2) => .ok ((x.1.insertIdx (posM x.1 m) m, x.2.insertIdx (posM x.1 m) j), r2)
    else .error 11
def arrM (P : Option (Bs → Rd J)) (s : Bs) : Rd J :=
  match P with
  | none => .error 35
  | some P => match rowsM (itemM P) 93 [] s.tail with | .error c => .error c | .ok (l, r) => .ok (.arr l, r)
def objM (P : Option (Bs → Rd J)) (s : Bs) : Rd J :=
  match P with
  | none => .error 35
  | some P => match rowsM (membM P) 125 ([], []) s.tail with | .error c => .error c | .ok (x, r) => .ok (.obj x.1 x.2, r)
/-- A value that stands at the front: P, where one more bracket may be open. -/
def vM (P : Option (Bs → Rd J)) (s : Bs) : Rd J :=
  if isH 110 s then wordM [110, 117, 108, 108] .null s
  else if isH 116 s then wordM [116, 114, 117, 101] (.bool true) s
  else if isH 102 s then wordM [102, 97, 108, 115, 101] (.bool false) s
  else if isH 34 s then strJ s
  else if isH 91 s then arrM P s
  else if isH 123 s then objM P s
  else if isH 45 s || dig (s.headD 0) then numJ s
  else .error 11
def pV : Nat → Bs → Rd J
  | 0, s => vM none (blk s)
  | n + 1, s => vM (some (pV n)) (blk s)
def parseJ (s : Bs) : J × Int :=
  if 4096 < s.length then (.null, 13)
  else match pV 16 s with
    | .error c => (.null, c)
    | .ok (j, r) => if blk r = [] then (j, 0) else (.null, 11)

def hexd (n : Nat) : UInt8 := if n < 10 then (48 + n).toUInt8 else (87 + n).toUInt8
def quo1 (b : UInt8) : Bs := if b = 34 ∨ b = 92 then [92, b] else if b.toNat < 32 then [92, 117, 48, 48, hexd (b.toNat / 16), hexd (b.toNat % 16)] else [b]
def quoB (s : Bs) : Bs := 34 :: (s.flatMap quo1 ++ [34])
mutual
def textJ : J → Bs
  | .null => [110, 117, 108, 108]
  | .bool true => [116, 114, 117, 101]
  | .bool false => [102, 97, 108, 115, 101]
  | .num n => textM n
  | .str s => quoB s
  | .arr l => 91 :: (textL l ++ [93])
  | .obj ns l => 123 :: (textO ns l ++ [125])
/-- Items with commas between them. -/
def textL : List J → Bs
  | [] => []
  | [j] => textJ j
  | j :: k :: l => textJ j ++ 44 :: textL (k :: l)
def textO : List Bs → List J → Bs
  | m :: ns, [j] => quoB m ++ 58 :: textJ j
  | m :: ns, j :: k :: l => quoB m ++ 58 :: (textJ j ++ 44 :: textO ns (k :: l))
  | _, _ => []
end
def J.kind : J → Nat
  | .null => 0 | .bool _ => 1 | .num _ => 2 | .str _ => 3 | .arr _ => 4 | .obj _ _ => 5
def cmpBool (a b : Bool) : Int := if a = b then 0 else if b then -1 else 1
mutual
def cmpJ : J → J → Int
  | .bool a, .bool b => cmpBool a b
  | .num a, .num b => cmpM a b
  | .str a, .str b => cmpB a b
  | .arr l, .arr m => cmpL l m
  | .obj ns l, .obj ms m => cmpO ns l ms m
  | a, b => cmpI a.kind b.kind
def cmpL : List J → List J → Int
  | [], [] => 0
  | [], _ :: _ => -1
  | _ :: _, [] => 1
  | a :: l, b :: m => if cmpJ a b = 0 then cmpL l m else cmpJ a b
def cmpO : List Bs → List J → List Bs → List J → Int
  | n :: ns, a :: l, m :: ms, b :: k => if cmpB n m = 0 then (if cmpJ a b = 0 then cmpO ns l ms k else cmpJ a b) else cmpB n m
  | ns, l, ms, k => cmpI (min ns.length l.length) (min ms.length k.length)
end
def findJ (j : J) (m : Bs) : Nat × Bool := match j with | .obj ns _ => (posM ns m, hasM ns m) | _ => (0, false)

end Go.Proofs.YticnfmfmgdfdeaaGreatDoor
