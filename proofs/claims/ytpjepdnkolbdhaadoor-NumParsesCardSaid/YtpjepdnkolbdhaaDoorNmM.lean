/-
  Numbers' texts as plain lists: their parts, the number they tell, how two stand. Own work.
-/
import Derived.Test.YtpjepdnkolbdhaaDoorWord
import Derived.Lib.SlTrimSet
import Derived.Lib.ItoaNum
set_option linter.unusedVariables false
set_option linter.unusedSimpArgs false
namespace Go.Proofs.YtpjepdnkolbdhaaDoor
open Go.RowKit

abbrev Bs := List UInt8
/-- A text of bytes. -/
def Sx (l : Bs) : ByteArray := ⟨l.toArray⟩
theorem Sx_data (l : Bs) : (Sx l).data.toList = l := rfl
theorem Sx_toList (l : Bs) : (Sx l).toList = l := Lib.toList_data _
theorem Sx_size (l : Bs) : (Sx l).size = l.length := rfl
theorem Sx_of (s : ByteArray) : s = Sx s.data.toList := rfl
theorem Sx_app (a b : Bs) : Sx a ++ Sx b = Sx (a ++ b) := by apply ByteArray.ext; simp [Sx]
theorem Sx_inj {a b : Bs} (h : Sx a = Sx b) : a = b := by rw [← Sx_data a, ← Sx_data b, h]
theorem Sx_get (l : Bs) (k : Nat) (h : k < l.length) : (Sx l)[k]'(h) = l[k] := by show (Sx l).data[k] = _; simp [Sx]

def dig (b : UInt8) : Bool := decide (48 ≤ b.toNat) && decide (b.toNat ≤ 57)
def digs10 : Bs := [48, 49, 50, 51, 52, 53, 54, 55, 56, 57]
set_option maxRecDepth 10000 in
theorem digs10_dig (b : UInt8) : digs10.contains b = dig b := by
  have key : ∀ n : Nat, n < 256 → (([48, 49, 50, 51, 52, 53, 54, 55, 56, 57] : List Nat).contains n) = (decide (48 ≤ n) && decide (n ≤ 57)) := by decide
  have h := key b.toNat b.toNat_lt
  unfold dig
  rw [← h]
  simp [digs10, List.contains_cons, ← UInt8.toNat_inj, Bool.beq_eq_decide_eq]

/-- Does it begin so? -/
def isH (c : UInt8) : Bs → Bool
  | b :: _ => b == c
  | [] => false
theorem isH_app (c : UInt8) {a : Bs} (h : a ≠ []) (b : Bs) : isH c (a ++ b) = isH c a := by
  cases a with
  | nil => exact absurd rfl h
  | cons _ _ => rfl
theorem isH_eq {c : UInt8} : ∀ {l : Bs}, isH c l = true → l = c :: l.tail
  | b :: t, h => by have : b = c := by simpa [isH] using h
                    rw [this]; rfl
  | [], h => by simp [isH] at h
theorem isH_prefix (c : UInt8) (l : Bs) : Lib.hasPrefix l [c] = isH c l := by
  cases l with
  | nil => rfl
  | cons b t => simp [Lib.hasPrefix, isH, List.isPrefixOf, Bool.beq_comm (a := c)]
theorem trimP (c : UInt8) (l : Bs) : Lib.trimPrefix l [c] = if isH c l then l.tail else l := by
  rw [Lib.trimPrefix, isH_prefix]; simp

def dn (s : Bs) : Bool := isH 45 s
def s1 (s : Bs) : Bs := if dn s then s.tail else s
def ah (s : Bs) : Bs := (s1 s).takeWhile dig
def s2 (s : Bs) : Bs := (s1 s).dropWhile dig
def pt (s : Bs) : Bool := isH 46 (s2 s)
def bh (s : Bs) : Bs := if pt s then (s2 s).tail.takeWhile dig else []
def s3 (s : Bs) : Bs := if pt s then (s2 s).tail.dropWhile dig else s2 s
def ex (s : Bs) : Bool := isH 101 (s3 s) || isH 69 (s3 s)
def s4 (s : Bs) : Bs := (s3 s).tail
def un (s : Bs) : Bool := ex s && isH 45 (s4 s)
def s5 (s : Bs) : Bs := if isH 45 (s4 s) || isH 43 (s4 s) then (s4 s).tail else s4 s
def pw (s : Bs) : Bs := if ex s then (s5 s).takeWhile dig else []
def s6 (s : Bs) : Bs := if ex s then (s5 s).dropWhile dig else s3 s
def okA (s : Bs) : Bool := (ah s == [48]) || (!(ah s).isEmpty && !isH 48 (ah s))
def okB (s : Bs) : Bool := !pt s || !(bh s).isEmpty
def okC (s : Bs) : Bool := !ex s || !(pw s).isEmpty
def okN (s : Bs) : Bool := okA s && okB s && okC s && (s6 s).isEmpty

structure Nm where
  down : Bool
  digs : Bs
  exp : Int
  deriving DecidableEq
def Nm.zero : Nm := ⟨false, [], 0⟩

def isZ (b : UInt8) : Bool := b == 48
def trim0 (l : Bs) : Bs := l.dropWhile isZ
def rtrim0 (l : Bs) : Bs := (l.reverse.dropWhile isZ).reverse
def powV (c : Nat) (l : Bs) : Nat := l.foldl (fun x b => min (10 * x + (b.toNat - 48)) c) 0
def num5 (d : Bool) (A B : Bs) (u : Bool) (p : Bs) : Nm :=
  if trim0 (A ++ B) = [] then Nm.zero
  else ⟨d, rtrim0 (trim0 (A ++ B)), (if u then -(powV 1099511627776 p : Int) else (powV 1099511627776 p : Int)) - B.length + (trim0 (A ++ B)).length - (rtrim0 (trim0 (A ++ B))).length⟩
def numM (s : Bs) : Nm := num5 (dn s) (ah s) (bh s) (un s) (pw s)

def rightM (n : Nm) : Bool :=
  if n.digs = [] then decide (n = Nm.zero)
  else decide (n.digs.length ≤ 40) && n.digs.all dig && decide (rtrim0 n.digs = n.digs ∧ trim0 n.digs = n.digs) && decide (-999 ≤ n.exp) && decide (n.exp ≤ 999)
def parseM (s : Bs) : Nm × Int := if okN s then (if rightM (numM s) then (numM s, 0) else (Nm.zero, 13)) else (Nm.zero, 11)
def textM (n : Nm) : Bs :=
  if n.digs = [] then [48] else (if n.down then [45] else []) ++ n.digs ++ (if n.exp = 0 then [] else 101 :: Lib.itoa n.exp)

/-! The parts of a text, put together, and taken apart. -/
def sgB (d : Bool) : Bs := if d then [45] else []
def pnB : Option Bs → Bs
  | none => []
  | some b => 46 :: b
def noD : Bs → Prop
  | b :: _ => dig b = false
  | [] => True
theorem tw_app {A R : Bs} (hA : A.all dig = true) (hR : noD R) : (A ++ R).takeWhile dig = A ∧ (A ++ R).dropWhile dig = R := by
  induction A with
  | nil => cases R with
    | nil => simp
    | cons b t => have : dig b = false := hR
                  simp [this]
  | cons a A ih =>
    simp only [List.all_cons, Bool.and_eq_true] at hA
    have := ih hA.2
    simp [hA.1, this.1, this.2]
theorem tw_all (l : Bs) : (l.takeWhile dig).all dig = true := by
  induction l with
  | nil => rfl
  | cons a l ih => by_cases h : dig a = true <;> simp_all
theorem dw_no (l : Bs) : noD (l.dropWhile dig) := by
  induction l with
  | nil => trivial
  | cons a l ih => by_cases h : dig a = true <;> simp_all [noD]
theorem not_dig {c : UInt8} {l : Bs} (hl : l.all dig = true) (h : dig c = false) : isH c l = false := by
  cases l with
  | nil => rfl
  | cons b t =>
    simp only [List.all_cons, Bool.and_eq_true] at hl
    simp only [isH, beq_eq_false_iff_ne]
    intro e; rw [e] at hl; simp [h] at hl

theorem parts1 (d : Bool) (A : Bs) (P : Option Bs) (R : Bs) (hA : A.all dig = true) (hne : A ≠ []) (hP : ∀ b, P = some b → b.all dig = true) (hR : noD R) (hRp : P = none → isH 46 R = false) :
    dn (sgB d ++ A ++ pnB P ++ R) = d ∧ ah (sgB d ++ A ++ pnB P ++ R) = A ∧ pt (sgB d ++ A ++ pnB P ++ R) = P.isSome ∧ bh (sgB d ++ A ++ pnB P ++ R) = P.getD [] ∧ s3 (sgB d ++ A ++ pnB P ++ R) = R := by
  generalize hs : sgB d ++ A ++ pnB P ++ R = s
  have h1 : dn s = d := by
    rw [← hs, dn]
    cases d with
    | true => rfl
    | false =>
      rw [show sgB false ++ A ++ pnB P ++ R = A ++ (pnB P ++ R) by simp [sgB], isH_app 45 hne]
      exact not_dig hA (by decide)
  have h2 : s1 s = A ++ (pnB P ++ R) := by
    rw [s1, h1, ← hs]
    cases d <;> simp [sgB]
  have hnP : noD (pnB P ++ R) := by
    cases P with
    | none => exact hR
    | some b => exact (by decide : dig 46 = false)
  obtain ⟨h3, h4⟩ := tw_app hA hnP
  have h5 : ah s = A := by rw [ah, h2, h3]
  have h6 : s2 s = pnB P ++ R := by rw [s2, h2, h4]
  have h7 : pt s = P.isSome := by
    rw [pt, h6]
    cases P with
    | none => exact hRp rfl
    | some b => rfl
  refine ⟨h1, h5, h7, ?_, ?_⟩
  · rw [bh, h7, h6]
    cases P with
    | none => rfl
    | some b => exact (tw_app (hP b rfl) hR).1
  · rw [s3, h7, h6]
    cases P with
    | none => rfl
    | some b => exact (tw_app (hP b rfl) hR).2

theorem parts2 {s : Bs} (e : UInt8) (sg p R : Bs) (h : s3 s = e :: (sg ++ p ++ R)) (he : e = 101 ∨ e = 69) (hs : sg = [] ∨ sg = [45] ∨ sg = [43]) (hp : p.all dig = true) (hpn : p ≠ []) (hR : noD R) :
    ex s = true ∧ un s = decide (sg = [45]) ∧ pw s = p ∧ s6 s = R := by
  have h1 : ex s = true := by rw [ex, h]; rcases he with rfl | rfl <;> rfl
  have h4 : s4 s = sg ++ p ++ R := by rw [s4, h]; rfl
  have hd : ∀ c, dig c = false → isH c (p ++ R) = false := fun c hc => by rw [isH_app c hpn]; exact not_dig hp hc
  have h45 := hd 45 (by decide)
  have h43 := hd 43 (by decide)
  have h5 : s5 s = p ++ R ∧ un s = decide (sg = [45]) := by
    rw [s5, un, h1, h4]
    rcases hs with rfl | rfl | rfl
    · simp [h45, h43]
    · simp [isH]
    · simp [isH]
  refine ⟨h1, h5.2, ?_, ?_⟩
  · rw [pw, h1, h5.1]; exact (tw_app hp hR).1
  · rw [s6, h1, h5.1]; exact (tw_app hp hR).2
theorem parts0 {s : Bs} (h : isH 101 (s3 s) = false) (h' : isH 69 (s3 s) = false) : ex s = false ∧ un s = false ∧ pw s = [] ∧ s6 s = s3 s := by
  have : ex s = false := by rw [ex, h, h']; rfl
  exact ⟨this, by rw [un, this]; rfl, by rw [pw, this]; rfl, by rw [s6, this]; rfl⟩

/-- A text, taken apart. -/
def pn (s : Bs) : Option Bs := if pt s then some (bh s) else none
theorem apart (s : Bs) : s = sgB (dn s) ++ ah s ++ pnB (pn s) ++ s3 s := by
  have h1 : s = sgB (dn s) ++ s1 s := by
    rw [s1]
    by_cases h : dn s = true
    · rw [h]; exact isH_eq h
    · simp only [Bool.not_eq_true] at h; rw [h]; rfl
  have h2 : s1 s = ah s ++ s2 s := (List.takeWhile_append_dropWhile ..).symm
  have h3 : s2 s = pnB (pn s) ++ s3 s := by
    rw [pn, s3, bh]
    by_cases h : pt s = true
    · rw [h]
      have e := isH_eq h
      simp only [if_true, pnB]
      rw [List.cons_append, List.takeWhile_append_dropWhile]; exact e
    · simp only [Bool.not_eq_true] at h; rw [h]; rfl
  rw [List.append_assoc, List.append_assoc, ← h3, ← h2, ← h1]
theorem ah_all (s : Bs) : (ah s).all dig = true := tw_all _
theorem bh_all (s : Bs) : (bh s).all dig = true := by
  rw [bh]; split
  · exact tw_all _
  · rfl
theorem pw_all (s : Bs) : (pw s).all dig = true := by
  rw [pw]; split
  · exact tw_all _
  · rfl
theorem s3_no (s : Bs) : noD (s3 s) := by
  rw [s3]; split
  · exact dw_no _
  · exact dw_no _
theorem s3_pt (s : Bs) (h : pt s = false) : isH 46 (s3 s) = false := by rw [s3, h]; exact h
theorem s3_ex (s : Bs) (h : ex s = true) : ∃ e sg, (e = 101 ∨ e = 69) ∧ (sg = [] ∨ sg = [45] ∨ sg = [43]) ∧ un s = decide (sg = [45]) ∧ s3 s = e :: (sg ++ pw s ++ s6 s) := by
  have e5 : s5 s = pw s ++ s6 s := by rw [pw, s6, h]; exact (List.takeWhile_append_dropWhile ..).symm
  have he : ∃ e, (e = 101 ∨ e = 69) ∧ s3 s = e :: s4 s := by
    have h' := h
    rw [ex, Bool.or_eq_true] at h'
    rcases h' with h' | h'
    · exact ⟨101, .inl rfl, isH_eq h'⟩
    · exact ⟨69, .inr rfl, isH_eq h'⟩
  obtain ⟨e, he, h3⟩ := he
  by_cases h45 : isH 45 (s4 s) = true
  · refine ⟨e, [45], he, .inr (.inl rfl), by rw [un, h, h45]; rfl, ?_⟩
    rw [h3, List.append_assoc, ← e5, s5, h45]
    have := isH_eq h45
    simp only [Bool.true_or, if_true, List.cons_append, List.nil_append]
    rw [← this]
  · simp only [Bool.not_eq_true] at h45
    by_cases h43 : isH 43 (s4 s) = true
    · refine ⟨e, [43], he, .inr (.inr rfl), by rw [un, h, h45]; rfl, ?_⟩
      rw [h3, List.append_assoc, ← e5, s5, h45, h43]
      have := isH_eq h43
      simp only [Bool.or_true, if_true, List.cons_append, List.nil_append]
      rw [← this]
    · simp only [Bool.not_eq_true] at h43
      refine ⟨e, [], he, .inl rfl, by rw [un, h, h45]; rfl, ?_⟩
      rw [h3, List.append_assoc, ← e5, s5, h45, h43]; rfl
theorem s3_nex (s : Bs) (h : ex s = false) : s3 s = s6 s := by rw [s6, h]; rfl

end Go.Proofs.YtpjepdnkolbdhaaDoor
