/-
  Numbers' texts as plain lists: their parts, the number they tell, how two stand. Own work.
-/
import Derived.Test.YticnfmfmgdfdeaaGreatDoorJsnAA
import Derived.Lib.SlTrimSet
import Derived.Lib.ItoaNum

set_option linter.unusedVariables false
set_option linter.unusedSimpArgs false
namespace Go.Proofs.YticnfmfmgdfdeaaGreatDoor
open Go.RowKit

abbrev Bs := List UInt8
/-- A text of bytes. -/
def Sx (l : Bs) : ByteArray := ⟨l.toArray⟩
theorem Sx_data (l : Bs) : (Sx l).data.toList = l := rfl
theorem Sx_toList (l : Bs) : (Sx l).toList = l := Lib.toList_data _
theorem Sx_size (l : Bs) : (Sx l).size = l.length := rfl
theorem Sx_of (s : ByteArray) : s = Sx s.data.toList := rfl
theorem Sx_app (a b : Bs) : Sx a ++ Sx b = Sx (a ++ b) := by apply ByteArray.ext; simp [Sx]
theorem Sx_inj {a b : Bs} (h : Sx a = Sx b) : a = b := by rw [← Sx_data a, ← Sx_data b, h]
theorem Sx_get (l : Bs) (k : Nat) (h : k < l.length) : (Sx l)[k]'(h) = l[k] := by show (Sx l).data[k] = _; simp [Sx]

def dig (b : UInt8) : Bool := decide (48 ≤ b.toNat) && decide (b.toNat ≤ 57)
def digs10 : Bs := [48, 49, 50, 51, 52, 53, 54, 55, 56, 57]
set_option maxRecDepth 10000 in
theorem digs10_dig (b : UInt8) : digs10.contains b = dig b := by
  have key : ∀ n : Nat, n < 256 → (([48, 49, 50, 51, 52, 53, 54, 55, 56, 57] : List Nat).contains n) = (decide (48 ≤ n) && decide (n ≤ 57)) := by decide
  have h := key b.toNat b.toNat_lt
  unfold dig
  rw [← h]
  simp [digs10, List.contains_cons, ← UInt8.toNat_inj, Bool.beq_eq_decide_eq]

/-- Does it begin so? -/
def isH (c : UInt8) : Bs → Bool
  | b :: _ => b == c
  | [] => false
theorem isH_app (c : UInt8) {a : Bs} (h : a ≠ []) (b : Bs) : isH c (a ++ b) = isH c a := by
  cases a with
  | nil => exact absurd rfl h
  | cons _ _ => rfl
theorem isH_eq {c : UInt8} : ∀ {l : Bs}, isH c l = true → l = c :: l.tail
  | b :: t, h => by have : b = c := by simpa [isH] using h
                    rw [this]; rfl
  | [], h => by simp [isH] at h
theorem isH_prefix (c : UInt8) (l : Bs) : Lib.hasPrefix l [c] = isH c l := by
  cases l with
  | nil => rfl
  | cons b t => simp [Lib.hasPrefix, isH, List.isPrefixOf, Bool.beq_comm (a := c)]
theorem trimP (c : UInt8) (l : Bs) : Lib.trimPrefix l [c] = if isH c l then l.tail else l := by
  rw [Lib.trimPrefix, isH_prefix]; simp

def dn (s : Bs) : Bool := isH 45 s
def s1 (s : Bs) : Bs := if dn s then s.tail else s
def ah (s : Bs) : Bs := (s1 s).takeWhile dig
def s2 (s : Bs) : Bs := (s1 s).dropWhile dig
def pt (s : Bs) : Bool := isH 46 (s2 s)
def bh (s : Bs) : Bs := if pt s then (s2 s).tail.takeWhile dig else []
def s3 (s : Bs) : Bs := if pt s then (s2 s).tail.dropWhile dig else s2 s
def ex (s : Bs) : Bool := isH 101 (s3 s) || isH 69 (s3 s)
def s4 (s : Bs) : Bs := (s3 s).tail
def un (s : Bs) : Bool := ex s && isH 45 (s4 s)
def s5 (s : Bs) : Bs := if isH 45 (s4 s) || isH 43 (s4 s) then (s4 s).tail else s4 s
def pw (s : Bs) : Bs := if ex s then (s5 s).takeWhile dig else []
def s6 (s : Bs) : Bs := if ex s then (s5 s).dropWhile dig else s3 s
def okA (s : Bs) : Bool := (ah s == [48]) || (!(ah s).isEmpty && !isH 48 (ah s))
def okB (s : Bs) : Bool := !pt s || !(bh s).isEmpty
def okC (s : Bs) : Bool := !ex s || !(pw s).isEmpty
def okN (s : Bs) : Bool := okA s && okB s && okC s && (s6 s).isEmpty

structure Nm where
  down : Bool
  digs : Bs
  exp : Int
  deriving DecidableEq
def Nm.zero : Nm := ⟨false, [], 0⟩

def isZ (b : UInt8) : Bool := b == 48
def trim0 (l : Bs) : Bs := l.dropWhile isZ
def rtrim0 (l : Bs) : Bs := (l.reverse.dropWhile isZ).reverse
def powV (c : Nat) (l : Bs) : Nat := l.foldl (fun x b => min (10 * x + (b.toNat - 48)) c) 0
def num5 (d : Bool) (A B : Bs) (u : Bool) (p : Bs) : Nm :=
  if trim0 (A ++ B) = [] then Nm.zero
  else ⟨d, rtrim0 (trim0 (A ++ B)), (if u then -(powV 1099511627776 p : Int) else (powV 1099511627776 p : Int)) - B.length + (trim0 (A ++ B)).length - (rtrim0 (trim0 (A ++ B))).length⟩
def numM (s : Bs) : Nm := num5 (dn s) (ah s) (bh s) (un s) (pw s)

def rightM (n : Nm) : Bool :=
  if n.digs = [] then decide (n = Nm.zero)
  else decide (n.digs.length ≤ 40) && n.digs.all dig && decide (rtrim0 n.digs = n.digs ∧ trim0 n.digs = n.digs) && decide (-999 ≤ n.exp) && decide (n.exp ≤ 999)
def parseM (s : Bs) : Nm × Int := if okN s then (if rightM (numM s) then (numM s, 0) else (Nm.zero, 13)) else (Nm.zero, 11)
def textM (n : Nm) : Bs :=
  if n.digs = [] then [48] else (if n.down then [45] else []) ++ n.digs ++ (if n.exp = 0 then [] else 101 :: Lib.itoa n.exp)

/-! The parts of a text, put together, and taken apart. -/
def sgB (d : Bool) : Bs := if d then [45] else []
def pnB : Option Bs → Bs
  | none => []
  | some b => 46 :: b
def noD : Bs → Prop
  | b :: _ => dig b = false
  | [] => True
theorem tw_app {A R : Bs} (hA : A.all dig = true) (hR : noD R) : (A ++ R).takeWhile dig = A ∧ (A ++ R).dropWhile dig = R := by
  induction A with
  | nil => cases R with
    | nil => simp
    | cons b t => have : dig b = false := hR
                  simp [this]
  | cons a A ih =>
    simp only [List.all_cons, Bool.and_eq_true] at hA
    have := ih hA.2
    simp [hA.1, this.1, this.2]
theorem tw_all (l : Bs) : (l.takeWhile dig).all dig = true := by
  induction l with
  | nil => rfl
  | cons a l ih => by_cases h : dig a = true <;> simp_all
theorem dw_no (l : Bs) : noD (l.dropWhile dig) := by
  induction l with
  | nil => trivial
  | cons a l ih => by_cases h : dig a = true <;> simp_all [noD]
theorem not_dig {c : UInt8} {l : Bs} (hl : l.all dig = true) (h : dig c = false) : isH c l = false := by
  cases l with
  | nil => rfl
  | cons b t =>
    simp only [List.all_cons, Bool.and_eq_true] at hl
    simp only [isH, beq_eq_false_iff_ne]
    intro e; rw [e] at hl; simp [h] at hl

theorem parts1 (d : Bool) (A : Bs) (P : Option Bs) (R : Bs) (hA : A.all dig = true) (hne : A ≠ []) (hP : ∀ b, P = some b → b.all dig = true) (hR : noD R) (hRp : P = none → isH 46 R = false) :
    dn (sgB d ++ A ++ pnB P ++ R) = d ∧ ah (sgB d ++ A ++ pnB P ++ R) = A ∧ pt (sgB d ++ A ++ pnB P ++ R) = P.isSome ∧ bh (sgB d ++ A ++ pnB P ++ R) = P.getD [] ∧ s3 (sgB d ++ A ++ pnB P ++ R) = R := by
  generalize hs : sgB d ++ A ++ pnB P ++ R = s
  have h1 : dn s = d := by
    rw [← hs, dn]
    cases d with
    | true => rfl
    | false =>
      rw [show sgB false ++ A ++ pnB P ++ R = A ++ (pnB P ++ R) by simp [sgB], isH_app 45 hne]
      exact not_dig hA (by decide)
  have h2 : s1 s = A ++ (pnB P ++ R) := by
    rw [s1, h1, ← hs]
    cases d <;> simp [sgB]
  have hnP : noD (pnB P ++ R) := by
    cases P with
    | none => exact hR
    | some b => exact (by decide : dig 46 = false)
  obtain ⟨h3, h4⟩ := tw_app hA hnP
  have h5 : ah s = A := by rw [ah, h2, h3]
  have h6 : s2 s = pnB P ++ R := by rw [s2, h2, h4]
  have h7 : pt s = P.isSome := by
    rw [pt, h6]
    cases P with
    | none => exact hRp rfl
    | some b => rfl
  refine ⟨h1, h5, h7, ?_, ?_⟩
  · rw [bh, h7, h6]
    cases P with
    | none => rfl
    | some b => exact (tw_app (hP b rfl) hR).1
  · rw [s3, h7, h6]
    cases P with
    | none => rfl
    | some b => exact (tw_app (hP b rfl) hR).2

theorem parts2 {s : Bs} (e : UInt8) (sg p R : Bs) (h : s3 s = e :: (sg ++ p ++ R)) (he : e = 101 ∨ e = 69) (hs : sg = [] ∨ sg = [45] ∨ sg = [43]) (hp : p.all dig = true) (hpn : p ≠ []) (hR : noD R) :
    ex s = true ∧ un s = decide (sg = [45]) ∧ pw s = p ∧ s6 s = R := by
  have h1 : ex s = true := by rw [ex, h]; rcases he with rfl | rfl <;> rfl
  have h4 : s4 s = sg ++ p ++ R := by rw [s4, h]; rfl
  have hd : ∀ c, dig c = false → isH c (p ++ R) = false := fun c hc => by rw [isH_app c hpn]; exact not_dig hp hc
  have h45 := hd 45 (by decide)
  have h43 := hd 43 (by decide)
  have h5 : s5 s = p ++ R ∧ un s = decide (sg = [45]) := by
    rw [s5, un, h1, h4]
    rcases hs with rfl | rfl | rfl
    · simp [h45, h43]
    · simp [isH]
    · simp [isH]
  refine ⟨h1, h5.2, ?_, ?_⟩
  · rw [pw, h1, h5.1]; exact (tw_app hp hR).1
  · rw [s6, h1, h5.1]; exact (tw_app hp hR).2
theorem parts0 {s : Bs} (h : isH 101 (s3 s) = false) (h' : isH 69 (s3 s) = false) : ex s = false ∧ un s = false ∧ pw s = [] ∧ s6 s = s3 s := by
  have : ex s = false := by rw [ex, h, h']; rfl
  exact ⟨this, by rw [un, this]; rfl, by rw [pw, this]; rfl, by rw [s6, this]; rfl⟩

/-- A text, taken apart. -/
def pn (s : Bs) : Option Bs := if pt s then some (bh s) else none
theorem apart (s : Bs) : s = sgB (dn s) ++ ah s ++ pnB (pn s) ++ s3 s := by
  have h1 : s = sgB (dn s) ++ s1 s := by
    rw [s1]
    by_cases h : dn s = true
    · rw [h]; exact isH_eq h
    · simp only [Bool.not_eq_true] at h; rw [h]; rfl
  have h2 : s1 s = ah s ++ s2 s := (List.takeWhile_append_dropWhile ..).symm
  have h3 : s2 s = pnB (pn s) ++ s3 s := by
    rw [pn, s3, bh]
    by_cases h : pt s = true
    · rw [h]
      have e := isH_eq h
      simp only [if_true, pnB]
      rw [List.cons_append, List.takeWhile_append_dropWhile]; exact e
    · simp only [Bool.not_eq_true] at h; rw [h]; rfl
  rw [List.append_assoc, List.append_assoc, ← h3, ← h2, ← h1]
theorem ah_all (s : Bs) : (ah s).all dig = true := tw_all _
theorem bh_all (s : Bs) : (bh s).all dig = true := by
  rw [bh]; split
  · exact tw_all _
  · rfl
theorem pw_all (s : Bs) : (pw s).all dig = true := by
  rw [pw]; split
  · exact tw_all _
  · rfl
theorem s3_no (s : Bs) : noD (s3 s) := by
  rw [s3]; split
  · exact dw_no _
  · exact dw_no _
theorem s3_pt (s : Bs) (h : pt s = false) : isH 46 (s3 s) = false := by rw [s3, h]; exact h
theorem s3_ex (s : Bs) (h : ex s = true) : ∃ e sg, (e = 101 ∨ e = 69) ∧ (sg = [] ∨ sg = [45] ∨ sg = [43]) ∧ un s = decide (sg = [45]) ∧ s3 s = e :: (sg ++ pw s ++ s6 s) := by
  have e5 : s5 s = pw s ++ s6 s := by rw [pw, s6, h]; exact (List.takeWhile_append_dropWhile ..).symm
  have he : ∃ e, (e = 101 ∨ e = 69) ∧ s3 s = e :: s4 s := by
    have h' := h
    rw [ex, Bool.or_eq_true] at h'
    rcases h' with h' | h'
    · exact ⟨101, .inl rfl, isH_eq h'⟩
    · exact ⟨69, .inr rfl, isH_eq h'⟩
  obtain ⟨e, he, h3⟩ := he
  by_cases h45 : isH 45 (s4 s) = true
  · refine ⟨e, [45], he, .inr (.inl rfl), by rw [un, h, h45]; rfl, ?_⟩
    rw [h3, List.append_assoc, ← e5, s5, h45]
    have := isH_eq h45
    simp only [Bool.true_or, if_true, List.cons_append, List.nil_append]
    rw [← this]
  · simp only [Bool.not_eq_true] at h45
    by_cases h43 : isH 43 (s4 s) = true
    · refine ⟨e, [43], he, .inr (.inr rfl), by rw [un, h, h45]; rfl, ?_⟩
      rw [h3, List.append_assoc, ← e5, s5, h45, h43]
      have := isH_eq h43
      simp only [Bool.or_true, if_true, List.cons_append, List.nil_append]
      rw [← this]
    · simp only [Bool.not_eq_true] at h43
      refine ⟨e, [], he, .inl rfl, by rw [un, h, h45]; rfl, ?_⟩
      rw [h3, List.append_assoc, ← e5, s5, h45, h43]; rfl
theorem s3_nex (s : Bs) (h : ex s = false) : s3 s = s6 s := by rw [s6, h]; rfl

end Go.Proofs.YticnfmfmgdfdeaaGreatDoor

namespace Go.Proofs.YticnfmfmgdfdeaaGreatDoor
open Go.RowKit

theorem dec_all (u : Nat) : (Lib.decDigits u).all dig = true := by
  induction u using Nat.strongRecOn with
  | _ u ih =>
    have one : ∀ k, k < 10 → dig (UInt8.ofNat (48 + k)) = true := by
      intro k hk
      have : (UInt8.ofNat (48 + k)).toNat = 48 + k := by rw [UInt8.toNat_ofNat']; omega
      simp only [dig, this, Bool.and_eq_true, decide_eq_true_eq]; omega
    rw [Lib.decDigits]
    split
    · rw [List.all_cons, one u (by assumption)]; rfl
    · rename_i h
      simp only [List.all_append, ih (u / 10) (by omega), Bool.true_and, List.all_cons, List.all_nil, Bool.and_true]
      exact one _ (by omega)
theorem dec_ne (u : Nat) : Lib.decDigits u ≠ [] := by
  rw [Lib.decDigits]; split <;> simp
theorem powV_snoc (c : Nat) (l : Bs) (b : UInt8) : powV c (l ++ [b]) = min (10 * powV c l + (b.toNat - 48)) c := by
  simp [powV, List.foldl_append]
theorem powV_dec (c : Nat) (u : Nat) (h : u ≤ c) : powV c (Lib.decDigits u) = u := by
  induction u using Nat.strongRecOn with
  | _ u ih =>
    have one : ∀ k, k < 10 → (UInt8.ofNat (48 + k)).toNat - 48 = k := by
      intro k hk
      rw [UInt8.toNat_ofNat']; omega
    rw [Lib.decDigits]
    split
    · rename_i hu
      simp only [powV, List.foldl_cons, List.foldl_nil, one u hu]; omega
    · rename_i hu
      rw [powV_snoc, ih (u / 10) (by omega) (by omega), one _ (by omega)]; omega

theorem right_zero : rightM Nm.zero = true := by decide
theorem right_nil {n : Nm} (h : rightM n = true) (hd : n.digs = []) : n = Nm.zero := by
  rw [rightM, if_pos hd] at h; exact of_decide_eq_true h
theorem right_parts {n : Nm} (h : rightM n = true) (hd : n.digs ≠ []) : n.digs.length ≤ 40 ∧ n.digs.all dig = true ∧ rtrim0 n.digs = n.digs ∧ trim0 n.digs = n.digs ∧ -999 ≤ n.exp ∧ n.exp ≤ 999 := by
  rw [rightM, if_neg hd] at h
  simp only [Bool.and_eq_true, decide_eq_true_eq] at h
  obtain ⟨⟨⟨⟨h1, h2⟩, h3⟩, h4⟩, h5⟩ := h
  exact ⟨h1, h2, h3.1, h3.2, h4, h5⟩
theorem trim0_head {l : Bs} (h : trim0 l = l) : isH 48 l = false := by
  cases l with
  | nil => rfl
  | cons b t =>
    simp only [isH, beq_eq_false_iff_ne]
    intro e
    have h1 : (trim0 (b :: t)).length ≤ t.length := by
      simp only [trim0, e, isZ, List.dropWhile_cons, beq_self_eq_true, if_true]
      exact (List.dropWhile_sublist _).length_le
    rw [h] at h1; simp at h1; omega

theorem text_parse {n : Nm} (h : rightM n = true) : parseM (textM n) = (n, 0) := by
  by_cases hd : n.digs = []
  · obtain rfl := right_nil h hd
    decide
  · obtain ⟨-, h2, h3, h4, h5, h6⟩ := right_parts h hd
    obtain ⟨d, A, e⟩ := n
    simp only at hd h2 h3 h4 h5 h6
    have hT : textM ⟨d, A, e⟩ = sgB d ++ A ++ pnB none ++ (if e = 0 then [] else 101 :: Lib.itoa e) := by
      rw [textM, if_neg hd]; simp [sgB, pnB]
    rw [hT]
    have hR : noD (if e = 0 then [] else 101 :: Lib.itoa e) := by
      split
      · trivial
      · exact (by decide : dig 101 = false)
    have hRp : (none : Option Bs) = none → isH 46 (if e = 0 then [] else 101 :: Lib.itoa e) = false := by
      intro _; split <;> rfl
    obtain ⟨p1, p2, p3, p4, p5⟩ := parts1 d A none _ h2 hd (fun b hb => by cases hb) hR hRp
    generalize sgB d ++ A ++ pnB none ++ (if e = 0 then [] else 101 :: Lib.itoa e) = s at *
    have hE : okC s = true ∧ (s6 s).isEmpty = true ∧ (if un s then -(powV 1099511627776 (pw s) : Int) else (powV 1099511627776 (pw s) : Int)) = e := by
      by_cases he : e = 0
      · rw [if_pos he] at p5
        obtain ⟨q1, q2, q3, q4⟩ := parts0 (s := s) (by rw [p5]; rfl) (by rw [p5]; rfl)
        refine ⟨by rw [okC, q1]; rfl, by rw [q4, p5]; rfl, ?_⟩
        rw [q2, q3, he]; rfl
      · rw [if_neg he] at p5
        by_cases hn : e < 0
        · have e1 : Lib.itoa e = 45 :: Lib.decDigits e.natAbs := by rw [Lib.itoa, if_pos hn]
          obtain ⟨q1, q2, q3, q4⟩ := parts2 (s := s) 101 [45] (Lib.decDigits e.natAbs) [] (by rw [p5, e1]; simp) (.inl rfl) (.inr (.inl rfl)) (dec_all _) (dec_ne _) trivial
          refine ⟨?_, by rw [q4]; rfl, ?_⟩
          · rw [okC, q3]; have := dec_ne e.natAbs; cases h : Lib.decDigits e.natAbs with
            | nil => exact absurd h this
            | cons _ _ => simp
          · rw [q2, q3, powV_dec _ _ (by omega)]; simp; omega
        · have e1 : Lib.itoa e = Lib.decDigits e.toNat := by rw [Lib.itoa, if_neg hn]
          obtain ⟨q1, q2, q3, q4⟩ := parts2 (s := s) 101 [] (Lib.decDigits e.toNat) [] (by rw [p5, e1]; simp) (.inl rfl) (.inl rfl) (dec_all _) (dec_ne _) trivial
          refine ⟨?_, by rw [q4]; rfl, ?_⟩
          · rw [okC, q3]; have := dec_ne e.toNat; cases h : Lib.decDigits e.toNat with
            | nil => exact absurd h this
            | cons _ _ => simp
          · rw [q2, q3, powV_dec _ _ (by omega)]; simp; omega
    obtain ⟨k1, k2, k3⟩ := hE
    have hok : okN s = true := by
      have a : okA s = true := by
        rw [okA, p2, trim0_head h4]
        cases A with
        | nil => exact absurd rfl hd
        | cons _ _ => simp
      rw [okN, a, k1, k2, okB, p3]; rfl
    have hnum : numM s = ⟨d, A, e⟩ := by
      rw [numM, num5, p1, p2, p4]
      simp only [Option.getD_none, List.append_nil, h4, h3, if_neg hd, k3]
      simp
    rw [parseM, if_pos hok, hnum, if_pos h]

/-! How two stand. -/
def cmpI (x y : Int) : Int := if x < y then -1 else if y < x then 1 else 0
def cmpB : Bs → Bs → Int
  | [], [] => 0
  | [], _ :: _ => -1
  | _ :: _, [] => 1
  | x :: a, y :: b => if x.toNat < y.toNat then -1 else if y.toNat < x.toNat then 1 else cmpB a b
theorem cmpB_anti : ∀ a b, cmpB b a = -cmpB a b
  | [], [] => rfl
  | [], _ :: _ => rfl
  | _ :: _, [] => rfl
  | x :: a, y :: b => by
    have := cmpB_anti a b
    simp only [cmpB]
    split <;> split <;> first | omega | (split <;> omega) | skip
theorem cmpB_range : ∀ a b, cmpB a b = -1 ∨ cmpB a b = 0 ∨ cmpB a b = 1
  | [], [] => .inr (.inl rfl)
  | [], _ :: _ => .inl rfl
  | _ :: _, [] => .inr (.inr rfl)
  | x :: a, y :: b => by
    have := cmpB_range a b
    simp only [cmpB]
    split
    · exact .inl rfl
    · split
      · exact .inr (.inr rfl)
      · exact this
theorem cmpB_refl : ∀ a, cmpB a a = 0
  | [] => rfl
  | x :: a => by simp [cmpB, cmpB_refl a]
theorem cmpB_eq : ∀ a b, cmpB a b = 0 → a = b
  | [], [], _ => rfl
  | [], _ :: _, h => by simp [cmpB] at h
  | _ :: _, [], h => by simp [cmpB] at h
  | x :: a, y :: b, h => by
    simp only [cmpB] at h
    split at h
    · omega
    · split at h
      · omega
      · rw [cmpB_eq a b h, UInt8.toNat_inj.1 (show x.toNat = y.toNat by omega)]
theorem cmpB_trans : ∀ a b c, cmpB a b ≤ 0 → cmpB b c ≤ 0 → cmpB a c ≤ 0
  | [], b, c, _, _ => by cases c <;> simp [cmpB]
  | _ :: _, [], _, h, _ => by simp [cmpB] at h
  | _ :: _, _ :: _, [], _, h => by simp [cmpB] at h
  | x :: a, y :: b, z :: c, h1, h2 => by
    have ih := cmpB_trans a b c
    simp only [cmpB] at h1 h2 ⊢
    split at h1 <;> split at h2 <;> (repeat' split) <;> first | omega | skip
theorem less_cmpB : ∀ a b : Bs, Op.bytesLess a b = decide (cmpB a b < 0)
  | [], [] => by simp [Op.bytesLess, cmpB]
  | _ :: _, [] => by simp [Op.bytesLess, cmpB]
  | [], _ :: _ => by simp [Op.bytesLess, cmpB]
  | x :: a, y :: b => by
    have ih := less_cmpB a b
    show (decide (x < y) || ((x == y) && Op.bytesLess a b)) = _
    rw [ih, cmpB]
    by_cases h1 : x.toNat < y.toNat
    · rw [if_pos h1]; simp [UInt8.lt_iff_toNat_lt.2 h1]
    · rw [if_neg h1, decide_eq_false (fun h => h1 (UInt8.lt_iff_toNat_lt.1 h)), Bool.false_or]
      by_cases h2 : y.toNat < x.toNat
      · rw [if_pos h2, beq_eq_false_iff_ne.2 (fun h => by rw [h] at h2; omega)]; simp
      · rw [if_neg h2, beq_iff_eq.2 (UInt8.toNat_inj.1 (by omega)), Bool.true_and]

def sgn (n : Nm) : Int := if n = Nm.zero then 0 else if n.down then -1 else 1
def hgt (n : Nm) : Int := n.digs.length + n.exp
def cmpK (a b : Nm) : Int := if cmpI (hgt a) (hgt b) = 0 then cmpB a.digs b.digs else cmpI (hgt a) (hgt b)
def cmpM (a b : Nm) : Int := if cmpI (sgn a) (sgn b) = 0 then (if a.down then cmpK b a else cmpK a b) else cmpI (sgn a) (sgn b)

theorem cmpI_anti (x y : Int) : cmpI y x = -cmpI x y := by unfold cmpI; split <;> split <;> omega
theorem cmpI_zero {x y : Int} : cmpI x y = 0 ↔ x = y := by unfold cmpI; split <;> (try split) <;> omega
theorem cmpK_anti (a b : Nm) : cmpK b a = -cmpK a b := by
  unfold cmpK
  rw [cmpI_anti (hgt a) (hgt b), cmpB_anti a.digs b.digs]
  split <;> split <;> omega
theorem cmpK_zero {a b : Nm} (h : cmpK a b = 0) : a.digs = b.digs ∧ a.exp = b.exp := by
  unfold cmpK at h
  split at h
  · rename_i g
    have h1 := cmpB_eq _ _ h
    have h2 := cmpI_zero.1 g
    unfold hgt at h2; rw [h1] at h2
    exact ⟨h1, by omega⟩
  · omega
theorem cmpK_refl (a : Nm) : cmpK a a = 0 := by unfold cmpK; rw [if_pos (cmpI_zero.2 rfl), cmpB_refl]
theorem cmpI_le {x y : Int} : cmpI x y ≤ 0 ↔ x ≤ y := by unfold cmpI; split <;> (try split) <;> omega
theorem cmpK_trans (a b c : Nm) (h1 : cmpK a b ≤ 0) (h2 : cmpK b c ≤ 0) : cmpK a c ≤ 0 := by
  unfold cmpK at *
  split at h1
  · rename_i g1
    have g1 := cmpI_zero.1 g1
    rw [g1]
    split at h2
    · rename_i g2
      rw [if_pos g2]
      exact cmpB_trans _ _ _ h1 h2
    · rename_i g2; rw [if_neg g2]; exact h2
  · rename_i g1
    have k1 := cmpI_le.1 h1
    split at h2
    · rename_i g2
      have g2 := cmpI_zero.1 g2
      rw [← g2, if_neg g1]; exact h1
    · rename_i g2
      have k2 := cmpI_le.1 h2
      have g1' : hgt a ≠ hgt b := fun e => g1 (cmpI_zero.2 e)
      rw [if_neg (fun e => by have := cmpI_zero.1 e; omega)]
      exact cmpI_le.2 (by omega)
theorem sgn_down {a b : Nm} (h : sgn a = sgn b) : a.down = b.down := by
  unfold sgn at h
  by_cases ha : a = Nm.zero
  · rw [if_pos ha] at h
    by_cases hb : b = Nm.zero
    · rw [ha, hb]
    · rw [if_neg hb] at h; split at h <;> omega
  · rw [if_neg ha] at h
    by_cases hb : b = Nm.zero
    · rw [if_pos hb] at h; split at h <;> omega
    · rw [if_neg hb] at h
      cases h1 : a.down <;> cases h2 : b.down <;> simp_all
theorem cmpM_anti (a b : Nm) : cmpM b a = -cmpM a b := by
  unfold cmpM
  rw [cmpI_anti (sgn a) (sgn b)]
  by_cases h : cmpI (sgn a) (sgn b) = 0
  · rw [if_pos h, if_pos (by omega), sgn_down (cmpI_zero.1 h)]
    split
    · rw [cmpK_anti b a]
    · rw [cmpK_anti a b]
  · rw [if_neg h, if_neg (by omega)]
theorem cmpM_refl (a : Nm) : cmpM a a = 0 := by
  unfold cmpM; rw [if_pos (cmpI_zero.2 rfl)]; split <;> exact cmpK_refl a
theorem cmpM_zero {a b : Nm} : cmpM a b = 0 ↔ a = b := by
  constructor
  · intro h
    unfold cmpM at h
    split at h
    · rename_i g
      have hd := sgn_down (cmpI_zero.1 g)
      have : a.digs = b.digs ∧ a.exp = b.exp := by
        split at h
        · obtain ⟨x, y⟩ := cmpK_zero h; exact ⟨x.symm, y.symm⟩
        · exact cmpK_zero h
      obtain ⟨d, A, e⟩ := a; obtain ⟨d', A', e'⟩ := b
      simp_all
    · omega
  · rintro rfl; exact cmpM_refl _
theorem cmpM_trans (a b c : Nm) (h1 : cmpM a b ≤ 0) (h2 : cmpM b c ≤ 0) : cmpM a c ≤ 0 := by
  have le : ∀ x y, cmpM x y ≤ 0 → sgn x ≤ sgn y := by
    intro x y h
    unfold cmpM at h
    split at h
    · rename_i g; rw [cmpI_zero.1 g]; omega
    · exact cmpI_le.1 h
  have k1 := le _ _ h1
  have k2 := le _ _ h2
  by_cases e : sgn a = sgn c
  · have e1 : sgn a = sgn b := by omega
    have e2 : sgn b = sgn c := by omega
    have d1 := sgn_down e1
    have d2 := sgn_down e2
    unfold cmpM at *
    rw [if_pos (cmpI_zero.2 e1)] at h1
    rw [if_pos (cmpI_zero.2 e2)] at h2
    rw [if_pos (cmpI_zero.2 e)]
    rw [← d1] at h2
    split at h1
    · rename_i g; rw [if_pos g] at h2 ⊢
      exact cmpK_trans _ _ _ h2 h1
    · rename_i g; rw [if_neg g] at h2 ⊢
      exact cmpK_trans _ _ _ h1 h2
  · unfold cmpM
    rw [if_neg (fun h => e (cmpI_zero.1 h))]
    exact cmpI_le.2 (by omega)
theorem cmpM_turn {a b : Nm} (ha : a.digs ≠ []) (hb : b.digs ≠ []) : cmpM { a with down := !a.down } { b with down := !b.down } = -cmpM a b := by
  have nz : ∀ n : Nm, n.digs ≠ [] → n ≠ Nm.zero := fun n h e => h (by rw [e]; rfl)
  have s : ∀ n : Nm, n.digs ≠ [] → sgn { n with down := !n.down } = -sgn n := by
    intro n hn
    unfold sgn
    rw [if_neg (nz _ hn), if_neg (nz { n with down := !n.down } hn)]
    cases n.down <;> simp
  unfold cmpM
  rw [s a ha, s b hb]
  have hh : cmpI (-sgn a) (-sgn b) = -cmpI (sgn a) (sgn b) := by unfold cmpI; split <;> split <;> (try split) <;> (try split) <;> omega
  rw [hh]
  have kk : ∀ x y : Nm, ∀ u v, cmpK { x with down := u } { y with down := v } = cmpK x y := fun _ _ _ _ => rfl
  by_cases h : cmpI (sgn a) (sgn b) = 0
  · rw [if_pos h, if_pos (by omega), kk, kk]
    cases a.down
    · simp only [Bool.not_false, if_true, Bool.false_eq_true, if_false]; exact cmpK_anti a b
    · simp only [Bool.not_true, if_true, Bool.false_eq_true, if_false]; exact cmpK_anti b a
  · rw [if_neg h, if_neg (by omega)]

end Go.Proofs.YticnfmfmgdfdeaaGreatDoor

namespace Go.Proofs.YticnfmfmgdfdeaaGreatDoor
open Go.RowKit

/-! What may be. -/
theorem dw_nil {p : UInt8 → Bool} : ∀ {l : Bs}, l.dropWhile p = [] ↔ l.all p = true
  | [] => by simp
  | b :: t => by
    have ih := dw_nil (p := p) (l := t)
    by_cases h : p b = true
    · simp [h, ih]
    · simp [h]
theorem dw_head {p : UInt8 → Bool} : ∀ {l : Bs} {b : UInt8} {t : Bs}, l.dropWhile p = b :: t → p b = false
  | x :: l, b, t, h => by
    by_cases hx : p x = true
    · simp only [List.dropWhile_cons, hx, if_true] at h; exact dw_head h
    · simp only [List.dropWhile_cons, hx, if_false, Bool.false_eq_true] at h
      rw [← (List.cons.inj h).1]; simpa using hx
theorem trim_all (l : Bs) : Lib.trimS l digs10 = [] ↔ l.all dig = true := by
  have e : (fun b => digs10.contains b) = dig := funext digs10_dig
  rw [Lib.trimS, Lib.trimLeftS, Lib.trimRightS, e]
  constructor
  · intro h
    have h1 : (l.reverse.dropWhile dig).reverse.all dig = true := dw_nil.1 h
    cases hr : l.reverse.dropWhile dig with
    | nil => have := dw_nil.1 hr; simpa using this
    | cons b t =>
      have h2 := dw_head hr
      rw [hr] at h1; simp [h2] at h1
  · intro h
    have : l.reverse.dropWhile dig = [] := dw_nil.2 (by simpa using h)
    rw [this]; rfl
theorem isZ_fun : (fun b => ([48] : Bs).contains b) = isZ := by
  funext b
  simp only [isZ, List.contains_cons, List.contains_nil, Bool.or_false]
theorem trimL0 (l : Bs) : Lib.trimLeftS l [48] = trim0 l := by rw [Lib.trimLeftS, isZ_fun]; rfl
theorem trimR0 (l : Bs) : Lib.trimRightS l [48] = rtrim0 l := by rw [Lib.trimRightS, isZ_fun]; rfl
theorem trim_zero (l : Bs) : Lib.trimS l [48] = l ↔ (rtrim0 l = l ∧ trim0 l = l) := by
  rw [Lib.trimS, trimL0, trimR0]
  constructor
  · intro h
    have h1 : (trim0 (rtrim0 l)).length ≤ (rtrim0 l).length := (List.dropWhile_sublist _).length_le
    have h2 : (rtrim0 l).length ≤ l.length := by
      have := (List.dropWhile_sublist (l := l.reverse) isZ).length_le
      simpa [rtrim0] using this
    have h3 : (rtrim0 l).length = l.length := by rw [h] at h1; omega
    have h4 : rtrim0 l = l := by
      have h5 : l.reverse.dropWhile isZ = l.reverse := (List.dropWhile_sublist _).eq_of_length (by simpa [rtrim0] using h3)
      rw [rtrim0, h5, List.reverse_reverse]
    rw [h4] at h
    exact ⟨h4, h⟩
  · rintro ⟨a, b⟩; rw [a, b]
/-- The code's way to ask. -/
def codeR (n : Nm) : Bool := if n.digs = [] then decide (n = Nm.zero) else decide (n.digs.length ≤ 40) && decide (Lib.trimS n.digs digs10 = []) && decide (Lib.trimS n.digs [48] = n.digs) && decide (-999 ≤ n.exp) && decide (n.exp ≤ 999)
theorem codeR_eq (n : Nm) : codeR n = rightM n := by
  unfold codeR rightM
  split
  · rfl
  · have h1 := trim_all n.digs
    have h2 := trim_zero n.digs
    rw [decide_eq_decide.2 h2]
    congr 4
    by_cases g : n.digs.all dig = true
    · rw [g]; exact decide_eq_true (h1.2 g)
    · rw [decide_eq_false (fun h => g (h1.1 h))]; simp only [Bool.not_eq_true] at g; rw [g]
theorem rtrim_last (l : Bs) (h : l ≠ []) : rtrim0 l = l ↔ l.getLast h ≠ 48 := by
  obtain ⟨t, b, rfl⟩ : ∃ t b, l = t ++ [b] := ⟨l.dropLast, l.getLast h, (List.dropLast_concat_getLast h).symm⟩
  rw [List.getLast_concat, rtrim0, List.reverse_append]
  simp only [List.reverse_cons, List.reverse_nil, List.nil_append, List.singleton_append, List.dropWhile_cons]
  by_cases hb : b = 48
  · subst hb
    simp only [isZ, beq_self_eq_true, if_true, ne_eq, not_true_eq_false, iff_false]
    intro e
    have := congrArg List.length e
    have h2 := (List.dropWhile_sublist (l := t.reverse) fun b => b == 48).length_le
    simp at this h2
    have h3 : (List.dropWhile isZ t.reverse).length ≤ t.reverse.length := (List.dropWhile_sublist _).length_le
    simp at h3; omega
  · simp [isZ, hb]
theorem trim_first (l : Bs) (h : l ≠ []) : trim0 l = l ↔ l.head h ≠ 48 := by
  cases l with
  | nil => exact absurd rfl h
  | cons b t =>
    simp only [List.head_cons, trim0, List.dropWhile_cons]
    by_cases hb : b = 48
    · subst hb
      simp only [isZ, beq_self_eq_true, if_true, ne_eq, not_true_eq_false, iff_false]
      intro e
      have h3 : (List.dropWhile isZ t).length ≤ t.length := (List.dropWhile_sublist _).length_le
      have := congrArg List.length e
      simp only [List.length_cons] at this
      omega
    · simp [isZ, hb]
/-- The document's way to ask. -/
def refR (n : Nm) : Bool := if h : n.digs = [] then !n.down && decide (n.exp = 0) else n.digs.all dig && (decide (n.digs.length ≤ 40) && decide (n.digs.head h ≠ 48) && decide (n.digs.getLast h ≠ 48) && decide (-1000 < n.exp) && decide (n.exp < 1000))
theorem refR_eq (n : Nm) : refR n = rightM n := by
  unfold refR rightM
  by_cases h : n.digs = []
  · rw [dif_pos h, if_pos h]
    obtain ⟨d, A, e⟩ := n
    simp only at h; subst h
    cases d <;> simp [Nm.zero]
  · rw [dif_neg h, if_neg h]
    have h1 := rtrim_last n.digs h
    have h2 := trim_first n.digs h
    rw [Bool.eq_iff_iff]
    simp only [Bool.and_eq_true, decide_eq_true_eq, h1, h2]
    constructor
    · rintro ⟨a, ⟨⟨⟨b, c⟩, d⟩, e⟩, f⟩; exact ⟨⟨⟨⟨b, a⟩, d, c⟩, by omega⟩, by omega⟩
    · rintro ⟨⟨⟨⟨b, a⟩, d, c⟩, e⟩, f⟩; exact ⟨a, ⟨⟨⟨b, c⟩, d⟩, by omega⟩, by omega⟩

/-! How two stand, by the document. -/
def padM (a : Nm) (m : Int) : Bs := if a.digs = [] then [] else a.digs ++ List.replicate (a.exp - m).toNat 48
def grM (x y : Bs) : Bool := decide (y.length < x.length) || (decide (x.length = y.length) && decide (cmpB y x < 0))
def refC (a b : Nm) : Int :=
  let x := padM a (min a.exp b.exp)
  let y := padM b (min a.exp b.exp)
  if a.down && b.down && grM x y then -1
  else if a.down && b.down && grM y x then 1
  else if a.down && b.down then 0
  else if a.down then -1
  else if b.down || grM x y then 1
  else if grM y x then -1
  else 0
def big48 (l : Bs) : Prop := ∀ b ∈ l, 48 ≤ b.toNat
def nz (l : Bs) : Prop := ∀ t, l ≠ t ++ [48]
theorem nz_tail {x : UInt8} {l : Bs} (h : nz (x :: l)) : nz l := fun t e => h (x :: t) (by rw [e]; rfl)
theorem cmpB_zeros : ∀ (i : Nat) (B : Bs) (j : Nat), i = B.length + j → big48 B → nz B → cmpB (List.replicate i 48) (B ++ List.replicate j 48) = cmpB [] B
  | i, [], j, hi, _, _ => by
    obtain rfl : i = j := by simpa using hi
    rw [List.nil_append, cmpB_refl]; rfl
  | 0, y :: B, j, hi, _, _ => by simp at hi; omega
  | i + 1, y :: B, j, hi, hb, hn => by
    have hy : 48 ≤ y.toNat := hb y (by simp)
    simp only [List.replicate_succ, List.cons_append, cmpB]
    have h48 : (48 : UInt8).toNat = 48 := rfl
    rw [h48]
    by_cases g : 48 < y.toNat
    · rw [if_pos g]
    · rw [if_neg g, if_neg (by omega)]
      have hyz : y = 48 := UInt8.toNat_inj.1 (by rw [h48]; omega)
      have hBn : B ≠ [] := fun e => hn [] (by rw [e, hyz]; rfl)
      rw [cmpB_zeros i B j (by simp only [List.length_cons] at hi; omega) (fun b hb' => hb b (by simp [hb'])) (nz_tail hn)]
      cases B with
      | nil => exact absurd rfl hBn
      | cons _ _ => rfl
theorem cmpB_pad : ∀ (A B : Bs) (i j : Nat), A.length + i = B.length + j → big48 A → big48 B → nz A → nz B → cmpB (A ++ List.replicate i 48) (B ++ List.replicate j 48) = cmpB A B
  | [], B, i, j, h, _, hB, _, nB => by
    rw [List.nil_append]; exact cmpB_zeros i B j (by simpa using h) hB nB
  | x :: A, [], i, j, h, hA, _, nA, _ => by
    rw [List.nil_append, cmpB_anti (List.replicate j 48), cmpB_zeros j (x :: A) i (by simpa using h.symm) hA nA]; rfl
  | x :: A, y :: B, i, j, h, hA, hB, nA, nB => by
    simp only [List.cons_append, cmpB]
    rw [cmpB_pad A B i j (by simp only [List.length_cons] at h; omega) (fun b hb => hA b (by simp [hb])) (fun b hb => hB b (by simp [hb])) (nz_tail nA) (nz_tail nB)]
theorem big48_of {l : Bs} (h : l.all dig = true) : big48 l := by
  intro b hb
  have := List.all_eq_true.1 h b hb
  simp only [dig, Bool.and_eq_true, decide_eq_true_eq] at this
  exact this.1
theorem nz_of {l : Bs} (h : rtrim0 l = l) : nz l := by
  rintro t rfl
  have h1 := (rtrim_last (t ++ [48]) (by simp)).1 h
  rw [List.getLast_concat] at h1
  exact h1 rfl
theorem grM_K {a b : Nm} (ha : rightM a = true) (hb : rightM b = true) (na : a.digs ≠ []) (nb : b.digs ≠ []) (m : Int) (h1 : m ≤ a.exp) (h2 : m ≤ b.exp) :
    grM (padM a m) (padM b m) = decide (0 < cmpK a b) := by
  obtain ⟨-, a2, a3, -, -, -⟩ := right_parts ha na
  obtain ⟨-, b2, b3, -, -, -⟩ := right_parts hb nb
  have la : (padM a m).length = a.digs.length + (a.exp - m).toNat := by rw [padM, if_neg na]; simp
  have lb : (padM b m).length = b.digs.length + (b.exp - m).toNat := by rw [padM, if_neg nb]; simp
  unfold grM cmpK
  by_cases e : hgt a = hgt b
  · rw [if_pos (cmpI_zero.2 e)]
    unfold hgt at e
    have el : (padM a m).length = (padM b m).length := by omega
    rw [el, decide_eq_false (Nat.lt_irrefl _), Bool.false_or, decide_eq_true rfl, Bool.true_and]
    have : cmpB (padM b m) (padM a m) = cmpB b.digs a.digs := by
      rw [padM, if_neg nb, padM, if_neg na]
      exact cmpB_pad _ _ _ _ (by rw [← lb, ← la, el]) (big48_of b2) (big48_of a2) (nz_of b3) (nz_of a3)
    rw [this, cmpB_anti a.digs b.digs]
    exact decide_eq_decide.2 (by omega)
  · rw [if_neg (fun h => e (cmpI_zero.1 h))]
    unfold cmpI
    unfold hgt at *
    by_cases g : (padM b m).length < (padM a m).length
    · rw [decide_eq_true g, Bool.true_or, if_neg (by omega), if_pos (by omega)]; rfl
    · rw [decide_eq_false g, Bool.false_or, decide_eq_false (by omega), Bool.false_and, if_pos (by omega)]; rfl
theorem padM_nil {a : Nm} (h : a.digs = []) (m : Int) : padM a m = [] := by rw [padM, if_pos h]
theorem gr_nil {b : Nm} (nb : b.digs ≠ []) (m : Int) : grM [] (padM b m) = false ∧ grM (padM b m) [] = true := by
  have : 0 < (padM b m).length := by rw [padM, if_neg nb, List.length_append]; have := List.length_pos_iff.2 nb; omega
  constructor
  · rw [grM, decide_eq_false (by simp), Bool.false_or, decide_eq_false (by simp; intro h; rw [← h] at this; simp at this), Bool.false_and]
  · rw [grM, decide_eq_true (by simpa using this), Bool.true_or]
theorem refC_eq {a b : Nm} (ha : rightM a = true) (hb : rightM b = true) : refC a b = cmpM a b := by
  have kr : ∀ x y, cmpK x y = -1 ∨ cmpK x y = 0 ∨ cmpK x y = 1 := by
    intro x y; unfold cmpK
    split
    · exact cmpB_range _ _
    · unfold cmpI; split
      · exact .inl rfl
      · split
        · exact .inr (.inr rfl)
        · exact .inr (.inl rfl)
  have hz : ∀ n : Nm, n.digs ≠ [] → n ≠ Nm.zero := fun n h e => h (by rw [e]; rfl)
  have gn : grM [] [] = false := by decide
  by_cases na : a.digs = []
  · obtain rfl := right_nil ha na
    by_cases nb : b.digs = []
    · obtain rfl := right_nil hb nb
      decide
    · obtain ⟨g1, g2⟩ := gr_nil nb (min Nm.zero.exp b.exp)
      have h0 : padM Nm.zero (min Nm.zero.exp b.exp) = [] := padM_nil rfl _
      have s0 : sgn Nm.zero = 0 := by decide
      unfold refC cmpM
      simp only [h0, g1, g2, s0]
      unfold sgn
      rw [if_neg (hz b nb)]
      cases b.down <;> simp [Nm.zero, cmpI]
  · by_cases nb : b.digs = []
    · obtain rfl := right_nil hb nb
      obtain ⟨g1, g2⟩ := gr_nil na (min a.exp Nm.zero.exp)
      have h0 : padM Nm.zero (min a.exp Nm.zero.exp) = [] := padM_nil rfl _
      have s0 : sgn Nm.zero = 0 := by decide
      unfold refC cmpM
      simp only [h0, g1, g2, s0]
      unfold sgn
      rw [if_neg (hz a na)]
      cases a.down <;> simp [Nm.zero, cmpI]
    · have g1 := grM_K ha hb na nb (min a.exp b.exp) (by omega) (by omega)
      have g2 := grM_K hb ha nb na (min a.exp b.exp) (by omega) (by omega)
      have an := cmpK_anti a b
      unfold refC cmpM
      simp only [g1, g2]
      unfold sgn
      rw [if_neg (hz a na), if_neg (hz b nb)]
      have k := kr a b
      cases a.down <;> cases b.down <;> rcases k with k | k | k <;> (rw [k] at an; rw [an, k]; simp [cmpI])

end Go.Proofs.YticnfmfmgdfdeaaGreatDoor

namespace Go.Proofs.YticnfmfmgdfdeaaGreatDoor
open Go.RowKit

/-! Where a text's parts begin. -/
def ptI (s : Bs) : Nat := s.length - (s2 s).length
def exI (s : Bs) : Nat := s.length - (s3 s).length
def hd3 (s : Bs) : Bs := sgB (dn s) ++ ah s ++ pnB (pn s)
theorem hd3_eq (s : Bs) : s = hd3 s ++ s3 s := apart s
theorem hd3_len (s : Bs) : (hd3 s).length = exI s := by
  have := congrArg List.length (hd3_eq s)
  rw [List.length_append] at this
  unfold exI; omega
theorem take_exI (s : Bs) : s.take (exI s) = hd3 s := by
  have h := hd3_eq s
  have l := hd3_len s
  calc s.take (exI s) = (hd3 s ++ s3 s).take (hd3 s).length := by rw [l, ← h]
    _ = hd3 s := by simp
theorem drop_exI (s : Bs) : s.drop (exI s) = s3 s := by
  have h := hd3_eq s
  have l := hd3_len s
  calc s.drop (exI s) = (hd3 s ++ s3 s).drop (hd3 s).length := by rw [l, ← h]
    _ = s3 s := by simp
theorem exI_le (s : Bs) : exI s ≤ s.length := Nat.sub_le _ _
theorem s2_eq (s : Bs) : s2 s = pnB (pn s) ++ s3 s := by
  rw [pn, s3, bh]
  by_cases h : pt s = true
  · rw [h]
    have e := isH_eq h
    simp only [if_true, pnB]
    rw [List.cons_append, List.takeWhile_append_dropWhile]; exact e
  · simp only [Bool.not_eq_true] at h; rw [h]; rfl
theorem s2_le (s : Bs) : (s2 s).length ≤ s.length := by
  have h2 : s1 s = ah s ++ s2 s := (List.takeWhile_append_dropWhile ..).symm
  have h1 := congrArg List.length h2
  have h3 : (s1 s).length ≤ s.length := by rw [s1]; split <;> simp
  rw [List.length_append] at h1; omega
theorem bh_none (s : Bs) (h : pt s = false) : bh s = [] := by rw [bh, h]; rfl
theorem ptI_exI (s : Bs) : (pt s = false → ptI s = exI s) ∧ (pt s = true → exI s = ptI s + 1 + (bh s).length) := by
  have h := congrArg List.length (s2_eq s)
  have l := s2_le s
  unfold ptI exI
  constructor <;> intro g <;> rw [pn, g] at h
  · simp [pnB] at h; omega
  · simp [pnB] at h; omega
theorem lens (s : Bs) : (ah s).length + (bh s).length ≤ s.length := by
  have h := congrArg List.length (apart s)
  simp only [List.length_append] at h
  by_cases g : pt s = true
  · rw [pn, g] at h; simp [pnB] at h; omega
  · simp only [Bool.not_eq_true] at g; rw [bh_none s g]; simp only [List.length_nil]; omega

/-! The document's two gatherings. -/
def gath (x : Bool × Bs) (b : UInt8) : Bool × Bs :=
  if b = 45 then (true, x.2) else if b ≠ 46 ∧ (x.2 ≠ [] ∨ b ≠ 48) then (x.1, x.2 ++ [b]) else x
theorem gath_dig (d : Bool) : ∀ (A G : Bs), A.all dig = true → A.foldl gath (d, G) = (d, if G = [] then trim0 A else G ++ A)
  | [], G, _ => by
    by_cases g : G = []
    · subst g; rfl
    · simp [g]
  | b :: A, G, h => by
    simp only [List.all_cons, Bool.and_eq_true] at h
    have n45 : b ≠ 45 := fun e => by rw [e] at h; exact absurd h.1 (by decide)
    have n46 : b ≠ 46 := fun e => by rw [e] at h; exact absurd h.1 (by decide)
    rw [List.foldl_cons]
    have ih := gath_dig d A
    by_cases g : G = []
    · subst g
      by_cases hb : b = 48
      · subst hb
        have : gath (d, []) 48 = (d, []) := by simp [gath]
        rw [this, ih [] h.2]
        simp only [if_true]
        simp [trim0, isZ]
      · have : gath (d, []) b = (d, [b]) := by simp [gath, n45, n46, hb]
        rw [this, ih [b] h.2]
        simp [trim0, isZ, hb]
    · have : gath (d, G) b = (d, G ++ [b]) := by simp [gath, n45, n46, g]
      rw [this, ih (G ++ [b]) h.2]
      simp [g]
theorem gath_all (s : Bs) : (s.take (exI s)).foldl gath (false, []) = (dn s, trim0 (ah s ++ bh s)) := by
  rw [take_exI, hd3, List.foldl_append, List.foldl_append]
  have h1 : (sgB (dn s)).foldl gath (false, []) = (dn s, []) := by
    cases dn s <;> rfl
  rw [h1, gath_dig _ _ _ (ah_all s), if_pos rfl, pn]
  by_cases g : pt s = true
  · rw [g]
    simp only [if_true, pnB, List.foldl_cons]
    have : gath (dn s, trim0 (ah s)) 46 = (dn s, trim0 (ah s)) := by simp [gath]
    rw [this, gath_dig _ _ _ (bh_all s)]
    congr 1
    by_cases e : trim0 (ah s) = []
    · rw [if_pos e]
      have : (ah s).all isZ = true := dw_nil.1 e
      rw [trim0, trim0, List.dropWhile_append_of_pos (fun b hb => List.all_eq_true.1 this b hb)]
    · rw [if_neg e]
      cases h : trim0 (ah s) with
      | nil => exact absurd h e
      | cons x t =>
        rw [trim0, List.dropWhile_append]
        rw [trim0] at h
        rw [h]; rfl
  · simp only [Bool.not_eq_true] at g
    rw [g, bh_none s g]; simp [pnB]
def more (x : Bool × Nat) (b : UInt8) : Bool × Nat :=
  if b = 45 then (true, x.2) else if b ≠ 43 then (x.1, min (10 * x.2 + (b.toNat - 48)) 1000000) else x
theorem more_dig (u : Bool) : ∀ (p : Bs) (m : Nat), p.all dig = true → p.foldl more (u, m) = (u, p.foldl (fun x b => min (10 * x + (b.toNat - 48)) 1000000) m)
  | [], _, _ => rfl
  | b :: p, m, h => by
    simp only [List.all_cons, Bool.and_eq_true] at h
    have n45 : b ≠ 45 := fun e => by rw [e] at h; exact absurd h.1 (by decide)
    have n43 : b ≠ 43 := fun e => by rw [e] at h; exact absurd h.1 (by decide)
    rw [List.foldl_cons, show more (u, m) b = (u, min (10 * m + (b.toNat - 48)) 1000000) by simp [more, n45, n43], more_dig u p _ h.2]; rfl
theorem more_all (s : Bs) (h6 : s6 s = []) : (s.drop (exI s + 1)).foldl more (false, 0) = (un s, powV 1000000 (pw s)) := by
  rw [← List.drop_drop, drop_exI]
  by_cases g : ex s = true
  · obtain ⟨e, sg, -, hsg, hu, h3⟩ := s3_ex s g
    rw [h3, h6, hu, List.append_nil, List.drop_succ_cons, List.drop_zero, List.foldl_append]
    have h1 : sg.foldl more (false, 0) = (decide (sg = [45]), 0) := by rcases hsg with rfl | rfl | rfl <;> rfl
    rw [h1, more_dig _ _ _ (pw_all s)]; rfl
  · simp only [Bool.not_eq_true] at g
    rw [s3_nex s g, h6, un, pw, g]; rfl

def val (l : Bs) : Nat := l.foldl (fun x b => 10 * x + (b.toNat - 48)) 0
theorem pow_fold (c : Nat) : ∀ (l : Bs) (m : Nat), l.foldl (fun x b => min (10 * x + (b.toNat - 48)) c) (min m c) = min (l.foldl (fun x b => 10 * x + (b.toNat - 48)) m) c
  | [], _ => rfl
  | b :: l, m => by
    rw [List.foldl_cons, List.foldl_cons, ← pow_fold c l]
    congr 1; omega
theorem powV_val (c : Nat) (l : Bs) : powV c l = min (val l) c := by
  have := pow_fold c l 0
  rw [Nat.zero_min] at this; exact this

def refN (s : Bs) : Nm := ⟨dn s, rtrim0 (trim0 (ah s ++ bh s)), -((bh s).length : Int) + (if un s then -(powV 1000000 (pw s) : Int) else (powV 1000000 (pw s) : Int)) + ((trim0 (ah s ++ bh s)).length - (rtrim0 (trim0 (ah s ++ bh s))).length)⟩
def refP (s : Bs) : Nm × Int := if okN s then (if (refN s).digs = [] then (Nm.zero, 0) else if rightM (refN s) then (refN s, 0) else (Nm.zero, 13)) else (Nm.zero, 11)
theorem rtrim_nil {l : Bs} (h : trim0 l ≠ []) : rtrim0 (trim0 l) ≠ [] := by
  intro e
  have h1 : ((trim0 l).reverse.dropWhile isZ) = [] := by simpa [rtrim0] using e
  have h2 := dw_nil.1 h1
  rw [List.all_reverse] at h2
  cases hl : trim0 l with
  | nil => exact h hl
  | cons b t =>
    have := dw_head hl
    rw [hl] at h2; simp [this] at h2
theorem trim_len (l : Bs) : (trim0 l).length ≤ l.length := (List.dropWhile_sublist _).length_le
theorem rtrim_len (l : Bs) : (rtrim0 l).length ≤ l.length := by
  have := (List.dropWhile_sublist (l := l.reverse) isZ).length_le
  simpa [rtrim0] using this
theorem refP_eq (s : Bs) (h : s.length ≤ 300) : refP s = parseM s := by
  unfold refP parseM
  by_cases ho : okN s = true
  · rw [if_pos ho, if_pos ho]
    by_cases e : trim0 (ah s ++ bh s) = []
    · have h1 : numM s = Nm.zero := by rw [numM, num5, if_pos e]
      have h2 : (refN s).digs = [] := by show rtrim0 (trim0 (ah s ++ bh s)) = []; rw [e]; rfl
      rw [if_pos h2, h1, if_pos right_zero]
    · have hr := rtrim_nil e
      have h2 : ¬ (refN s).digs = [] := hr
      rw [if_neg h2]
      have l1 := trim_len (ah s ++ bh s)
      have l2 := rtrim_len (trim0 (ah s ++ bh s))
      have l3 := lens s
      rw [List.length_append] at l1
      have hn : numM s = ⟨dn s, rtrim0 (trim0 (ah s ++ bh s)), (if un s then -(powV 1099511627776 (pw s) : Int) else (powV 1099511627776 (pw s) : Int)) - (bh s).length + (trim0 (ah s ++ bh s)).length - (rtrim0 (trim0 (ah s ++ bh s))).length⟩ := by
        rw [numM, num5, if_neg e]
      by_cases hv : val (pw s) ≤ 1000000
      · have : refN s = numM s := by
          rw [hn, refN, powV_val, powV_val, Nat.min_eq_left hv, Nat.min_eq_left (by omega)]
          congr 1; split <;> omega
        rw [this]
      · have big : ∀ c : Nat, 1000000 ≤ c → 1000000 ≤ (powV c (pw s) : Int) := by intro c hc; rw [powV_val]; omega
        have b1 := big 1000000 (by omega)
        have b2 := big 1099511627776 (by omega)
        have r1 : rightM (refN s) = false := by
          cases hq : rightM (refN s) with
          | false => rfl
          | true =>
            have := right_parts hq h2
            have g5 := this.2.2.2.2.1; have g6 := this.2.2.2.2.2
            simp only [refN] at g5 g6
            cases hu : un s <;> rw [hu] at g5 g6 <;> simp only [if_true, if_false, Bool.false_eq_true] at g5 g6 <;> omega
        have r2 : rightM (numM s) = false := by
          cases hq : rightM (numM s) with
          | false => rfl
          | true =>
            have := right_parts hq (by rw [hn]; exact hr)
            have g5 := this.2.2.2.2.1; have g6 := this.2.2.2.2.2
            rw [hn] at g5 g6
            simp only at g5 g6
            cases hu : un s <;> rw [hu] at g5 g6 <;> simp only [if_true, if_false, Bool.false_eq_true] at g5 g6 <;> omega
        rw [r1, r2]; rfl
  · rw [if_neg ho, if_neg ho]

/-! A nought more behind the point; an exponent of one. -/
def shT (s : Bs) : Bs := if ptI s = exI s then s.take (exI s) ++ [46, 48] ++ s.drop (exI s) else s.take (exI s) ++ [48] ++ s.drop (exI s)
theorem tail_same {s t : Bs} (h : s3 t = s3 s) : ex t = ex s ∧ un t = un s ∧ pw t = pw s ∧ s6 t = s6 s := by
  have h1 : ex t = ex s := by rw [ex, ex, h]
  have h2 : s4 t = s4 s := by rw [s4, s4, h]
  have h3 : s5 t = s5 s := by rw [s5, s5, h2]
  exact ⟨h1, by rw [un, un, h1, h2], by rw [pw, pw, h1, h3], by rw [s6, s6, h1, h3, h]⟩
theorem ok_ah {s : Bs} (h : okN s = true) : ah s ≠ [] := by
  intro e
  simp only [okN, okA, Bool.and_eq_true] at h
  have := h.1.1.1
  rw [e] at this; simp at this
theorem ok_bh {s : Bs} (h : okN s = true) (g : pt s = true) : bh s ≠ [] := by
  intro e
  simp only [okN, okB, Bool.and_eq_true] at h
  have := h.1.1.2
  rw [e, g] at this; simp at this
theorem ok_s6 {s : Bs} (h : okN s = true) : s6 s = [] := by
  simp only [okN, Bool.and_eq_true, List.isEmpty_iff] at h
  exact h.2
theorem rtrim_snoc (l : Bs) : rtrim0 (l ++ [48]) = rtrim0 l := by
  simp [rtrim0, isZ]
theorem trim_snoc {l : Bs} (h : trim0 l ≠ []) : trim0 (l ++ [48]) = trim0 l ++ [48] := by
  rw [trim0, List.dropWhile_append]
  have : (List.dropWhile isZ l).isEmpty = false := by
    cases g : List.dropWhile isZ l with
    | nil => exact absurd g h
    | cons _ _ => rfl
  rw [this]; rfl
theorem num5_shift (d : Bool) (A B : Bs) (u : Bool) (p : Bs) : num5 d A (B ++ [48]) u p = num5 d A B u p := by
  unfold num5
  by_cases e : trim0 (A ++ B) = []
  · have : trim0 (A ++ (B ++ [48])) = [] := by
      have := dw_nil.1 e
      rw [← List.append_assoc]
      exact dw_nil.2 (by rw [List.all_append, this]; rfl)
    rw [if_pos e, if_pos this]
  · have h1 : trim0 (A ++ (B ++ [48])) = trim0 (A ++ B) ++ [48] := by rw [← List.append_assoc, trim_snoc e]
    rw [if_neg e, h1, if_neg (by simp), rtrim_snoc]
    congr 1
    simp only [List.length_append, List.length_cons, List.length_nil]
    split <;> omega
theorem shift_parse (s : Bs) (h : okN s = true) : parseM (shT s) = parseM s := by
  have hne := ok_ah h
  have key : shT s = sgB (dn s) ++ ah s ++ pnB (some (bh s ++ [48])) ++ s3 s := by
    unfold shT
    rw [take_exI, drop_exI, hd3]
    by_cases g : pt s = true
    · rw [if_neg (by have := (ptI_exI s).2 g; omega), pn, g]; simp [pnB]
    · simp only [Bool.not_eq_true] at g
      rw [if_pos ((ptI_exI s).1 g), pn, g, bh_none s g]; simp [pnB]
  have ball : (bh s ++ [48]).all dig = true := by rw [List.all_append, bh_all]; rfl
  obtain ⟨p1, p2, p3, p4, p5⟩ := parts1 (dn s) (ah s) (some (bh s ++ [48])) (s3 s) (ah_all s) hne (fun b hb => by cases hb; exact ball) (s3_no s) (fun e => by cases e)
  rw [← key] at p1 p2 p3 p4 p5
  obtain ⟨q1, q2, q3, q4⟩ := tail_same p5
  have hok : okN (shT s) = true := by
    have h' := h
    simp only [okN, Bool.and_eq_true] at h'
    have e1 : okA (shT s) = okA s := by rw [okA, okA, p2]
    have e2 : okC (shT s) = okC s := by rw [okC, okC, q1, q3]
    rw [okN, e1, e2, q4, h'.1.1.1, h'.1.2, h'.2, okB, p4]; simp
  have hnum : numM (shT s) = numM s := by
    rw [numM, numM, p1, p2, p4, q2, q3]
    exact num5_shift ..
  rw [parseM, parseM, hok, h, hnum]
theorem parse_ok {s : Bs} {n : Nm} (h : parseM s = (n, 0)) : okN s = true ∧ numM s = n ∧ rightM n = true := by
  unfold parseM at h
  split at h
  · split at h
    · obtain ⟨rfl, -⟩ := Prod.mk.inj h; exact ⟨by assumption, rfl, by assumption⟩
    · exact absurd (Prod.mk.inj h).2 (by decide)
  · exact absurd (Prod.mk.inj h).2 (by decide)
theorem e1_parse {s : Bs} {n : Nm} (h : parseM s = (n, 0)) (h3 : s3 s = []) (hd : n.digs ≠ []) :
    parseM (s ++ [101, 49]) = if n.exp = 999 then (Nm.zero, 13) else ({ n with exp := n.exp + 1 }, 0) := by
  obtain ⟨ho, hn, hr⟩ := parse_ok h
  have hne := ok_ah ho
  have key : s ++ [101, 49] = sgB (dn s) ++ ah s ++ pnB (pn s) ++ [101, 49] := by
    have := apart s
    rw [h3, List.append_nil] at this
    rw [← this]
  have hP : ∀ b, pn s = some b → b.all dig = true := by
    intro b hb; rw [pn] at hb; split at hb
    · cases hb; exact bh_all s
    · cases hb
  obtain ⟨p1, p2, p3, p4, p5⟩ := parts1 (dn s) (ah s) (pn s) [101, 49] (ah_all s) hne hP (by exact (by decide : dig 101 = false)) (fun _ => rfl)
  rw [← key] at p1 p2 p3 p4 p5
  obtain ⟨q1, q2, q3, q4⟩ := parts2 (s := s ++ [101, 49]) 101 [] [49] [] (by rw [p5]; rfl) (.inl rfl) (.inl rfl) (by decide) (by simp) trivial
  have hbe : bh (s ++ [101, 49]) = bh s := by
    rw [p4, pn]
    by_cases g : pt s = true
    · rw [g]; rfl
    · simp only [Bool.not_eq_true] at g; rw [g, bh_none s g]; rfl
  have hpe : pt (s ++ [101, 49]) = pt s := by rw [p3, pn]; cases pt s <;> rfl
  have hok : okN (s ++ [101, 49]) = true := by
    have h' := ho
    simp only [okN, Bool.and_eq_true] at h'
    have e1 : okA (s ++ [101, 49]) = okA s := by rw [okA, okA, p2]
    have e2 : okB (s ++ [101, 49]) = okB s := by rw [okB, okB, hpe, hbe]
    rw [okN, e1, e2, q4, h'.1.1.1, h'.1.1.2, okC, q3]; simp
  obtain ⟨z1, z2, z3, z4⟩ := parts0 (s := s) (by rw [h3]; rfl) (by rw [h3]; rfl)
  have hnum : numM (s ++ [101, 49]) = { n with exp := n.exp + 1 } := by
    rw [numM, p1, p2, hbe, q2, q3]
    rw [numM, z2, z3] at hn
    unfold num5 at hn ⊢
    by_cases e : trim0 (ah s ++ bh s) = []
    · rw [if_pos e] at hn; rw [← hn] at hd; exact absurd rfl hd
    · rw [if_neg e] at hn ⊢
      rw [← hn]
      congr 1
      have w1 : powV 1099511627776 [49] = 1 := by decide
      have w0 : powV 1099511627776 [] = 0 := rfl
      rw [w1, w0]; simp; omega
  rw [parseM, if_pos hok, hnum]
  have hp := right_parts hr hd
  have hd' : ({ n with exp := n.exp + 1 } : Nm).digs ≠ [] := hd
  by_cases g : n.exp = 999
  · rw [if_pos g]
    have : rightM { n with exp := n.exp + 1 } = false := by
      cases hq : rightM { n with exp := n.exp + 1 } with
      | false => rfl
      | true =>
        have := (right_parts hq hd').2.2.2.2.2
        simp only at this; omega
    rw [this]; rfl
  · rw [if_neg g]
    have : rightM { n with exp := n.exp + 1 } = true := by
      rw [rightM, if_neg hd']
      simp only [Bool.and_eq_true, decide_eq_true_eq]
      exact ⟨⟨⟨⟨hp.1, hp.2.1⟩, hp.2.2.1, hp.2.2.2.1⟩, by omega⟩, by omega⟩
    rw [this]; rfl

/-! A sign more. -/
theorem bad_head (x : UInt8) (s : Bs) (h1 : dig x = false) (h2 : x ≠ 45) : okN (x :: s) = false := by
  have a : dn (x :: s) = false := by simp [dn, isH, h2]
  have b : ah (x :: s) = [] := by rw [ah, s1, a]; simp [h1]
  rw [okN, okA, b]; rfl
theorem bad_tail (x : UInt8) (s : Bs) (h : okN s = true) (h1 : dig x = false) (h2 : x ≠ 46) (h3 : (x ≠ 101 ∧ x ≠ 69) ∨ x = 101) : okN (s ++ [x]) = false := by
  have hne := ok_ah h
  have h6 := ok_s6 h
  have hP : ∀ b, pn s = some b → b.all dig = true := by
    intro b hb; rw [pn] at hb; split at hb
    · cases hb; exact bh_all s
    · cases hb
  have hPn : pn s = none → pt s = false := by
    intro e; rw [pn] at e; split at e
    · cases e
    · rename_i g; simpa using g
  by_cases g : ex s = true
  · obtain ⟨e, sg, he, hsg, -, hs3⟩ := s3_ex s g
    have hpw : pw s ≠ [] := by
      intro e
      simp only [okN, okC, Bool.and_eq_true] at h
      have := h.1.2
      rw [e, g] at this; simp at this
    have key : s ++ [x] = sgB (dn s) ++ ah s ++ pnB (pn s) ++ (e :: (sg ++ pw s ++ [x])) := by
      have := apart s
      rw [hs3, h6, List.append_nil] at this
      rw [show s ++ [x] = (sgB (dn s) ++ ah s ++ pnB (pn s) ++ e :: (sg ++ pw s)) ++ [x] by rw [← this]]
      simp
    have de : dig e = false := by rcases he with rfl | rfl <;> decide
    have n46 : isH 46 (e :: (sg ++ pw s ++ [x])) = false := by rcases he with rfl | rfl <;> rfl
    obtain ⟨p1, p2, p3, p4, p5⟩ := parts1 (dn s) (ah s) (pn s) (e :: (sg ++ pw s ++ [x])) (ah_all s) hne hP de (fun _ => n46)
    rw [← key] at p1 p2 p3 p4 p5
    obtain ⟨q1, q2, q3, q4⟩ := parts2 (s := s ++ [x]) e sg (pw s) [x] p5 he hsg (pw_all s) hpw h1
    rw [okN, q4]; simp
  · simp only [Bool.not_eq_true] at g
    have hs3 : s3 s = [] := by rw [s3_nex s g, h6]
    have key : s ++ [x] = sgB (dn s) ++ ah s ++ pnB (pn s) ++ [x] := by
      have := apart s
      rw [hs3, List.append_nil] at this
      rw [← this]
    obtain ⟨p1, p2, p3, p4, p5⟩ := parts1 (dn s) (ah s) (pn s) [x] (ah_all s) hne hP h1 (fun _ => by simp [isH, h2])
    rw [← key] at p1 p2 p3 p4 p5
    rcases h3 with ⟨n1, n2⟩ | rfl
    · obtain ⟨q1, q2, q3, q4⟩ := parts0 (s := s ++ [x]) (by rw [p5]; simp [isH, n1]) (by rw [p5]; simp [isH, n2])
      rw [okN, q4, p5]; simp
    · have e1 : ex (s ++ [101]) = true := by rw [ex, p5]; rfl
      have e2 : pw (s ++ [101]) = [] := by rw [pw, e1, s5, s4, p5]; rfl
      rw [okN, okC, e1, e2]; simp

/-! As many digits as may be. -/
theorem parse_mk (A B : Bs) (P : Option Bs) (R : Bs) (u : Bool) (p : Bs) (hA : A.all dig = true) (hne : A ≠ []) (hz : isH 48 A = false) (hP : P = none ∧ B = [] ∨ P = some B ∧ B ≠ []) (hB : B.all dig = true)
    (hR : R = [] ∧ u = false ∧ p = [] ∨ (∃ sg, R = 101 :: (sg ++ p) ∧ (sg = [] ∨ sg = [45]) ∧ u = decide (sg = [45]) ∧ p ≠ [] ∧ p.all dig = true)) :
    parseM (A ++ pnB P ++ R) = if rightM (num5 false A B u p) then (num5 false A B u p, 0) else (Nm.zero, 13) := by
  have hRn : noD R := by rcases hR with ⟨rfl, -⟩ | ⟨sg, rfl, -⟩; trivial; exact (by decide : dig 101 = false)
  have hRp : isH 46 R = false := by rcases hR with ⟨rfl, -⟩ | ⟨sg, rfl, -⟩ <;> rfl
  have hPa : ∀ b, P = some b → b.all dig = true := by
    intro b hb; rcases hP with ⟨h, -⟩ | ⟨h, -⟩
    · rw [h] at hb; cases hb
    · rw [h] at hb; cases hb; exact hB
  obtain ⟨p1, p2, p3, p4, p5⟩ := parts1 false A P R hA hne hPa hRn (fun _ => hRp)
  have e0 : sgB false ++ A ++ pnB P ++ R = A ++ pnB P ++ R := rfl
  rw [e0] at p1 p2 p3 p4 p5
  generalize A ++ pnB P ++ R = s at *
  have hb : bh s = B := by rw [p4]; rcases hP with ⟨h, h'⟩ | ⟨h, -⟩ <;> rw [h]; rw [h']; rfl; rfl
  have hoB : okB s = true := by
    rw [okB, p3, hb]
    rcases hP with ⟨h, h'⟩ | ⟨h, h'⟩
    · rw [h]; rfl
    · cases B with
      | nil => exact absurd rfl h'
      | cons _ _ => simp
  have hoA : okA s = true := by
    rw [okA, p2, hz]
    cases A with
    | nil => exact absurd rfl hne
    | cons _ _ => simp
  have ht : okC s = true ∧ un s = u ∧ pw s = p ∧ s6 s = [] := by
    rcases hR with ⟨h, rfl, rfl⟩ | ⟨sg, h, hsg, rfl, hp, hpa⟩
    · obtain ⟨q1, q2, q3, q4⟩ := parts0 (s := s) (by rw [p5, h]; rfl) (by rw [p5, h]; rfl)
      exact ⟨by rw [okC, q1]; rfl, q2, q3, by rw [q4, p5, h]⟩
    · obtain ⟨q1, q2, q3, q4⟩ := parts2 (s := s) 101 sg p [] (by rw [p5, h, List.append_nil]) (.inl rfl) (by rcases hsg with h | h; exact .inl h; exact .inr (.inl h)) hpa hp trivial
      refine ⟨?_, q2, q3, q4⟩
      rw [okC, q3]
      cases p with
      | nil => exact absurd rfl hp
      | cons _ _ => simp
  obtain ⟨t1, t2, t3, t4⟩ := ht
  have hok : okN s = true := by rw [okN, hoA, hoB, t1, t4]; rfl
  rw [parseM, if_pos hok, numM, p1, p2, hb, t2, t3]
theorem num5_full (X A B : Bs) (u : Bool) (p : Bs) (hX : A ++ B = X) (hn : X ≠ []) (h1 : trim0 X = X) (h2 : rtrim0 X = X) :
    num5 false A B u p = ⟨false, X, (if u then -(powV 1099511627776 p : Int) else (powV 1099511627776 p : Int)) - B.length⟩ := by
  unfold num5
  rw [hX, h1, h2, if_neg hn]
  congr 1
  omega
theorem right_iff {n : Nm} (hd : n.digs ≠ []) (ha : n.digs.all dig = true) (h1 : rtrim0 n.digs = n.digs) (h2 : trim0 n.digs = n.digs) : rightM n = (decide (n.digs.length ≤ 40) && decide (-999 ≤ n.exp) && decide (n.exp ≤ 999)) := by
  rw [rightM, if_neg hd, ha, decide_eq_true (And.intro h1 h2)]; simp

end Go.Proofs.YticnfmfmgdfdeaaGreatDoor
