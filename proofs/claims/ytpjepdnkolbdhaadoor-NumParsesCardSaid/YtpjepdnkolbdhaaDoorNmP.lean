/-
  Numbers, plain: the document's parsing beside the code's; the laws' own texts. Own work.
-/
import Derived.Test.YtpjepdnkolbdhaaDoorNmO
set_option linter.unusedVariables false
set_option linter.unusedSimpArgs false
namespace Go.Proofs.YtpjepdnkolbdhaaDoor
open Go.RowKit

/-! Where a text's parts begin. -/
def ptI (s : Bs) : Nat := s.length - (s2 s).length
def exI (s : Bs) : Nat := s.length - (s3 s).length
def hd3 (s : Bs) : Bs := sgB (dn s) ++ ah s ++ pnB (pn s)
theorem hd3_eq (s : Bs) : s = hd3 s ++ s3 s := apart s
theorem hd3_len (s : Bs) : (hd3 s).length = exI s := by
  have := congrArg List.length (hd3_eq s)
  rw [List.length_append] at this
  unfold exI; omega
theorem take_exI (s : Bs) : s.take (exI s) = hd3 s := by
  have h := hd3_eq s
  have l := hd3_len s
  calc s.take (exI s) = (hd3 s ++ s3 s).take (hd3 s).length := by rw [l, ← h]
    _ = hd3 s := by simp
theorem drop_exI (s : Bs) : s.drop (exI s) = s3 s := by
  have h := hd3_eq s
  have l := hd3_len s
  calc s.drop (exI s) = (hd3 s ++ s3 s).drop (hd3 s).length := by rw [l, ← h]
    _ = s3 s := by simp
theorem exI_le (s : Bs) : exI s ≤ s.length := Nat.sub_le _ _
theorem s2_eq (s : Bs) : s2 s = pnB (pn s) ++ s3 s := by
  rw [pn, s3, bh]
  by_cases h : pt s = true
  · rw [h]
    have e := isH_eq h
    simp only [if_true, pnB]
    rw [List.cons_append, List.takeWhile_append_dropWhile]; exact e
  · simp only [Bool.not_eq_true] at h; rw [h]; rfl
theorem s2_le (s : Bs) : (s2 s).length ≤ s.length := by
  have h2 : s1 s = ah s ++ s2 s := (List.takeWhile_append_dropWhile ..).symm
  have h1 := congrArg List.length h2
  have h3 : (s1 s).length ≤ s.length := by rw [s1]; split <;> simp
  rw [List.length_append] at h1; omega
theorem bh_none (s : Bs) (h : pt s = false) : bh s = [] := by rw [bh, h]; rfl
theorem ptI_exI (s : Bs) : (pt s = false → ptI s = exI s) ∧ (pt s = true → exI s = ptI s + 1 + (bh s).length) := by
  have h := congrArg List.length (s2_eq s)
  have l := s2_le s
  unfold ptI exI
  constructor <;> intro g <;> rw [pn, g] at h
  · simp [pnB] at h; omega
  · simp [pnB] at h; omega
theorem lens (s : Bs) : (ah s).length + (bh s).length ≤ s.length := by
  have h := congrArg List.length (apart s)
  simp only [List.length_append] at h
  by_cases g : pt s = true
  · rw [pn, g] at h; simp [pnB] at h; omega
  · simp only [Bool.not_eq_true] at g; rw [bh_none s g]; simp only [List.length_nil]; omega

/-! The document's two gatherings. -/
def gath (x : Bool × Bs) (b : UInt8) : Bool × Bs :=
  if b = 45 then (true, x.2) else if b ≠ 46 ∧ (x.2 ≠ [] ∨ b ≠ 48) then (x.1, x.2 ++ [b]) else x
theorem gath_dig (d : Bool) : ∀ (A G : Bs), A.all dig = true → A.foldl gath (d, G) = (d, if G = [] then trim0 A else G ++ A)
  | [], G, _ => by
    by_cases g : G = []
    · subst g; rfl
    · simp [g]
  | b :: A, G, h => by
    simp only [List.all_cons, Bool.and_eq_true] at h
    have n45 : b ≠ 45 := fun e => by rw [e] at h; exact absurd h.1 (by decide)
    have n46 : b ≠ 46 := fun e => by rw [e] at h; exact absurd h.1 (by decide)
    rw [List.foldl_cons]
    have ih := gath_dig d A
    by_cases g : G = []
    · subst g
      by_cases hb : b = 48
      · subst hb
        have : gath (d, []) 48 = (d, []) := by simp [gath]
        rw [this, ih [] h.2]
        simp only [if_true]
        simp [trim0, isZ]
      · have : gath (d, []) b = (d, [b]) := by simp [gath, n45, n46, hb]
        rw [this, ih [b] h.2]
        simp [trim0, isZ, hb]
    · have : gath (d, G) b = (d, G ++ [b]) := by simp [gath, n45, n46, g]
      rw [this, ih (G ++ [b]) h.2]
      simp [g]
theorem gath_all (s : Bs) : (s.take (exI s)).foldl gath (false, []) = (dn s, trim0 (ah s ++ bh s)) := by
  rw [take_exI, hd3, List.foldl_append, List.foldl_append]
  have h1 : (sgB (dn s)).foldl gath (false, []) = (dn s, []) := by
    cases dn s <;> rfl
  rw [h1, gath_dig _ _ _ (ah_all s), if_pos rfl, pn]
  by_cases g : pt s = true
  · rw [g]
    simp only [if_true, pnB, List.foldl_cons]
    have : gath (dn s, trim0 (ah s)) 46 = (dn s, trim0 (ah s)) := by simp [gath]
    rw [this, gath_dig _ _ _ (bh_all s)]
    congr 1
    by_cases e : trim0 (ah s) = []
    · rw [if_pos e]
      have : (ah s).all isZ = true := dw_nil.1 e
      rw [trim0, trim0, List.dropWhile_append_of_pos (fun b hb => List.all_eq_true.1 this b hb)]
    · rw [if_neg e]
      cases h : trim0 (ah s) with
      | nil => exact absurd h e
      | cons x t =>
        rw [trim0, List.dropWhile_append]
        rw [trim0] at h
        rw [h]; rfl
  · simp only [Bool.not_eq_true] at g
    rw [g, bh_none s g]; simp [pnB]
def more (x : Bool × Nat) (b : UInt8) : Bool × Nat :=
  if b = 45 then (true, x.2) else if b ≠ 43 then (x.1, min (10 * x.2 + (b.toNat - 48)) 1000000) else x
theorem more_dig (u : Bool) : ∀ (p : Bs) (m : Nat), p.all dig = true → p.foldl more (u, m) = (u, p.foldl (fun x b => min (10 * x + (b.toNat - 48)) 1000000) m)
  | [], _, _ => rfl
  | b :: p, m, h => by
    simp only [List.all_cons, Bool.and_eq_true] at h
    have n45 : b ≠ 45 := fun e => by rw [e] at h; exact absurd h.1 (by decide)
    have n43 : b ≠ 43 := fun e => by rw [e] at h; exact absurd h.1 (by decide)
    rw [List.foldl_cons, show more (u, m) b = (u, min (10 * m + (b.toNat - 48)) 1000000) by simp [more, n45, n43], more_dig u p _ h.2]; rfl
theorem more_all (s : Bs) (h6 : s6 s = []) : (s.drop (exI s + 1)).foldl more (false, 0) = (un s, powV 1000000 (pw s)) := by
  rw [← List.drop_drop, drop_exI]
  by_cases g : ex s = true
  · obtain ⟨e, sg, -, hsg, hu, h3⟩ := s3_ex s g
    rw [h3, h6, hu, List.append_nil, List.drop_succ_cons, List.drop_zero, List.foldl_append]
    have h1 : sg.foldl more (false, 0) = (decide (sg = [45]), 0) := by rcases hsg with rfl | rfl | rfl <;> rfl
    rw [h1, more_dig _ _ _ (pw_all s)]; rfl
  · simp only [Bool.not_eq_true] at g
    rw [s3_nex s g, h6, un, pw, g]; rfl

def val (l : Bs) : Nat := l.foldl (fun x b => 10 * x + (b.toNat - 48)) 0
theorem pow_fold (c : Nat) : ∀ (l : Bs) (m : Nat), l.foldl (fun x b => min (10 * x + (b.toNat - 48)) c) (min m c) = min (l.foldl (fun x b => 10 * x + (b.toNat - 48)) m) c
  | [], _ => rfl
  | b :: l, m => by
    rw [List.foldl_cons, List.foldl_cons, ← pow_fold c l]
    congr 1; omega
theorem powV_val (c : Nat) (l : Bs) : powV c l = min (val l) c := by
  have := pow_fold c l 0
  rw [Nat.zero_min] at this; exact this

def refN (s : Bs) : Nm := ⟨dn s, rtrim0 (trim0 (ah s ++ bh s)), -((bh s).length : Int) + (if un s then -(powV 1000000 (pw s) : Int) else (powV 1000000 (pw s) : Int)) + ((trim0 (ah s ++ bh s)).length - (rtrim0 (trim0 (ah s ++ bh s))).length)⟩
def refP (s : Bs) : Nm × Int := if okN s then (if (refN s).digs = [] then (Nm.zero, 0) else if rightM (refN s) then (refN s, 0) else (Nm.zero, 13)) else (Nm.zero, 11)
theorem rtrim_nil {l : Bs} (h : trim0 l ≠ []) : rtrim0 (trim0 l) ≠ [] := by
  intro e
  have h1 : ((trim0 l).reverse.dropWhile isZ) = [] := by simpa [rtrim0] using e
  have h2 := dw_nil.1 h1
  rw [List.all_reverse] at h2
  cases hl : trim0 l with
  | nil => exact h hl
  | cons b t =>
    have := dw_head hl
    rw [hl] at h2; simp [this] at h2
theorem trim_len (l : Bs) : (trim0 l).length ≤ l.length := (List.dropWhile_sublist _).length_le
theorem rtrim_len (l : Bs) : (rtrim0 l).length ≤ l.length := by
  have := (List.dropWhile_sublist (l := l.reverse) isZ).length_le
  simpa [rtrim0] using this
theorem refP_eq (s : Bs) (h : s.length ≤ 300) : refP s = parseM s := by
  unfold refP parseM
  by_cases ho : okN s = true
  · rw [if_pos ho, if_pos ho]
    by_cases e : trim0 (ah s ++ bh s) = []
    · have h1 : numM s = Nm.zero := by rw [numM, num5, if_pos e]
      have h2 : (refN s).digs = [] := by show rtrim0 (trim0 (ah s ++ bh s)) = []; rw [e]; rfl
      rw [if_pos h2, h1, if_pos right_zero]
    · have hr := rtrim_nil e
      have h2 : ¬ (refN s).digs = [] := hr
      rw [if_neg h2]
      have l1 := trim_len (ah s ++ bh s)
      have l2 := rtrim_len (trim0 (ah s ++ bh s))
      have l3 := lens s
      rw [List.length_append] at l1
      have hn : numM s = ⟨dn s, rtrim0 (trim0 (ah s ++ bh s)), (if un s then -(powV 1099511627776 (pw s) : Int) else (powV 1099511627776 (pw s) : Int)) - (bh s).length + (trim0 (ah s ++ bh s)).length - (rtrim0 (trim0 (ah s ++ bh s))).length⟩ := by
        rw [numM, num5, if_neg e]
      by_cases hv : val (pw s) ≤ 1000000
      · have : refN s = numM s := by
          rw [hn, refN, powV_val, powV_val, Nat.min_eq_left hv, Nat.min_eq_left (by omega)]
          congr 1; split <;> omega
        rw [this]
      · have big : ∀ c : Nat, 1000000 ≤ c → 1000000 ≤ (powV c (pw s) : Int) := by intro c hc; rw [powV_val]; omega
        have b1 := big 1000000 (by omega)
        have b2 := big 1099511627776 (by omega)
        have r1 : rightM (refN s) = false := by
          cases hq : rightM (refN s) with
          | false => rfl
          | true =>
            have := right_parts hq h2
            have g5 := this.2.2.2.2.1; have g6 := this.2.2.2.2.2
            simp only [refN] at g5 g6
            cases hu : un s <;> rw [hu] at g5 g6 <;> simp only [if_true, if_false, Bool.false_eq_true] at g5 g6 <;> omega
        have r2 : rightM (numM s) = false := by
          cases hq : rightM (numM s) with
          | false => rfl
          | true =>
            have := right_parts hq (by rw [hn]; exact hr)
            have g5 := this.2.2.2.2.1; have g6 := this.2.2.2.2.2
            rw [hn] at g5 g6
            simp only at g5 g6
            cases hu : un s <;> rw [hu] at g5 g6 <;> simp only [if_true, if_false, Bool.false_eq_true] at g5 g6 <;> omega
        rw [r1, r2]; rfl
  · rw [if_neg ho, if_neg ho]

/-! A nought more behind the point; an exponent of one. -/
def shT (s : Bs) : Bs := if ptI s = exI s then s.take (exI s) ++ [46, 48] ++ s.drop (exI s) else s.take (exI s) ++ [48] ++ s.drop (exI s)
theorem tail_same {s t : Bs} (h : s3 t = s3 s) : ex t = ex s ∧ un t = un s ∧ pw t = pw s ∧ s6 t = s6 s := by
  have h1 : ex t = ex s := by rw [ex, ex, h]
  have h2 : s4 t = s4 s := by rw [s4, s4, h]
  have h3 : s5 t = s5 s := by rw [s5, s5, h2]
  exact ⟨h1, by rw [un, un, h1, h2], by rw [pw, pw, h1, h3], by rw [s6, s6, h1, h3, h]⟩
theorem ok_ah {s : Bs} (h : okN s = true) : ah s ≠ [] := by
  intro e
  simp only [okN, okA, Bool.and_eq_true] at h
  have := h.1.1.1
  rw [e] at this; simp at this
theorem ok_bh {s : Bs} (h : okN s = true) (g : pt s = true) : bh s ≠ [] := by
  intro e
  simp only [okN, okB, Bool.and_eq_true] at h
  have := h.1.1.2
  rw [e, g] at this; simp at this
theorem ok_s6 {s : Bs} (h : okN s = true) : s6 s = [] := by
  simp only [okN, Bool.and_eq_true, List.isEmpty_iff] at h
  exact h.2
theorem rtrim_snoc (l : Bs) : rtrim0 (l ++ [48]) = rtrim0 l := by
  simp [rtrim0, isZ]
theorem trim_snoc {l : Bs} (h : trim0 l ≠ []) : trim0 (l ++ [48]) = trim0 l ++ [48] := by
  rw [trim0, List.dropWhile_append]
  have : (List.dropWhile isZ l).isEmpty = false := by
    cases g : List.dropWhile isZ l with
    | nil => exact absurd g h
    | cons _ _ => rfl
  rw [this]; rfl
theorem num5_shift (d : Bool) (A B : Bs) (u : Bool) (p : Bs) : num5 d A (B ++ [48]) u p = num5 d A B u p := by
  unfold num5
  by_cases e : trim0 (A ++ B) = []
  · have : trim0 (A ++ (B ++ [48])) = [] := by
      have := dw_nil.1 e
      rw [← List.append_assoc]
      exact dw_nil.2 (by rw [List.all_append, this]; rfl)
    rw [if_pos e, if_pos this]
  · have h1 : trim0 (A ++ (B ++ [48])) = trim0 (A ++ B) ++ [48] := by rw [← List.append_assoc, trim_snoc e]
    rw [if_neg e, h1, if_neg (by simp), rtrim_snoc]
    congr 1
    simp only [List.length_append, List.length_cons, List.length_nil]
    split <;> omega
theorem shift_parse (s : Bs) (h : okN s = true) : parseM (shT s) = parseM s := by
  have hne := ok_ah h
  have key : shT s = sgB (dn s) ++ ah s ++ pnB (some (bh s ++ [48])) ++ s3 s := by
    unfold shT
    rw [take_exI, drop_exI, hd3]
    by_cases g : pt s = true
    · rw [if_neg (by have := (ptI_exI s).2 g; omega), pn, g]; simp [pnB]
    · simp only [Bool.not_eq_true] at g
      rw [if_pos ((ptI_exI s).1 g), pn, g, bh_none s g]; simp [pnB]
  have ball : (bh s ++ [48]).all dig = true := by rw [List.all_append, bh_all]; rfl
  obtain ⟨p1, p2, p3, p4, p5⟩ := parts1 (dn s) (ah s) (some (bh s ++ [48])) (s3 s) (ah_all s) hne (fun b hb => by cases hb; exact ball) (s3_no s) (fun e => by cases e)
  rw [← key] at p1 p2 p3 p4 p5
  obtain ⟨q1, q2, q3, q4⟩ := tail_same p5
  have hok : okN (shT s) = true := by
    have h' := h
    simp only [okN, Bool.and_eq_true] at h'
    have e1 : okA (shT s) = okA s := by rw [okA, okA, p2]
    have e2 : okC (shT s) = okC s := by rw [okC, okC, q1, q3]
    rw [okN, e1, e2, q4, h'.1.1.1, h'.1.2, h'.2, okB, p4]; simp
  have hnum : numM (shT s) = numM s := by
    rw [numM, numM, p1, p2, p4, q2, q3]
    exact num5_shift ..
  rw [parseM, parseM, hok, h, hnum]
theorem parse_ok {s : Bs} {n : Nm} (h : parseM s = (n, 0)) : okN s = true ∧ numM s = n ∧ rightM n = true := by
  unfold parseM at h
  split at h
  · split at h
    · obtain ⟨rfl, -⟩ := Prod.mk.inj h; exact ⟨by assumption, rfl, by assumption⟩
    · exact absurd (Prod.mk.inj h).2 (by decide)
  · exact absurd (Prod.mk.inj h).2 (by decide)
theorem e1_parse {s : Bs} {n : Nm} (h : parseM s = (n, 0)) (h3 : s3 s = []) (hd : n.digs ≠ []) :
    parseM (s ++ [101, 49]) = if n.exp = 999 then (Nm.zero, 13) else ({ n with exp := n.exp + 1 }, 0) := by
  obtain ⟨ho, hn, hr⟩ := parse_ok h
  have hne := ok_ah ho
  have key : s ++ [101, 49] = sgB (dn s) ++ ah s ++ pnB (pn s) ++ [101, 49] := by
    have := apart s
    rw [h3, List.append_nil] at this
    rw [← this]
  have hP : ∀ b, pn s = some b → b.all dig = true := by
    intro b hb; rw [pn] at hb; split at hb
    · cases hb; exact bh_all s
    · cases hb
  obtain ⟨p1, p2, p3, p4, p5⟩ := parts1 (dn s) (ah s) (pn s) [101, 49] (ah_all s) hne hP (by exact (by decide : dig 101 = false)) (fun _ => rfl)
  rw [← key] at p1 p2 p3 p4 p5
  obtain ⟨q1, q2, q3, q4⟩ := parts2 (s := s ++ [101, 49]) 101 [] [49] [] (by rw [p5]; rfl) (.inl rfl) (.inl rfl) (by decide) (by simp) trivial
  have hbe : bh (s ++ [101, 49]) = bh s := by
    rw [p4, pn]
    by_cases g : pt s = true
    · rw [g]; rfl
    · simp only [Bool.not_eq_true] at g; rw [g, bh_none s g]; rfl
  have hpe : pt (s ++ [101, 49]) = pt s := by rw [p3, pn]; cases pt s <;> rfl
  have hok : okN (s ++ [101, 49]) = true := by
    have h' := ho
    simp only [okN, Bool.and_eq_true] at h'
    have e1 : okA (s ++ [101, 49]) = okA s := by rw [okA, okA, p2]
    have e2 : okB (s ++ [101, 49]) = okB s := by rw [okB, okB, hpe, hbe]
    rw [okN, e1, e2, q4, h'.1.1.1, h'.1.1.2, okC, q3]; simp
  obtain ⟨z1, z2, z3, z4⟩ := parts0 (s := s) (by rw [h3]; rfl) (by rw [h3]; rfl)
  have hnum : numM (s ++ [101, 49]) = { n with exp := n.exp + 1 } := by
    rw [numM, p1, p2, hbe, q2, q3]
    rw [numM, z2, z3] at hn
    unfold num5 at hn ⊢
    by_cases e : trim0 (ah s ++ bh s) = []
    · rw [if_pos e] at hn; rw [← hn] at hd; exact absurd rfl hd
    · rw [if_neg e] at hn ⊢
      rw [← hn]
      congr 1
      have w1 : powV 1099511627776 [49] = 1 := by decide
      have w0 : powV 1099511627776 [] = 0 := rfl
      rw [w1, w0]; simp; omega
  rw [parseM, if_pos hok, hnum]
  have hp := right_parts hr hd
  have hd' : ({ n with exp := n.exp + 1 } : Nm).digs ≠ [] := hd
  by_cases g : n.exp = 999
  · rw [if_pos g]
    have : rightM { n with exp := n.exp + 1 } = false := by
      cases hq : rightM { n with exp := n.exp + 1 } with
      | false => rfl
      | true =>
        have := (right_parts hq hd').2.2.2.2.2
        simp only at this; omega
    rw [this]; rfl
  · rw [if_neg g]
    have : rightM { n with exp := n.exp + 1 } = true := by
      rw [rightM, if_neg hd']
      simp only [Bool.and_eq_true, decide_eq_true_eq]
      exact ⟨⟨⟨⟨hp.1, hp.2.1⟩, hp.2.2.1, hp.2.2.2.1⟩, by omega⟩, by omega⟩
    rw [this]; rfl

/-! A sign more. -/
theorem bad_head (x : UInt8) (s : Bs) (h1 : dig x = false) (h2 : x ≠ 45) : okN (x :: s) = false := by
  have a : dn (x :: s) = false := by simp [dn, isH, h2]
  have b : ah (x :: s) = [] := by rw [ah, s1, a]; simp [h1]
  rw [okN, okA, b]; rfl
theorem bad_tail (x : UInt8) (s : Bs) (h : okN s = true) (h1 : dig x = false) (h2 : x ≠ 46) (h3 : (x ≠ 101 ∧ x ≠ 69) ∨ x = 101) : okN (s ++ [x]) = false := by
  have hne := ok_ah h
  have h6 := ok_s6 h
  have hP : ∀ b, pn s = some b → b.all dig = true := by
    intro b hb; rw [pn] at hb; split at hb
    · cases hb; exact bh_all s
    · cases hb
  have hPn : pn s = none → pt s = false := by
    intro e; rw [pn] at e; split at e
    · cases e
    · rename_i g; simpa using g
  by_cases g : ex s = true
  · obtain ⟨e, sg, he, hsg, -, hs3⟩ := s3_ex s g
    have hpw : pw s ≠ [] := by
      intro e
      simp only [okN, okC, Bool.and_eq_true] at h
      have := h.1.2
      rw [e, g] at this; simp at this
    have key : s ++ [x] = sgB (dn s) ++ ah s ++ pnB (pn s) ++ (e :: (sg ++ pw s ++ [x])) := by
      have := apart s
      rw [hs3, h6, List.append_nil] at this
      rw [show s ++ [x] = (sgB (dn s) ++ ah s ++ pnB (pn s) ++ e :: (sg ++ pw s)) ++ [x] by rw [← this]]
      simp
    have de : dig e = false := by rcases he with rfl | rfl <;> decide
    have n46 : isH 46 (e :: (sg ++ pw s ++ [x])) = false := by rcases he with rfl | rfl <;> rfl
    obtain ⟨p1, p2, p3, p4, p5⟩ := parts1 (dn s) (ah s) (pn s) (e :: (sg ++ pw s ++ [x])) (ah_all s) hne hP de (fun _ => n46)
    rw [← key] at p1 p2 p3 p4 p5
    obtain ⟨q1, q2, q3, q4⟩ := parts2 (s := s ++ [x]) e sg (pw s) [x] p5 he hsg (pw_all s) hpw h1
    rw [okN, q4]; simp
  · simp only [Bool.not_eq_true] at g
    have hs3 : s3 s = [] := by rw [s3_nex s g, h6]
    have key : s ++ [x] = sgB (dn s) ++ ah s ++ pnB (pn s) ++ [x] := by
      have := apart s
      rw [hs3, List.append_nil] at this
      rw [← this]
    obtain ⟨p1, p2, p3, p4, p5⟩ := parts1 (dn s) (ah s) (pn s) [x] (ah_all s) hne hP h1 (fun _ => by simp [isH, h2])
    rw [← key] at p1 p2 p3 p4 p5
    rcases h3 with ⟨n1, n2⟩ | rfl
    · obtain ⟨q1, q2, q3, q4⟩ := parts0 (s := s ++ [x]) (by rw [p5]; simp [isH, n1]) (by rw [p5]; simp [isH, n2])
      rw [okN, q4, p5]; simp
    · have e1 : ex (s ++ [101]) = true := by rw [ex, p5]; rfl
      have e2 : pw (s ++ [101]) = [] := by rw [pw, e1, s5, s4, p5]; rfl
      rw [okN, okC, e1, e2]; simp

/-! As many digits as may be. -/
theorem parse_mk (A B : Bs) (P : Option Bs) (R : Bs) (u : Bool) (p : Bs) (hA : A.all dig = true) (hne : A ≠ []) (hz : isH 48 A = false) (hP : P = none ∧ B = [] ∨ P = some B ∧ B ≠ []) (hB : B.all dig = true)
    (hR : R = [] ∧ u = false ∧ p = [] ∨ (∃ sg, R = 101 :: (sg ++ p) ∧ (sg = [] ∨ sg = [45]) ∧ u = decide (sg = [45]) ∧ p ≠ [] ∧ p.all dig = true)) :
    parseM (A ++ pnB P ++ R) = if rightM (num5 false A B u p) then (num5 false A B u p, 0) else (Nm.zero, 13) := by
  have hRn : noD R := by rcases hR with ⟨rfl, -⟩ | ⟨sg, rfl, -⟩; trivial; exact (by decide : dig 101 = false)
  have hRp : isH 46 R = false := by rcases hR with ⟨rfl, -⟩ | ⟨sg, rfl, -⟩ <;> rfl
  have hPa : ∀ b, P = some b → b.all dig = true := by
    intro b hb; rcases hP with ⟨h, -⟩ | ⟨h, -⟩
    · rw [h] at hb; cases hb
    · rw [h] at hb; cases hb; exact hB
  obtain ⟨p1, p2, p3, p4, p5⟩ := parts1 false A P R hA hne hPa hRn (fun _ => hRp)
  have e0 : sgB false ++ A ++ pnB P ++ R = A ++ pnB P ++ R := rfl
  rw [e0] at p1 p2 p3 p4 p5
  generalize A ++ pnB P ++ R = s at *
  have hb : bh s = B := by rw [p4]; rcases hP with ⟨h, h'⟩ | ⟨h, -⟩ <;> rw [h]; rw [h']; rfl; rfl
  have hoB : okB s = true := by
    rw [okB, p3, hb]
    rcases hP with ⟨h, h'⟩ | ⟨h, h'⟩
    · rw [h]; rfl
    · cases B with
      | nil => exact absurd rfl h'
      | cons _ _ => simp
  have hoA : okA s = true := by
    rw [okA, p2, hz]
    cases A with
    | nil => exact absurd rfl hne
    | cons _ _ => simp
  have ht : okC s = true ∧ un s = u ∧ pw s = p ∧ s6 s = [] := by
    rcases hR with ⟨h, rfl, rfl⟩ | ⟨sg, h, hsg, rfl, hp, hpa⟩
    · obtain ⟨q1, q2, q3, q4⟩ := parts0 (s := s) (by rw [p5, h]; rfl) (by rw [p5, h]; rfl)
      exact ⟨by rw [okC, q1]; rfl, q2, q3, by rw [q4, p5, h]⟩
    · obtain ⟨q1, q2, q3, q4⟩ := parts2 (s := s) 101 sg p [] (by rw [p5, h, List.append_nil]) (.inl rfl) (by rcases hsg with h | h; exact .inl h; exact .inr (.inl h)) hpa hp trivial
      refine ⟨?_, q2, q3, q4⟩
      rw [okC, q3]
      cases p with
      | nil => exact absurd rfl hp
      | cons _ _ => simp
  obtain ⟨t1, t2, t3, t4⟩ := ht
  have hok : okN s = true := by rw [okN, hoA, hoB, t1, t4]; rfl
  rw [parseM, if_pos hok, numM, p1, p2, hb, t2, t3]
theorem num5_full (X A B : Bs) (u : Bool) (p : Bs) (hX : A ++ B = X) (hn : X ≠ []) (h1 : trim0 X = X) (h2 : rtrim0 X = X) :
    num5 false A B u p = ⟨false, X, (if u then -(powV 1099511627776 p : Int) else (powV 1099511627776 p : Int)) - B.length⟩ := by
  unfold num5
  rw [hX, h1, h2, if_neg hn]
  congr 1
  omega
theorem right_iff {n : Nm} (hd : n.digs ≠ []) (ha : n.digs.all dig = true) (h1 : rtrim0 n.digs = n.digs) (h2 : trim0 n.digs = n.digs) : rightM n = (decide (n.digs.length ≤ 40) && decide (-999 ≤ n.exp) && decide (n.exp ≤ 999)) := by
  rw [rightM, if_neg hd, ha, decide_eq_true (And.intro h1 h2)]; simp

end Go.Proofs.YtpjepdnkolbdhaaDoor
