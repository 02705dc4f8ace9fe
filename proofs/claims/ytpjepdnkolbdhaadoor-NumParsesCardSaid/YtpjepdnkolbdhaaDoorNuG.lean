/-
  Reading a number's text: the four closures, each for a part of the text. Own work.
-/
import Derived.Test.YtpjepdnkolbdhaaDoorNuF
set_option linter.unusedVariables false
set_option linter.unusedSimpArgs false
namespace Go.Proofs.YtpjepdnkolbdhaaDoor
open Go.RowKit

/-- What is left of the text stands in block q. -/
def SB (q : Nat) (l : Bs) (w : World) : Prop := w.heap[q]? = some (.cells #[.string (Sx l)] 9 (0, 0))
/-- The parts stand in block q. -/
def TX (q : Nat) (d : Bool) (A B : Bs) (u : Bool) (P : Bs) (w : World) : Prop := w.heap[q]? = some (.cells #[.bool d, .string (Sx A), .string (Sx B), .bool u, .string (Sx P)] 47 (0, 0))
/-- All but two blocks is kept. -/
structure K2 (p q : Nat) (w w' : World) : Prop where
  os : w'.os = w.os
  tape : w'.tape = w.tape
  output : w'.output = w.output
  size : w.heap.size ≤ w'.heap.size
  block : ∀ i, i < w.heap.size → i ≠ p → i ≠ q → w'.heap[i]? = w.heap[i]?
theorem K2.refl (p q : Nat) (w : World) : K2 p q w w := ⟨rfl, rfl, rfl, Nat.le_refl _, fun _ _ _ _ => rfl⟩
theorem K2.trans {p q : Nat} {a b c : World} (h : K2 p q a b) (k : K2 p q b c) : K2 p q a c :=
  ⟨k.os.trans h.os, k.tape.trans h.tape, k.output.trans h.output, Nat.le_trans h.size k.size, fun i hi h1 h2 => (k.block i (Nat.lt_of_lt_of_le hi h.size) h1 h2).trans (h.block i hi h1 h2)⟩
theorem K2.gr {p q : Nat} {a b : World} (g : Gr a b) : K2 p q a b := ⟨g.os, g.tape, g.output, g.size, fun i hi _ _ => g.block i hi (by simp)⟩
theorem K2.set {p q r : Nat} (hr : r = p ∨ r = q) (w : World) (o : Nat) (v : Value) : K2 p q w (w.setCell ⟨r, o, none⟩ v) :=
  ⟨rfl, rfl, rfl, by simp, fun i _ h1 h2 => set_other (by rcases hr with rfl | rfl; exact h1.symm; exact h2.symm) _ _⟩
theorem SB.gr {q : Nat} {l : Bs} {w w' : World} (h : SB q l w) (g : Gr w w') : SB q l w' := (g.block q (lt_of_block h) (by simp)).trans h
theorem TX.gr {q : Nat} {d : Bool} {A B : Bs} {u : Bool} {P : Bs} {w w' : World} (h : TX q d A B u P w) (g : Gr w w') : TX q d A B u P w' := (g.block q (lt_of_block h) (by simp)).trans h
theorem SB.set {q : Nat} {l : Bs} {w : World} (h : SB q l w) (m : Bs) : SB q m (w.setCell ⟨q, 0, none⟩ (.string (Sx m))) := by
  have := set_cell h 0 (.string (Sx m)); simpa [SB] using this
theorem SB.other {q r : Nat} {l : Bs} {w : World} (h : SB q l w) (hne : r ≠ q) (o : Nat) (v : Value) : SB q l (w.setCell ⟨r, o, none⟩ v) := (set_other hne o v).trans h
theorem TX.other {q r : Nat} {d : Bool} {A B : Bs} {u : Bool} {P : Bs} {w : World} (h : TX q d A B u P w) (hne : r ≠ q) (o : Nat) (v : Value) : TX q d A B u P (w.setCell ⟨r, o, none⟩ v) := (set_other hne o v).trans h
theorem TX.set0 {q : Nat} {d : Bool} {A B : Bs} {u : Bool} {P : Bs} {w : World} (h : TX q d A B u P w) (x : Bool) : TX q x A B u P (w.setCell ⟨q, 0, none⟩ (.bool x)) := by
  have := set_cell h 0 (.bool x); simpa [TX] using this
theorem TX.set1 {q : Nat} {d : Bool} {A B : Bs} {u : Bool} {P : Bs} {w : World} (h : TX q d A B u P w) (x : Bs) : TX q d x B u P (w.setCell ⟨q, 1, none⟩ (.string (Sx x))) := by
  have := set_cell h 1 (.string (Sx x)); simpa [TX] using this
theorem TX.set2 {q : Nat} {d : Bool} {A B : Bs} {u : Bool} {P : Bs} {w : World} (h : TX q d A B u P w) (x : Bs) : TX q d A x u P (w.setCell ⟨q, 2, none⟩ (.string (Sx x))) := by
  have := set_cell h 2 (.string (Sx x)); simpa [TX] using this
theorem TX.set3 {q : Nat} {d : Bool} {A B : Bs} {u : Bool} {P : Bs} {w : World} (h : TX q d A B u P w) (x : Bool) : TX q d A B x P (w.setCell ⟨q, 3, none⟩ (.bool x)) := by
  have := set_cell h 3 (.bool x); simpa [TX] using this
theorem TX.set4 {q : Nat} {d : Bool} {A B : Bs} {u : Bool} {P : Bs} {w : World} (h : TX q d A B u P w) (x : Bs) : TX q d A B u x (w.setCell ⟨q, 4, none⟩ (.string (Sx x))) := by
  have := set_cell h 4 (.string (Sx x)); simpa [TX] using this
theorem SB.cell {q : Nat} {l : Bs} {w : World} (h : SB q l w) : w.cell? ⟨q, 0, none⟩ = some (.string (Sx l)) ∧ w.frozen? ⟨q, 0, none⟩ = false := by
  unfold SB at h; constructor <;> simp [World.cell?, World.frozen?, h]
theorem TX.cells {q : Nat} {d : Bool} {A B : Bs} {u : Bool} {P : Bs} {w : World} (h : TX q d A B u P w) :
    (w.cell? ⟨q, 0, none⟩ = some (.bool d) ∧ w.cell? ⟨q, 1, none⟩ = some (.string (Sx A)) ∧ w.cell? ⟨q, 2, none⟩ = some (.string (Sx B)) ∧ w.cell? ⟨q, 3, none⟩ = some (.bool u) ∧ w.cell? ⟨q, 4, none⟩ = some (.string (Sx P))) ∧
    w.frozen? ⟨q, 0, none⟩ = false ∧ w.frozen? ⟨q, 1, none⟩ = false ∧ w.frozen? ⟨q, 2, none⟩ = false ∧ w.frozen? ⟨q, 3, none⟩ = false ∧ w.frozen? ⟨q, 4, none⟩ = false := by
  unfold TX at h
  refine ⟨⟨?_, ?_, ?_, ?_, ?_⟩, ?_, ?_, ?_, ?_, ?_⟩ <;> simp [World.cell?, World.frozen?, h]

set_option maxHeartbeats 1000000 in
theorem part1 (qs qt : Nat) (hne : qs ≠ qt) (l : Bs) (d : Bool) (A B : Bs) (u : Bool) (P : Bs) (w : World) (hs : SB qs l w) (ht : TX qt d A B u P w) (hl : l.length ≤ 1000000) :
    Calls Tryd.prog 34 #[.pointer (some ⟨qs, 0, none⟩), .pointer (some ⟨qt, 0, none⟩)] w fun r w' => r = .returned (.bool true) ∧ SB qs (s1 l) w' ∧ TX qt (dn l) A B u P w' ∧ K2 qs qt w w' := by
  have K := cut_any 45 l w (by omega)
  rw [show (if isH 45 l = true then l.tail else l) = s1 l from rfl, show isH 45 l = dn l from rfl] at K
  obtain ⟨c0, f0⟩ := hs.cell
  obtain ⟨-, g0, -, -, -, -⟩ := ht.cells
  have HS := Lib.hid hs
  have HT := Lib.hid ht
  have HN := Lib.hid hne
  generalize s1 l = m at *
  generalize dn l = b at *
  obtain ⟨⟨x0, -⟩, y0, -⟩ := (ht.other hne 0 (.string (Sx m))).cells
  clear hs ht hne
  go_enter Tryd.func34, Tryd.ntmps34
  go_wp2_with (go_at_call 35; ((with_reducible refine K.mono ?_); rintro r w3 ⟨rfl, rfl⟩))
  go_ret
  exact ⟨rfl, (HS.out.set m).other HN.out.symm _ _, (HT.out.other HN.out _ _).set0 b, (K2.set (.inl rfl) _ _ _).trans (K2.set (.inr rfl) _ _ _)⟩

set_option maxHeartbeats 2000000 in
theorem part2 (qs qt : Nat) (hne : qs ≠ qt) (l : Bs) (d : Bool) (A B : Bs) (u : Bool) (P : Bs) (w : World) (hs : SB qs l w) (ht : TX qt d A B u P w) (hl : l.length ≤ 1000000) :
    Calls Tryd.prog 36 #[.pointer (some ⟨qs, 0, none⟩), .pointer (some ⟨qt, 0, none⟩)] w fun r w' => r = .returned (.bool ((l.takeWhile dig == [48]) || (!(l.takeWhile dig).isEmpty && !isH 48 (l.takeWhile dig)))) ∧ SB qs (l.dropWhile dig) w' ∧ TX qt d (l.takeWhile dig) B u P w' ∧ K2 qs qt w w' := by
  have K := cutD_any l w (by omega)
  obtain ⟨c0, f0⟩ := hs.cell
  have q1 : ((Sx (l.takeWhile dig)).toList == [48]) = (l.takeWhile dig == [48]) := by rw [Sx_toList]
  have q2 : (Sx (l.takeWhile dig)).toList.isEmpty = (l.takeWhile dig).isEmpty := by rw [Sx_toList]
  have KH := Lib.hid (fun w' => Tryd.hasPrefix (Sx (l.takeWhile dig)) ⟨#[48]⟩ w')
  rw [show ∀ x : Bs, Lib.hasPrefix (Sx x).data.toList (⟨#[48]⟩ : ByteArray).data.toList = isH 48 x from fun x => isH_prefix 48 x] at KH
  have HN := Lib.hid hne
  have HC := Lib.hid (fun (w3 : World) (g : Gr w w3) => And.intro (hs.gr g).cell (And.intro (ht.gr g).cells ((((ht.gr g).set1 (l.takeWhile dig)).other hne 0 (.string (Sx (l.dropWhile dig)))).cells.1)))
  have HE := Lib.hid (fun (w3 : World) (g : Gr w w3) => And.intro (((hs.gr g).other hne.symm 1 (.string (Sx (l.takeWhile dig)))).set (l.dropWhile dig)) (And.intro (((ht.gr g).set1 (l.takeWhile dig)).other hne 0 (.string (Sx (l.dropWhile dig)))) ((K2.gr (p := qs) (q := qt) g).trans ((K2.set (.inr rfl) w3 1 (.string (Sx (l.takeWhile dig)))).trans (K2.set (.inl rfl) _ 0 (.string (Sx (l.dropWhile dig))))))))
  have HF := Lib.hid (fun (w3 : World) (g : Gr w w3) => ((hs.gr g).other hne.symm 1 (.string (Sx (l.takeWhile dig)))).cell)
  clear hs ht hne
  generalize l.takeWhile dig = a at *
  generalize l.dropWhile dig = m at *
  generalize hb1 : (a == [48]) = b1 at *
  generalize hb2 : a.isEmpty = b2 at *
  generalize isH 48 a = b3 at *
  have HB1 := Lib.hid hb1
  clear hb1 hb2
  cases b1 <;> cases b2 <;> cases b3
  all_goals
    go_enter Tryd.func36, Tryd.ntmps36
    go_wp2_with (first
      | (go_at_call 37; ((with_reducible refine K.mono ?_); rintro r w3 ⟨rfl, hg⟩); have HG := Lib.hid hg; clear hg; obtain ⟨⟨y0, y1⟩, ⟨⟨z0, z1, z2, z3, z4⟩, g0, g1, g2, g3, g4⟩, ⟨x0, x1, x2, x3, x4⟩⟩ := HC.out _ HG.out; obtain ⟨v0, v1⟩ := HF.out _ HG.out)
      | (go_at_call 38; ((with_reducible refine (KH.out _).mono ?_); rintro r w4 ⟨rfl, rfl⟩)))
    go_ret
    obtain ⟨e1, e2, e3⟩ := HE.out _ HG.out
    exact ⟨rfl, e1, e2, e3⟩

set_option maxHeartbeats 2000000 in
theorem part3 (qs qt : Nat) (hne : qs ≠ qt) (l : Bs) (d : Bool) (A B : Bs) (u : Bool) (P : Bs) (w : World) (hs : SB qs l w) (ht : TX qt d A B u P w) (hl : l.length ≤ 1000000) :
    Calls Tryd.prog 39 #[.pointer (some ⟨qs, 0, none⟩), .pointer (some ⟨qt, 0, none⟩)] w fun r w' =>
      r = .returned (.bool (if isH 46 l then !(l.tail.takeWhile dig).isEmpty else true)) ∧ SB qs (if isH 46 l then l.tail.dropWhile dig else l) w' ∧ TX qt d A (if isH 46 l then l.tail.takeWhile dig else B) u P w' ∧ K2 qs qt w w' := by
  have K := cut_any 46 l w (by omega)
  have KD := Lib.hid (cutD_any l.tail · (by simp; omega))
  obtain ⟨c0, f0⟩ := hs.cell
  cases hp : isH 46 l with
  | false =>
    rw [hp] at K
    simp only [if_false, Bool.false_eq_true] at K ⊢
    have HS := Lib.hid hs
    have HT := Lib.hid ht
    clear hs ht hne
    go_enter Tryd.func39, Tryd.ntmps39
    go_wp2_with (go_at_call 35; ((with_reducible refine K.mono ?_); rintro r w3 ⟨rfl, rfl⟩))
    go_ret
    exact ⟨rfl, HS.out, HT.out, K2.refl _ _ _⟩
  | true =>
    rw [hp] at K
    simp only [if_true] at K ⊢
    have q2 : (Sx (l.tail.takeWhile dig)).toList.isEmpty = (l.tail.takeWhile dig).isEmpty := by rw [Sx_toList]
    have HC := Lib.hid (fun (w3 : World) (g : Gr w w3) => And.intro (hs.gr g).cell (And.intro (ht.gr g).cells ((((ht.gr g).set2 (l.tail.takeWhile dig)).other hne 0 (.string (Sx (l.tail.dropWhile dig)))).cells.1)))
    have HE := Lib.hid (fun (w3 : World) (g : Gr w w3) => And.intro (((hs.gr g).other hne.symm 2 (.string (Sx (l.tail.takeWhile dig)))).set (l.tail.dropWhile dig)) (And.intro (((ht.gr g).set2 (l.tail.takeWhile dig)).other hne 0 (.string (Sx (l.tail.dropWhile dig)))) ((K2.gr (p := qs) (q := qt) g).trans ((K2.set (.inr rfl) w3 2 (.string (Sx (l.tail.takeWhile dig)))).trans (K2.set (.inl rfl) _ 0 (.string (Sx (l.tail.dropWhile dig))))))))
    have HF := Lib.hid (fun (w3 : World) (g : Gr w w3) => ((hs.gr g).other hne.symm 2 (.string (Sx (l.tail.takeWhile dig)))).cell)
    clear hs ht hne hp
    generalize l.tail.takeWhile dig = a at *
    generalize l.tail.dropWhile dig = m at *
    generalize l.tail = lt at *
    generalize a.isEmpty = b2 at *
    go_enter Tryd.func39, Tryd.ntmps39
    go_wp2_with (first
      | (go_at_call 35; ((with_reducible refine K.mono ?_); rintro r w2 ⟨rfl, rfl⟩))
      | (go_at_call 37; ((with_reducible refine (KD.out _).mono ?_); rintro r w3 ⟨rfl, hg⟩); have HG := Lib.hid hg; clear hg; obtain ⟨⟨y0, y1⟩, ⟨⟨z0, z1, z2, z3, z4⟩, g0, g1, g2, g3, g4⟩, ⟨x0, x1, x2, x3, x4⟩⟩ := HC.out _ HG.out; obtain ⟨v0, v1⟩ := HF.out _ HG.out))
    go_ret
    obtain ⟨e1, e2, e3⟩ := HE.out _ HG.out
    exact ⟨rfl, e1, e2, e3⟩

def l5 (l : Bs) : Bs := if isH 45 l.tail || isH 43 l.tail then l.tail.tail else l.tail
set_option maxHeartbeats 4000000 in
theorem part4 (qs qt : Nat) (hne : qs ≠ qt) (l : Bs) (d : Bool) (A B : Bs) (u : Bool) (P : Bs) (w : World) (hs : SB qs l w) (ht : TX qt d A B u P w) (hl : l.length ≤ 1000000) :
    Calls Tryd.prog 40 #[.pointer (some ⟨qs, 0, none⟩), .pointer (some ⟨qt, 0, none⟩)] w fun r w' =>
      r = .returned (.bool (if isH 101 l || isH 69 l then !((l5 l).takeWhile dig).isEmpty else true)) ∧ SB qs (if isH 101 l || isH 69 l then (l5 l).dropWhile dig else l) w' ∧
      TX qt d A B (if isH 101 l || isH 69 l then isH 45 l.tail else u) (if isH 101 l || isH 69 l then (l5 l).takeWhile dig else P) w' ∧ K2 qs qt w w' := by
  have K := cutE_any 101 69 l w (by omega)
  obtain ⟨c0, f0⟩ := hs.cell
  cases hp : (isH 101 l || isH 69 l) with
  | false =>
    have hce : cutE 101 69 l = l := by
      simp only [Bool.or_eq_false_iff] at hp
      rw [cutE, hp.1, hp.2]; rfl
    rw [hp, hce] at K
    simp only [if_false, Bool.false_eq_true]
    have HS := Lib.hid hs
    have HT := Lib.hid ht
    clear hs ht hne
    go_enter Tryd.func40, Tryd.ntmps40
    go_wp2_with (go_at_call 41; ((with_reducible refine K.mono ?_); rintro r w3 ⟨rfl, rfl⟩))
    go_ret
    exact ⟨rfl, HS.out, HT.out, K2.refl _ _ _⟩
  | true =>
    have hce : cutE 101 69 l = l.tail := by
      simp only [Bool.or_eq_true] at hp
      rw [cutE]
      rcases hp with h | h
      · rw [if_pos h]
      · rw [if_pos h]; split <;> rfl
    rw [hp, hce] at K
    simp only [if_true]
    have hlt : l.tail.length ≤ 1000000 := by simp; omega
    have KC := cut_any 45 l.tail w (by omega)
    have KD := Lib.hid (fun w' => cutD_any (l5 l) w' (by unfold l5; split <;> simp <;> omega))
    have KT := Lib.hid (fun w' => Tryd.trimPrefix (Sx l.tail) ⟨#[43]⟩ w')
    rw [show ∀ x : Bs, Lib.trimPrefix (Sx x).data.toList (⟨#[43]⟩ : ByteArray).data.toList = if isH 43 x then x.tail else x from fun x => trimP 43 x] at KT
    change Hid (∀ w', Calls _ _ _ w' fun e w'_1 => e = .returned (.string (Sx (if isH 43 l.tail then l.tail.tail else l.tail))) ∧ _) at KT
    have hx : (isH 45 l.tail = true → l5 l = if isH 45 l.tail then l.tail.tail else l.tail) ∧ (isH 45 l.tail = false → l5 l = if isH 43 l.tail then l.tail.tail else l.tail) := by
      unfold l5
      constructor <;> intro h <;> rw [h] <;> simp
    have q2 : (Sx ((l5 l).takeWhile dig)).toList.isEmpty = ((l5 l).takeWhile dig).isEmpty := by rw [Sx_toList]
    cases h45 : isH 45 l.tail with
    | true =>
      have hx := hx.1 h45
      rw [h45] at KC hx
      simp only [if_true] at KC hx
      rw [← hx] at KC
      have HG1 := Lib.hid (And.intro ht.cells (And.intro ((hs.other hne.symm 3 (.bool true))).cell (ht.set3 true).cells))
      have HC := Lib.hid (fun (w3 : World) (g : Gr (w.setCell ⟨qt, 3, none⟩ (.bool true)) w3) => And.intro ((hs.other hne.symm 3 (.bool true)).gr g).cell (And.intro ((ht.set3 true).gr g).cells (((((ht.set3 true).gr g).set4 ((l5 l).takeWhile dig)).other hne 0 (.string (Sx ((l5 l).dropWhile dig)))).cells.1)))
      have HE := Lib.hid (fun (w3 : World) (g : Gr (w.setCell ⟨qt, 3, none⟩ (.bool true)) w3) => And.intro ((((hs.other hne.symm 3 (.bool true)).gr g).other hne.symm 4 (.string (Sx ((l5 l).takeWhile dig)))).set ((l5 l).dropWhile dig)) (And.intro ((((ht.set3 true).gr g).set4 ((l5 l).takeWhile dig)).other hne 0 (.string (Sx ((l5 l).dropWhile dig)))) ((K2.set (p := qs) (q := qt) (.inr rfl) w 3 (.bool true)).trans ((K2.gr (p := qs) (q := qt) g).trans ((K2.set (.inr rfl) w3 4 (.string (Sx ((l5 l).takeWhile dig)))).trans (K2.set (.inl rfl) _ 0 (.string (Sx ((l5 l).dropWhile dig)))))))))
      have HF := Lib.hid (fun (w3 : World) (g : Gr (w.setCell ⟨qt, 3, none⟩ (.bool true)) w3) => (((hs.other hne.symm 3 (.bool true)).gr g).other hne.symm 4 (.string (Sx ((l5 l).takeWhile dig)))).cell)
      clear hs ht hne hx h45 hce hp KT
      generalize (l5 l).takeWhile dig = a at *
      generalize (l5 l).dropWhile dig = m at *
      generalize l5 l = ll at *
      generalize l.tail = lt at *
      generalize a.isEmpty = b2 at *
      obtain ⟨⟨⟨p0, p1, p2, p3, p4⟩, p5, p6, p7, p8, p9⟩, ⟨r0, r1⟩, ⟨⟨s0, s1, s2, s3, s4⟩, s5, s6, s7, s8, s9⟩⟩ := HG1.out
      go_enter Tryd.func40, Tryd.ntmps40
      go_wp2_with (first
        | (go_at_call 41; ((with_reducible refine K.mono ?_); rintro r w2 ⟨rfl, rfl⟩))
        | (go_at_call 35; ((with_reducible refine KC.mono ?_); rintro r w2 ⟨rfl, rfl⟩))
        | (go_at_call 37; ((with_reducible refine (KD.out _).mono ?_); rintro r w3 ⟨rfl, hg⟩); have HG := Lib.hid hg; clear hg; obtain ⟨⟨y0, y1⟩, ⟨⟨z0, z1, z2, z3, z4⟩, g0, g1, g2, g3, g4⟩, ⟨x0, x1, x2, x3, x4⟩⟩ := HC.out _ HG.out; obtain ⟨v0, v1⟩ := HF.out _ HG.out))
      go_ret
      obtain ⟨e1, e2, e3⟩ := HE.out _ HG.out
      exact ⟨rfl, e1, e2, e3⟩
    | false =>
      have hx := hx.2 h45
      rw [h45] at KC
      simp only [if_false, Bool.false_eq_true] at KC
      rw [← hx] at KT
      have HG1 := Lib.hid (And.intro ht.cells (And.intro ((hs.other hne.symm 3 (.bool false))).cell (ht.set3 false).cells))
      have HC := Lib.hid (fun (w3 : World) (g : Gr (w.setCell ⟨qt, 3, none⟩ (.bool false)) w3) => And.intro ((hs.other hne.symm 3 (.bool false)).gr g).cell (And.intro ((ht.set3 false).gr g).cells (((((ht.set3 false).gr g).set4 ((l5 l).takeWhile dig)).other hne 0 (.string (Sx ((l5 l).dropWhile dig)))).cells.1)))
      have HE := Lib.hid (fun (w3 : World) (g : Gr (w.setCell ⟨qt, 3, none⟩ (.bool false)) w3) => And.intro ((((hs.other hne.symm 3 (.bool false)).gr g).other hne.symm 4 (.string (Sx ((l5 l).takeWhile dig)))).set ((l5 l).dropWhile dig)) (And.intro ((((ht.set3 false).gr g).set4 ((l5 l).takeWhile dig)).other hne 0 (.string (Sx ((l5 l).dropWhile dig)))) ((K2.set (p := qs) (q := qt) (.inr rfl) w 3 (.bool false)).trans ((K2.gr (p := qs) (q := qt) g).trans ((K2.set (.inr rfl) w3 4 (.string (Sx ((l5 l).takeWhile dig)))).trans (K2.set (.inl rfl) _ 0 (.string (Sx ((l5 l).dropWhile dig)))))))))
      have HF := Lib.hid (fun (w3 : World) (g : Gr (w.setCell ⟨qt, 3, none⟩ (.bool false)) w3) => (((hs.other hne.symm 3 (.bool false)).gr g).other hne.symm 4 (.string (Sx ((l5 l).takeWhile dig)))).cell)
      clear hs ht hne hx h45 hce hp
      generalize (l5 l).takeWhile dig = a at *
      generalize (l5 l).dropWhile dig = m at *
      generalize l5 l = ll at *
      generalize l.tail = lt at *
      generalize a.isEmpty = b2 at *
      obtain ⟨⟨⟨p0, p1, p2, p3, p4⟩, p5, p6, p7, p8, p9⟩, ⟨r0, r1⟩, ⟨⟨s0, s1, s2, s3, s4⟩, s5, s6, s7, s8, s9⟩⟩ := HG1.out
      go_enter Tryd.func40, Tryd.ntmps40
      go_wp2_with (first
        | (go_at_call 41; ((with_reducible refine K.mono ?_); rintro r w2 ⟨rfl, rfl⟩))
        | (go_at_call 35; ((with_reducible refine KC.mono ?_); rintro r w2 ⟨rfl, rfl⟩))
        | (go_at_call 42; ((with_reducible refine (KT.out _).mono ?_); rintro r w2 ⟨rfl, rfl⟩))
        | (go_at_call 37; ((with_reducible refine (KD.out _).mono ?_); rintro r w3 ⟨rfl, hg⟩); have HG := Lib.hid hg; clear hg; obtain ⟨⟨y0, y1⟩, ⟨⟨z0, z1, z2, z3, z4⟩, g0, g1, g2, g3, g4⟩, ⟨x0, x1, x2, x3, x4⟩⟩ := HC.out _ HG.out; obtain ⟨v0, v1⟩ := HF.out _ HG.out))
      go_ret
      obtain ⟨e1, e2, e3⟩ := HE.out _ HG.out
      exact ⟨rfl, e1, e2, e3⟩

end Go.Proofs.YtpjepdnkolbdhaaDoor
