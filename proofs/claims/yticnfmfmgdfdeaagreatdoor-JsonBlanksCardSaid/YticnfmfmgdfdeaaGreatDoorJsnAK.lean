/-
  The power that digits tell: the code's loop over a text's bytes. Own work.
-/
import Derived.Test.YticnfmfmgdfdeaaGreatDoorJsnAJ
import Derived.Lib.ConvBytes

set_option linter.unusedVariables false
set_option linter.unusedSimpArgs false
namespace Go.Proofs.YticnfmfmgdfdeaaGreatDoor
open Go.RowKit

theorem conv_str (l : Bs) (w : World) : ∃ W cap, (convert 9 48 (.string (Sx l))).run Tryz.prog w = .ok (.slice (some ⟨w.heap.size, 0, none⟩) l.length cap) W ∧ w.grownBy W none ∧ ∀ j, j < l.length → W.cell? ⟨w.heap.size, j, none⟩ = some (.int .u8 ((l.getD j 0).toNat : Int)) := by
  refine ⟨_, _, Lib.run_convert_string_bytes (P := Tryz.prog) w 9 48 5 (Sx l) Tryz.underlying9 Tryz.underlying48 Tryz.underlying5, ?_, ?_⟩
  · refine gof (Lib.below_freeze ((Below.drew (Below.refl _ w)).alloc (Nat.le_refl _) _) (p := ⟨w.heap.size, _, none⟩) (Nat.le_refl _) 1) none
  · intro j h
    have := Lib.bytesWorld_cell w 5 (Sx l) j h
    rw [this, Sx_data]

theorem dig_bd {b : UInt8} (h : dig b = true) : 48 ≤ b.toNat ∧ b.toNat ≤ 57 := by
  simp only [dig, Bool.and_eq_true, decide_eq_true_eq] at h; exact h
theorem powV_take (c : Nat) (l : Bs) (k : Nat) (h : k < l.length) : powV c (l.take (k + 1)) = min (10 * powV c (l.take k) + ((l.getD k 0).toNat - 48)) c := by
  have e : l.getD k 0 = l[k] := by rw [List.getD_eq_getElem?_getD, List.getElem?_eq_getElem h]; rfl
  rw [e]
  rw [List.take_succ_eq_append_getElem h, powV_snoc]
theorem dig_at {l : Bs} (hd : l.all dig = true) (k : Nat) (h : k < l.length) : 48 ≤ (l.getD k 0).toNat ∧ (l.getD k 0).toNat ≤ 57 := by
  have e : l.getD k 0 = l[k] := by rw [List.getD_eq_getElem?_getD, List.getElem?_eq_getElem h]; rfl
  rw [e]; exact dig_bd (List.all_eq_true.1 hd l[k] (List.getElem_mem h))
theorem powV_le (c : Nat) (l : Bs) : powV c l ≤ c := by
  rw [powV_val]; exact Nat.min_le_right _ _

set_option maxHeartbeats 1000000 in
theorem power_any (l : Bs) (w : World) (hd : l.all dig = true) (hl : l.length ≤ 1000000) :
    Calls Tryz.prog 187 #[.string (Sx l)] w fun r w' => r = .returned (.int .i64 (powV 1099511627776 l : Int)) ∧ w.grownBy w' none := by
  obtain ⟨W, cap, hcv, hg, hc⟩ := conv_str l w
  have HG := Lib.hid hg
  have HC := Lib.hid hc
  have HP := Lib.hid (fun k => powV_take 1099511627776 l k)
  have HD := Lib.hid (fun (k : Nat) (h : k < l.length) => dig_at hd k h)
  have HF := Lib.hid (show powV 1099511627776 l = powV 1099511627776 (l.take l.length) by rw [List.take_length])
  have HL := Lib.hid (powV_le 1099511627776)
  clear hg hc hd
  generalize hn : l.length = n at *
  have HN := Lib.hid hn
  clear hn
  generalize Sx l = B at *
  go_enter Tryz.func187, Tryz.ntmps187
  go_wp2
  go_loop [3, 9] (fun x i => ∃ (k X : Nat), k ≤ n ∧ i = .int .i64 k ∧ x = .int .i64 X ∧ X = powV 1099511627776 (l.take k)) (fun _ i => n - (intOf i).toNat)
  case atStart => exact ⟨0, 0, Nat.zero_le _, rfl, rfl, rfl⟩
  case round =>
    obtain ⟨k, X, hk, rfl, rfl, hX⟩ := hrel
    have hX1 : X ≤ 1099511627776 := by rw [hX]; exact HL.out _
    have HX := Lib.hid hX
    clear hX
    by_cases hlt : k < n
    · have hki : (k : Int) < (n : Int) := by omega
      have hcell := HC.out k hlt
      have hb := HD.out k hlt
      have hs := HP.out k hlt
      rw [← HX.out] at hs
      have HS := Lib.hid hs
      clear hs
      generalize (l.getD k 0).toNat = c at *
      obtain ⟨hb1, hb2⟩ := hb
      go_wp2
      go_round
      case rel =>
        refine ⟨k + 1, min (10 * X + (c - 48)) 1099511627776, by omega, by go_num, ?_, HS.out.symm⟩
        exact congrArg (Value.int .i64) (by omega)
      case measure => simp [intOf]; omega
    · obtain rfl : k = n := by omega
      go_wp2
      go_ret
      exact ⟨by rw [HX.out]; exact ret_int (by rw [HF.out]), HG.out⟩

end Go.Proofs.YticnfmfmgdfdeaaGreatDoor

namespace Go.Proofs.YticnfmfmgdfdeaaGreatDoor
open Go.RowKit

/-- What is left of the text stands in block q. -/
def SB (q : Nat) (l : Bs) (w : World) : Prop := w.heap[q]? = some (.cells #[.string (Sx l)] 9 (0, 0))
/-- The parts stand in block q. -/
def TX (q : Nat) (d : Bool) (A B : Bs) (u : Bool) (P : Bs) (w : World) : Prop := w.heap[q]? = some (.cells #[.bool d, .string (Sx A), .string (Sx B), .bool u, .string (Sx P)] 180 (0, 0))
/-- All but two blocks is kept. -/
structure K2 (p q : Nat) (w w' : World) : Prop where
  os : w'.os = w.os
  tape : w'.tape = w.tape
  output : w'.output = w.output
  size : w.heap.size ≤ w'.heap.size
  block : ∀ i, i < w.heap.size → i ≠ p → i ≠ q → w'.heap[i]? = w.heap[i]?
theorem K2.refl (p q : Nat) (w : World) : K2 p q w w := ⟨rfl, rfl, rfl, Nat.le_refl _, fun _ _ _ _ => rfl⟩
theorem K2.trans {p q : Nat} {a b c : World} (h : K2 p q a b) (k : K2 p q b c) : K2 p q a c :=
  ⟨k.os.trans h.os, k.tape.trans h.tape, k.output.trans h.output, Nat.le_trans h.size k.size, fun i hi h1 h2 => (k.block i (Nat.lt_of_lt_of_le hi h.size) h1 h2).trans (h.block i hi h1 h2)⟩
theorem K2.gr {p q : Nat} {a b : World} (g : Gr a b) : K2 p q a b := ⟨g.os, g.tape, g.output, g.size, fun i hi _ _ => g.block i hi (by simp)⟩
theorem K2.set {p q r : Nat} (hr : r = p ∨ r = q) (w : World) (o : Nat) (v : Value) : K2 p q w (w.setCell ⟨r, o, none⟩ v) :=
  ⟨rfl, rfl, rfl, by simp, fun i _ h1 h2 => set_other (by rcases hr with rfl | rfl; exact h1.symm; exact h2.symm) _ _⟩
theorem SB.gr {q : Nat} {l : Bs} {w w' : World} (h : SB q l w) (g : Gr w w') : SB q l w' := (g.block q (lt_of_block h) (by simp)).trans h
theorem TX.gr {q : Nat} {d : Bool} {A B : Bs} {u : Bool} {P : Bs} {w w' : World} (h : TX q d A B u P w) (g : Gr w w') : TX q d A B u P w' := (g.block q (lt_of_block h) (by simp)).trans h
theorem SB.set {q : Nat} {l : Bs} {w : World} (h : SB q l w) (m : Bs) : SB q m (w.setCell ⟨q, 0, none⟩ (.string (Sx m))) := by
  have := set_cell h 0 (.string (Sx m)); simpa [SB] using this
theorem SB.other {q r : Nat} {l : Bs} {w : World} (h : SB q l w) (hne : r ≠ q) (o : Nat) (v : Value) : SB q l (w.setCell ⟨r, o, none⟩ v) := (set_other hne o v).trans h
theorem TX.other {q r : Nat} {d : Bool} {A B : Bs} {u : Bool} {P : Bs} {w : World} (h : TX q d A B u P w) (hne : r ≠ q) (o : Nat) (v : Value) : TX q d A B u P (w.setCell ⟨r, o, none⟩ v) := (set_other hne o v).trans h
theorem TX.set0 {q : Nat} {d : Bool} {A B : Bs} {u : Bool} {P : Bs} {w : World} (h : TX q d A B u P w) (x : Bool) : TX q x A B u P (w.setCell ⟨q, 0, none⟩ (.bool x)) := by
  have := set_cell h 0 (.bool x); simpa [TX] using this
theorem TX.set1 {q : Nat} {d : Bool} {A B : Bs} {u : Bool} {P : Bs} {w : World} (h : TX q d A B u P w) (x : Bs) : TX q d x B u P (w.setCell ⟨q, 1, none⟩ (.string (Sx x))) := by
  have := set_cell h 1 (.string (Sx x)); simpa [TX] using this
theorem TX.set2 {q : Nat} {d : Bool} {A B : Bs} {u : Bool} {P : Bs} {w : World} (h : TX q d A B u P w) (x : Bs) : TX q d A x u P (w.setCell ⟨q, 2, none⟩ (.string (Sx x))) := by
  have := set_cell h 2 (.string (Sx x)); simpa [TX] using this
theorem TX.set3 {q : Nat} {d : Bool} {A B : Bs} {u : Bool} {P : Bs} {w : World} (h : TX q d A B u P w) (x : Bool) : TX q d A B x P (w.setCell ⟨q, 3, none⟩ (.bool x)) := by
  have := set_cell h 3 (.bool x); simpa [TX] using this
theorem TX.set4 {q : Nat} {d : Bool} {A B : Bs} {u : Bool} {P : Bs} {w : World} (h : TX q d A B u P w) (x : Bs) : TX q d A B u x (w.setCell ⟨q, 4, none⟩ (.string (Sx x))) := by
  have := set_cell h 4 (.string (Sx x)); simpa [TX] using this
theorem SB.cell {q : Nat} {l : Bs} {w : World} (h : SB q l w) : w.cell? ⟨q, 0, none⟩ = some (.string (Sx l)) ∧ w.frozen? ⟨q, 0, none⟩ = false := by
  unfold SB at h; constructor <;> simp [World.cell?, World.frozen?, h]
theorem TX.cells {q : Nat} {d : Bool} {A B : Bs} {u : Bool} {P : Bs} {w : World} (h : TX q d A B u P w) :
    (w.cell? ⟨q, 0, none⟩ = some (.bool d) ∧ w.cell? ⟨q, 1, none⟩ = some (.string (Sx A)) ∧ w.cell? ⟨q, 2, none⟩ = some (.string (Sx B)) ∧ w.cell? ⟨q, 3, none⟩ = some (.bool u) ∧ w.cell? ⟨q, 4, none⟩ = some (.string (Sx P))) ∧
    w.frozen? ⟨q, 0, none⟩ = false ∧ w.frozen? ⟨q, 1, none⟩ = false ∧ w.frozen? ⟨q, 2, none⟩ = false ∧ w.frozen? ⟨q, 3, none⟩ = false ∧ w.frozen? ⟨q, 4, none⟩ = false := by
  unfold TX at h
  refine ⟨⟨?_, ?_, ?_, ?_, ?_⟩, ?_, ?_, ?_, ?_, ?_⟩ <;> simp [World.cell?, World.frozen?, h]

set_option maxHeartbeats 1000000 in
theorem part1 (qs qt : Nat) (hne : qs ≠ qt) (l : Bs) (d : Bool) (A B : Bs) (u : Bool) (P : Bs) (w : World) (hs : SB qs l w) (ht : TX qt d A B u P w) (hl : l.length ≤ 1000000) :
    Calls Tryz.prog 180 #[.pointer (some ⟨qs, 0, none⟩), .pointer (some ⟨qt, 0, none⟩)] w fun r w' => r = .returned (.bool true) ∧ SB qs (s1 l) w' ∧ TX qt (dn l) A B u P w' ∧ K2 qs qt w w' := by
  have K := cut_any 45 l w (by omega)
  rw [show (if isH 45 l = true then l.tail else l) = s1 l from rfl, show isH 45 l = dn l from rfl] at K
  obtain ⟨c0, f0⟩ := hs.cell
  obtain ⟨-, g0, -, -, -, -⟩ := ht.cells
  have HS := Lib.hid hs
  have HT := Lib.hid ht
  have HN := Lib.hid hne
  generalize s1 l = m at *
  generalize dn l = b at *
  obtain ⟨⟨x0, -⟩, y0, -⟩ := (ht.other hne 0 (.string (Sx m))).cells
  clear hs ht hne
  go_enter Tryz.func180, Tryz.ntmps180
  go_wp2_with (go_at_call 144; ((with_reducible refine K.mono ?_); rintro r w3 ⟨rfl, rfl⟩))
  go_ret
  exact ⟨rfl, (HS.out.set m).other HN.out.symm _ _, (HT.out.other HN.out _ _).set0 b, (K2.set (.inl rfl) _ _ _).trans (K2.set (.inr rfl) _ _ _)⟩

set_option maxHeartbeats 2000000 in
theorem part2 (qs qt : Nat) (hne : qs ≠ qt) (l : Bs) (d : Bool) (A B : Bs) (u : Bool) (P : Bs) (w : World) (hs : SB qs l w) (ht : TX qt d A B u P w) (hl : l.length ≤ 1000000) :
    Calls Tryz.prog 181 #[.pointer (some ⟨qs, 0, none⟩), .pointer (some ⟨qt, 0, none⟩)] w fun r w' => r = .returned (.bool ((l.takeWhile dig == [48]) || (!(l.takeWhile dig).isEmpty && !isH 48 (l.takeWhile dig)))) ∧ SB qs (l.dropWhile dig) w' ∧ TX qt d (l.takeWhile dig) B u P w' ∧ K2 qs qt w w' := by
  have K := cutD_any l w (by omega)
  obtain ⟨c0, f0⟩ := hs.cell
  have q1 : ((Sx (l.takeWhile dig)).toList == [48]) = (l.takeWhile dig == [48]) := by rw [Sx_toList]
  have q2 : (Sx (l.takeWhile dig)).toList.isEmpty = (l.takeWhile dig).isEmpty := by rw [Sx_toList]
  have KH := Lib.hid (fun w' => Tryz.hasPrefix (Sx (l.takeWhile dig)) ⟨#[48]⟩ w')
  rw [show ∀ x : Bs, Lib.hasPrefix (Sx x).data.toList (⟨#[48]⟩ : ByteArray).data.toList = isH 48 x from fun x => isH_prefix 48 x] at KH
  have HN := Lib.hid hne
  have HC := Lib.hid (fun (w3 : World) (g : Gr w w3) => And.intro (hs.gr g).cell (And.intro (ht.gr g).cells ((((ht.gr g).set1 (l.takeWhile dig)).other hne 0 (.string (Sx (l.dropWhile dig)))).cells.1)))
  have HE := Lib.hid (fun (w3 : World) (g : Gr w w3) => And.intro (((hs.gr g).other hne.symm 1 (.string (Sx (l.takeWhile dig)))).set (l.dropWhile dig)) (And.intro (((ht.gr g).set1 (l.takeWhile dig)).other hne 0 (.string (Sx (l.dropWhile dig)))) ((K2.gr (p := qs) (q := qt) g).trans ((K2.set (.inr rfl) w3 1 (.string (Sx (l.takeWhile dig)))).trans (K2.set (.inl rfl) _ 0 (.string (Sx (l.dropWhile dig))))))))
  have HF := Lib.hid (fun (w3 : World) (g : Gr w w3) => ((hs.gr g).other hne.symm 1 (.string (Sx (l.takeWhile dig)))).cell)
  clear hs ht hne
  generalize l.takeWhile dig = a at *
  generalize l.dropWhile dig = m at *
  generalize hb1 : (a == [48]) = b1 at *
  generalize hb2 : a.isEmpty = b2 at *
  generalize isH 48 a = b3 at *
  have HB1 := Lib.hid hb1
  clear hb1 hb2
  cases b1 <;> cases b2 <;> cases b3
  all_goals
    go_enter Tryz.func181, Tryz.ntmps181
    go_wp2_with (first
      | (go_at_call 182; ((with_reducible refine K.mono ?_); rintro r w3 ⟨rfl, hg⟩); have HG := Lib.hid hg; clear hg; obtain ⟨⟨y0, y1⟩, ⟨⟨z0, z1, z2, z3, z4⟩, g0, g1, g2, g3, g4⟩, ⟨x0, x1, x2, x3, x4⟩⟩ := HC.out _ HG.out; obtain ⟨v0, v1⟩ := HF.out _ HG.out)
      | (go_at_call 174; ((with_reducible refine (KH.out _).mono ?_); rintro r w4 ⟨rfl, rfl⟩)))
    go_ret
    obtain ⟨e1, e2, e3⟩ := HE.out _ HG.out
    exact ⟨rfl, e1, e2, e3⟩

set_option maxHeartbeats 2000000 in
theorem part3 (qs qt : Nat) (hne : qs ≠ qt) (l : Bs) (d : Bool) (A B : Bs) (u : Bool) (P : Bs) (w : World) (hs : SB qs l w) (ht : TX qt d A B u P w) (hl : l.length ≤ 1000000) :
    Calls Tryz.prog 183 #[.pointer (some ⟨qs, 0, none⟩), .pointer (some ⟨qt, 0, none⟩)] w fun r w' =>
      r = .returned (.bool (if isH 46 l then !(l.tail.takeWhile dig).isEmpty else true)) ∧ SB qs (if isH 46 l then l.tail.dropWhile dig else l) w' ∧ TX qt d A (if isH 46 l then l.tail.takeWhile dig else B) u P w' ∧ K2 qs qt w w' := by
  have K := cut_any 46 l w (by omega)
  have KD := Lib.hid (cutD_any l.tail · (by simp; omega))
  obtain ⟨c0, f0⟩ := hs.cell
  cases hp : isH 46 l with
  | false =>
    rw [hp] at K
    simp only [if_false, Bool.false_eq_true] at K ⊢
    have HS := Lib.hid hs
    have HT := Lib.hid ht
    clear hs ht hne
    go_enter Tryz.func183, Tryz.ntmps183
    go_wp2_with (go_at_call 144; ((with_reducible refine K.mono ?_); rintro r w3 ⟨rfl, rfl⟩))
    go_ret
    exact ⟨rfl, HS.out, HT.out, K2.refl _ _ _⟩
  | true =>
    rw [hp] at K
    simp only [if_true] at K ⊢
    have q2 : (Sx (l.tail.takeWhile dig)).toList.isEmpty = (l.tail.takeWhile dig).isEmpty := by rw [Sx_toList]
    have HC := Lib.hid (fun (w3 : World) (g : Gr w w3) => And.intro (hs.gr g).cell (And.intro (ht.gr g).cells ((((ht.gr g).set2 (l.tail.takeWhile dig)).other hne 0 (.string (Sx (l.tail.dropWhile dig)))).cells.1)))
    have HE := Lib.hid (fun (w3 : World) (g : Gr w w3) => And.intro (((hs.gr g).other hne.symm 2 (.string (Sx (l.tail.takeWhile dig)))).set (l.tail.dropWhile dig)) (And.intro (((ht.gr g).set2 (l.tail.takeWhile dig)).other hne 0 (.string (Sx (l.tail.dropWhile dig)))) ((K2.gr (p := qs) (q := qt) g).trans ((K2.set (.inr rfl) w3 2 (.string (Sx (l.tail.takeWhile dig)))).trans (K2.set (.inl rfl) _ 0 (.string (Sx (l.tail.dropWhile dig))))))))
    have HF := Lib.hid (fun (w3 : World) (g : Gr w w3) => ((hs.gr g).other hne.symm 2 (.string (Sx (l.tail.takeWhile dig)))).cell)
    clear hs ht hne hp
    generalize l.tail.takeWhile dig = a at *
    generalize l.tail.dropWhile dig = m at *
    generalize l.tail = lt at *
    generalize a.isEmpty = b2 at *
    go_enter Tryz.func183, Tryz.ntmps183
    go_wp2_with (first
      | (go_at_call 144; ((with_reducible refine K.mono ?_); rintro r w2 ⟨rfl, rfl⟩))
      | (go_at_call 182; ((with_reducible refine (KD.out _).mono ?_); rintro r w3 ⟨rfl, hg⟩); have HG := Lib.hid hg; clear hg; obtain ⟨⟨y0, y1⟩, ⟨⟨z0, z1, z2, z3, z4⟩, g0, g1, g2, g3, g4⟩, ⟨x0, x1, x2, x3, x4⟩⟩ := HC.out _ HG.out; obtain ⟨v0, v1⟩ := HF.out _ HG.out))
    go_ret
    obtain ⟨e1, e2, e3⟩ := HE.out _ HG.out
    exact ⟨rfl, e1, e2, e3⟩

def l5 (l : Bs) : Bs := if isH 45 l.tail || isH 43 l.tail then l.tail.tail else l.tail
set_option maxHeartbeats 4000000 in
theorem part4 (qs qt : Nat) (hne : qs ≠ qt) (l : Bs) (d : Bool) (A B : Bs) (u : Bool) (P : Bs) (w : World) (hs : SB qs l w) (ht : TX qt d A B u P w) (hl : l.length ≤ 1000000) :
    Calls Tryz.prog 184 #[.pointer (some ⟨qs, 0, none⟩), .pointer (some ⟨qt, 0, none⟩)] w fun r w' =>
      r = .returned (.bool (if isH 101 l || isH 69 l then !((l5 l).takeWhile dig).isEmpty else true)) ∧ SB qs (if isH 101 l || isH 69 l then (l5 l).dropWhile dig else l) w' ∧
      TX qt d A B (if isH 101 l || isH 69 l then isH 45 l.tail else u) (if isH 101 l || isH 69 l then (l5 l).takeWhile dig else P) w' ∧ K2 qs qt w w' := by
  have K := cutE_any 101 69 l w (by omega)
  obtain ⟨c0, f0⟩ := hs.cell
  cases hp : (isH 101 l || isH 69 l) with
  | false =>
    have hce : cutE 101 69 l = l := by
      simp only [Bool.or_eq_false_iff] at hp
      rw [cutE, hp.1, hp.2]; rfl
    rw [hp, hce] at K
    simp only [if_false, Bool.false_eq_true]
    have HS := Lib.hid hs
    have HT := Lib.hid ht
    clear hs ht hne
    go_enter Tryz.func184, Tryz.ntmps184
    go_wp2_with (go_at_call 185; ((with_reducible refine K.mono ?_); rintro r w3 ⟨rfl, rfl⟩))
    go_ret
    exact ⟨rfl, HS.out, HT.out, K2.refl _ _ _⟩
  | true =>
    have hce : cutE 101 69 l = l.tail := by
      simp only [Bool.or_eq_true] at hp
      rw [cutE]
      rcases hp with h | h
      · rw [if_pos h]
      · rw [if_pos h]; split <;> rfl
    rw [hp, hce] at K
    simp only [if_true]
    have hlt : l.tail.length ≤ 1000000 := by simp; omega
    have KC := cut_any 45 l.tail w (by omega)
    have KD := Lib.hid (fun w' => cutD_any (l5 l) w' (by unfold l5; split <;> simp <;> omega))
    have KT := Lib.hid (fun w' => Tryz.trimPrefix (Sx l.tail) ⟨#[43]⟩ w')
    rw [show ∀ x : Bs, Lib.trimPrefix (Sx x).data.toList (⟨#[43]⟩ : ByteArray).data.toList = if isH 43 x then x.tail else x from fun x => trimP 43 x] at KT
    change Hid (∀ w', Calls _ _ _ w' fun e w'_1 => e = .returned (.string (Sx (if isH 43 l.tail then l.tail.tail else l.tail))) ∧ _) at KT
    have hx : (isH 45 l.tail = true → l5 l = if isH 45 l.tail then l.tail.tail else l.tail) ∧ (isH 45 l.tail = false → l5 l = if isH 43 l.tail then l.tail.tail else l.tail) := by
      unfold l5
      constructor <;> intro h <;> rw [h] <;> simp
    have q2 : (Sx ((l5 l).takeWhile dig)).toList.isEmpty = ((l5 l).takeWhile dig).isEmpty := by rw [Sx_toList]
    cases h45 : isH 45 l.tail with
    | true =>
      have hx := hx.1 h45
      rw [h45] at KC hx
      simp only [if_true] at KC hx
      rw [← hx] at KC
      have HG1 := Lib.hid (And.intro ht.cells (And.intro ((hs.other hne.symm 3 (.bool true))).cell (ht.set3 true).cells))
      have HC := Lib.hid (fun (w3 : World) (g : Gr (w.setCell ⟨qt, 3, none⟩ (.bool true)) w3) => And.intro ((hs.other hne.symm 3 (.bool true)).gr g).cell (And.intro ((ht.set3 true).gr g).cells (((((ht.set3 true).gr g).set4 ((l5 l).takeWhile dig)).other hne 0 (.string (Sx ((l5 l).dropWhile dig)))).cells.1)))
      have HE := Lib.hid (fun (w3 : World) (g : Gr (w.setCell ⟨qt, 3, none⟩ (.bool true)) w3) => And.intro ((((hs.other hne.symm 3 (.bool true)).gr g).other hne.symm 4 (.string (Sx ((l5 l).takeWhile dig)))).set ((l5 l).dropWhile dig)) (And.intro ((((ht.set3 true).gr g).set4 ((l5 l).takeWhile dig)).other hne 0 (.string (Sx ((l5 l).dropWhile dig)))) ((K2.set (p := qs) (q := qt) (.inr rfl) w 3 (.bool true)).trans ((K2.gr (p := qs) (q := qt) g).trans ((K2.set (.inr rfl) w3 4 (.string (Sx ((l5 l).takeWhile dig)))).trans (K2.set (.inl rfl) _ 0 (.string (Sx ((l5 l).dropWhile dig)))))))))
      have HF := Lib.hid (fun (w3 : World) (g : Gr (w.setCell ⟨qt, 3, none⟩ (.bool true)) w3) => (((hs.other hne.symm 3 (.bool true)).gr g).other hne.symm 4 (.string (Sx ((l5 l).takeWhile dig)))).cell)
      clear hs ht hne hx h45 hce hp KT
      generalize (l5 l).takeWhile dig = a at *
      generalize (l5 l).dropWhile dig = m at *
      generalize l5 l = ll at *
      generalize l.tail = lt at *
      generalize a.isEmpty = b2 at *
      obtain ⟨⟨⟨p0, p1, p2, p3, p4⟩, p5, p6, p7, p8, p9⟩, ⟨r0, r1⟩, ⟨⟨s0, s1, s2, s3, s4⟩, s5, s6, s7, s8, s9⟩⟩ := HG1.out
      go_enter Tryz.func184, Tryz.ntmps184
      go_wp2_with (first
        | (go_at_call 185; ((with_reducible refine K.mono ?_); rintro r w2 ⟨rfl, rfl⟩))
        | (go_at_call 144; ((with_reducible refine KC.mono ?_); rintro r w2 ⟨rfl, rfl⟩))
        | (go_at_call 182; ((with_reducible refine (KD.out _).mono ?_); rintro r w3 ⟨rfl, hg⟩); have HG := Lib.hid hg; clear hg; obtain ⟨⟨y0, y1⟩, ⟨⟨z0, z1, z2, z3, z4⟩, g0, g1, g2, g3, g4⟩, ⟨x0, x1, x2, x3, x4⟩⟩ := HC.out _ HG.out; obtain ⟨v0, v1⟩ := HF.out _ HG.out))
      go_ret
      obtain ⟨e1, e2, e3⟩ := HE.out _ HG.out
      exact ⟨rfl, e1, e2, e3⟩
    | false =>
      have hx := hx.2 h45
      rw [h45] at KC
      simp only [if_false, Bool.false_eq_true] at KC
      rw [← hx] at KT
      have HG1 := Lib.hid (And.intro ht.cells (And.intro ((hs.other hne.symm 3 (.bool false))).cell (ht.set3 false).cells))
      have HC := Lib.hid (fun (w3 : World) (g : Gr (w.setCell ⟨qt, 3, none⟩ (.bool false)) w3) => And.intro ((hs.other hne.symm 3 (.bool false)).gr g).cell (And.intro ((ht.set3 false).gr g).cells (((((ht.set3 false).gr g).set4 ((l5 l).takeWhile dig)).other hne 0 (.string (Sx ((l5 l).dropWhile dig)))).cells.1)))
      have HE := Lib.hid (fun (w3 : World) (g : Gr (w.setCell ⟨qt, 3, none⟩ (.bool false)) w3) => And.intro ((((hs.other hne.symm 3 (.bool false)).gr g).other hne.symm 4 (.string (Sx ((l5 l).takeWhile dig)))).set ((l5 l).dropWhile dig)) (And.intro ((((ht.set3 false).gr g).set4 ((l5 l).takeWhile dig)).other hne 0 (.string (Sx ((l5 l).dropWhile dig)))) ((K2.set (p := qs) (q := qt) (.inr rfl) w 3 (.bool false)).trans ((K2.gr (p := qs) (q := qt) g).trans ((K2.set (.inr rfl) w3 4 (.string (Sx ((l5 l).takeWhile dig)))).trans (K2.set (.inl rfl) _ 0 (.string (Sx ((l5 l).dropWhile dig)))))))))
      have HF := Lib.hid (fun (w3 : World) (g : Gr (w.setCell ⟨qt, 3, none⟩ (.bool false)) w3) => (((hs.other hne.symm 3 (.bool false)).gr g).other hne.symm 4 (.string (Sx ((l5 l).takeWhile dig)))).cell)
      clear hs ht hne hx h45 hce hp
      generalize (l5 l).takeWhile dig = a at *
      generalize (l5 l).dropWhile dig = m at *
      generalize l5 l = ll at *
      generalize l.tail = lt at *
      generalize a.isEmpty = b2 at *
      obtain ⟨⟨⟨p0, p1, p2, p3, p4⟩, p5, p6, p7, p8, p9⟩, ⟨r0, r1⟩, ⟨⟨s0, s1, s2, s3, s4⟩, s5, s6, s7, s8, s9⟩⟩ := HG1.out
      go_enter Tryz.func184, Tryz.ntmps184
      go_wp2_with (first
        | (go_at_call 185; ((with_reducible refine K.mono ?_); rintro r w2 ⟨rfl, rfl⟩))
        | (go_at_call 144; ((with_reducible refine KC.mono ?_); rintro r w2 ⟨rfl, rfl⟩))
        | (go_at_call 186; ((with_reducible refine (KT.out _).mono ?_); rintro r w2 ⟨rfl, rfl⟩))
        | (go_at_call 182; ((with_reducible refine (KD.out _).mono ?_); rintro r w3 ⟨rfl, hg⟩); have HG := Lib.hid hg; clear hg; obtain ⟨⟨y0, y1⟩, ⟨⟨z0, z1, z2, z3, z4⟩, g0, g1, g2, g3, g4⟩, ⟨x0, x1, x2, x3, x4⟩⟩ := HC.out _ HG.out; obtain ⟨v0, v1⟩ := HF.out _ HG.out))
      go_ret
      obtain ⟨e1, e2, e3⟩ := HE.out _ HG.out
      exact ⟨rfl, e1, e2, e3⟩

end Go.Proofs.YticnfmfmgdfdeaaGreatDoor

namespace Go.Proofs.YticnfmfmgdfdeaaGreatDoor
open Go.RowKit

def txV (d : Bool) (A B : Bs) (u : Bool) (P : Bs) : Value := .agg #[.bool d, .string (Sx A), .string (Sx B), .bool u, .string (Sx P)]

theorem results_TX {fn : Func} {p u : Tmp} (h : fn.results = #[.cell p 180, .tmp u]) (tmps : Array Value) (W : World) (q : Nat) (cs : Array Value) (e : Value) (hp : tmps.getD p undef = .pointer (some ⟨q, 0, none⟩)) (he : tmps.getD u undef = e)
    (hq : W.heap[q]? = some (.cells cs 180 (0, 0))) (hs : cs.size = 5) : (results fn tmps).run Tryz.prog W = .ok (.tuple #[.agg cs, e]) W := by
  have hld := run_loadVar_row (P := Tryz.prog) W q 180 180 cs (0, 0) _ hq Tryz.underlying180 rfl (by rw [hs]; kernel_rfl)
  have hp' : tmps[p]?.getD undef = .pointer (some ⟨q, 0, none⟩) := by simpa using hp
  have he' : tmps[u]?.getD undef = e := by simpa using he
  simp [results, h, hp', he', asAddr, hld]
theorem set5 {W : World} {q : Nat} {cs : Array Value} {t : TypeId} (h : W.heap[q]? = some (.cells cs t (0, 0))) (hs : cs.size = 5) (x0 x1 x2 x3 x4 : Value) :
    (((((W.setCell ⟨q, 0, none⟩ x0).setCell ⟨q, 1, none⟩ x1).setCell ⟨q, 2, none⟩ x2).setCell ⟨q, 3, none⟩ x3).setCell ⟨q, 4, none⟩ x4).heap[q]? = some (.cells #[x0, x1, x2, x3, x4] t (0, 0)) := by
  rw [set_cell (set_cell (set_cell (set_cell (set_cell h 0 x0) 1 x1) 2 x2) 3 x3) 4 x4]
  obtain ⟨cs⟩ := cs
  match cs, hs with
  | [a, b, c, d, e], _ => rfl
theorem four_lit (w : World) (a b c d : Obj) : ((((w.alloc a).alloc b).alloc c).alloc d).heap[w.heap.size]? = some a ∧ ((((w.alloc a).alloc b).alloc c).alloc d).heap[w.heap.size + 1]? = some b ∧
    ((((w.alloc a).alloc b).alloc c).alloc d).heap[w.heap.size + 1 + 1]? = some c ∧ ((((w.alloc a).alloc b).alloc c).alloc d).heap[w.heap.size + 1 + 1 + 1]? = some d := by
  have n : ∀ (v : World) (o : Obj) (k : Nat), k = v.heap.size → (v.alloc o).heap[k]? = some o := fun v o k hk => by rw [hk]; exact heap_alloc_new _ _
  have s : ∀ (v : World) (o : Obj) (k : Nat), k < v.heap.size → (v.alloc o).heap[k]? = v.heap[k]? := fun v o k hk => Below.heap_alloc _ _ _ hk
  refine ⟨?_, ?_, ?_, ?_⟩
  · rw [s _ _ _ (by simp; omega), s _ _ _ (by simp; omega), s _ _ _ (by simp), n _ _ _ rfl]
  · rw [s _ _ _ (by simp), s _ _ _ (by simp), n _ _ _ (by simp)]
  · rw [s _ _ _ (by simp), n _ _ _ (by simp)]
  · rw [n _ _ _ (by simp)]
theorem four_gr (w : World) (a b c d : Obj) : w.grownBy ((((w.alloc a).alloc b).alloc c).alloc d) none :=
  gtrans (World.grownBy_alloc _ _ _) (gtrans (World.grownBy_alloc _ _ _) (gtrans (World.grownBy_alloc _ _ _) (World.grownBy_alloc _ _ _)))
theorem K2.keep {p q r : Nat} {w w' : World} {o : Obj} (k : K2 p q w w') (h : w.heap[r]? = some o) (h1 : r ≠ p) (h2 : r ≠ q) : w'.heap[r]? = some o := (k.block r (lt_of_block h) h1 h2).trans h
theorem K2.grown {p q : Nat} {v w w' : World} (g : Gr v w) (k : K2 p q w w') (hp : v.heap.size ≤ p) (hq : v.heap.size ≤ q) : Gr v w' :=
  ⟨k.os.trans g.os, k.tape.trans g.tape, k.output.trans g.output, Nat.le_trans g.size k.size, fun i hi _ => (k.block i (Nat.lt_of_lt_of_le hi g.size) (by omega) (by omega)).trans (g.block i hi (by simp))⟩

theorem len_s1 (l : Bs) : (s1 l).length ≤ l.length := by rw [s1]; split <;> simp
theorem len_s2 (l : Bs) : (s2 l).length ≤ l.length := Nat.le_trans (List.dropWhile_sublist _).length_le (len_s1 l)
theorem len_s3 (l : Bs) : (s3 l).length ≤ l.length := by
  have := len_s2 l
  rw [s3]; split
  · have h := (List.dropWhile_sublist (l := (s2 l).tail) dig).length_le
    simp at h; omega
  · exact this
theorem okB_if (l : Bs) : (if isH 46 (s2 l) then !((s2 l).tail.takeWhile dig).isEmpty else true) = okB l := by
  unfold okB bh pt
  cases isH 46 (s2 l) <;> simp
theorem okC_if (l : Bs) : (if isH 101 (s3 l) || isH 69 (s3 l) then !((l5 (s3 l)).takeWhile dig).isEmpty else true) = okC l := by
  have e : l5 (s3 l) = s5 l := rfl
  unfold okC pw ex
  rw [e]
  cases (isH 101 (s3 l) || isH 69 (s3 l)) <;> simp
theorem un_if (l : Bs) : (if isH 101 (s3 l) || isH 69 (s3 l) then isH 45 (s3 l).tail else false) = un l := by
  unfold un ex s4
  cases (isH 101 (s3 l) || isH 69 (s3 l)) <;> simp
theorem part1' (qs qt : Nat) (hne : qs ≠ qt) (l : Bs) (hl : l.length ≤ 1000000) (w : World) (hs : SB qs l w) (ht : TX qt false [] [] false [] w) :
    Calls Tryz.prog 180 #[.pointer (some ⟨qs, 0, none⟩), .pointer (some ⟨qt, 0, none⟩)] w fun r w' => r = .returned (.bool true) ∧ SB qs (s1 l) w' ∧ TX qt (dn l) [] [] false [] w' ∧ K2 qs qt w w' :=
  part1 qs qt hne l _ _ _ _ _ w hs ht hl
theorem part2' (qs qt : Nat) (hne : qs ≠ qt) (l : Bs) (hl : l.length ≤ 1000000) (w : World) (hs : SB qs (s1 l) w) (ht : TX qt (dn l) [] [] false [] w) :
    Calls Tryz.prog 181 #[.pointer (some ⟨qs, 0, none⟩), .pointer (some ⟨qt, 0, none⟩)] w fun r w' => r = .returned (.bool (okA l)) ∧ SB qs (s2 l) w' ∧ TX qt (dn l) (ah l) [] false [] w' ∧ K2 qs qt w w' :=
  part2 qs qt hne (s1 l) _ _ _ _ _ w hs ht (Nat.le_trans (len_s1 l) hl)
theorem part3' (qs qt : Nat) (hne : qs ≠ qt) (l : Bs) (hl : l.length ≤ 1000000) (w : World) (hs : SB qs (s2 l) w) (ht : TX qt (dn l) (ah l) [] false [] w) :
    Calls Tryz.prog 183 #[.pointer (some ⟨qs, 0, none⟩), .pointer (some ⟨qt, 0, none⟩)] w fun r w' => r = .returned (.bool (okB l)) ∧ SB qs (s3 l) w' ∧ TX qt (dn l) (ah l) (bh l) false [] w' ∧ K2 qs qt w w' := by
  have := part3 qs qt hne (s2 l) _ _ _ _ _ w hs ht (Nat.le_trans (len_s2 l) hl)
  rw [okB_if] at this; exact this
theorem part4' (qs qt : Nat) (hne : qs ≠ qt) (l : Bs) (hl : l.length ≤ 1000000) (w : World) (hs : SB qs (s3 l) w) (ht : TX qt (dn l) (ah l) (bh l) false [] w) :
    Calls Tryz.prog 184 #[.pointer (some ⟨qs, 0, none⟩), .pointer (some ⟨qt, 0, none⟩)] w fun r w' => r = .returned (.bool (okC l)) ∧ SB qs (s6 l) w' ∧ TX qt (dn l) (ah l) (bh l) (un l) (pw l) w' ∧ K2 qs qt w w' := by
  have := part4 qs qt hne (s3 l) _ _ _ _ _ w hs ht (Nat.le_trans (len_s3 l) hl)
  rw [okC_if, un_if] at this; exact this

set_option maxHeartbeats 8000000 in
theorem read_any (l : Bs) (w : World) (hl : l.length ≤ 1000000) :
    Calls Tryz.prog 152 #[.string (Sx l)] w fun r w' => (∃ d A B u P, r = .returned (.tuple #[txV d A B u P, .bool (okN l)]) ∧ (okN l = true → txV d A B u P = txV (dn l) (ah l) (bh l) (un l) (pw l))) ∧ w.grownBy w' none := by
  have P1 := Lib.hid (fun qs qt hne => part1' qs qt hne l hl)
  have P2 := Lib.hid (fun qs qt hne => part2' qs qt hne l hl)
  have P3 := Lib.hid (fun qs qt hne => part3' qs qt hne l hl)
  have P4 := Lib.hid (fun qs qt hne => part4' qs qt hne l hl)
  have q6 : (Sx (s6 l)).toList.isEmpty = (s6 l).isEmpty := by rw [Sx_toList]
  have HO : Hid (okN l = (okA l && okB l && okC l && (s6 l).isEmpty)) := Lib.hid rfl
  generalize okN l = ok at *
  generalize okA l = b2 at *
  generalize okB l = b3 at *
  generalize okC l = b4 at *
  generalize s1 l = x1 at *
  generalize s2 l = x2 at *
  generalize s3 l = x3 at *
  generalize s6 l = x6 at *
  generalize dn l = y1 at *
  generalize ah l = y2 at *
  generalize bh l = y3 at *
  generalize un l = y4 at *
  generalize pw l = y5 at *
  generalize x6.isEmpty = b6 at *
  clear hl
  go_enter Tryz.func152, Tryz.ntmps152
  go_wp2
  obtain ⟨k0, k1, k2, k3⟩ := four_lit w (.cells #[.string (Sx l)] 9) (.cells #[.bool false, .string ⟨#[]⟩, .string ⟨#[]⟩, .bool false, .string ⟨#[]⟩] 180) (.cells #[.bool false, .string ⟨#[]⟩, .string ⟨#[]⟩, .bool false, .string ⟨#[]⟩] 180) (.cells #[.func (.func 180) #[] #[.pointer (some ⟨w.heap.size, 0, none⟩), .pointer (some ⟨w.heap.size + 1 + 1, 0, none⟩)], .func (.func 181) #[] #[.pointer (some ⟨w.heap.size, 0, none⟩), .pointer (some ⟨w.heap.size + 1 + 1, 0, none⟩)], .func (.func 183) #[] #[.pointer (some ⟨w.heap.size, 0, none⟩), .pointer (some ⟨w.heap.size + 1 + 1, 0, none⟩)], .func (.func 184) #[] #[.pointer (some ⟨w.heap.size, 0, none⟩), .pointer (some ⟨w.heap.size + 1 + 1, 0, none⟩)]] 22)
  have HG := Lib.hid (four_gr w (.cells #[.string (Sx l)] 9) (.cells #[.bool false, .string ⟨#[]⟩, .string ⟨#[]⟩, .bool false, .string ⟨#[]⟩] 180) (.cells #[.bool false, .string ⟨#[]⟩, .string ⟨#[]⟩, .bool false, .string ⟨#[]⟩] 180) (.cells #[.func (.func 180) #[] #[.pointer (some ⟨w.heap.size, 0, none⟩), .pointer (some ⟨w.heap.size + 1 + 1, 0, none⟩)], .func (.func 181) #[] #[.pointer (some ⟨w.heap.size, 0, none⟩), .pointer (some ⟨w.heap.size + 1 + 1, 0, none⟩)], .func (.func 183) #[] #[.pointer (some ⟨w.heap.size, 0, none⟩), .pointer (some ⟨w.heap.size + 1 + 1, 0, none⟩)], .func (.func 184) #[] #[.pointer (some ⟨w.heap.size, 0, none⟩), .pointer (some ⟨w.heap.size + 1 + 1, 0, none⟩)]] 22))
  have h1 : w.heap.size ≠ w.heap.size + 1 + 1 := by omega
  have h2 : w.heap.size + 1 ≠ w.heap.size ∧ w.heap.size + 1 ≠ w.heap.size + 1 + 1 := by omega
  have h3 : w.heap.size + 1 + 1 + 1 ≠ w.heap.size ∧ w.heap.size + 1 + 1 + 1 ≠ w.heap.size + 1 + 1 := by omega
  have h4 : w.heap.size ≤ w.heap.size + 1 ∧ w.heap.size ≤ w.heap.size + 1 + 1 := by omega
  generalize ((((w.alloc (.cells #[.string (Sx l)] 9)).alloc (.cells #[.bool false, .string ⟨#[]⟩, .string ⟨#[]⟩, .bool false, .string ⟨#[]⟩] 180)).alloc (.cells #[.bool false, .string ⟨#[]⟩, .string ⟨#[]⟩, .bool false, .string ⟨#[]⟩] 180)).alloc (.cells #[.func (.func 180) #[] #[.pointer (some ⟨w.heap.size, 0, none⟩), .pointer (some ⟨w.heap.size + 1 + 1, 0, none⟩)], .func (.func 181) #[] #[.pointer (some ⟨w.heap.size, 0, none⟩), .pointer (some ⟨w.heap.size + 1 + 1, 0, none⟩)], .func (.func 183) #[] #[.pointer (some ⟨w.heap.size, 0, none⟩), .pointer (some ⟨w.heap.size + 1 + 1, 0, none⟩)], .func (.func 184) #[] #[.pointer (some ⟨w.heap.size, 0, none⟩), .pointer (some ⟨w.heap.size + 1 + 1, 0, none⟩)]] 22)) = W at *
  generalize hq3 : w.heap.size + 1 + 1 + 1 = q3 at *
  generalize hq2 : w.heap.size + 1 + 1 = q2 at *
  generalize hq1 : w.heap.size + 1 = q1 at *
  generalize hq : w.heap.size = q at *
  clear hq3 hq2 hq1
  have HQ := Lib.hid hq
  clear hq
  have S1 : Hid (SB q l W) := Lib.hid k0
  have T1 : Hid (TX q2 false [] [] false [] W) := Lib.hid k2
  have R1 := Lib.hid (K2.refl q q2 W)
  have HNE := Lib.hid (And.intro h1 (And.intro h2 (And.intro h3 h4)))
  have HZ : Hid (∀ w', K2 q q2 W w' → TX q1 false [] [] false [] w') := Lib.hid (fun w' k => k.keep k1 h2.1 h2.2)
  have HF : Hid (∀ w', K2 q q2 W w' → (w'.cell? ⟨q3, 0, none⟩ = some (.func (.func 180) #[] #[.pointer (some ⟨q, 0, none⟩), .pointer (some ⟨q2, 0, none⟩)]) ∧ w'.cell? ⟨q3, 1, none⟩ = some (.func (.func 181) #[] #[.pointer (some ⟨q, 0, none⟩), .pointer (some ⟨q2, 0, none⟩)]) ∧ w'.cell? ⟨q3, 2, none⟩ = some (.func (.func 183) #[] #[.pointer (some ⟨q, 0, none⟩), .pointer (some ⟨q2, 0, none⟩)]) ∧ w'.cell? ⟨q3, 3, none⟩ = some (.func (.func 184) #[] #[.pointer (some ⟨q, 0, none⟩), .pointer (some ⟨q2, 0, none⟩)]))) := Lib.hid (fun w' k => by
    have h := k.keep k3 h3.1 h3.2
    refine ⟨?_, ?_, ?_, ?_⟩ <;> simp [World.cell?, h])
  obtain ⟨e0, e1, e2, e3⟩ := HF.out W R1.out
  clear k0 k1 k2 k3 h1 h2 h3 h4
  refine wp_loop_rounds 5 ?_
  rw [rounds_succ]
  go_wp2_with (go_at_call 180; ((with_reducible refine (P1.out q q2 HNE.out.1 W S1.out T1.out).mono ?_); rintro r w1 ⟨rfl, hs, ht, hk⟩); have S2 := Lib.hid hs; have T2 := Lib.hid ht; have R2 := Lib.hid (R1.out.trans hk); obtain ⟨e0, e1, e2, e3⟩ := HF.out _ R2.out; obtain ⟨⟨z0, z1, z2, z3, z4⟩, z5, z6, z7, z8, z9⟩ := (HZ.out _ R2.out).cells; clear hs ht hk)
  rw [rounds_succ]
  cases b2
  · have HO2 : ok = false := HO.out
    subst HO2
    go_wp2_with (go_at_call 181; ((with_reducible refine (P2.out q q2 HNE.out.1 w1 S2.out T2.out).mono ?_); rintro r w2 ⟨rfl, hs, ht, hk⟩); have S3 := Lib.hid hs; have T3 := Lib.hid ht; have R3 := Lib.hid (R2.out.trans hk); obtain ⟨e0, e1, e2, e3⟩ := HF.out _ R3.out; obtain ⟨⟨z0, z1, z2, z3, z4⟩, z5, z6, z7, z8, z9⟩ := (HZ.out _ R3.out).cells; clear hs ht hk)
    refine bodyPost_ret (results_TX rfl _ _ q1 _ _ rfl rfl (set5 (HZ.out _ R3.out) rfl _ _ _ _ _) rfl) rfl ⟨⟨false, [], [], false, [], rfl, fun h => absurd h (by simp)⟩, ?_⟩
    exact gr_set (gr_set (gr_set (gr_set (gr_set (K2.grown HG.out R3.out (by rw [HQ.out]; exact Nat.le_refl _) (by rw [HQ.out]; exact HNE.out.2.2.2.2)) (by rw [HQ.out]; exact HNE.out.2.2.2.1) _ _) (by rw [HQ.out]; exact HNE.out.2.2.2.1) _ _) (by rw [HQ.out]; exact HNE.out.2.2.2.1) _ _) (by rw [HQ.out]; exact HNE.out.2.2.2.1) _ _) (by rw [HQ.out]; exact HNE.out.2.2.2.1) _ _
  · go_wp2_with (go_at_call 181; ((with_reducible refine (P2.out q q2 HNE.out.1 w1 S2.out T2.out).mono ?_); rintro r w2 ⟨rfl, hs, ht, hk⟩); have S3 := Lib.hid hs; have T3 := Lib.hid ht; have R3 := Lib.hid (R2.out.trans hk); obtain ⟨e0, e1, e2, e3⟩ := HF.out _ R3.out; obtain ⟨⟨z0, z1, z2, z3, z4⟩, z5, z6, z7, z8, z9⟩ := (HZ.out _ R3.out).cells; clear hs ht hk)
    rw [rounds_succ]
    cases b3
    · have HO2 : ok = false := HO.out
      subst HO2
      go_wp2_with (go_at_call 183; ((with_reducible refine (P3.out q q2 HNE.out.1 w2 S3.out T3.out).mono ?_); rintro r w3 ⟨rfl, hs, ht, hk⟩); have S4 := Lib.hid hs; have T4 := Lib.hid ht; have R4 := Lib.hid (R3.out.trans hk); obtain ⟨e0, e1, e2, e3⟩ := HF.out _ R4.out; obtain ⟨⟨z0, z1, z2, z3, z4⟩, z5, z6, z7, z8, z9⟩ := (HZ.out _ R4.out).cells; clear hs ht hk)
      refine bodyPost_ret (results_TX rfl _ _ q1 _ _ rfl rfl (set5 (HZ.out _ R4.out) rfl _ _ _ _ _) rfl) rfl ⟨⟨false, [], [], false, [], rfl, fun h => absurd h (by simp)⟩, ?_⟩
      exact gr_set (gr_set (gr_set (gr_set (gr_set (K2.grown HG.out R4.out (by rw [HQ.out]; exact Nat.le_refl _) (by rw [HQ.out]; exact HNE.out.2.2.2.2)) (by rw [HQ.out]; exact HNE.out.2.2.2.1) _ _) (by rw [HQ.out]; exact HNE.out.2.2.2.1) _ _) (by rw [HQ.out]; exact HNE.out.2.2.2.1) _ _) (by rw [HQ.out]; exact HNE.out.2.2.2.1) _ _) (by rw [HQ.out]; exact HNE.out.2.2.2.1) _ _
    · go_wp2_with (go_at_call 183; ((with_reducible refine (P3.out q q2 HNE.out.1 w2 S3.out T3.out).mono ?_); rintro r w3 ⟨rfl, hs, ht, hk⟩); have S4 := Lib.hid hs; have T4 := Lib.hid ht; have R4 := Lib.hid (R3.out.trans hk); obtain ⟨e0, e1, e2, e3⟩ := HF.out _ R4.out; obtain ⟨⟨z0, z1, z2, z3, z4⟩, z5, z6, z7, z8, z9⟩ := (HZ.out _ R4.out).cells; clear hs ht hk)
      rw [rounds_succ]
      cases b4
      · have HO2 : ok = false := HO.out
        subst HO2
        go_wp2_with (go_at_call 184; ((with_reducible refine (P4.out q q2 HNE.out.1 w3 S4.out T4.out).mono ?_); rintro r w4 ⟨rfl, hs, ht, hk⟩); have S5 := Lib.hid hs; have T5 := Lib.hid ht; have R5 := Lib.hid (R4.out.trans hk); obtain ⟨e0, e1, e2, e3⟩ := HF.out _ R5.out; obtain ⟨⟨z0, z1, z2, z3, z4⟩, z5, z6, z7, z8, z9⟩ := (HZ.out _ R5.out).cells; clear hs ht hk)
        refine bodyPost_ret (results_TX rfl _ _ q1 _ _ rfl rfl (set5 (HZ.out _ R5.out) rfl _ _ _ _ _) rfl) rfl ⟨⟨false, [], [], false, [], rfl, fun h => absurd h (by simp)⟩, ?_⟩
        exact gr_set (gr_set (gr_set (gr_set (gr_set (K2.grown HG.out R5.out (by rw [HQ.out]; exact Nat.le_refl _) (by rw [HQ.out]; exact HNE.out.2.2.2.2)) (by rw [HQ.out]; exact HNE.out.2.2.2.1) _ _) (by rw [HQ.out]; exact HNE.out.2.2.2.1) _ _) (by rw [HQ.out]; exact HNE.out.2.2.2.1) _ _) (by rw [HQ.out]; exact HNE.out.2.2.2.1) _ _) (by rw [HQ.out]; exact HNE.out.2.2.2.1) _ _
      · have HO2 : ok = b6 := HO.out
        subst HO2
        go_wp2_with (go_at_call 184; ((with_reducible refine (P4.out q q2 HNE.out.1 w3 S4.out T4.out).mono ?_); rintro r w4 ⟨rfl, hs, ht, hk⟩); have S5 := Lib.hid hs; have T5 := Lib.hid ht; have R5 := Lib.hid (R4.out.trans hk); obtain ⟨e0, e1, e2, e3⟩ := HF.out _ R5.out; obtain ⟨⟨z0, z1, z2, z3, z4⟩, z5, z6, z7, z8, z9⟩ := (HZ.out _ R5.out).cells; clear hs ht hk)
        rw [rounds_succ]
        go_wp2_with fail
        obtain ⟨⟨c0, c1, c2, c3, c4⟩, -⟩ := T5.out.cells
        obtain ⟨c5, -⟩ := S5.out.cell
        obtain ⟨⟨v0, v1, v2, v3, v4⟩, v5, v6, v7, v8, v9⟩ := (HZ.out _ R5.out).cells
        have d0 : w4.drew.cell? ⟨q2, 0, none⟩ = _ := c0
        have d1 : w4.drew.cell? ⟨q2, 1, none⟩ = _ := c1
        have d2 : w4.drew.cell? ⟨q2, 2, none⟩ = _ := c2
        have d3 : w4.drew.cell? ⟨q2, 3, none⟩ = _ := c3
        have d4 : w4.drew.cell? ⟨q2, 4, none⟩ = _ := c4
        have d5 : w4.drew.cell? ⟨q, 0, none⟩ = _ := c5
        have f0 : w4.drew.frozen? ⟨q1, 0, none⟩ = false := v5
        have f1 : w4.drew.frozen? ⟨q1, 1, none⟩ = false := v6
        have f2 : w4.drew.frozen? ⟨q1, 2, none⟩ = false := v7
        have f3 : w4.drew.frozen? ⟨q1, 3, none⟩ = false := v8
        have f4 : w4.drew.frozen? ⟨q1, 4, none⟩ = false := v9
        have g0 : w4.drew.cell? ⟨q1, 0, none⟩ = _ := v0
        have g1 : w4.drew.cell? ⟨q1, 1, none⟩ = _ := v1
        have g2 : w4.drew.cell? ⟨q1, 2, none⟩ = _ := v2
        have g3 : w4.drew.cell? ⟨q1, 3, none⟩ = _ := v3
        have g4 : w4.drew.cell? ⟨q1, 4, none⟩ = _ := v4
        have b5 := (((((S5.out.other HNE.out.2.1.1 0 (.bool y1)).other HNE.out.2.1.1 1 (.string (Sx y2))).other HNE.out.2.1.1 2 (.string (Sx y3))).other HNE.out.2.1.1 3 (.bool y4)).other HNE.out.2.1.1 4 (.string (Sx y5))).cell.1
        have b6 := ((((((S5.out.gr (gdrew w4)).other HNE.out.2.1.1 0 (.bool y1)).other HNE.out.2.1.1 1 (.string (Sx y2))).other HNE.out.2.1.1 2 (.string (Sx y3))).other HNE.out.2.1.1 3 (.bool y4)).other HNE.out.2.1.1 4 (.string (Sx y5))).cell.1
        have RD := Lib.hid (R5.out.trans (K2.gr (p := q) (q := q2) (gdrew w4)))
        clear e0 e1 e2 e3 z0 z1 z2 z3 z4 z5 z6 z7 z8 z9
        go_region
        go_wp2
        refine bodyPost_ret (results_TX rfl _ _ q1 _ _ rfl rfl (set5 (HZ.out _ RD.out) rfl _ _ _ _ _) rfl) rfl ⟨⟨y1, y2, y3, y4, y5, rfl, fun _ => rfl⟩, ?_⟩
        exact gr_set (gr_set (gr_set (gr_set (gr_set (K2.grown HG.out RD.out (by rw [HQ.out]; exact Nat.le_refl _) (by rw [HQ.out]; exact HNE.out.2.2.2.2)) (by rw [HQ.out]; exact HNE.out.2.2.2.1) _ _) (by rw [HQ.out]; exact HNE.out.2.2.2.1) _ _) (by rw [HQ.out]; exact HNE.out.2.2.2.1) _ _) (by rw [HQ.out]; exact HNE.out.2.2.2.1) _ _) (by rw [HQ.out]; exact HNE.out.2.2.2.1) _ _

end Go.Proofs.YticnfmfmgdfdeaaGreatDoor

namespace Go.Proofs.YticnfmfmgdfdeaaGreatDoor
open Go.RowKit

theorem results_Num {fn : Func} {p : Tmp} (h : fn.results = #[.cell p 24]) (tmps : Array Value) (W : World) (q : Nat) (cs : Array Value) (hp : tmps.getD p undef = .pointer (some ⟨q, 0, none⟩))
    (hq : W.heap[q]? = some (.cells cs 24 (0, 0))) (hs : cs.size = 3) : (results fn tmps).run Tryz.prog W = .ok (.agg cs) W := by
  have hld := run_loadVar_row (P := Tryz.prog) W q 24 24 cs (0, 0) _ hq Tryz.underlying24 rfl (by rw [hs]; kernel_rfl)
  have hp' : tmps[p]?.getD undef = .pointer (some ⟨q, 0, none⟩) := by simpa using hp
  simp [results, h, hp', asAddr, hld]
theorem results_Num2 {fn : Func} {p u : Tmp} (h : fn.results = #[.cell p 24, .tmp u]) (tmps : Array Value) (W : World) (q : Nat) (cs : Array Value) (e : Value) (hp : tmps.getD p undef = .pointer (some ⟨q, 0, none⟩)) (he : tmps.getD u undef = e)
    (hq : W.heap[q]? = some (.cells cs 24 (0, 0))) (hs : cs.size = 3) : (results fn tmps).run Tryz.prog W = .ok (.tuple #[.agg cs, e]) W := by
  have hld := run_loadVar_row (P := Tryz.prog) W q 24 24 cs (0, 0) _ hq Tryz.underlying24 rfl (by rw [hs]; kernel_rfl)
  have hp' : tmps[p]?.getD undef = .pointer (some ⟨q, 0, none⟩) := by simpa using hp
  have he' : tmps[u]?.getD undef = e := by simpa using he
  simp [results, h, hp', he', asAddr, hld]
def valN (n : Nm) : Value := .agg #[.bool n.down, .string (Sx n.digs), .int .i64 n.exp]

set_option maxHeartbeats 8000000 in
theorem num_any (d : Bool) (A B : Bs) (u : Bool) (P : Bs) (w : World) (hA : A.length ≤ 1000000) (hB : B.length ≤ 1000000) (hP : P.length ≤ 1000000) (hd : P.all dig = true) :
    Calls Tryz.prog 153 #[txV d A B u P] w fun r w' => r = .returned (valN (num5 d A B u P)) ∧ w.grownBy w' none := by
  unfold txV
  have k0 : TX w.heap.size d A B u P ((w.alloc (.cells #[.bool d, .string (Sx A), .string (Sx B), .bool u, .string (Sx P)] 180)).alloc (.cells #[.bool false, .string ⟨#[]⟩, .int .i64 0] 24)) := two_lit0 w _ _
  have k1 : NB (w.heap.size + 1) false [] 0 ((w.alloc (.cells #[.bool d, .string (Sx A), .string (Sx B), .bool u, .string (Sx P)] 180)).alloc (.cells #[.bool false, .string ⟨#[]⟩, .int .i64 0] 24)) := two_lit1 w _ _
  have HG := Lib.hid (two_grown w (.cells #[.bool d, .string (Sx A), .string (Sx B), .bool u, .string (Sx P)] 180) (.cells #[.bool false, .string ⟨#[]⟩, .int .i64 0] 24))
  have K1 := Lib.hid (fun w' => trim0_any (A ++ B) w')
  have ha : Sx A ++ Sx B = Sx (A ++ B) := Sx_app A B
  have la := trim_len (A ++ B)
  have lb := rtrim_len (trim0 (A ++ B))
  have lB := Sx_size B
  have lA := Sx_size A
  have lab : (A ++ B).length ≤ 2000000 := by rw [List.length_append]; omega
  have q0 : (Sx (trim0 (A ++ B))).toList.isEmpty = (trim0 (A ++ B)).isEmpty := by rw [Sx_toList]
  have K2 := Lib.hid (fun w' => rtrim0_any (trim0 (A ++ B)) w' (by omega))
  have K3 := Lib.hid (fun w' => clone_any (rtrim0 (trim0 (A ++ B))) w' (by omega))
  have KP := Lib.hid (fun w' => power_any P w' hd hP)
  have hp := powV_le 1099511627776 P
  have hlx := Sx_size (trim0 (A ++ B))
  have hly := Sx_size (rtrim0 (trim0 (A ++ B)))
  have HN := Lib.hid (show num5 d A B u P = if trim0 (A ++ B) = [] then Nm.zero else ⟨d, rtrim0 (trim0 (A ++ B)), (if u then -(powV 1099511627776 P : Int) else (powV 1099511627776 P : Int)) - B.length + (trim0 (A ++ B)).length - (rtrim0 (trim0 (A ++ B))).length⟩ from rfl)
  generalize num5 d A B u P = N at *
  generalize rtrim0 (trim0 (A ++ B)) = sh at *
  generalize trim0 (A ++ B) = al at *
  generalize powV 1099511627776 P = pv at *
  have HC := Lib.hid (fun w' (g : Gr _ w') => And.intro (k0.gr g) (k0.gr g).cells)
  have HD := Lib.hid (fun w' (g : Gr _ w') => And.intro (k1.gr g) (cells3 (k1.gr g)))
  clear k0 k1
  have HAL := Lib.hid (fun (h : al.isEmpty = true) => (List.isEmpty_iff.1 h : al = []))
  have hne : w.heap.size + 1 ≠ w.heap.size := by omega
  have HNE := Lib.hid hne
  generalize B.length = nb at *
  generalize A.length = nA at *
  generalize al.length = na at *
  generalize sh.length = ns at *
  have HBD : Hid (nb ≤ 1000000 ∧ na ≤ 2000000 ∧ ns ≤ 2000000 ∧ pv ≤ 1099511627776) := Lib.hid (by omega)
  clear hne hP hd lab
  by_cases hal : al = []
  · have hb : al.isEmpty = true := by rw [hal]; rfl
    have HN2 := Lib.hid (HN.out.trans (if_pos hal))
    clear hal
    go_enter Tryz.func153, Tryz.ntmps153
    go_wp2_with (go_at_call 69; ((with_reducible refine (K1.out _).mono ?_); rintro r w3 ⟨rfl, hg⟩); have HG1 := Lib.hid hg; obtain ⟨c0, ⟨c1, c2, c3, c4, c5⟩, c6⟩ := HC.out _ hg; obtain ⟨d0, d1, d2, d3, d4, d5, d6⟩ := HD.out _ hg; clear hg)
    refine bodyPost_ret (results_Num rfl _ _ (w.heap.size + 1) _ rfl (set3 (HD.out _ HG1.out).1) rfl) rfl ⟨by rw [HN2.out]; rfl, ?_⟩
    exact gr_set (gr_set (gr_set (gtrans HG.out HG1.out) (Nat.le_succ _) _ _) (Nat.le_succ _) _ _) (Nat.le_succ _) _ _
  · have hb : al.isEmpty = false := by
      cases h : al.isEmpty with
      | false => rfl
      | true => exact absurd (HAL.out h) hal
    have HN2 := Lib.hid (HN.out.trans (if_neg hal))
    clear hal HN
    cases u
    · go_enter Tryz.func153, Tryz.ntmps153
      go_wp2_with (first
        | (go_at_call 69; ((with_reducible refine (K1.out _).mono ?_); rintro r w3 ⟨rfl, hg⟩); have HG1 := Lib.hid hg; obtain ⟨c0, ⟨c1, c2, c3, c4, c5⟩, c6⟩ := HC.out _ hg; clear hg)
        | (go_at_call 187; ((with_reducible refine (KP.out _).mono ?_); rintro r w4 ⟨rfl, hg⟩); have HG2 := Lib.hid (gtrans HG1.out hg); clear hg; obtain ⟨e0, ⟨e1, e2, e3, e4, e5⟩, e6⟩ := HC.out _ HG2.out)
        | (go_at_call 188; ((with_reducible refine (K2.out _).mono ?_); rintro r w5 ⟨rfl, hg⟩); have HG3 := Lib.hid (gtrans HG2.out hg); clear hg))
      obtain ⟨m0, ⟨m1, m2, m3, m4, m5⟩, m6⟩ := HC.out _ (gtrans HG3.out (gdrew w5))
      obtain ⟨n0, n1, n2, n3, n4, n5, n6⟩ := HD.out _ (gtrans HG3.out (gdrew w5))
      go_region_held3 (fun v => (v.cell? ⟨w.heap.size, 0, none⟩ = some (.bool d) ∧ v.cell? ⟨w.heap.size, 2, none⟩ = some (.string (Sx B))))
        (first | (exact ⟨m1, m3⟩) | (exact HS6.out) | (exact HS7.out _ _ _))
        (first | (go_at_call 189; ((with_reducible refine (K3.out w5.drew).mono ?_); rintro r w6 ⟨rfl, hg⟩); have HG4 := Lib.hid (gtrans HG3.out (gtrans (gdrew w5) hg)); clear hg; have HS6 := Lib.hid (And.intro (HC.out _ HG4.out).2.1.1 (HC.out _ HG4.out).2.1.2.2.1); have HS7 := Lib.hid (fun a b c => And.intro (((((HC.out _ HG4.out).1.other HNE.out 0 a).other HNE.out 1 b).other HNE.out 2 c).cells.1.1) (((((HC.out _ HG4.out).1.other HNE.out 0 a).other HNE.out 1 b).other HNE.out 2 c).cells.1.2.2.1)); obtain ⟨n0, n1, n2, n3, n4, n5, n6⟩ := HD.out _ HG4.out))
      go_wp2
      refine bodyPost_ret (results_Num rfl _ _ (w.heap.size + 1) _ rfl (set3 (HD.out _ HG4.out).1) rfl) rfl ⟨?_, ?_⟩
      · rw [HN2.out]
        obtain ⟨b1, b2, b3, b4⟩ := HBD.out
        have u1 : IntKind.i64.wrap ((pv : Int) - (nb : Int)) = (pv : Int) - (nb : Int) := IntWalk.i64_in _ (by omega)
        have u2 : IntKind.i64.wrap ((pv : Int) - (nb : Int) + (na : Int)) = (pv : Int) - (nb : Int) + (na : Int) := IntWalk.i64_in _ (by omega)
        have u3 : IntKind.i64.wrap ((pv : Int) - (nb : Int) + (na : Int) - (ns : Int)) = (pv : Int) - (nb : Int) + (na : Int) - (ns : Int) := IntWalk.i64_in _ (by omega)
        show Ending.returned (.agg #[.bool d, .string (Sx sh), .int .i64 (IntKind.i64.wrap (IntKind.i64.wrap (IntKind.i64.wrap ((pv : Int) - ↑nb) + ↑na) - ↑ns))]) = _
        rw [u1, u2, u3]; rfl
      exact gr_set (gr_set (gr_set (gtrans HG.out HG4.out) (Nat.le_succ _) _ _) (Nat.le_succ _) _ _) (Nat.le_succ _) _ _
    · go_enter Tryz.func153, Tryz.ntmps153
      go_wp2_with (first
        | (go_at_call 69; ((with_reducible refine (K1.out _).mono ?_); rintro r w3 ⟨rfl, hg⟩); have HG1 := Lib.hid hg; obtain ⟨c0, ⟨c1, c2, c3, c4, c5⟩, c6⟩ := HC.out _ hg; clear hg)
        | (go_at_call 187; ((with_reducible refine (KP.out _).mono ?_); rintro r w4 ⟨rfl, hg⟩); have HG2 := Lib.hid (gtrans HG1.out hg); clear hg; obtain ⟨e0, ⟨e1, e2, e3, e4, e5⟩, e6⟩ := HC.out _ HG2.out)
        | (go_at_call 188; ((with_reducible refine (K2.out _).mono ?_); rintro r w5 ⟨rfl, hg⟩); have HG3 := Lib.hid (gtrans HG2.out hg); clear hg))
      obtain ⟨m0, ⟨m1, m2, m3, m4, m5⟩, m6⟩ := HC.out _ (gtrans HG3.out (gdrew w5))
      obtain ⟨n0, n1, n2, n3, n4, n5, n6⟩ := HD.out _ (gtrans HG3.out (gdrew w5))
      go_region_held3 (fun v => (v.cell? ⟨w.heap.size, 0, none⟩ = some (.bool d) ∧ v.cell? ⟨w.heap.size, 2, none⟩ = some (.string (Sx B))))
        (first | (exact ⟨m1, m3⟩) | (exact HS6.out) | (exact HS7.out _ _ _))
        (first | (go_at_call 189; ((with_reducible refine (K3.out w5.drew).mono ?_); rintro r w6 ⟨rfl, hg⟩); have HG4 := Lib.hid (gtrans HG3.out (gtrans (gdrew w5) hg)); clear hg; have HS6 := Lib.hid (And.intro (HC.out _ HG4.out).2.1.1 (HC.out _ HG4.out).2.1.2.2.1); have HS7 := Lib.hid (fun a b c => And.intro (((((HC.out _ HG4.out).1.other HNE.out 0 a).other HNE.out 1 b).other HNE.out 2 c).cells.1.1) (((((HC.out _ HG4.out).1.other HNE.out 0 a).other HNE.out 1 b).other HNE.out 2 c).cells.1.2.2.1)); obtain ⟨n0, n1, n2, n3, n4, n5, n6⟩ := HD.out _ HG4.out))
      go_wp2
      refine bodyPost_ret (results_Num rfl _ _ (w.heap.size + 1) _ rfl (set3 (HD.out _ HG4.out).1) rfl) rfl ⟨?_, ?_⟩
      · rw [HN2.out]
        obtain ⟨b1, b2, b3, b4⟩ := HBD.out
        have u1 : IntKind.i64.wrap (-(pv : Int) - (nb : Int)) = -(pv : Int) - (nb : Int) := IntWalk.i64_in _ (by omega)
        have u2 : IntKind.i64.wrap (-(pv : Int) - (nb : Int) + (na : Int)) = -(pv : Int) - (nb : Int) + (na : Int) := IntWalk.i64_in _ (by omega)
        have u3 : IntKind.i64.wrap (-(pv : Int) - (nb : Int) + (na : Int) - (ns : Int)) = -(pv : Int) - (nb : Int) + (na : Int) - (ns : Int) := IntWalk.i64_in _ (by omega)
        show Ending.returned (.agg #[.bool d, .string (Sx sh), .int .i64 (IntKind.i64.wrap (IntKind.i64.wrap (IntKind.i64.wrap (-(pv : Int) - ↑nb) + ↑na) - ↑ns))]) = _
        rw [u1, u2, u3]; rfl
      exact gr_set (gr_set (gr_set (gtrans HG.out HG4.out) (Nat.le_succ _) _ _) (Nat.le_succ _) _ _) (Nat.le_succ _) _ _

theorem ah_len (s : Bs) : (ah s).length ≤ s.length := by have := lens s; omega
theorem bh_len (s : Bs) : (bh s).length ≤ s.length := by have := lens s; omega
theorem pw_len (s : Bs) : (pw s).length ≤ s.length := by
  rw [pw]; split
  · have h1 := (List.takeWhile_sublist (l := s5 s) dig).length_le
    have h2 : (s5 s).length ≤ (s3 s).length := by unfold s5 s4; split <;> simp <;> omega
    have h3 := len_s3 s
    omega
  · simp

theorem TX_alloc (w : World) (d : Bool) (A B : Bs) (u : Bool) (P : Bs) : TX w.heap.size d A B u P (w.alloc (.cells #[.bool d, .string (Sx A), .string (Sx B), .bool u, .string (Sx P)] 180)) := heap_alloc_new _ _
theorem NB_alloc (w : World) (d : Bool) (A : Bs) (e : Int) : NB w.heap.size d A e (w.alloc (.cells #[.bool d, .string (Sx A), .int .i64 e] 24)) := heap_alloc_new _ _
set_option maxHeartbeats 4000000 in
theorem parse_any (l : Bs) (w : World) (hl : l.length ≤ 1000000) :
    Calls Tryz.prog 115 #[.string (Sx l)] w fun r w' => r = .returned (.tuple #[valN (parseM l).1, .int .i64 (parseM l).2]) ∧ w.grownBy w' none := by
  have KR := Lib.hid (fun w' => read_any l w' hl)
  have KN := Lib.hid (fun w' => num_any (dn l) (ah l) (bh l) (un l) (pw l) w' (Nat.le_trans (ah_len l) hl) (Nat.le_trans (bh_len l) hl) (Nat.le_trans (pw_len l) hl) (pw_all l))
  rw [show num5 (dn l) (ah l) (bh l) (un l) (pw l) = numM l from rfl] at KN
  have hdl : (numM l).digs.length ≤ 2000000 := by
    unfold numM num5
    split
    · simp [Nm.zero]
    · have h1 := rtrim_len (trim0 (ah l ++ bh l))
      have h2 := trim_len (ah l ++ bh l)
      have h3 := lens l
      rw [List.length_append] at h2
      simp only; omega
  have HP : Hid (parseM l = if okN l then (if rightM (numM l) then (numM l, 0) else (Nm.zero, 13)) else (Nm.zero, 11)) := Lib.hid rfl
  generalize numM l = N at *
  generalize parseM l = M at *
  generalize okN l = ok at *
  have HR := Lib.hid (fun w' => right_any N.down N.digs N.exp w')
  obtain ⟨nd, nA, ne⟩ := N
  unfold valN at KN
  simp only at KN hdl HR
  have k0 : NB w.heap.size false [] 0 (w.alloc (.cells #[.bool false, .string ⟨#[]⟩, .int .i64 0] 24)) := heap_alloc_new _ _
  have HG := Lib.hid (World.grownBy_alloc w (.cells #[.bool false, .string ⟨#[]⟩, .int .i64 0] 24) none)
  have HC := Lib.hid (fun w' (g : Gr _ w') => And.intro (k0.gr g) (cells3 (k0.gr g)))
  clear k0 hl
  go_enter Tryz.func115, Tryz.ntmps115
  cases ok
  · have HM : Hid (M = (Nm.zero, 11)) := Lib.hid HP.out
    go_wp2_with (go_at_call 152; ((with_reducible refine (KR.out _).mono ?_); rintro r w1 ⟨⟨d, A, B, u, P, rfl, -⟩, hg⟩); have hg := gtrans hg (World.grownBy_alloc w1 (.cells #[.bool d, .string (Sx A), .string (Sx B), .bool u, .string (Sx P)] 180) none); have HG1 := Lib.hid hg; obtain ⟨c0, c1, c2, c3, c4, c5, c6⟩ := HC.out _ hg; clear hg; unfold txV)
    refine bodyPost_ret (results_Num2 rfl _ _ w.heap.size _ _ rfl rfl (set3 (HC.out _ HG1.out).1) rfl) rfl ⟨by rw [HM.out]; rfl, ?_⟩
    exact gr_set (gr_set (gr_set (gtrans HG.out HG1.out) (Nat.le_refl _) _ _) (Nat.le_refl _) _ _) (Nat.le_refl _) _ _
  · have HX := Lib.hid hdl
    have HM1 : Hid (M = if rightM ⟨nd, nA, ne⟩ then (⟨nd, nA, ne⟩, 0) else (Nm.zero, 13)) := Lib.hid HP.out
    generalize rightM ⟨nd, nA, ne⟩ = rb at *
    clear HP hdl
    cases rb
    · have HM : Hid (M = (Nm.zero, 13)) := Lib.hid HM1.out
      go_wp2_with (first
        | (go_at_call 152; ((with_reducible refine (KR.out _).mono ?_); rintro r w1 ⟨⟨d, A, B, u, P, rfl, hv⟩, hg⟩); have hv := hv rfl; rw [← hv] at KN; clear hv; have HK1 := Lib.hid (TX_alloc w1 d A B u P); obtain ⟨⟨t0, t1, t2, t3, t4⟩, -⟩ := HK1.out.cells; have hg := gtrans hg (World.grownBy_alloc w1 (.cells #[.bool d, .string (Sx A), .string (Sx B), .bool u, .string (Sx P)] 180) none); have HG1 := Lib.hid hg; clear hg; unfold txV; unfold txV at KN)
        | (go_at_call 153; ((with_reducible refine (KN.out _).mono ?_); rintro r w2 ⟨rfl, hg⟩); have HK2 := Lib.hid (NB_alloc w2 nd nA ne); obtain ⟨s0, s1, s2, -⟩ := cells3 HK2.out; have hg := gtrans HG1.out (gtrans hg (World.grownBy_alloc w2 (.cells #[.bool nd, .string (Sx nA), .int .i64 ne] 24) none)); have HG2 := Lib.hid hg; clear hg)
        | (go_at_call 106; ((with_reducible refine (HR.out _ (Nat.le_trans HX.out (by decide))).mono ?_); rintro r w3 ⟨rfl, hg⟩); have HK3 := Lib.hid (HK2.out.gr hg); obtain ⟨s0, s1, s2, -⟩ := cells3 HK3.out; have hg := gtrans HG2.out hg; have HG3 := Lib.hid hg; obtain ⟨c0, c1, c2, c3, c4, c5, c6⟩ := HC.out _ hg; clear hg))
      refine bodyPost_ret (results_Num2 rfl _ _ w.heap.size _ _ rfl rfl (set3 (HC.out _ HG3.out).1) rfl) rfl ⟨by rw [HM.out]; rfl, ?_⟩
      exact gr_set (gr_set (gr_set (gtrans HG.out HG3.out) (Nat.le_refl _) _ _) (Nat.le_refl _) _ _) (Nat.le_refl _) _ _
    · have HM : Hid (M = (⟨nd, nA, ne⟩, 0)) := Lib.hid HM1.out
      go_wp2_with (first
        | (go_at_call 152; ((with_reducible refine (KR.out _).mono ?_); rintro r w1 ⟨⟨d, A, B, u, P, rfl, hv⟩, hg⟩); have hv := hv rfl; rw [← hv] at KN; clear hv; have HK1 := Lib.hid (TX_alloc w1 d A B u P); obtain ⟨⟨t0, t1, t2, t3, t4⟩, -⟩ := HK1.out.cells; have hg := gtrans hg (World.grownBy_alloc w1 (.cells #[.bool d, .string (Sx A), .string (Sx B), .bool u, .string (Sx P)] 180) none); have HG1 := Lib.hid hg; clear hg; unfold txV; unfold txV at KN)
        | (go_at_call 153; ((with_reducible refine (KN.out _).mono ?_); rintro r w2 ⟨rfl, hg⟩); have HK2 := Lib.hid (NB_alloc w2 nd nA ne); obtain ⟨s0, s1, s2, -⟩ := cells3 HK2.out; have hg := gtrans HG1.out (gtrans hg (World.grownBy_alloc w2 (.cells #[.bool nd, .string (Sx nA), .int .i64 ne] 24) none)); have HG2 := Lib.hid hg; clear hg)
        | (go_at_call 106; ((with_reducible refine (HR.out _ (Nat.le_trans HX.out (by decide))).mono ?_); rintro r w3 ⟨rfl, hg⟩); have HK3 := Lib.hid (HK2.out.gr hg); obtain ⟨s0, s1, s2, -⟩ := cells3 HK3.out; have hg := gtrans HG2.out hg; have HG3 := Lib.hid hg; obtain ⟨c0, c1, c2, c3, c4, c5, c6⟩ := HC.out _ hg; clear hg))
      refine bodyPost_ret (results_Num2 rfl _ _ w.heap.size _ _ rfl rfl (set3 (HC.out _ HG3.out).1) rfl) rfl ⟨by rw [HM.out]; rfl, ?_⟩
      exact gr_set (gr_set (gr_set (gtrans HG.out HG3.out) (Nat.le_refl _) _ _) (Nat.le_refl _) _ _) (Nat.le_refl _) _ _

end Go.Proofs.YticnfmfmgdfdeaaGreatDoor
