/-
  JSON strings as plain lists: one sign's step; what is shorter than what. Own work.
-/
import Derived.Test.YticnfmfmgdfdeaaGreatDoorJsnAD
import Derived.Test.YticnfmfmgdfdeaaGreatDoorJsnAO
import Derived.Lib.TrimUEq
import Derived.Lib.MapLaws
import Derived.Lib.TrimAscii

set_option linter.unusedVariables false
set_option linter.unusedSimpArgs false
namespace Go.Proofs.YticnfmfmgdfdeaaGreatDoor
open Go.RowKit

theorem hexB_ascii {b : UInt8} {y : Nat} (h : hexB b = some y) : b.toNat < 128 := by
  unfold hexB at h
  split at h
  · omega
  · split at h
    · omega
    · split at h
      · omega
      · cases h
theorem hexV_ascii : ∀ (q : Bs) (a x : Nat), hexV a q = some x → ∀ b ∈ q, b.toNat < 128
  | [], _, _, _, b, hb => by cases hb
  | c :: q, a, x, h, b, hb => by
    cases hc : hexB c with
    | none => simp [hexV, hc] at h
    | some y =>
      rw [hexV_some c q a y hc] at h
      rcases List.mem_cons.1 hb with e | e
      · rw [e]; exact hexB_ascii hc
      · exact hexV_ascii q _ x h b e
theorem hex4_ascii {l : Bs} {x : Nat} (h : hex4 l = some x) : ∀ b ∈ l.take 6, b.toNat < 128 := by
  have h6 := (hex4_lt h).2
  unfold hex4 at h
  rw [if_neg (by omega)] at h
  split at h
  · rename_i hp
    have hpre := List.isPrefixOf_iff_prefix.1 hp
    obtain ⟨t, ht⟩ := hpre
    have k := hexV_ascii _ _ _ h
    rw [← ht] at k ⊢
    intro b hb
    have e : ([92, 117] ++ t).take 6 = [92, 117] ++ t.take 4 := by simp
    have e2 : (([92, 117] ++ t).drop 2).take 4 = t.take 4 := by simp
    rw [e] at hb
    rw [e2] at k
    rcases List.mem_append.1 hb with hb | hb
    · simp at hb; rcases hb with rfl | rfl <;> decide
    · exact k b hb
  · cases h
theorem numbM_ok {l : Bs} {x m : Nat} (h : numbM l = some (x, m)) : 2 ≤ m ∧ m ≤ l.length ∧ x ≤ 1114111 ∧ ∀ b ∈ l.take m, b.toNat < 128 := by
  unfold numbM at h
  cases ha : hex4 l with
  | none => rw [ha] at h; cases h
  | some a =>
    rw [ha] at h
    obtain ⟨h1, h2⟩ := hex4_lt ha
    have h3 := hex4_ascii ha
    simp only at h
    split at h
    · injection h with h
      injection h with e1 e2
      subst e1 e2
      exact ⟨by omega, h2, by omega, h3⟩
    · cases hb : hex4 (l.drop 6) with
      | none => rw [hb] at h; cases h
      | some c =>
        rw [hb] at h
        obtain ⟨g1, g2⟩ := hex4_lt hb
        have g3 := hex4_ascii hb
        rw [List.length_drop] at g2
        simp only at h
        split at h
        · cases h
        · injection h with h
          injection h with e1 e2
          subst e1 e2
          refine ⟨by omega, by omega, by omega, fun b hb => ?_⟩
          rw [show (12 : Nat) = 6 + 6 from rfl, List.take_add] at hb
          rcases List.mem_append.1 hb with hb | hb
          · exact h3 b hb
          · exact g3 b hb
theorem escM_ok {l : Bs} {x m : Nat} (h0 : l.getD 0 0 = 92) (h : escM l = some (x, m)) : 2 ≤ m ∧ m ≤ l.length ∧ x ≤ 1114111 ∧ ∀ b ∈ l.take m, b.toNat < 128 := by
  unfold escM at h
  split at h
  · cases h
  · rename_i hl
    have two : ∀ c : UInt8, c.toNat < 128 → l.getD 1 0 = c → ∀ b ∈ l.take 2, b.toNat < 128 := by
      intro c hc h1 b hb
      match l, hl with
      | u :: v :: t, _ =>
        simp at h0 h1 hb
        rcases hb with rfl | rfl
        · rw [h0]; decide
        · rw [h1]; exact hc
      | [u], hl => simp at hl
      | [], hl => simp at hl
    split at h
    · rename_i hc
      injection h with h
      injection h with e1 e2
      subst e2
      refine ⟨by omega, by omega, ?_, ?_⟩
      · rw [← e1]; have := (l.getD 1 0).toNat_lt; omega
      · rcases hc with hc | hc | hc
        · exact two 34 (by decide) hc
        · exact two 92 (by decide) hc
        · exact two 47 (by decide) hc
    · split at h
      · rename_i hc; injection h with h; injection h with e1 e2; subst e1 e2
        exact ⟨by omega, by omega, by omega, two 98 (by decide) hc⟩
      · split at h
        · rename_i hc; injection h with h; injection h with e1 e2; subst e1 e2
          exact ⟨by omega, by omega, by omega, two 102 (by decide) hc⟩
        · split at h
          · rename_i hc; injection h with h; injection h with e1 e2; subst e1 e2
            exact ⟨by omega, by omega, by omega, two 110 (by decide) hc⟩
          · split at h
            · rename_i hc; injection h with h; injection h with e1 e2; subst e1 e2
              exact ⟨by omega, by omega, by omega, two 114 (by decide) hc⟩
            · split at h
              · rename_i hc; injection h with h; injection h with e1 e2; subst e1 e2
                exact ⟨by omega, by omega, by omega, two 116 (by decide) hc⟩
              · exact numbM_ok h

/-- A sign below 128 is its byte. -/
theorem dec_low {l : Bs} (hne : l ≠ []) (h : (Lib.decodeL l).1 < 128) : (l.getD 0 0).toNat = (Lib.decodeL l).1 ∧ (Lib.decodeL l).2 = 1 := by
  cases l with
  | nil => exact absurd rfl hne
  | cons b t =>
    by_cases hb : b.toNat < 128
    · rw [Lib.decodeL_ascii b t hb]; exact ⟨rfl, rfl⟩
    · exfalso
      have := decode_high ⟨(b :: t).toArray⟩ 0 (by simp [ByteArray.size]) (by show 128 ≤ ((b :: t).toArray[0]'(by simp)).toNat; simp; omega)
      unfold Lib.decodeL at h
      omega
theorem dec_asc {l : Bs} (hne : l ≠ []) (h : (l.getD 0 0).toNat < 128) : Lib.decodeL l = ((l.getD 0 0).toNat, 1) := by
  cases l with
  | nil => exact absurd rfl hne
  | cons b t => exact Lib.decodeL_ascii b t h

theorem qM_fuel : ∀ (k n m : Nat) (l : Bs), l.length ≤ k → l.length ≤ n → l.length ≤ m → qM n l = qM m l := by
  intro k
  induction k with
  | zero =>
    intro n m l h0 _ _
    have : l = [] := List.eq_nil_of_length_eq_zero (by omega)
    subst this
    cases n <;> cases m <;> simp [qM]
  | succ k ih =>
    intro n m l h0 hn hm
    cases l with
    | nil => cases n <;> cases m <;> simp [qM]
    | cons b t =>
      cases n with
      | zero => simp at hn
      | succ n =>
        cases m with
        | zero => simp at hm
        | succ m =>
          have hne : b :: t ≠ [] := by simp
          have hlen : ∀ j, 1 ≤ j → ((b :: t).drop j).length ≤ k ∧ ((b :: t).drop j).length ≤ n ∧ ((b :: t).drop j).length ≤ m := by
            intro j hj
            simp only [List.length_drop, List.length_cons] at *
            omega
          unfold qM
          rw [if_neg hne, if_neg hne]
          split
          · rfl
          · split
            · rename_i h92
              cases he : escM (b :: t) with
              | none => rfl
              | some r =>
                obtain ⟨x, j⟩ := r
                have h0 : (b :: t).getD 0 0 = 92 := by
                  have := (dec_low hne (by omega)).1
                  exact UInt8.toNat_inj.1 (by rw [this, h92]; rfl)
                have hj := (escM_ok h0 he).1
                obtain ⟨a1, a2, a3⟩ := hlen j (by omega)
                simp only
                rw [ih n m _ a1 a2 a3]
            · split
              · rfl
              · obtain ⟨a1, a2, a3⟩ := hlen _ (Lib.decodeL_width (b :: t))
                rw [ih n m _ a1 a2 a3]
def qS (l : Bs) : Option (Bs × Bs) := qM l.length l
theorem qS_nil : qS [] = none := rfl
theorem qM_S {n : Nat} {l : Bs} (h : l.length ≤ n) : qM n l = qS l := qM_fuel l.length n l.length l (Nat.le_refl _) h (Nat.le_refl _)
theorem qS_step {l : Bs} (hne : l ≠ []) : qS l =
    if (Lib.decodeL l).1 = 34 then some ([], l.drop 1)
    else if (Lib.decodeL l).1 = 92 then match escM l with
      | none => none
      | some (x, m) => (qS (l.drop m)).map fun r => (Lib.encodeRune x ++ r.1, r.2)
    else if (Lib.decodeL l).1 < 32 ∨ brokenM l (Lib.decodeL l).1 = true then none
    else (qS (l.drop (Lib.decodeL l).2)).map fun r => (Lib.encodeRune (Lib.decodeL l).1 ++ r.1, r.2) := by
  have e : qS l = qM (l.length + 1) l := (qM_S (Nat.le_succ _)).symm
  rw [e]
  unfold qM
  rw [if_neg hne]
  split
  · rfl
  · split
    · cases escM l with
      | none => rfl
      | some r =>
        obtain ⟨x, j⟩ := r
        simp only
        rw [qM_S (by simp)]
    · split
      · rfl
      · rw [qM_S (by simp)]
theorem qS_len : ∀ (k : Nat) (l t r : Bs), l.length ≤ k → qS l = some (t, r) → r.length < l.length := by
  intro k
  induction k with
  | zero =>
    intro l t r h0 h
    have : l = [] := List.eq_nil_of_length_eq_zero (by omega)
    subst this
    cases h
  | succ k ih =>
    intro l t r h0 h
    by_cases hne : l = []
    · subst hne; cases h
    have hpos : 0 < l.length := by cases l with
      | nil => exact absurd rfl hne
      | cons _ _ => simp
    rw [qS_step hne] at h
    split at h
    · injection h with h; injection h with _ e
      subst e
      simp; omega
    · split at h
      · rename_i h92
        cases he : escM l with
        | none => rw [he] at h; cases h
        | some rr =>
          obtain ⟨x, j⟩ := rr
          have h0' : l.getD 0 0 = 92 := by
            have := (dec_low hne (by omega)).1
            exact UInt8.toNat_inj.1 (by rw [this, h92]; rfl)
          have hj := (escM_ok h0' he)
          rw [he] at h
          simp only at h
          cases hq : qS (l.drop j) with
          | none => rw [hq] at h; cases h
          | some y =>
            rw [hq] at h
            simp only [Option.map_some] at h
            injection h with h; injection h with _ e
            have := ih (l.drop j) y.1 y.2 (by rw [List.length_drop]; omega) hq
            rw [List.length_drop] at this
            rw [← e]; omega
      · split at h
        · cases h
        · cases hq : qS (l.drop (Lib.decodeL l).2) with
          | none => rw [hq] at h; cases h
          | some y =>
            rw [hq] at h
            simp only [Option.map_some] at h
            injection h with h; injection h with _ e
            have hw := Lib.decodeL_width l
            have := ih (l.drop (Lib.decodeL l).2) y.1 y.2 (by rw [List.length_drop]; omega) hq
            rw [List.length_drop] at this
            rw [← e]; omega
theorem quotM_eq (s : Bs) : quotM s = if isH 34 s then qS s.tail else none := rfl
theorem quotM_len {s t r : Bs} (h : quotM s = some (t, r)) : r.length < s.length := by
  rw [quotM_eq] at h
  split at h
  · have := qS_len _ _ _ _ (Nat.le_refl _) h
    have : s.tail.length ≤ s.length := by simp
    omega
  · cases h

end Go.Proofs.YticnfmfmgdfdeaaGreatDoor

namespace Go.Proofs.YticnfmfmgdfdeaaGreatDoor
open Go.RowKit

theorem blkN (s : Bs) : (blk s).length ≤ s.length := (List.dropWhile_sublist _).length_le
theorem isH_pos {c : UInt8} {s : Bs} (h : isH c s = true) : s.tail.length + 1 = s.length := by
  have := congrArg List.length (isH_eq h)
  simp only [List.length_cons] at this
  omega
theorem rowM_len {α : Type} {T : α → Bs → Rd α} {e : UInt8} (hT : ∀ x s y r, T x s = .ok (y, r) → r.length ≤ s.length) : ∀ (m : Nat) (x : α) (s : Bs) (y : α) (r : Bs), rowM T e m x s = .ok (y, r) → r.length < s.length
  | 0, x, s, y, r, h => by simp [rowM] at h
  | m + 1, x, s, y, r, h => by
    simp only [rowM] at h
    cases ht : T x s with
    | error c => rw [ht] at h; cases h
    | ok zr =>
      obtain ⟨z, t⟩ := zr
      rw [ht] at h
      have h1 := hT x s z t ht
      have h2 := blkN t
      simp only at h
      split at h
      · rename_i he
        have h3 := isH_pos he
        injection h with h; injection h with _ h; subst h
        omega
      · split at h
        · rename_i he
          have h3 := isH_pos he
          have := rowM_len hT m z _ y r h
          omega
        · cases h
theorem rowsM_len {α : Type} {T : α → Bs → Rd α} {e : UInt8} (hT : ∀ x s y r, T x s = .ok (y, r) → r.length ≤ s.length) {x : α} {s : Bs} {y : α} {r : Bs} (h : rowsM T e x s = .ok (y, r)) : r.length < s.length := by
  unfold rowsM at h
  have h2 := blkN s
  split at h
  · rename_i he
    have h3 := isH_pos he
    injection h with h; injection h with _ h; subst h
    omega
  · have := rowM_len hT _ _ _ _ _ h
    omega
theorem itemM_len {P : Bs → Rd J} (hP : ∀ s j r, P s = .ok (j, r) → r.length < s.length) {x : List J} {s : Bs} {y : List J} {r : Bs} (h : itemM P x s = .ok (y, r)) : r.length ≤ s.length ∧ y.length + r.length ≤ x.length + s.length := by
  unfold itemM at h
  cases hp : P s with
  | error c => rw [hp] at h; cases h
  | ok jr =>
    obtain ⟨j, t⟩ := jr
    have := hP s j t hp
    rw [hp] at h
    simp only at h
    injection h with h; injection h with h1 h2
    subst h1 h2
    simp
    omega
theorem posM_le (ns : List Bs) (m : Bs) : posM ns m ≤ ns.length := (List.takeWhile_sublist _).length_le
theorem membM_len {P : Bs → Rd J} (hP : ∀ s j r, P s = .ok (j, r) → r.length < s.length) {x : List Bs × List J} {s : Bs} {y : List Bs × List J} {r : Bs} (h : membM P x s = .ok (y, r)) : r.length ≤ s.length ∧ y.1.length + r.length ≤ x.1.length + s.length := by
  unfold membM at h
  have h0 := blkN s
  cases hq : quotM (blk s) with
  | none => rw [hq] at h; cases h
  | some tr =>
    obtain ⟨m, t⟩ := tr
    have h1 := quotM_len hq
    rw [hq] at h
    simp only at h
    split at h
    · cases h
    · split at h
      · rename_i he
        have h2 := isH_pos he
        have h3 := blkN t
        cases hp : P (blk t).tail with
        | error c => rw [hp] at h; cases h
        | ok jr =>
          obtain ⟨j, u⟩ := jr
          have := hP _ j u hp
          rw [hp] at h
          simp only at h
          injection h with h; injection h with h5 h6
          subst h5 h6
          have h7 := posM_le x.1 m
          simp only [List.length_insertIdx]
          rw [if_pos h7]
          omega
      · cases h
theorem prefix_len {l p : Bs} (h : Lib.hasPrefix l p = true) : p.length ≤ l.length := (List.isPrefixOf_iff_prefix.1 h).length_le
theorem wordM_len {w : Bs} {j k : J} {s r : Bs} (hw : 0 < w.length) (h : wordM w j s = .ok (k, r)) : r.length < s.length := by
  unfold wordM at h
  split at h
  · rename_i hp
    have := prefix_len hp
    injection h with h; injection h with _ h; subst h
    simp; omega
  · cases h
theorem numJ_len {s r : Bs} {j : J} (h0 : numB (s.headD 0) = true) (hs : s ≠ []) (h : numJ s = .ok (j, r)) : r.length < s.length := by
  unfold numJ at h
  split at h
  · injection h with h; injection h with _ h; subst h
    cases s with
    | nil => exact absurd rfl hs
    | cons b t =>
      simp only [List.headD_cons] at h0
      have := (List.dropWhile_sublist numB (l := t)).length_le
      simp only [List.dropWhile, h0, List.length_cons]
      omega
  · cases h
theorem vM_len {P : Option (Bs → Rd J)} (hP : ∀ Q, P = some Q → ∀ s j r, Q s = .ok (j, r) → r.length < s.length) {s r : Bs} {j : J} (h : vM P s = .ok (j, r)) : r.length < s.length := by
  unfold vM at h
  split at h
  · exact wordM_len (by decide) h
  · split at h
    · exact wordM_len (by decide) h
    · split at h
      · exact wordM_len (by decide) h
      · split at h
        · unfold strJ at h
          cases hq : quotM s with
          | none => rw [hq] at h; cases h
          | some tr =>
            obtain ⟨t, u⟩ := tr
            rw [hq] at h
            simp only at h
            injection h with h; injection h with _ h; subst h
            exact quotM_len hq
        · split at h
          · rename_i he
            have h3 := isH_pos he
            unfold arrM at h
            cases P with
            | none => cases h
            | some Q =>
              simp only at h
              cases hr : rowsM (itemM Q) 93 [] s.tail with
              | error c => rw [hr] at h; cases h
              | ok lr =>
                obtain ⟨l, u⟩ := lr
                rw [hr] at h
                simp only at h
                injection h with h; injection h with _ h; subst h
                have := rowsM_len (fun x s y r h => (itemM_len (hP Q rfl) h).1) hr
                omega
          · split at h
            · rename_i he
              have h3 := isH_pos he
              unfold objM at h
              cases P with
              | none => cases h
              | some Q =>
                simp only at h
                cases hr : rowsM (membM Q) 125 ([], []) s.tail with
                | error c => rw [hr] at h; cases h
                | ok lr =>
                  obtain ⟨l, u⟩ := lr
                  rw [hr] at h
                  simp only at h
                  injection h with h; injection h with _ h; subst h
                  have := rowsM_len (fun x s y r h => (membM_len (hP Q rfl) h).1) hr
                  omega
            · split at h
              · rename_i he
                cases s with
                | nil => simp [isH, dig] at he
                | cons b t =>
                  refine numJ_len ?_ (by simp) h
                  simp only [isH, List.headD_cons, Bool.or_eq_true] at he
                  simp only [List.headD_cons, numB]
                  rcases he with he | he
                  · simp [he]
                  · simp [he]
              · cases h
theorem pV_len : ∀ (n : Nat) (s r : Bs) (j : J), pV n s = .ok (j, r) → r.length < s.length
  | 0, s, r, j, h => by
    have := vM_len (P := none) (fun Q h => by cases h) (show vM none (blk s) = _ from h)
    have := blkN s
    omega
  | n + 1, s, r, j, h => by
    have := vM_len (P := some (pV n)) (fun Q h s j r hq => by cases h; exact pV_len n s r j hq) (show vM (some (pV n)) (blk s) = _ from h)
    have := blkN s
    omega

end Go.Proofs.YticnfmfmgdfdeaaGreatDoor

namespace Go.Proofs.YticnfmfmgdfdeaaGreatDoor
open Go.RowKit

def awA : Bs := [32, 123, 34, 98, 34, 58, 49, 46, 48, 44, 32, 34, 97, 34, 58, 91, 93, 125]
def awB : Bs := [34, 92, 117, 48, 48, 101, 57, 92, 117, 100, 56, 51, 100, 92, 117, 100, 101, 48, 48, 92, 110, 34]
def awC : Bs := [91, 49, 44, 93]
def awD : Bs := [123, 34, 97, 34, 58, 49, 44, 34, 97, 34, 58, 50, 125]
set_option maxRecDepth 100000
theorem awC_parse : (parseJ awC).2 = 11 := by kernel_rfl
theorem awD_parse : (parseJ awD).2 = 31 := by kernel_rfl
theorem awB_parse : parseJ awB = (.str [195, 169, 240, 159, 152, 128, 10], 0) := by kernel_rfl
theorem awA_parse : parseJ awA = (.obj [[97], [98]] [.arr [], .num ⟨false, [49], 0⟩], 0) := by kernel_rfl
theorem awA_text : textJ (.obj [[97], [98]] [.arr [], .num ⟨false, [49], 0⟩]) = [123, 34, 97, 34, 58, 91, 93, 44, 34, 98, 34, 58, 49, 125] := by kernel_rfl
theorem awB_text : textJ (.str [195, 169, 240, 159, 152, 128, 10]) = [34, 195, 169, 240, 159, 152, 128, 92, 117, 48, 48, 48, 97, 34] := by kernel_rfl

end Go.Proofs.YticnfmfmgdfdeaaGreatDoor

namespace Go.Proofs.YticnfmfmgdfdeaaGreatDoor
open Go.RowKit

/-- k brackets, closed again, and what follows. -/
def dp (k : Nat) (r : Bs) : Bs := List.replicate k 91 ++ (List.replicate k 93 ++ r)
def nestJ : Nat → J
  | 0 => .arr []
  | k + 1 => .arr [nestJ k]
theorem dp_one (r : Bs) : dp 1 r = 91 :: 93 :: r := rfl
theorem dp_more (k : Nat) (r : Bs) : dp (k + 1) r = 91 :: dp k (93 :: r) := by
  have e : List.replicate (k + 1) (93 : UInt8) ++ r = List.replicate k 93 ++ 93 :: r := by
    rw [List.replicate_succ', List.append_assoc]; rfl
  unfold dp
  rw [e, List.replicate_succ, List.cons_append]
theorem blk91 (t : Bs) : blk (91 :: t) = 91 :: t := rfl
theorem vM91 (P : Option (Bs → Rd J)) (t : Bs) : vM P (91 :: t) = arrM P (91 :: t) := rfl
theorem deep_V : ∀ (n k : Nat) (r : Bs), pV n (dp (k + 1) r) = if k < n then .ok (nestJ k, r) else .error 35
  | 0, k, r => by
    rw [dp_more]
    show vM none (blk _) = _
    rw [blk91, vM91]
    rfl
  | n + 1, 0, r => by
    rw [dp_one, if_pos (by omega)]
    show vM (some (pV n)) (blk _) = _
    rw [blk91, vM91]
    rfl
  | n + 1, k + 1, r => by
    have ih := deep_V n k (93 :: r)
    rw [dp_more]
    show vM (some (pV n)) (blk _) = _
    rw [blk91, vM91]
    unfold arrM
    simp only [List.tail_cons]
    have h1 : dp (k + 1) (93 :: r) = 91 :: dp k (93 :: 93 :: r) := dp_more k _
    have h2 : blk (dp (k + 1) (93 :: r)) = dp (k + 1) (93 :: r) := by rw [h1]; rfl
    have h3 : isH 93 (dp (k + 1) (93 :: r)) = false := by rw [h1]; rfl
    unfold rowsM
    rw [h2, h3]
    simp only [Bool.false_eq_true, if_false]
    simp only [rowM, itemM]
    rw [ih]
    by_cases hk : k < n
    · rw [if_pos hk, if_pos (by omega)]
      rfl
    · rw [if_neg hk, if_neg (by omega)]
theorem deep_parse (k : Nat) (h : k < 2000) : (parseJ (dp (k + 1) [])).2 = if k < 16 then 0 else 35 := by
  have hl : ¬ 4096 < (dp (k + 1) []).length := by unfold dp; simp; omega
  unfold parseJ
  rw [if_neg hl, deep_V]
  by_cases hk : k < 16
  · rw [if_pos hk, if_pos hk]; rfl
  · rw [if_neg hk, if_neg hk]
theorem none_parse : (parseJ []).2 = 11 := by kernel_rfl
/-- Blanks, and a digit. -/
theorem blanks_parse (m : Nat) : (parseJ (List.replicate m 32 ++ [49])).2 = if m + 1 ≤ 4096 then 0 else 13 := by
  have hl : (List.replicate m (32 : UInt8) ++ [49]).length = m + 1 := by simp
  have hb : ∀ m, blk (List.replicate m (32 : UInt8) ++ [49]) = [49] := by
    intro m
    induction m with
    | zero => rfl
    | succ m ih =>
      rw [List.replicate_succ, List.cons_append]
      show blk (32 :: _) = _
      have : ∀ t, blk (32 :: t) = blk t := fun t => rfl
      rw [this, ih]
  unfold parseJ
  rw [hl]
  by_cases h : 4096 < m + 1
  · rw [if_pos h, if_neg (by omega)]
  · rw [if_neg h, if_pos (by omega)]
    have e : pV 16 (List.replicate m 32 ++ [49]) = .ok (.num ⟨false, [49], 0⟩, []) := by
      show vM (some (pV 15)) (blk _) = _
      rw [hb m]
      kernel_rfl
    rw [e]
    rfl

end Go.Proofs.YticnfmfmgdfdeaaGreatDoor
