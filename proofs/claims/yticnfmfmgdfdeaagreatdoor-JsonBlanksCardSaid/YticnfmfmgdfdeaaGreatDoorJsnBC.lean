/-
  Values that may be: plain. What a text is parsed as may be; its own text isn't six times as long. Own work.
-/
import Derived.Test.YticnfmfmgdfdeaaGreatDoorJsnAP
import Derived.Test.YticnfmfmgdfdeaaGreatDoorJsnAB
import Derived.Test.YticnfmfmgdfdeaaGreatDoorJsnAZ
import Derived.Test.YticnfmfmgdfdeaaGreatDoorJsnBA
import Derived.Lib.MapLaws
import Derived.Lib.ValidLaws
import Derived.Test.YticnfmfmgdfdeaaGreatDoorJsnBB
import Derived.Test.YticnfmfmgdfdeaaGreatDoorJsnAH

set_option linter.unusedVariables false
set_option linter.unusedSimpArgs false
namespace Go.Proofs.YticnfmfmgdfdeaaGreatDoor
open Go.RowKit

/-! ### Signs in UTF-8 -/
theorem tb (z : Int) (n : Nat) (h : z = (n : Int)) (hn : n < 256) : (z.toNat.toUInt8).toNat = n := by
  subst h
  simp [Nat.mod_eq_of_lt hn]
theorem dec_enc (x : Nat) (t : Bs) (hx : x < 55296 ∨ (57343 < x ∧ x ≤ 1114111)) : Lib.decodeL (Lib.encodeRune (x : Int) ++ t) = (x, (Lib.encodeRune (x : Int)).length) := by
  rw [Lib.decodeL_N]
  by_cases h1 : x ≤ 127
  · have e : Lib.encodeRune (x : Int) = [(x : Int).toNat.toUInt8] := by unfold Lib.encodeRune; rw [Lib.encodeRuneZ_one (by omega) (by omega)]; rfl
    rw [e]
    simp only [List.cons_append, List.getD_cons_zero, List.nil_append, List.length_cons, List.length_nil]
    rw [tb _ x rfl (by omega)]
    unfold Lib.decodeN
    rw [if_pos (by omega)]
  · by_cases h2 : x ≤ 2047
    · have e : Lib.encodeRune (x : Int) = [(192 + (x : Int) / 64).toNat.toUInt8, (128 + (x : Int) % 64).toNat.toUInt8] := by unfold Lib.encodeRune; rw [Lib.encodeRuneZ_two (by omega) (by omega)]; rfl
      rw [e]
      simp only [List.cons_append, List.getD_cons_zero, List.getD_cons_succ, List.nil_append, List.length_cons, List.length_nil]
      rw [tb _ (192 + x / 64) (by omega) (by omega), tb _ (128 + x % 64) (by omega) (by omega)]
      unfold Lib.decodeN
      rw [if_neg (by omega), if_pos (by omega), if_pos (by omega)]
      congr 1
      omega
    · by_cases h3 : x ≤ 65535
      · have e : Lib.encodeRune (x : Int) = [(224 + (x : Int) / 4096).toNat.toUInt8, (128 + (x : Int) / 64 % 64).toNat.toUInt8, (128 + (x : Int) % 64).toNat.toUInt8] := by unfold Lib.encodeRune; rw [Lib.encodeRuneZ_three (by omega)]; rfl
        rw [e]
        simp only [List.cons_append, List.getD_cons_zero, List.getD_cons_succ, List.nil_append, List.length_cons, List.length_nil]
        rw [tb _ (224 + x / 4096) (by omega) (by omega), tb _ (128 + x / 64 % 64) (by omega) (by omega), tb _ (128 + x % 64) (by omega) (by omega)]
        unfold Lib.decodeN
        rw [if_neg (by omega), if_neg (by omega), if_pos (by omega), if_pos (by omega)]
        congr 1
        omega
      · have e : Lib.encodeRune (x : Int) = [(240 + (x : Int) / 262144).toNat.toUInt8, (128 + (x : Int) / 4096 % 64).toNat.toUInt8, (128 + (x : Int) / 64 % 64).toNat.toUInt8, (128 + (x : Int) % 64).toNat.toUInt8] := by unfold Lib.encodeRune; rw [Lib.encodeRuneZ_four (by omega) (by omega)]; rfl
        rw [e]
        simp only [List.cons_append, List.getD_cons_zero, List.getD_cons_succ, List.nil_append, List.length_cons, List.length_nil]
        rw [tb _ (240 + x / 262144) (by omega) (by omega), tb _ (128 + x / 4096 % 64) (by omega) (by omega), tb _ (128 + x / 64 % 64) (by omega) (by omega), tb _ (128 + x % 64) (by omega) (by omega)]
        unfold Lib.decodeN
        rw [if_neg (by omega), if_neg (by omega), if_neg (by omega), if_pos (by omega), if_pos (by omega)]
        congr 1
        omega
theorem enc_len (x : Int) : 1 ≤ (Lib.encodeRune x).length ∧ (Lib.encodeRune x).length ≤ 4 := by
  have := Lib.runeCells_le x
  rw [Lib.runeCells_length] at this
  exact this
/-- What is no sign's number is told as U+FFFD. -/
theorem enc_bad (x : Nat) (hx : ¬ (x < 55296 ∨ (57343 < x ∧ x ≤ 1114111))) : Lib.encodeRune (x : Int) = Lib.encodeRune ((65533 : Nat) : Int) := by
  unfold Lib.encodeRune
  rw [Lib.encodeRuneZ_bad (by omega)]
  rfl
theorem enc_ne (x : Int) (t : Bs) : Lib.encodeRune x ++ t ≠ [] := by
  intro h
  have := congrArg List.length h
  have h1 := enc_len x
  simp at this
  rw [this.1] at h1
  simp at h1
theorem enc_drop (x : Int) (t : Bs) : (Lib.encodeRune x ++ t).drop (Lib.encodeRune x).length = t := by simp
theorem valid_enc (x : Nat) (t : Bs) : Lib.validD (Lib.encodeRune (x : Int) ++ t) = Lib.validD t := by
  have key : ∀ x : Nat, (x < 55296 ∨ (57343 < x ∧ x ≤ 1114111)) → Lib.validD (Lib.encodeRune (x : Int) ++ t) = Lib.validD t := by
    intro x hx
    rw [Lib.validD_step _ (enc_ne _ _), dec_enc x t hx, if_neg, enc_drop]
    rintro ⟨a, b⟩
    simp only at a b
    subst a
    have : (Lib.encodeRune ((65533 : Nat) : Int)).length = 3 := by decide
    omega
  by_cases hx : x < 55296 ∨ (57343 < x ∧ x ≤ 1114111)
  · exact key x hx
  · rw [enc_bad x hx]; exact key 65533 (by omega)
/-- The sign that valid bytes begin with. -/
theorem dec_valid {l : Bs} (hne : l ≠ []) (h : ¬ ((Lib.decodeL l).1 = 65533 ∧ (Lib.decodeL l).2 = 1)) : l = Lib.encodeRune ((Lib.decodeL l).1 : Int) ++ l.drop (Lib.decodeL l).2 ∧ (Lib.encodeRune ((Lib.decodeL l).1 : Int)).length = (Lib.decodeL l).2 ∧ ((Lib.decodeL l).1 < 55296 ∨ (57343 < (Lib.decodeL l).1 ∧ (Lib.decodeL l).1 ≤ 1114111)) := by
  have e := Lib.encode_decode l hne h
  have hl := Lib.decodeL_le l hne
  refine ⟨by rw [e, List.take_append_drop], by rw [e, List.length_take, Nat.min_eq_left hl], ?_⟩
  rw [Lib.decodeL_N] at h ⊢
  have k0 := (l.getD 0 0).toNat_lt
  have k1 := (l.getD 1 0).toNat_lt
  rcases Lib.decodeN_shape l.length (l.getD 0 0).toNat (l.getD 1 0).toNat (l.getD 2 0).toNat (l.getD 3 0).toNat with ⟨c, e⟩ | ⟨c1, c2, c3, cv, e⟩ | ⟨c1, c2, c3, c4, cv, cs, e⟩ | ⟨c1, c2, c3, c4, c5, cv, cw, e⟩ | e
  all_goals rw [e] at h ⊢
  all_goals simp only at h ⊢
  · omega
  · omega
  · omega
  · omega
  · exact absurd ⟨trivial, trivial⟩ h
theorem dec_app {l : Bs} (hne : l ≠ []) (h : ¬ ((Lib.decodeL l).1 = 65533 ∧ (Lib.decodeL l).2 = 1)) (x : Bs) : Lib.decodeL (l ++ x) = Lib.decodeL l := by
  obtain ⟨h1, h2, h3⟩ := dec_valid hne h
  generalize Lib.decodeL l = d at *
  obtain ⟨v, k⟩ := d
  simp only at h1 h2 h3
  rw [h1, List.append_assoc, dec_enc v _ h3, h2]

/-! ### Values that may be -/
def UT (s : Bs) : Prop := Lib.validD s = true
def flatR : J → Prop
  | .num m => rightM m = true
  | .str s => UT s
  | .obj ns l => ns.length = l.length ∧ Ris ns ∧ ∀ m ∈ ns, UT m
  | _ => True
/-- Nested at most n deep. -/
def RJ : Nat → J → Prop
  | 0, j => flatR j ∧ j.kind < 4
  | n + 1, j => flatR j ∧ ∀ x ∈ j.items, RJ n x
theorem RJ.flat {n : Nat} {j : J} (h : RJ n j) : flatR j := by cases n <;> exact h.1
theorem RJ.of {n : Nat} {j : J} (h : flatR j) (hk : j.items = []) (hn : j.kind < 4) : RJ n j := by
  cases n with
  | zero => exact ⟨h, hn⟩
  | succ n => exact ⟨h, by rw [hk]; simp⟩

/-- What strings are read as: UTF-8; their text. -/
theorem quo_len : ∀ l : Bs, (l.flatMap quo1).length ≤ 6 * l.length
  | [] => by simp
  | b :: t => by
    have ih := quo_len t
    have : (quo1 b).length ≤ 6 := by unfold quo1; split; simp; split; simp; simp
    rw [List.flatMap_cons, List.length_append, List.length_cons]; omega
theorem escM_two {l : Bs} {x m : Nat} (h : escM l = some (x, m)) : (m = 2 ∧ x < 128) ∨ 6 ≤ m := by
  have hx : (l.getD 1 0).toNat < 256 := UInt8.toNat_lt _
  unfold escM at h
  split at h
  · cases h
  · split at h
    · rename_i h1
      injection h with h; injection h with h2 h3
      left
      refine ⟨h3.symm, ?_⟩
      rcases h1 with e | e | e <;> (rw [e] at h2; rw [← h2]; decide)
    · split at h
      · injection h with h; injection h with h2 h3; left; exact ⟨h3.symm, by omega⟩
      · split at h
        · injection h with h; injection h with h2 h3; left; exact ⟨h3.symm, by omega⟩
        · split at h
          · injection h with h; injection h with h2 h3; left; exact ⟨h3.symm, by omega⟩
          · split at h
            · injection h with h; injection h with h2 h3; left; exact ⟨h3.symm, by omega⟩
            · split at h
              · injection h with h; injection h with h2 h3; left; exact ⟨h3.symm, by omega⟩
              · right
                unfold numbM at h
                cases h4 : hex4 l with
                | none => rw [h4] at h; cases h
                | some y =>
                  rw [h4] at h
                  simp only at h
                  split at h
                  · injection h with h; injection h with _ h; omega
                  · cases h5 : hex4 (l.drop 6) with
                    | none => rw [h5] at h; cases h
                    | some z =>
                      rw [h5] at h
                      simp only at h
                      split at h
                      · cases h
                      · injection h with h; injection h with _ h; omega
theorem enc_low (x : Nat) (h : x < 128) : (Lib.encodeRune (x : Int)).length = 1 := by unfold Lib.encodeRune; rw [Lib.encodeRuneZ_one (by omega) (by omega)]; rfl
theorem qS_ok : ∀ (k : Nat) (l t r : Bs), l.length ≤ k → qS l = some (t, r) → UT t ∧ (t.flatMap quo1).length + 6 * r.length + 6 ≤ 6 * l.length := by
  intro k
  induction k with
  | zero =>
    intro l t r h0 h
    have : l = [] := List.eq_nil_of_length_eq_zero (by omega)
    subst this
    cases h
  | succ k ih =>
    intro l t r h0 h
    by_cases hne : l = []
    · subst hne; cases h
    have hpos : 0 < l.length := List.length_pos_iff.2 hne
    rw [qS_step hne] at h
    split at h
    · injection h with h; injection h with e1 e
      subst e e1
      refine ⟨rfl, ?_⟩
      simp; omega
    · split at h
      · rename_i h92
        cases he : escM l with
        | none => rw [he] at h; cases h
        | some rr =>
          obtain ⟨x, j⟩ := rr
          have h0' : l.getD 0 0 = 92 := by
            have := (dec_low hne (by omega)).1
            exact UInt8.toNat_inj.1 (by rw [this, h92]; rfl)
          have hj := (escM_ok h0' he)
          have h2 := escM_two he
          rw [he] at h
          simp only at h
          cases hq : qS (l.drop j) with
          | none => rw [hq] at h; cases h
          | some y =>
            rw [hq] at h
            simp only [Option.map_some] at h
            injection h with h; injection h with e1 e
            obtain ⟨i1, i2⟩ := ih (l.drop j) y.1 y.2 (by rw [List.length_drop]; omega) hq
            rw [List.length_drop] at i2
            rw [← e, ← e1]
            refine ⟨by unfold UT; rw [valid_enc]; exact i1, ?_⟩
            have h3 := quo_len (Lib.encodeRune (x : Int))
            have h4 := enc_len (x : Int)
            have h5 := enc_low x
            rw [List.flatMap_append, List.length_append]
            omega
      · split at h
        · cases h
        · rename_i hb
          cases hq : qS (l.drop (Lib.decodeL l).2) with
          | none => rw [hq] at h; cases h
          | some y =>
            rw [hq] at h
            simp only [Option.map_some] at h
            injection h with h; injection h with e1 e
            have hw := Lib.decodeL_width l
            obtain ⟨i1, i2⟩ := ih (l.drop (Lib.decodeL l).2) y.1 y.2 (by rw [List.length_drop]; omega) hq
            rw [List.length_drop] at i2
            have hbr : ¬ ((Lib.decodeL l).1 = 65533 ∧ (Lib.decodeL l).2 = 1) := by
              rintro ⟨a, b⟩
              apply hb
              right
              unfold brokenM
              rw [a]
              have : Lib.hasPrefix l [239, 191, 189] = false := by
                cases hp : Lib.hasPrefix l [239, 191, 189] with
                | false => rfl
                | true =>
                  exfalso
                  obtain ⟨u, hu⟩ := List.isPrefixOf_iff_prefix.1 hp
                  have e2 : l = Lib.encodeRune ((65533 : Nat) : Int) ++ u := by rw [← hu]; rfl
                  rw [e2, dec_enc 65533 u (by omega)] at b
                  exact absurd b (by decide)
              rw [this]; rfl
            obtain ⟨d1, d2, d3⟩ := dec_valid hne hbr
            rw [← e, ← e1]
            refine ⟨by unfold UT; rw [valid_enc]; exact i1, ?_⟩
            have h3 := quo_len (Lib.encodeRune ((Lib.decodeL l).1 : Int))
            have hle := Lib.decodeL_le l hne
            rw [List.flatMap_append, List.length_append]
            omega
theorem quotM_ok {s t r : Bs} (h : quotM s = some (t, r)) : UT t ∧ (quoB t).length + 6 * r.length + 10 ≤ 6 * s.length := by
  rw [quotM_eq] at h
  split at h
  · rename_i hh
    obtain ⟨h1, h2⟩ := qS_ok _ _ _ _ (Nat.le_refl _) h
    have h3 := isH_pos hh
    refine ⟨h1, ?_⟩
    unfold quoB
    simp only [List.length_cons, List.length_append, List.length_nil]
    omega
  · cases h

/-! ### Numbers' texts -/
theorem dec_len : ∀ u : Nat, u < 1000 → (Lib.decDigits u).length ≤ 3 := by
  have one : ∀ u, u < 10 → (Lib.decDigits u).length = 1 := by intro u hu; rw [Lib.decDigits, dif_pos hu]; rfl
  have two : ∀ u, u < 100 → (Lib.decDigits u).length ≤ 2 := by
    intro u hu
    by_cases h : u < 10
    · rw [one u h]; omega
    · rw [Lib.decDigits, dif_neg h, List.length_append, one (u / 10) (by omega)]; simp
  intro u hu
  by_cases h : u < 10
  · rw [one u h]; omega
  · rw [Lib.decDigits, dif_neg h, List.length_append]
    have := two (u / 10) (by omega)
    simp; omega
theorem itoa_len (e : Int) (h1 : -999 ≤ e) (h2 : e ≤ 999) : (Lib.itoa e).length ≤ 4 := by
  unfold Lib.itoa
  split
  · have := dec_len e.natAbs (by omega)
    simp; omega
  · have := dec_len e.toNat (by omega)
    omega
theorem textM_le {n : Nm} (h : rightM n = true) : (textM n).length ≤ n.digs.length + 6 := by
  unfold textM
  split
  · simp
  · rename_i hd
    obtain ⟨-, -, -, -, h5, h6⟩ := right_parts h hd
    have := itoa_len n.exp h5 h6
    simp only [List.length_append]
    have a : (if n.down = true then [45] else [] : Bs).length ≤ 1 := by split <;> simp
    have b : (if n.exp = 0 then [] else 101 :: Lib.itoa n.exp : Bs).length ≤ 5 := by split; simp; simp; omega
    omega
theorem right_len {n : Nm} (h : rightM n = true) : n.digs.length ≤ 40 ∧ -999 ≤ n.exp ∧ n.exp ≤ 999 := by
  by_cases hd : n.digs = []
  · obtain rfl := right_nil h hd
    decide
  · obtain ⟨h1, -, -, -, h5, h6⟩ := right_parts h hd
    exact ⟨h1, h5, h6⟩
theorem right_okNm {n : Nm} (h : rightM n = true) : okNm n := by
  obtain ⟨h1, h2, h3⟩ := right_len h
  have h4 := textM_le h
  refine ⟨by omega, by omega, by omega, ?_, by omega⟩
  intro hd
  obtain rfl := right_nil h hd
  exact ⟨rfl, rfl⟩
theorem parse_len {s : Bs} {n : Nm} (h : parseM s = (n, 0)) : rightM n = true ∧ 1 ≤ s.length ∧ (textM n).length ≤ s.length + 5 := by
  obtain ⟨h1, h2, h3⟩ := parse_ok h
  have hne := ok_ah h1
  have hpos : 0 < (ah s).length := List.length_pos_iff.2 hne
  have ha := congrArg List.length (apart s)
  have hp : (bh s).length ≤ (pnB (pn s)).length := by
    unfold pn
    cases hpt : pt s with
    | false => rw [bh_none s hpt]; simp
    | true => simp [pnB]
  simp only [List.length_append] at ha
  refine ⟨h3, by omega, ?_⟩
  unfold textM
  split
  · simp
  · rename_i hd
    obtain ⟨-, -, -, -, h5, h6⟩ := right_parts h3 hd
    have hi := itoa_len n.exp h5 h6
    have hdg : n.digs.length ≤ (ah s).length + (bh s).length := by
      rw [← h2]
      unfold numM num5
      split
      · simp [Nm.zero]
      · have a := rtrim_len (trim0 (ah s ++ bh s))
        have b := trim_len (ah s ++ bh s)
        rw [List.length_append] at b
        simp only; omega
    have hdn : (if n.down = true then [45] else [] : Bs).length ≤ (sgB (dn s)).length := by
      rw [← h2]
      unfold numM num5
      split
      · simp [Nm.zero]
      · simp [sgB]
    have b : (if n.exp = 0 then [] else 101 :: Lib.itoa n.exp : Bs).length ≤ 5 := by split; simp; simp; omega
    simp only [List.length_append]
    omega

end Go.Proofs.YticnfmfmgdfdeaaGreatDoor

namespace Go.Proofs.YticnfmfmgdfdeaaGreatDoor
open Go.RowKit

theorem cmpBool_zero (a b : Bool) : cmpBool a b = 0 ↔ a = b := by cases a <;> cases b <;> decide
theorem cmpB_zero {a b : Bs} : cmpB a b = 0 ↔ a = b := ⟨cmpB_eq a b, fun h => by rw [h]; exact cmpB_refl b⟩
theorem cmpO_nn : cmpO [] [] [] [] = 0 := by unfold cmpO; simp [cmpI]
theorem cmpO_nc (b : Bs) (ms : List Bs) (y : J) (m : List J) : cmpO [] [] (b :: ms) (y :: m) = -1 := by
  unfold cmpO
  unfold cmpI
  simp only [List.length_nil, List.length_cons]
  rw [if_pos (by omega)]
theorem cmpO_cn (b : Bs) (ms : List Bs) (y : J) (m : List J) : cmpO (b :: ms) (y :: m) [] [] = 1 := by
  unfold cmpO
  unfold cmpI
  simp only [List.length_nil, List.length_cons]
  rw [if_neg (by omega), if_pos (by omega)]
theorem cmpL_zero {n : Nat} (ih : ∀ a b, RJ n a → RJ n b → (cmpJ a b = 0 ↔ a = b)) : ∀ (l m : List J), (∀ x ∈ l, RJ n x) → (∀ x ∈ m, RJ n x) → (cmpL l m = 0 ↔ l = m)
  | [], [], _, _ => by simp [cmpL]
  | [], _ :: _, _, _ => by simp [cmpL]
  | _ :: _, [], _, _ => by simp [cmpL]
  | a :: l, b :: m, h1, h2 => by
    have k := cmpL_zero ih l m (fun x hx => h1 x (by simp [hx])) (fun x hx => h2 x (by simp [hx]))
    have k2 := ih a b (h1 a (by simp)) (h2 b (by simp))
    simp only [cmpL, List.cons.injEq]
    by_cases h : cmpJ a b = 0
    · rw [if_pos h, k]
      exact ⟨fun e => ⟨k2.1 h, e⟩, fun e => e.2⟩
    · rw [if_neg h]
      exact ⟨fun e => absurd e h, fun e => absurd (k2.2 e.1) h⟩
theorem cmpO_zero {n : Nat} (ih : ∀ a b, RJ n a → RJ n b → (cmpJ a b = 0 ↔ a = b)) : ∀ (ns : List Bs) (l : List J) (ms : List Bs) (m : List J), ns.length = l.length → ms.length = m.length → (∀ x ∈ l, RJ n x) → (∀ x ∈ m, RJ n x) → (cmpO ns l ms m = 0 ↔ ns = ms ∧ l = m)
  | [], [], [], [], _, _, _, _ => by simp [cmpO_nn, cmpO_nc, cmpO_cn]
  | [], [], b :: ms, y :: m, _, _, _, _ => by simp [cmpO_nn, cmpO_nc, cmpO_cn]
  | a :: ns, x :: l, [], [], _, _, _, _ => by simp [cmpO_nn, cmpO_nc, cmpO_cn]
  | a :: ns, x :: l, b :: ms, y :: m, h1, h2, h3, h4 => by
    have k := cmpO_zero ih ns l ms m (by simpa using h1) (by simpa using h2) (fun x hx => h3 x (by simp [hx])) (fun x hx => h4 x (by simp [hx]))
    have k2 := ih x y (h3 x (by simp)) (h4 y (by simp))
    simp only [cmpO, List.cons.injEq]
    by_cases h : cmpB a b = 0
    · rw [if_pos h]
      by_cases g : cmpJ x y = 0
      · rw [if_pos g, k]
        exact ⟨fun e => ⟨⟨cmpB_zero.1 h, e.1⟩, k2.1 g, e.2⟩, fun e => ⟨e.1.2, e.2.2⟩⟩
      · rw [if_neg g]
        exact ⟨fun e => absurd e g, fun e => absurd (k2.2 e.2.1) g⟩
    · rw [if_neg h]
      exact ⟨fun e => absurd e h, fun e => absurd (cmpB_zero.2 e.1.1) h⟩
  | [], _ :: _, _, _, h, _, _, _ => by simp at h
  | _ :: _, [], _, _, h, _, _, _ => by simp at h
  | _, _, [], _ :: _, _, h, _, _ => by simp at h
  | _, _, _ :: _, [], _, h, _, _ => by simp at h
theorem cmpI_kinds {i j : Nat} (h : i ≠ j) : cmpI (i : Int) (j : Int) ≠ 0 := fun e => h (by have := cmpI_zero.1 e; omega)
theorem cmpJ_kinds {a b : J} (h : a.kind ≠ b.kind) : cmpJ a b = cmpI a.kind b.kind := by
  cases a <;> cases b <;> first | exact absurd rfl h | (unfold cmpJ; rfl)
theorem cmpJ_zero0 (ar : List J → List J → Prop) (ob : List Bs → List J → List Bs → List J → Prop) (a b : J)
    (ha : ∀ l m, a = .arr l → b = .arr m → (cmpL l m = 0 ↔ l = m)) (ho : ∀ ns l ms m, a = .obj ns l → b = .obj ms m → (cmpO ns l ms m = 0 ↔ ns = ms ∧ l = m)) : cmpJ a b = 0 ↔ a = b := by
  by_cases hk : a.kind = b.kind
  · cases a <;> cases b <;> first | (exfalso; simp [J.kind] at hk; done) | skip
    · unfold cmpJ; simp [J.kind, cmpI]
    · unfold cmpJ; rw [cmpBool_zero]; simp
    · unfold cmpJ; rw [cmpM_zero]; simp
    · unfold cmpJ; rw [cmpB_zero]; simp
    · unfold cmpJ; rw [ha _ _ rfl rfl]; simp
    · unfold cmpJ; rw [ho _ _ _ _ rfl rfl]; simp
  · rw [cmpJ_kinds hk]
    exact ⟨fun e => absurd e (cmpI_kinds hk), fun e => absurd (by rw [e]) hk⟩
theorem cmpJ_zero : ∀ (n : Nat) (a b : J), RJ n a → RJ n b → (cmpJ a b = 0 ↔ a = b)
  | 0, a, b, ha, hb => cmpJ_zero0 (fun _ _ => True) (fun _ _ _ _ => True) a b (fun l m e _ => by have := ha.2; rw [e] at this; simp [J.kind] at this) (fun ns l ms m e _ => by have := ha.2; rw [e] at this; simp [J.kind] at this)
  | n + 1, a, b, ha, hb => cmpJ_zero0 (fun _ _ => True) (fun _ _ _ _ => True) a b
    (fun l m e1 e2 => by subst e1 e2; exact cmpL_zero (cmpJ_zero n) l m ha.2 hb.2)
    (fun ns l ms m e1 e2 => by subst e1 e2; exact cmpO_zero (cmpJ_zero n) ns l ms m ha.1.1 hb.1.1 ha.2 hb.2)

theorem cmpL_anti {n : Nat} (ih : ∀ a b, RJ n a → RJ n b → cmpJ b a = -cmpJ a b) : ∀ (l m : List J), (∀ x ∈ l, RJ n x) → (∀ x ∈ m, RJ n x) → cmpL m l = -cmpL l m
  | [], [], _, _ => by simp [cmpL]
  | [], _ :: _, _, _ => by simp [cmpL]
  | _ :: _, [], _, _ => by simp [cmpL]
  | a :: l, b :: m, h1, h2 => by
    have k := cmpL_anti ih l m (fun x hx => h1 x (by simp [hx])) (fun x hx => h2 x (by simp [hx]))
    have k2 := ih a b (h1 a (by simp)) (h2 b (by simp))
    simp only [cmpL]
    by_cases h : cmpJ a b = 0
    · rw [if_pos h, if_pos (by omega), k]
    · rw [if_neg h, if_neg (by omega), k2]
theorem cmpO_anti {n : Nat} (ih : ∀ a b, RJ n a → RJ n b → cmpJ b a = -cmpJ a b) : ∀ (ns : List Bs) (l : List J) (ms : List Bs) (m : List J), ns.length = l.length → ms.length = m.length → (∀ x ∈ l, RJ n x) → (∀ x ∈ m, RJ n x) → cmpO ms m ns l = -cmpO ns l ms m
  | [], [], [], [], _, _, _, _ => by simp [cmpO_nn, cmpO_nc, cmpO_cn]
  | [], [], b :: ms, y :: m, _, _, _, _ => by simp [cmpO_nn, cmpO_nc, cmpO_cn]
  | a :: ns, x :: l, [], [], _, _, _, _ => by simp [cmpO_nn, cmpO_nc, cmpO_cn]
  | a :: ns, x :: l, b :: ms, y :: m, h1, h2, h3, h4 => by
    have k := cmpO_anti ih ns l ms m (by simpa using h1) (by simpa using h2) (fun x hx => h3 x (by simp [hx])) (fun x hx => h4 x (by simp [hx]))
    have k2 := ih x y (h3 x (by simp)) (h4 y (by simp))
    have k3 := cmpB_anti a b
    simp only [cmpO]
    by_cases h : cmpB a b = 0
    · rw [if_pos h, if_pos (by omega)]
      by_cases g : cmpJ x y = 0
      · rw [if_pos g, if_pos (by omega), k]
      · rw [if_neg g, if_neg (by omega), k2]
    · rw [if_neg h, if_neg (by omega), k3]
  | [], _ :: _, _, _, h, _, _, _ => by simp at h
  | _ :: _, [], _, _, h, _, _, _ => by simp at h
  | _, _, [], _ :: _, _, h, _, _ => by simp at h
  | _, _, _ :: _, [], _, h, _, _ => by simp at h
theorem cmpBool_anti (a b : Bool) : cmpBool b a = -cmpBool a b := by cases a <;> cases b <;> decide
theorem cmpJ_anti0 (a b : J) (ha : ∀ l m, a = .arr l → b = .arr m → cmpL m l = -cmpL l m) (ho : ∀ ns l ms m, a = .obj ns l → b = .obj ms m → cmpO ms m ns l = -cmpO ns l ms m) : cmpJ b a = -cmpJ a b := by
  by_cases hk : a.kind = b.kind
  · cases a <;> cases b <;> first | (exfalso; simp [J.kind] at hk; done) | skip
    · unfold cmpJ; simp [J.kind, cmpI]
    · unfold cmpJ; exact cmpBool_anti _ _
    · unfold cmpJ; exact cmpM_anti _ _
    · unfold cmpJ; exact cmpB_anti _ _
    · unfold cmpJ; exact ha _ _ rfl rfl
    · unfold cmpJ; exact ho _ _ _ _ rfl rfl
  · rw [cmpJ_kinds hk, cmpJ_kinds (fun e => hk e.symm), cmpI_anti]
theorem cmpJ_anti : ∀ (n : Nat) (a b : J), RJ n a → RJ n b → cmpJ b a = -cmpJ a b
  | 0, a, b, ha, hb => cmpJ_anti0 a b (fun l m e _ => by have := ha.2; rw [e] at this; simp [J.kind] at this) (fun ns l ms m e _ => by have := ha.2; rw [e] at this; simp [J.kind] at this)
  | n + 1, a, b, ha, hb => cmpJ_anti0 a b
    (fun l m e1 e2 => by subst e1 e2; exact cmpL_anti (cmpJ_anti n) l m ha.2 hb.2)
    (fun ns l ms m e1 e2 => by subst e1 e2; exact cmpO_anti (cmpJ_anti n) ns l ms m ha.1.1 hb.1.1 ha.2 hb.2)

/-- One step of an order by parts. -/
theorem lex {x y z x' y' z' : Int} (t : x ≤ 0 → y ≤ 0 → z ≤ 0) (e1 : x = 0 → y = z) (e2 : y = 0 → x = z) (e3 : z = 0 → x = -y) (r : x' ≤ 0 → y' ≤ 0 → z' ≤ 0)
    (h1 : (if x = 0 then x' else x) ≤ 0) (h2 : (if y = 0 then y' else y) ≤ 0) : (if z = 0 then z' else z) ≤ 0 := by
  by_cases hx : x = 0
  · rw [if_pos hx] at h1
    have e := e1 hx
    by_cases hy : y = 0
    · rw [if_pos hy] at h2
      rw [if_pos (by omega)]
      exact r h1 h2
    · rw [if_neg hy] at h2
      rw [if_neg (by omega)]; omega
  · rw [if_neg hx] at h1
    by_cases hy : y = 0
    · rw [if_pos hy] at h2
      have e := e2 hy
      rw [if_neg (by omega)]; omega
    · rw [if_neg hy] at h2
      have := t h1 h2
      by_cases hz : z = 0
      · have := e3 hz; omega
      · rw [if_neg hz]; exact this
theorem cmpL_trans {n : Nat} (ih : ∀ a b c, RJ n a → RJ n b → RJ n c → cmpJ a b ≤ 0 → cmpJ b c ≤ 0 → cmpJ a c ≤ 0) : ∀ (l m k : List J), (∀ x ∈ l, RJ n x) → (∀ x ∈ m, RJ n x) → (∀ x ∈ k, RJ n x) → cmpL l m ≤ 0 → cmpL m k ≤ 0 → cmpL l k ≤ 0
  | [], _, [], _, _, _, _, _ => by simp [cmpL]
  | [], _, _ :: _, _, _, _, _, _ => by simp [cmpL]
  | _ :: _, [], _, _, _, _, h, _ => by simp [cmpL] at h
  | _ :: _, _ :: _, [], _, _, _, _, h => by simp [cmpL] at h
  | a :: l, b :: m, c :: k, h1, h2, h3, g1, g2 => by
    have ha := h1 a (by simp)
    have hb := h2 b (by simp)
    have hc := h3 c (by simp)
    have r := cmpL_trans ih l m k (fun x hx => h1 x (by simp [hx])) (fun x hx => h2 x (by simp [hx])) (fun x hx => h3 x (by simp [hx]))
    simp only [cmpL] at g1 g2 ⊢
    exact lex (ih a b c ha hb hc) (fun e => by rw [(cmpJ_zero n a b ha hb).1 e]) (fun e => by rw [(cmpJ_zero n b c hb hc).1 e])
      (fun e => by rw [(cmpJ_zero n a c ha hc).1 e]; exact cmpJ_anti n b c hb hc) r g1 g2
theorem cmpO_trans {n : Nat} (ih : ∀ a b c, RJ n a → RJ n b → RJ n c → cmpJ a b ≤ 0 → cmpJ b c ≤ 0 → cmpJ a c ≤ 0) : ∀ (ns : List Bs) (l : List J) (ms : List Bs) (m : List J) (ks : List Bs) (k : List J), ns.length = l.length → ms.length = m.length → ks.length = k.length →
    (∀ x ∈ l, RJ n x) → (∀ x ∈ m, RJ n x) → (∀ x ∈ k, RJ n x) → cmpO ns l ms m ≤ 0 → cmpO ms m ks k ≤ 0 → cmpO ns l ks k ≤ 0
  | [], [], _, _, [], [], _, _, _, _, _, _, _, _ => by simp [cmpO_nn, cmpO_nc, cmpO_cn]
  | [], [], _, _, _ :: _, _ :: _, _, _, _, _, _, _, _, _ => by simp [cmpO_nn, cmpO_nc, cmpO_cn]
  | _ :: _, _ :: _, [], [], _, _, _, _, _, _, _, _, h, _ => by rw [cmpO_cn] at h; omega
  | _ :: _, _ :: _, _ :: _, _ :: _, [], [], _, _, _, _, _, _, _, h => by rw [cmpO_cn] at h; omega
  | p :: ns, a :: l, q :: ms, b :: m, s :: ks, c :: k, e1, e2, e3, h1, h2, h3, g1, g2 => by
    have ha := h1 a (by simp)
    have hb := h2 b (by simp)
    have hc := h3 c (by simp)
    have r := cmpO_trans ih ns l ms m ks k (by simpa using e1) (by simpa using e2) (by simpa using e3) (fun x hx => h1 x (by simp [hx])) (fun x hx => h2 x (by simp [hx])) (fun x hx => h3 x (by simp [hx]))
    simp only [cmpO] at g1 g2 ⊢
    refine lex (cmpB_trans p q s) (fun e => by rw [cmpB_eq p q e]) (fun e => by rw [cmpB_eq q s e]) (fun e => by rw [cmpB_eq p s e]; exact cmpB_anti q s) ?_ g1 g2
    exact lex (ih a b c ha hb hc) (fun e => by rw [(cmpJ_zero n a b ha hb).1 e]) (fun e => by rw [(cmpJ_zero n b c hb hc).1 e])
      (fun e => by rw [(cmpJ_zero n a c ha hc).1 e]; exact cmpJ_anti n b c hb hc) r
  | [], _ :: _, _, _, _, _, h, _, _, _, _, _, _, _ => by simp at h
  | _ :: _, [], _, _, _, _, h, _, _, _, _, _, _, _ => by simp at h
  | _, _, [], _ :: _, _, _, _, h, _, _, _, _, _, _ => by simp at h
  | _, _, _ :: _, [], _, _, _, h, _, _, _, _, _, _ => by simp at h
  | _, _, _, _, [], _ :: _, _, _, h, _, _, _, _, _ => by simp at h
  | _, _, _, _, _ :: _, [], _, _, h, _, _, _, _, _ => by simp at h
theorem cmpBool_trans (a b c : Bool) : cmpBool a b ≤ 0 → cmpBool b c ≤ 0 → cmpBool a c ≤ 0 := by cases a <;> cases b <;> cases c <;> decide
theorem kind_le {a b : J} (h : cmpJ a b ≤ 0) : a.kind ≤ b.kind := by
  by_cases hk : a.kind = b.kind
  · omega
  · rw [cmpJ_kinds hk, cmpI_le] at h; omega
theorem cmpJ_trans0 (a b c : J) (ha : ∀ l m k, a = .arr l → b = .arr m → c = .arr k → cmpL l m ≤ 0 → cmpL m k ≤ 0 → cmpL l k ≤ 0)
    (ho : ∀ ns l ms m ks k, a = .obj ns l → b = .obj ms m → c = .obj ks k → cmpO ns l ms m ≤ 0 → cmpO ms m ks k ≤ 0 → cmpO ns l ks k ≤ 0) (h1 : cmpJ a b ≤ 0) (h2 : cmpJ b c ≤ 0) : cmpJ a c ≤ 0 := by
  have k1 := kind_le h1
  have k2 := kind_le h2
  by_cases hk : a.kind = c.kind
  · have e1 : a.kind = b.kind := by omega
    have e2 : b.kind = c.kind := by omega
    cases a <;> cases b <;> first | (exfalso; simp [J.kind] at e1; done) | (cases c <;> first | (exfalso; simp [J.kind] at e2; done) | skip)
    · unfold cmpJ; simp [J.kind, cmpI]
    · unfold cmpJ at *; exact cmpBool_trans _ _ _ h1 h2
    · unfold cmpJ at *; exact cmpM_trans _ _ _ h1 h2
    · unfold cmpJ at *; exact cmpB_trans _ _ _ h1 h2
    · unfold cmpJ at *; exact ha _ _ _ rfl rfl rfl h1 h2
    · unfold cmpJ at *; exact ho _ _ _ _ _ _ rfl rfl rfl h1 h2
  · rw [cmpJ_kinds hk, cmpI_le]; omega
theorem cmpJ_trans : ∀ (n : Nat) (a b c : J), RJ n a → RJ n b → RJ n c → cmpJ a b ≤ 0 → cmpJ b c ≤ 0 → cmpJ a c ≤ 0
  | 0, a, b, c, ha, _, _ => cmpJ_trans0 a b c (fun l m k e _ _ => by have := ha.2; rw [e] at this; simp [J.kind] at this) (fun ns l ms m ks k e _ _ => by have := ha.2; rw [e] at this; simp [J.kind] at this)
  | n + 1, a, b, c, ha, hb, hc => cmpJ_trans0 a b c
    (fun l m k e1 e2 e3 => by subst e1 e2 e3; exact cmpL_trans (cmpJ_trans n) l m k ha.2 hb.2 hc.2)
    (fun ns l ms m ks k e1 e2 e3 => by subst e1 e2 e3; exact cmpO_trans (cmpJ_trans n) ns l ms m ks k ha.1.1 hb.1.1 hc.1.1 ha.2 hb.2 hc.2)

end Go.Proofs.YticnfmfmgdfdeaaGreatDoor

namespace Go.Proofs.YticnfmfmgdfdeaaGreatDoor
open Go.RowKit

theorem bools_any (a b : Bool) (w : World) : Calls Tryz.prog 41 #[.bool a, .bool b] w fun r w' => r = .returned (.int .i64 (cmpBool a b)) ∧ w' = w := by
  cases a <;> cases b
  all_goals
    go_enter Tryz.func41, Tryz.ntmps41
    go_wp2
    go_ret
    exact ⟨rfl, rfl⟩

theorem mxl : maxLen ≤ 9223372036854775807 := of_decide_eq_true (by kernel_rfl)
/-- Anywhere. -/
abbrev anyB : Nat → Prop := fun _ => True
/-- At level n, values are compared. -/
def CV (n : Nat) : Prop := ∀ (j k : J) (ca cb : Array Value) (w : World), JV anyB (n + 1) j w (.agg ca) → JV anyB (n + 1) k w (.agg cb) → RJ n j → RJ n k →
  Calls Tryz.prog 19 #[.agg ca, .agg cb] w fun r w' => r = .returned (.int .i64 (cmpJ j k)) ∧ Gr w w'
abbrev cmpF : Value := .func (.func 19) #[] #[]
/-- The k-th of a row of values, its cells. -/
theorem row_at {F : J → World → Value → Prop} {w wr : World} {ao : Option Addr} {c n : Nat} {L : List J} (hr : RowV F anyB w (.slice ao n c) L) (g : Gr w wr) {k : Nat} (h : k < L.length) :
    ∃ b o u, ao = some ⟨b, o, none⟩ ∧ n = L.length ∧ L.length ≤ c ∧ c ≤ maxLen ∧ u.size = 8 ∧ F L[k] w (.agg u) ∧ b < w.heap.size ∧ ∀ i, i < 8 → wr.cell? ⟨b, o + k * 8 + i, none⟩ = some (u.getD i undef) := by
  obtain ⟨ao', c', hv', h1, h2, h3⟩ := hr
  obtain ⟨b, o, ha, -, hcell⟩ := h3 (fun e => by rw [e] at h; simp at h)
  obtain ⟨u, hu8, hu, hj⟩ := hcell k L[k] (List.getElem?_eq_getElem h)
  injection hv' with e1 e2 e3
  subst e3
  have hbl : b < w.heap.size := World.block_lt_of_cell? _ _ (hu 0 (by omega))
  refine ⟨b, o, u, e1.trans ha, e2, h1, h2, hu8, hj, hbl, fun i hi => ?_⟩
  have := hu i hi
  rw [show o + (8 * k + i) = o + k * 8 + i by omega] at this
  exact (World.cell?_of_block (w := w) (g.block b hbl (by simp))).trans this
theorem eight {W : World} {b o k : Nat} {u : Array Value} (h : ∀ i, i < 8 → W.cell? ⟨b, o + k * 8 + i, none⟩ = some (u.getD i undef)) :
    W.cell? ⟨b, o + k * 8, none⟩ = some (u.getD 0 undef) ∧ W.cell? ⟨b, o + k * 8 + 1, none⟩ = some (u.getD 1 undef) ∧ W.cell? ⟨b, o + k * 8 + 2, none⟩ = some (u.getD 2 undef) ∧ W.cell? ⟨b, o + k * 8 + 3, none⟩ = some (u.getD 3 undef) ∧
    W.cell? ⟨b, o + k * 8 + 4, none⟩ = some (u.getD 4 undef) ∧ W.cell? ⟨b, o + k * 8 + 5, none⟩ = some (u.getD 5 undef) ∧ W.cell? ⟨b, o + k * 8 + 6, none⟩ = some (u.getD 6 undef) ∧ W.cell? ⟨b, o + k * 8 + 7, none⟩ = some (u.getD 7 undef) :=
  ⟨h 0 (by omega), h 1 (by omega), h 2 (by omega), h 3 (by omega), h 4 (by omega), h 5 (by omega), h 6 (by omega), h 7 (by omega)⟩
theorem cell8_grown {W V : World} {b o k : Nat} {u : Array Value} (h : ∀ i, i < 8 → W.cell? ⟨b, o + k * 8 + i, none⟩ = some (u.getD i undef)) (g : Gr W V) : ∀ i, i < 8 → V.cell? ⟨b, o + k * 8 + i, none⟩ = some (u.getD i undef) :=
  fun i hi => (World.cell?_of_block (w := W) (g.block b (World.block_lt_of_cell? _ _ (h i hi)) (by simp))).trans (h i hi)
theorem cmpL_at (l m : List J) (k : Nat) (h1 : k < l.length) (h2 : k < m.length) : cmpL (l.drop k) (m.drop k) = if cmpJ l[k] m[k] = 0 then cmpL (l.drop (k + 1)) (m.drop (k + 1)) else cmpJ l[k] m[k] := by
  rw [List.drop_eq_getElem_cons h1, List.drop_eq_getElem_cons h2]
  simp only [cmpL]

set_option maxRecDepth 100000 in
set_option maxHeartbeats 8000000 in
theorem cmpFunc_any (n : Nat) (hV : CV n) (l m : List J) (w : World) (ao bo : Option Addr) (c d : Nat) (hl : RowV (JV anyB (n + 1)) anyB w (.slice ao l.length c) l) (hm : RowV (JV anyB (n + 1)) anyB w (.slice bo m.length d) m) (hL : ∀ x ∈ l, RJ n x) (hM : ∀ x ∈ m, RJ n x) :
    Calls Tryz.prog 44 #[.slice ao l.length c, .slice bo m.length d, cmpF] w fun r w' => r = .returned (.int .i64 (cmpL l m)) ∧ Gr w w' := by
  generalize hel : l.length = ll at *
  generalize hem : m.length = mm at *
  have HL := Lib.hid hl
  have HM := Lib.hid hm
  have HRL := Lib.hid hL
  have HRM := Lib.hid hM
  have EL := Lib.hid hel
  have EM := Lib.hid hem
  clear hl hm hL hM hel hem
  go_enter Tryz.func44, Tryz.ntmps44
  go_wp2
  go_loopw [13] (fun vi wr => ∃ k : Nat, k ≤ ll ∧ k ≤ mm ∧ vi = .int .i64 k ∧ Hid (Gr w wr ∧ cmpL l m = cmpL (l.drop k) (m.drop k))) (fun vi _ => ll - (intOf vi).toNat)
  case atStart => exact ⟨0, by omega, by omega, rfl, Lib.hid ⟨grefl _ _, rfl⟩⟩
  case round =>
    obtain ⟨k, hk, hk2, rfl, hh⟩ := hrel
    by_cases hlt : k < ll
    · have hki : (k : Int) < (ll : Int) := by omega
      obtain ⟨b, o, u, rfl, -, hb1, hb2, hu8, hj, hbl, hcell⟩ := row_at HL.out hh.out.1 (by rw [EL.out]; exact hlt)
      have hmx := mxl
      have hk63 : (k : Int) + 1 ≤ 9223372036854775807 := by have := EL.out; omega
      have HJ := Lib.hid hj
      obtain ⟨a1, a2, c1, c2, rfl⟩ := jv_jC hj
      obtain ⟨y0, y1, y2, y3, y4, y5, y6, y7⟩ := eight hcell
      by_cases hlt2 : k < mm
      · have hkj : (k : Int) < (mm : Int) := by omega
        have hkj2 : ¬ (mm : Int) ≤ (k : Int) := by omega
        obtain ⟨b2, o2, u2, rfl, -, hd1, hd2, hv8, hj2, hbl2, hcell2⟩ := row_at HM.out hh.out.1 (by rw [EM.out]; exact hlt2)
        have HJ2 := Lib.hid hj2
        obtain ⟨e1, e2, f1, f2, rfl⟩ := jv_jC hj2
        have KV := hV (l[k]'(by rw [EL.out]; exact hlt)) (m[k]'(by rw [EM.out]; exact hlt2)) _ _ ((wr.alloc (.cells (jC (l[k]'(by rw [EL.out]; exact hlt)) a1 a2 c1 c2) 28)).alloc (.cells (jC (m[k]'(by rw [EM.out]; exact hlt2)) e1 e2 f1 f2) 28))
          (HJ.out.gr (gtrans hh.out.1 (two_grown wr _ _))) (HJ2.out.gr (gtrans hh.out.1 (two_grown wr _ _))) (HRL.out _ (List.getElem_mem _)) (HRM.out _ (List.getElem_mem _))
        have hst := cmpL_at l m k (by rw [EL.out]; exact hlt) (by rw [EM.out]; exact hlt2)
        have hz := cell8_grown hcell2 (World.grownBy_alloc wr (.cells (jC (l[k]'(by rw [EL.out]; exact hlt)) a1 a2 c1 c2) 28) none)
        obtain ⟨z0, z1, z2, z3, z4, z5, z6, z7⟩ := eight hz
        have hg2 := two_grown wr (.cells (jC (l[k]'(by rw [EL.out]; exact hlt)) a1 a2 c1 c2) 28) (.cells (jC (m[k]'(by rw [EM.out]; exact hlt2)) e1 e2 f1 f2) 28)
        have HG2 := Lib.hid hg2
        have HST := Lib.hid hst
        clear hst hg2 hz hcell hcell2 HJ HJ2 hj hj2 hu8 hv8
        generalize l[k]'(by rw [EL.out]; exact hlt) = A at *
        generalize m[k]'(by rw [EM.out]; exact hlt2) = B at *
        generalize cmpJ A B = x at *
        by_cases hx : x = 0
        · have hxb : (x != 0) = false := by simpa using hx
          have HX := Lib.hid hx
          clear hx
          go_wp2_with (go_at_call 19; ((with_reducible refine KV.mono ?_); rintro r w3 ⟨rfl, hg⟩); have HG3 := Lib.hid hg; clear hg)
          go_round
          case rel => exact ⟨k + 1, by omega, by omega, by go_num, Lib.hid ⟨gtrans hh.out.1 (gtrans HG2.out HG3.out), hh.out.2.trans (HST.out.trans (if_pos HX.out))⟩⟩
          case measure => simp [intOf]; omega
        · have hxb : (x != 0) = true := by simpa using hx
          have HX := Lib.hid hx
          clear hx
          go_wp2_with (go_at_call 19; ((with_reducible refine KV.mono ?_); rintro r w3 ⟨rfl, hg⟩); have HG3 := Lib.hid hg; clear hg)
          go_ret
          exact ⟨by rw [hh.out.2, HST.out, if_neg HX.out]; rfl, gtrans hh.out.1 (gtrans HG2.out HG3.out)⟩
      · obtain rfl : k = mm := by omega
        have HC : Hid (cmpL l m = 1) := Lib.hid (by
          rw [hh.out.2, List.drop_eq_getElem_cons (show k < l.length by rw [EL.out]; exact hlt), List.drop_of_length_le (show m.length ≤ k by rw [EM.out]; exact Nat.le_refl _)]
          simp only [cmpL])
        have hg := World.grownBy_alloc wr (.cells (jC (l[k]'(by rw [EL.out]; exact hlt)) a1 a2 c1 c2) 28) none
        have HG := Lib.hid (gtrans hh.out.1 hg)
        clear hg
        generalize l[k]'(by rw [EL.out]; exact hlt) = A at *
        go_wp2
        go_ret
        exact ⟨by rw [HC.out]; rfl, HG.out⟩
    · obtain rfl : k = ll := by omega
      by_cases hlt2 : k < mm
      · have hkj : (k : Int) < (mm : Int) := by omega
        have HC : Hid (cmpL l m = -1) := Lib.hid (by
          rw [hh.out.2, List.drop_eq_getElem_cons (show k < m.length by rw [EM.out]; exact hlt2), List.drop_of_length_le (show l.length ≤ k by rw [EL.out]; exact Nat.le_refl _)]
          simp only [cmpL])
        go_wp2
        go_ret
        exact ⟨by rw [HC.out]; rfl, hh.out.1⟩
      · have hkj : ¬ (k : Int) < (mm : Int) := by omega
        have HC : Hid (cmpL l m = 0) := Lib.hid (by
          rw [hh.out.2, List.drop_of_length_le (show m.length ≤ k by rw [EM.out]; omega), List.drop_of_length_le (show l.length ≤ k by rw [EL.out]; exact Nat.le_refl _)]
          simp only [cmpL])
        go_wp2
        go_ret
        exact ⟨by rw [HC.out]; rfl, hh.out.1⟩

end Go.Proofs.YticnfmfmgdfdeaaGreatDoor

namespace Go.Proofs.YticnfmfmgdfdeaaGreatDoor
open Go.RowKit

def szN (ns : List Bs) : Nat := (ns.map fun m => (quoB m).length + 1).sum
def szL (l : List J) : Nat := (l.map fun j => (textJ j).length + 1).sum
theorem textL_sz : ∀ l : List J, (textL l).length ≤ szL l
  | [] => by simp [textL]
  | [a] => by simp [textL, szL]
  | a :: b :: l => by
    have := textL_sz (b :: l)
    simp only [textL, szL, List.map_cons, List.sum_cons, List.length_append, List.length_cons] at this ⊢
    omega
theorem textO_sz : ∀ (ns : List Bs) (l : List J), (textO ns l).length ≤ szN ns + szL l
  | [], l => by simp [textO]
  | _ :: _, [] => by simp [textO]
  | m :: ns, [a] => by
    simp only [textO, szL, szN, List.map_cons, List.sum_cons, List.length_append, List.length_cons]
    omega
  | m :: ns, a :: b :: l => by
    have := textO_sz ns (b :: l)
    simp only [textO, szL, szN, List.map_cons, List.sum_cons, List.length_append, List.length_cons] at this ⊢
    omega
theorem sum_ins {α : Type} (f : α → Nat) (a : α) : ∀ (l : List α) (p : Nat), p ≤ l.length → ((l.insertIdx p a).map f).sum = f a + (l.map f).sum
  | l, 0, _ => by simp
  | [], p + 1, h => by simp at h
  | b :: l, p + 1, h => by
    rw [List.insertIdx_succ_cons, List.map_cons, List.sum_cons, sum_ins f a l p (by simpa using h), List.map_cons, List.sum_cons]
    omega

theorem rowM_inv {α : Type} {T : α → Bs → Rd α} {e : UInt8} (I : α → Prop) (μ : α → Nat) (hT : ∀ x s y r, I x → T x s = .ok (y, r) → I y ∧ μ y + 6 * r.length ≤ μ x + 6 * s.length + 1) :
    ∀ (m : Nat) (x : α) (s : Bs) (y : α) (r : Bs), I x → rowM T e m x s = .ok (y, r) → I y ∧ μ y + 6 * r.length + 5 ≤ μ x + 6 * s.length
  | 0, x, s, y, r, _, h => by simp [rowM] at h
  | m + 1, x, s, y, r, hI, h => by
    simp only [rowM] at h
    cases ht : T x s with
    | error c => rw [ht] at h; cases h
    | ok zr =>
      obtain ⟨z, t⟩ := zr
      rw [ht] at h
      obtain ⟨h1, h1'⟩ := hT x s z t hI ht
      have h2 := blkN t
      simp only at h
      split at h
      · rename_i he
        have h3 := isH_pos he
        injection h with h; injection h with h4 h; subst h h4
        exact ⟨h1, by omega⟩
      · split at h
        · rename_i he
          have h3 := isH_pos he
          obtain ⟨k1, k2⟩ := rowM_inv I μ hT m z _ y r h1 h
          exact ⟨k1, by omega⟩
        · cases h
theorem rowsM_inv {α : Type} {T : α → Bs → Rd α} {e : UInt8} (I : α → Prop) (μ : α → Nat) (hT : ∀ x s y r, I x → T x s = .ok (y, r) → I y ∧ μ y + 6 * r.length ≤ μ x + 6 * s.length + 1)
    {x : α} {s : Bs} {y : α} {r : Bs} (hI : I x) (h : rowsM T e x s = .ok (y, r)) : I y ∧ μ y + 6 * r.length + 5 ≤ μ x + 6 * s.length := by
  unfold rowsM at h
  have h2 := blkN s
  split at h
  · rename_i he
    have h3 := isH_pos he
    injection h with h; injection h with h4 h; subst h h4
    exact ⟨hI, by omega⟩
  · obtain ⟨k1, k2⟩ := rowM_inv I μ hT _ _ _ _ _ hI h
    exact ⟨k1, by omega⟩
def memI (n : Nat) (x : List Bs × List J) : Prop := x.1.length = x.2.length ∧ Ris x.1 ∧ (∀ m ∈ x.1, UT m) ∧ ∀ j ∈ x.2, RJ n j
theorem memI_nil (n : Nat) : memI n ([], []) := ⟨rfl, List.Pairwise.nil, fun m h => by simp at h, fun m h => by simp at h⟩
theorem itemM_inv (n : Nat) {P : Bs → Rd J} (hP : ∀ s j r, P s = .ok (j, r) → RJ n j ∧ (textJ j).length + 6 * r.length ≤ 6 * s.length) (x : List J) (s : Bs) (y : List J) (r : Bs) (hI : ∀ j ∈ x, RJ n j) (h : itemM P x s = .ok (y, r)) :
    (∀ j ∈ y, RJ n j) ∧ szL y + 6 * r.length ≤ szL x + 6 * s.length + 1 := by
  unfold itemM at h
  cases hp : P s with
  | error c => rw [hp] at h; cases h
  | ok jr =>
    obtain ⟨j, t⟩ := jr
    obtain ⟨h1, h2⟩ := hP s j t hp
    rw [hp] at h
    simp only at h
    injection h with h; injection h with h3 h4
    subst h3 h4
    refine ⟨?_, ?_⟩
    · intro k hk
      simp only [List.mem_append, List.mem_singleton] at hk
      rcases hk with hk | hk
      · exact hI k hk
      · rw [hk]; exact h1
    · simp only [szL, List.map_append, List.sum_append, List.map_cons, List.map_nil, List.sum_cons, List.sum_nil]
      omega
theorem membM_inv (n : Nat) {P : Bs → Rd J} (hP : ∀ s j r, P s = .ok (j, r) → RJ n j ∧ (textJ j).length + 6 * r.length ≤ 6 * s.length) (x : List Bs × List J) (s : Bs) (y : List Bs × List J) (r : Bs) (hI : memI n x) (h : membM P x s = .ok (y, r)) :
    memI n y ∧ (szN y.1 + szL y.2) + 6 * r.length ≤ (szN x.1 + szL x.2) + 6 * s.length + 1 := by
  unfold membM at h
  have h0 := blkN s
  cases hq : quotM (blk s) with
  | none => rw [hq] at h; cases h
  | some tr =>
    obtain ⟨m, t⟩ := tr
    obtain ⟨q1, q2⟩ := quotM_ok hq
    rw [hq] at h
    simp only at h
    split at h
    · cases h
    · rename_i hh
      split at h
      · rename_i he
        have h2 := isH_pos he
        have h3 := blkN t
        cases hp : P (blk t).tail with
        | error c => rw [hp] at h; cases h
        | ok jr =>
          obtain ⟨j, u⟩ := jr
          obtain ⟨p1, p2⟩ := hP _ j u hp
          rw [hp] at h
          simp only at h
          injection h with h; injection h with h5 h6
          subst h5 h6
          have h7 := posM_le x.1 m
          obtain ⟨i1, i2, i3, i4⟩ := hI
          refine ⟨⟨?_, ?_, ?_, ?_⟩, ?_⟩
          · simp only [List.length_insertIdx]
            rw [if_pos h7, if_pos (by omega)]
            omega
          · exact ris_ins i2 (by simpa using hh)
          · intro k hk
            rcases (List.mem_insertIdx h7).1 hk with e | e
            · rw [e]; exact q1
            · exact i3 k e
          · intro k hk
            rcases (List.mem_insertIdx (show posM x.1 m ≤ x.2.length by omega)).1 hk with e | e
            · rw [e]; exact p1
            · exact i4 k e
          · simp only [szN, szL]
            rw [sum_ins _ m x.1 _ h7, sum_ins _ j x.2 _ (by omega)]
            omega
      · cases h
theorem numJ_ok {s r : Bs} {j : J} (h : numJ s = .ok (j, r)) : ∃ n, j = .num n ∧ r = s.dropWhile numB ∧ parseM (s.takeWhile numB) = (n, 0) := by
  unfold numJ at h
  split at h
  · rename_i h2
    injection h with h; injection h with h3 h4
    exact ⟨_, h3.symm, h4.symm, by rw [← h2]⟩
  · cases h
theorem vM_flat {P : Option (Bs → Rd J)} {s r : Bs} {j : J} (h : vM P s = .ok (j, r)) (hb : isH 91 s = false) (hc : isH 123 s = false) : flatR j ∧ j.items = [] ∧ j.kind < 4 ∧ (textJ j).length + 6 * r.length ≤ 6 * s.length := by
  have word : ∀ (w : Bs) (j0 : J), wordM w j0 s = .ok (j, r) → (textJ j0).length ≤ w.length → j = j0 ∧ (textJ j).length + 6 * r.length ≤ 6 * s.length := by
    intro w j0 h hl
    unfold wordM at h
    split at h
    · rename_i hp
      have := prefix_len hp
      injection h with h; injection h with h1 h2
      subst h1 h2
      refine ⟨rfl, ?_⟩
      rw [List.length_drop]; omega
    · cases h
  unfold vM at h
  rw [hb, hc] at h
  simp only [Bool.false_eq_true, if_false] at h
  split at h
  · obtain ⟨e, h2⟩ := word _ _ h (by decide)
    rw [e] at h2 ⊢
    exact ⟨trivial, rfl, by decide, h2⟩
  · split at h
    · obtain ⟨e, h2⟩ := word _ _ h (by decide)
      rw [e] at h2 ⊢
      exact ⟨trivial, rfl, by decide, h2⟩
    · split at h
      · obtain ⟨e, h2⟩ := word _ _ h (by decide)
        rw [e] at h2 ⊢
        exact ⟨trivial, rfl, by decide, h2⟩
      · split at h
        · unfold strJ at h
          cases hq : quotM s with
          | none => rw [hq] at h; cases h
          | some tr =>
            obtain ⟨t, r'⟩ := tr
            obtain ⟨q1, q2⟩ := quotM_ok hq
            rw [hq] at h
            simp only at h
            injection h with h; injection h with h1 h2
            subst h1 h2
            refine ⟨q1, rfl, by simp [J.kind], ?_⟩
            rw [textJ_str]; omega
        · split at h
          · obtain ⟨n, h1, h2, h3⟩ := numJ_ok h
            obtain ⟨p1, p2, p3⟩ := parse_len h3
            subst h1 h2
            refine ⟨p1, rfl, by simp [J.kind], ?_⟩
            have e := congrArg List.length (List.takeWhile_append_dropWhile (p := numB) (l := s))
            rw [List.length_append] at e
            have e2 : textJ (.num n) = textM n := by unfold textJ; rfl
            rw [e2]
            omega
          · cases h
theorem vM_arr {P : Option (Bs → Rd J)} {s : Bs} (h : isH 91 s = true) : vM P s = arrM P s := by
  rw [isH_eq h]; rfl
theorem vM_obj {P : Option (Bs → Rd J)} {s : Bs} (h : isH 123 s = true) : vM P s = objM P s := by
  rw [isH_eq h]; rfl
theorem textJ_arr (l : List J) : textJ (.arr l) = 91 :: (textL l ++ [93]) := by unfold textJ; rfl
theorem textJ_obj (ns : List Bs) (l : List J) : textJ (.obj ns l) = 123 :: (textO ns l ++ [125]) := by unfold textJ; rfl
theorem pV_ok : ∀ (n : Nat) (s : Bs) (j : J) (r : Bs), pV n s = .ok (j, r) → RJ n j ∧ (textJ j).length + 6 * r.length ≤ 6 * s.length
  | 0, s, j, r, h => by
    have h0 := blkN s
    change vM none (blk s) = _ at h
    by_cases hb : isH 91 (blk s) = true
    · rw [vM_arr hb] at h; cases h
    · by_cases hc : isH 123 (blk s) = true
      · rw [vM_obj hc] at h; cases h
      · obtain ⟨h1, h2, h3, h4⟩ := vM_flat h (by simpa using hb) (by simpa using hc)
        exact ⟨RJ.of h1 h2 h3, by omega⟩
  | n + 1, s, j, r, h => by
    have h0 := blkN s
    change vM (some (pV n)) (blk s) = _ at h
    have ih := pV_ok n
    by_cases hb : isH 91 (blk s) = true
    · rw [vM_arr hb] at h
      have hp := isH_pos hb
      unfold arrM at h
      simp only at h
      cases hr : rowsM (itemM (pV n)) 93 [] (blk s).tail with
      | error c => rw [hr] at h; cases h
      | ok lr =>
        obtain ⟨l, r'⟩ := lr
        rw [hr] at h
        simp only at h
        injection h with h; injection h with e1 e2
        subst e1 e2
        obtain ⟨k1, k2⟩ := rowsM_inv (fun x => ∀ j ∈ x, RJ n j) szL (fun x s y r hI hh => itemM_inv n (fun s j r => ih s j r) x s y r hI hh) (by simp) hr
        have k3 := textL_sz l
        refine ⟨⟨trivial, k1⟩, ?_⟩
        rw [textJ_arr]
        simp only [List.length_cons, List.length_append, List.length_nil]
        have : szL [] = 0 := rfl
        omega
    · by_cases hc : isH 123 (blk s) = true
      · rw [vM_obj hc] at h
        have hp := isH_pos hc
        unfold objM at h
        simp only at h
        cases hr : rowsM (membM (pV n)) 125 ([], []) (blk s).tail with
        | error c => rw [hr] at h; cases h
        | ok lr =>
          obtain ⟨⟨ns, l⟩, r'⟩ := lr
          rw [hr] at h
          simp only at h
          injection h with h; injection h with e1 e2
          subst e1 e2
          obtain ⟨⟨k1, k2, k3, k4⟩, k5⟩ := rowsM_inv (memI n) (fun x => szN x.1 + szL x.2) (fun x s y r hI hh => membM_inv n (fun s j r => ih s j r) x s y r hI hh) (memI_nil n) hr
          have k6 := textO_sz ns l
          refine ⟨⟨⟨k1, k2, k3⟩, k4⟩, ?_⟩
          rw [textJ_obj]
          simp only [List.length_cons, List.length_append, List.length_nil]
          have : szL [] = 0 := rfl
          have : szN [] = 0 := rfl
          simp only at k5
          omega
      · obtain ⟨h1, h2, h3, h4⟩ := vM_flat h (by simpa using hb) (by simpa using hc)
        exact ⟨RJ.of h1 h2 h3, by omega⟩
theorem RJ_null (n : Nat) : RJ n .null := RJ.of trivial rfl (by decide)
/-- What Parse tells. -/
theorem parseJ_ok (s : Bs) : RJ 16 (parseJ s).1 ∧ (textJ (parseJ s).1).length ≤ 6 * s.length + 4 := by
  have nul : RJ 16 .null ∧ (textJ .null).length ≤ 6 * s.length + 4 := ⟨RJ_null 16, by unfold textJ; simp⟩
  unfold parseJ
  split
  · exact nul
  · cases h : pV 16 s with
    | error c => exact nul
    | ok jr =>
      obtain ⟨j, r⟩ := jr
      simp only
      obtain ⟨h1, h2⟩ := pV_ok 16 s j r h
      split
      · exact ⟨h1, by simp only; omega⟩
      · exact nul
theorem parseJ_len (s : Bs) : (textJ (parseJ s).1).length ≤ 24580 := by
  by_cases h : 4096 < s.length
  · unfold parseJ; rw [if_pos h]; decide
  · have := (parseJ_ok s).2; omega

/-! ### What its text's walk wants -/
theorem itemL : ∀ (l : List J) (x : J), x ∈ l → (textJ x).length ≤ (textL l).length
  | [a], x, h => by simp at h; rw [h]; simp [textL]
  | a :: b :: l, x, h => by
    simp only [List.mem_cons] at h
    have ih := itemL (b :: l) x
    simp only [textL, List.length_append, List.length_cons] at ih ⊢
    rcases h with e | h
    · rw [e]; omega
    · have := ih (by simpa using h); omega
theorem itemO : ∀ (ns : List Bs) (l : List J), ns.length = l.length → (∀ x ∈ l, (textJ x).length ≤ (textO ns l).length) ∧ ∀ m ∈ ns, (quoB m).length ≤ (textO ns l).length
  | [], [], _ => by simp
  | [m], [a], _ => by
    simp only [List.mem_singleton, forall_eq, textO, List.length_append, List.length_cons]
    omega
  | m :: n :: ns, a :: b :: l, h => by
    obtain ⟨h1, h2⟩ := itemO (n :: ns) (b :: l) (by simpa using h)
    simp only [textO, List.length_append, List.length_cons] at h1 h2 ⊢
    refine ⟨?_, ?_⟩
    · intro x hx
      rcases List.mem_cons.1 hx with e | hx
      · rw [e]; omega
      · have := h1 x hx; omega
    · intro x hx
      rcases List.mem_cons.1 hx with e | hx
      · rw [e]; omega
      · have := h2 x hx; omega
  | [], _ :: _, h => by simp at h
  | _ :: _, [], h => by simp at h
  | [_], _ :: _ :: _, h => by simp at h
  | _ :: _ :: _, [_], h => by simp at h
theorem quoB_len (m : Bs) : m.length ≤ (quoB m).length := quo_big m
theorem okNm_zero : okNm Nm.zero := right_okNm right_zero
theorem okJ_of : ∀ (n : Nat) (j : J), RJ n j → (textJ j).length ≤ 1000000 → okJ (n + 1) j := by
  intro n
  induction n with
  | zero =>
    intro j h hl
    obtain ⟨h1, h2⟩ := h
    cases j with
    | arr l => simp [J.kind] at h2
    | obj ns l => simp [J.kind] at h2
    | num m => exact ⟨right_okNm h1, by simp [J.tx], by simp [J.kind], by simp [J.names], by simp [J.items]⟩
    | str s => rw [textJ_str] at hl; exact ⟨okNm_zero, by have := quoB_len s; simp only [J.tx]; omega, by simp [J.kind], by simp [J.names], by simp [J.items]⟩
    | null => exact ⟨okNm_zero, by simp [J.tx], by simp [J.kind], by simp [J.names], by simp [J.items]⟩
    | bool b => exact ⟨okNm_zero, by simp [J.tx], by simp [J.kind], by simp [J.names], by simp [J.items]⟩
  | succ n ih =>
    intro j h hl
    obtain ⟨h1, h2⟩ := h
    cases j with
    | arr l =>
      rw [textJ_arr] at hl
      simp only [List.length_cons, List.length_append] at hl
      exact ⟨okNm_zero, by simp [J.tx], by simp [J.kind], by simp [J.names], fun x hx => ih x (h2 x hx) (by have := itemL l x hx; omega)⟩
    | obj ns l =>
      obtain ⟨k1, k2, k3⟩ := h1
      rw [textJ_obj] at hl
      simp only [List.length_cons, List.length_append] at hl
      obtain ⟨i1, i2⟩ := itemO ns l k1
      exact ⟨okNm_zero, by simp [J.tx], fun _ => k1, fun m hm => by have := i2 m hm; have := quoB_len m; omega, fun x hx => ih x (h2 x hx) (by have := i1 x hx; omega)⟩
    | num m => exact ⟨right_okNm h1, by simp [J.tx], by simp [J.kind], by simp [J.names], by simp [J.items]⟩
    | str s => rw [textJ_str] at hl; exact ⟨okNm_zero, by have := quoB_len s; simp only [J.tx]; omega, by simp [J.kind], by simp [J.names], by simp [J.items]⟩
    | null => exact ⟨okNm_zero, by simp [J.tx], by simp [J.kind], by simp [J.names], by simp [J.items]⟩
    | bool b => exact ⟨okNm_zero, by simp [J.tx], by simp [J.kind], by simp [J.names], by simp [J.items]⟩
theorem okJ_parse (s : Bs) : okJ 17 (parseJ s).1 := okJ_of 16 _ (parseJ_ok s).1 (by have := parseJ_len s; omega)
theorem textJ_ne (j : J) : textJ j ≠ [] := by
  cases j with
  | null => unfold textJ; simp
  | bool b => cases b <;> (unfold textJ; simp)
  | num n =>
    unfold textJ
    unfold textM
    split
    · simp
    · rename_i h
      simp [h]
  | str s => rw [textJ_str]; simp [quoB]
  | arr l => rw [textJ_arr]; simp
  | obj ns l => rw [textJ_obj]; simp

end Go.Proofs.YticnfmfmgdfdeaaGreatDoor
