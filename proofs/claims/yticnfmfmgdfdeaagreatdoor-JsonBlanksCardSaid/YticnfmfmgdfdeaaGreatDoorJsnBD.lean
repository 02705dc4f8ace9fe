/-
  A value that stands ahead of other things, and at another depth: plain. Own work.
-/
import Derived.Test.YticnfmfmgdfdeaaGreatDoorJsnBC

set_option linter.unusedVariables false
set_option linter.unusedSimpArgs false
namespace Go.Proofs.YticnfmfmgdfdeaaGreatDoor
open Go.RowKit

def noNum (x : Bs) : Prop := x.takeWhile numB = []
theorem dw_app {p : UInt8 → Bool} : ∀ (s x : Bs), s.dropWhile p ≠ [] → (s ++ x).dropWhile p = s.dropWhile p ++ x
  | [], x, h => by simp at h
  | b :: t, x, h => by
    by_cases hb : p b = true
    · simp only [List.cons_append, List.dropWhile_cons, hb, if_true] at h ⊢
      exact dw_app t x h
    · simp [hb]
theorem tw_app2 {p : UInt8 → Bool} : ∀ (s x : Bs), s.dropWhile p ≠ [] → (s ++ x).takeWhile p = s.takeWhile p
  | [], x, h => by simp at h
  | b :: t, x, h => by
    by_cases hb : p b = true
    · simp only [List.dropWhile_cons, hb, if_true] at h
      simp only [List.cons_append, List.takeWhile_cons, hb, if_true]
      rw [tw_app2 t x h]
    · simp [hb]
theorem tw_app3 {p : UInt8 → Bool} : ∀ (s x : Bs), s.dropWhile p = [] → x.takeWhile p = [] → (s ++ x).takeWhile p = s.takeWhile p ∧ (s ++ x).dropWhile p = x
  | [], x, h, hx => by
    refine ⟨by simpa using hx, ?_⟩
    have := List.takeWhile_append_dropWhile (p := p) (l := x)
    rw [hx] at this
    simpa using this
  | b :: t, x, h, hx => by
    by_cases hb : p b = true
    · simp only [List.dropWhile_cons, hb, if_true] at h
      simp only [List.cons_append, List.takeWhile_cons, List.dropWhile_cons, hb, if_true]
      obtain ⟨h1, h2⟩ := tw_app3 t x h hx
      exact ⟨by rw [h1], h2⟩
    · simp [hb] at h
theorem blk_app {s : Bs} (x : Bs) (h : blk s ≠ []) : blk (s ++ x) = blk s ++ x := dw_app s x h
theorem isH_ne {c : UInt8} {s : Bs} (h : isH c s = true) : s ≠ [] := by rintro rfl; simp [isH] at h
theorem tail_app {s : Bs} (x : Bs) (h : s ≠ []) : (s ++ x).tail = s.tail ++ x := by
  cases s with
  | nil => exact absurd rfl h
  | cons _ _ => rfl
theorem ne_of_blk {s : Bs} (h : blk s ≠ []) : s ≠ [] := by rintro rfl; exact h rfl

/-! ### Strings -/
theorem getD_app {l : Bs} (x : Bs) {k : Nat} (h : k < l.length) : (l ++ x).getD k 0 = l.getD k 0 := by
  simp [List.getD, List.getElem?_append_left h]
theorem prefix_app {s w : Bs} (x : Bs) (h : Lib.hasPrefix s w = true) : Lib.hasPrefix (s ++ x) w = true := by
  obtain ⟨u, hu⟩ := List.isPrefixOf_iff_prefix.1 h
  exact List.isPrefixOf_iff_prefix.2 ⟨u ++ x, by rw [← hu]; simp⟩
theorem prefix_app2 {s w : Bs} (x : Bs) (h : w.length ≤ s.length) : Lib.hasPrefix (s ++ x) w = Lib.hasPrefix s w := by
  cases hp : Lib.hasPrefix s w with
  | true => exact prefix_app x hp
  | false =>
    cases hq : Lib.hasPrefix (s ++ x) w with
    | false => rfl
    | true =>
      exfalso
      have h1 := List.isPrefixOf_iff_prefix.1 hq
      have h2 : s <+: s ++ x := List.prefix_append s x
      have h3 := List.prefix_of_prefix_length_le h1 h2 h
      rw [show Lib.hasPrefix s w = true from List.isPrefixOf_iff_prefix.2 h3] at hp
      cases hp
theorem hex4_app {l : Bs} (x : Bs) (h : 6 ≤ l.length) : hex4 (l ++ x) = hex4 l := by
  have h1 : ¬ (l ++ x).length < 6 := by simp; omega
  have h2 : ¬ l.length < 6 := by omega
  unfold hex4
  rw [if_neg h1, if_neg h2, prefix_app2 x (by simp; omega), List.drop_append_of_le_length (by omega), List.take_append_of_le_length (by simp; omega)]
theorem hex4_len {l : Bs} {v : Nat} (h : hex4 l = some v) : 6 ≤ l.length := by
  unfold hex4 at h
  split at h
  · cases h
  · omega
theorem numbM_app {l : Bs} (x : Bs) {r : Nat × Nat} (h : numbM l = some r) : numbM (l ++ x) = some r := by
  unfold numbM at h ⊢
  cases h4 : hex4 l with
  | none => rw [h4] at h; cases h
  | some y =>
    have hl := hex4_len h4
    rw [hex4_app x hl, h4]
    rw [h4] at h
    simp only at h ⊢
    split
    · rename_i hc; rw [if_pos hc] at h; exact h
    · rename_i hc
      rw [if_neg hc] at h
      rw [List.drop_append_of_le_length hl]
      cases h5 : hex4 (l.drop 6) with
      | none => rw [h5] at h; cases h
      | some z =>
        rw [hex4_app x (hex4_len h5), h5]
        rw [h5] at h
        exact h
theorem escM_app {l : Bs} (x : Bs) {r : Nat × Nat} (h : escM l = some r) : escM (l ++ x) = some r := by
  unfold escM at h ⊢
  split at h
  · cases h
  · rename_i hl
    rw [if_neg (by simp; omega), getD_app x (show 1 < l.length by omega)]
    split at h
    · rename_i c; rw [if_pos c]; exact h
    · rename_i c; rw [if_neg c]
      split at h
      · rename_i c; rw [if_pos c]; exact h
      · rename_i c; rw [if_neg c]
        split at h
        · rename_i c; rw [if_pos c]; exact h
        · rename_i c; rw [if_neg c]
          split at h
          · rename_i c; rw [if_pos c]; exact h
          · rename_i c; rw [if_neg c]
            split at h
            · rename_i c; rw [if_pos c]; exact h
            · rename_i c; rw [if_neg c]
              split at h
              · rename_i c; rw [if_pos c]; exact h
              · rename_i c; rw [if_neg c]; exact numbM_app x h
theorem not_broken {l : Bs} (hb : ¬ ((Lib.decodeL l).1 < 32 ∨ brokenM l (Lib.decodeL l).1 = true)) : ¬ ((Lib.decodeL l).1 = 65533 ∧ (Lib.decodeL l).2 = 1) := by
  rintro ⟨a, b⟩
  apply hb
  right
  unfold brokenM
  rw [a]
  have : Lib.hasPrefix l [239, 191, 189] = false := by
    cases hp : Lib.hasPrefix l [239, 191, 189] with
    | false => rfl
    | true =>
      exfalso
      obtain ⟨u, hu⟩ := List.isPrefixOf_iff_prefix.1 hp
      have e2 : l = Lib.encodeRune ((65533 : Nat) : Int) ++ u := by rw [← hu]; rfl
      rw [e2, dec_enc 65533 u (by omega)] at b
      exact absurd b (by decide)
  rw [this]; rfl
theorem broken_no {l : Bs} (hne : l ≠ []) (h : ¬ ((Lib.decodeL l).1 = 65533 ∧ (Lib.decodeL l).2 = 1)) : brokenM l (Lib.decodeL l).1 = false := by
  unfold brokenM
  by_cases h1 : (Lib.decodeL l).1 = 65533
  · obtain ⟨d1, d2, d3⟩ := dec_valid hne h
    have : Lib.hasPrefix l [239, 191, 189] = true := List.isPrefixOf_iff_prefix.2 ⟨l.drop (Lib.decodeL l).2, by
      have e : Lib.encodeRune ((Lib.decodeL l).1 : Int) = [239, 191, 189] := by rw [h1]; rfl
      rw [e] at d1
      exact d1.symm⟩
    rw [this]; simp
  · have : ((Lib.decodeL l).1 == 65533) = false := beq_eq_false_iff_ne.2 h1
    rw [this]; rfl
theorem qS_app : ∀ (k : Nat) (l t r x : Bs), l.length ≤ k → qS l = some (t, r) → qS (l ++ x) = some (t, r ++ x) := by
  intro k
  induction k with
  | zero =>
    intro l t r x h0 h
    have : l = [] := List.eq_nil_of_length_eq_zero (by omega)
    subst this
    cases h
  | succ k ih =>
    intro l t r x h0 h
    by_cases hne : l = []
    · subst hne; cases h
    have hpos : 0 < l.length := List.length_pos_iff.2 hne
    have hne2 : l ++ x ≠ [] := by simp [hne]
    have hv : ¬ ((Lib.decodeL l).1 = 65533 ∧ (Lib.decodeL l).2 = 1) := by
      rintro ⟨a, b⟩
      rw [qS_step hne, if_neg (by omega), if_neg (by omega)] at h
      split at h
      · cases h
      · rename_i hb; exact not_broken hb ⟨a, b⟩
    have hd := dec_app hne hv x
    rw [qS_step hne] at h
    rw [qS_step hne2, hd]
    split at h
    · rename_i c
      rw [if_pos c]
      injection h with h; injection h with e1 e
      subst e e1
      rw [List.drop_append_of_le_length (by omega)]
    · rename_i c
      rw [if_neg c]
      split at h
      · rename_i h92
        rw [if_pos h92]
        cases he : escM l with
        | none => rw [he] at h; cases h
        | some rr =>
          obtain ⟨y, j⟩ := rr
          have h0' : l.getD 0 0 = 92 := by
            have := (dec_low hne (by omega)).1
            exact UInt8.toNat_inj.1 (by rw [this, h92]; rfl)
          have hj := (escM_ok h0' he)
          rw [escM_app x he]
          rw [he] at h
          simp only at h ⊢
          cases hq : qS (l.drop j) with
          | none => rw [hq] at h; cases h
          | some z =>
            rw [hq] at h
            simp only [Option.map_some] at h
            injection h with h; injection h with e1 e
            have := ih (l.drop j) z.1 z.2 x (by rw [List.length_drop]; omega) hq
            rw [List.drop_append_of_le_length (by omega), this]
            rw [← e1, ← e]; rfl
      · rename_i c2
        rw [if_neg c2]
        split at h
        · cases h
        · rename_i hb
          have hb2 : ¬ ((Lib.decodeL l).1 < 32 ∨ brokenM (l ++ x) (Lib.decodeL l).1 = true) := by
            have h1 := broken_no hne2 (by rw [hd]; exact hv)
            rw [hd] at h1
            rw [h1]
            intro hc
            rcases hc with hc | hc
            · exact hb (.inl hc)
            · cases hc
          rw [if_neg hb2]
          have hle := Lib.decodeL_le l hne
          have hw := Lib.decodeL_width l
          cases hq : qS (l.drop (Lib.decodeL l).2) with
          | none => rw [hq] at h; cases h
          | some z =>
            rw [hq] at h
            simp only [Option.map_some] at h
            injection h with h; injection h with e1 e
            have := ih (l.drop (Lib.decodeL l).2) z.1 z.2 x (by rw [List.length_drop]; omega) hq
            rw [List.drop_append_of_le_length hle, this]
            rw [← e1, ← e]; rfl
theorem quotM_app {s t r : Bs} (x : Bs) (h : quotM s = some (t, r)) : quotM (s ++ x) = some (t, r ++ x) := by
  rw [quotM_eq] at h ⊢
  split at h
  · rename_i hh
    have hne := isH_ne hh
    rw [isH_app 34 hne, if_pos hh, tail_app x hne]
    exact qS_app _ _ _ _ x (Nat.le_refl _) h
  · cases h

/-! ### Values -/
def fits : Nat → J → Bool
  | 0, j => decide (j.kind < 4)
  | n + 1, j => j.items.all (fits n)
theorem fits_flat {j : J} (h1 : j.items = []) (h2 : j.kind < 4) : ∀ m, fits m j = true
  | 0 => by simp [fits, h2]
  | m + 1 => by simp [fits, h1]
theorem vM_flat_app {P Q : Option (Bs → Rd J)} {s r : Bs} {j : J} (x : Bs) (h : vM P s = .ok (j, r)) (hb : isH 91 s = false) (hc : isH 123 s = false) (hx : r = [] → noNum x) : vM Q (s ++ x) = .ok (j, r ++ x) := by
  have hne : s ≠ [] := by rintro rfl; cases h
  have word : ∀ (w : Bs) (j0 : J), wordM w j0 s = .ok (j, r) → wordM w j0 (s ++ x) = .ok (j, r ++ x) := by
    intro w j0 h
    unfold wordM at h ⊢
    split at h
    · rename_i hp
      have hl := prefix_len hp
      rw [if_pos (prefix_app x hp), List.drop_append_of_le_length hl]
      injection h with h; injection h with h1 h2
      rw [h1, h2]
    · cases h
  have hd : (s ++ x).headD 0 = s.headD 0 := by
    cases s with
    | nil => exact absurd rfl hne
    | cons _ _ => rfl
  unfold vM at h ⊢
  rw [hb, hc] at h
  rw [isH_app 91 hne, isH_app 123 hne, isH_app 110 hne, isH_app 116 hne, isH_app 102 hne, isH_app 34 hne, isH_app 45 hne, hb, hc, hd]
  simp only [Bool.false_eq_true, if_false] at h ⊢
  split at h
  · rename_i c; rw [if_pos c]; exact word _ _ h
  · rename_i c; rw [if_neg c]
    split at h
    · rename_i c; rw [if_pos c]; exact word _ _ h
    · rename_i c; rw [if_neg c]
      split at h
      · rename_i c; rw [if_pos c]; exact word _ _ h
      · rename_i c; rw [if_neg c]
        split at h
        · rename_i c; rw [if_pos c]
          unfold strJ at h ⊢
          cases hq : quotM s with
          | none => rw [hq] at h; cases h
          | some tr =>
            obtain ⟨t, r'⟩ := tr
            rw [hq] at h
            rw [quotM_app x hq]
            simp only at h ⊢
            injection h with h; injection h with h1 h2
            rw [h1, h2]
        · rename_i c; rw [if_neg c]
          split at h
          · rename_i c; rw [if_pos c]
            obtain ⟨n, h1, h2, h3⟩ := numJ_ok h
            have key : (s ++ x).takeWhile numB = s.takeWhile numB ∧ (s ++ x).dropWhile numB = r ++ x := by
              by_cases hr : r = []
              · rw [hr]
                obtain ⟨a, b⟩ := tw_app3 (p := numB) s x (by rw [← h2, hr]) (hx hr)
                exact ⟨a, b⟩
              · exact ⟨tw_app2 s x (by rw [← h2]; exact hr), by rw [dw_app s x (by rw [← h2]; exact hr), ← h2]⟩
            unfold numJ
            rw [key.1, key.2, h3, h1]
            rfl
          · cases h

theorem rowM_mono {α : Type} {T : α → Bs → Rd α} {e : UInt8} (g : α → Bool) (hm : ∀ a s b r, T a s = .ok (b, r) → g b = true → g a = true) :
    ∀ (k : Nat) (a : α) (s : Bs) (b : α) (r : Bs), rowM T e k a s = .ok (b, r) → g b = true → g a = true
  | 0, a, s, b, r, h, _ => by simp [rowM] at h
  | k + 1, a, s, b, r, h, hg => by
    simp only [rowM] at h
    cases ht : T a s with
    | error c => rw [ht] at h; cases h
    | ok zr =>
      obtain ⟨z, t⟩ := zr
      rw [ht] at h
      simp only at h
      split at h
      · injection h with h; injection h with h4 h; subst h4
        exact hm a s z t ht hg
      · split at h
        · exact hm a s z t ht (rowM_mono g hm k z _ b r h hg)
        · cases h
theorem rowM_lev {α : Type} {T T' : α → Bs → Rd α} {e : UInt8} (g : α → Bool) (hm : ∀ a s b r, T a s = .ok (b, r) → g b = true → g a = true)
    (hT : ∀ a s b r x, g a = true → T a s = .ok (b, r) → r ≠ [] → T' a (s ++ x) = if g b then .ok (b, r ++ x) else .error 35) :
    ∀ (k k' : Nat) (a : α) (s : Bs) (b : α) (r x : Bs), k ≤ k' → g a = true → rowM T e k a s = .ok (b, r) → rowM T' e k' a (s ++ x) = if g b then .ok (b, r ++ x) else .error 35
  | 0, _, a, s, b, r, x, _, _, h => by simp [rowM] at h
  | k + 1, 0, a, s, b, r, x, hk, _, h => by omega
  | k + 1, k' + 1, a, s, b, r, x, hk, hg, h => by
    simp only [rowM] at h ⊢
    cases ht : T a s with
    | error c => rw [ht] at h; cases h
    | ok zr =>
      obtain ⟨z, t⟩ := zr
      rw [ht] at h
      simp only at h
      have hbt : blk t ≠ [] := by
        intro e0
        rw [e0] at h
        simp [isH] at h
      have h1 := hT a s z t x hg ht (ne_of_blk hbt)
      rw [h1]
      by_cases hz : g z = true
      · rw [if_pos hz]
        simp only
        rw [blk_app x hbt, isH_app e hbt, isH_app 44 hbt, tail_app x hbt]
        split at h
        · rename_i c
          rw [if_pos c]
          injection h with h; injection h with h4 h; subst h4 h
          rw [if_pos hz]
        · rename_i c
          rw [if_neg c]
          split at h
          · rename_i c2
            rw [if_pos c2]
            exact rowM_lev g hm hT k k' z _ b r x (by omega) hz h
          · cases h
      · rw [if_neg hz]
        have hb : ¬ g b = true := by
          intro hb
          split at h
          · injection h with h; injection h with h4 h; subst h4; exact hz hb
          · split at h
            · exact hz (rowM_mono g hm k z _ b r h hb)
            · cases h
        rw [if_neg hb]
theorem rowsM_lev {α : Type} {T T' : α → Bs → Rd α} {e : UInt8} (g : α → Bool) (hm : ∀ a s b r, T a s = .ok (b, r) → g b = true → g a = true)
    (hT : ∀ a s b r x, g a = true → T a s = .ok (b, r) → r ≠ [] → T' a (s ++ x) = if g b then .ok (b, r ++ x) else .error 35) (a : α) (s : Bs) (b : α) (r x : Bs) (hg : g a = true) (h : rowsM T e a s = .ok (b, r)) (h0 : ∀ s b r, T a s = .ok (b, r) → s ≠ []) :
    rowsM T' e a (s ++ x) = if g b then .ok (b, r ++ x) else .error 35 := by
  unfold rowsM at h ⊢
  have hbs : blk s ≠ [] := by
    intro e0
    rw [e0] at h
    simp only [isH, Bool.false_eq_true, if_false] at h
    simp only [rowM] at h
    cases ht : T a [] with
    | error c => rw [ht] at h; cases h
    | ok zr => exact h0 [] _ _ ht rfl
  rw [blk_app x hbs, isH_app e hbs, tail_app x hbs]
  split at h
  · rename_i c
    rw [if_pos c]
    injection h with h; injection h with h4 h; subst h4 h
    rw [if_pos hg]
  · rename_i c
    rw [if_neg c]
    exact rowM_lev g hm hT _ _ a _ b r x (by simp) hg h
theorem all_ins {α : Type} (f : α → Bool) (a : α) : ∀ (l : List α) (p : Nat), p ≤ l.length → (l.insertIdx p a).all f = (f a && l.all f)
  | l, 0, _ => by simp
  | [], p + 1, h => by simp at h
  | b :: l, p + 1, h => by
    rw [List.insertIdx_succ_cons, List.all_cons, all_ins f a l p (by simpa using h), List.all_cons]
    cases f a <;> cases f b <;> simp
theorem pV_ne {n : Nat} {s r : Bs} {j : J} (h : pV n s = .ok (j, r)) : s ≠ [] := by
  have := pV_len n s r j h
  rintro rfl
  simp at this
theorem pV_lev : ∀ (n m : Nat) (s : Bs) (j : J) (r x : Bs), pV n s = .ok (j, r) → (r = [] → noNum x) → pV m (s ++ x) = if fits m j then .ok (j, r ++ x) else .error 35 := by
  intro n
  induction n with
  | zero =>
    intro m s j r x h hx
    change vM none (blk s) = _ at h
    have hne : blk s ≠ [] := by intro e; rw [e] at h; cases h
    by_cases hb : isH 91 (blk s) = true
    · rw [vM_arr hb] at h; cases h
    · by_cases hc : isH 123 (blk s) = true
      · rw [vM_obj hc] at h; cases h
      · obtain ⟨h1, h2, h3, h4⟩ := vM_flat h (by simpa using hb) (by simpa using hc)
        rw [if_pos (fits_flat h2 h3 m)]
        cases m with
        | zero => show vM none (blk (s ++ x)) = _; rw [blk_app x hne]; exact vM_flat_app x h (by simpa using hb) (by simpa using hc) hx
        | succ m => show vM (some (pV m)) (blk (s ++ x)) = _; rw [blk_app x hne]; exact vM_flat_app x h (by simpa using hb) (by simpa using hc) hx
  | succ n ih =>
    intro m s j r x h hx
    change vM (some (pV n)) (blk s) = _ at h
    have hne : blk s ≠ [] := by intro e; rw [e] at h; cases h
    by_cases hb : isH 91 (blk s) = true
    · rw [vM_arr hb] at h
      unfold arrM at h
      simp only at h
      cases hr : rowsM (itemM (pV n)) 93 [] (blk s).tail with
      | error c => rw [hr] at h; cases h
      | ok lr =>
        obtain ⟨l, r'⟩ := lr
        rw [hr] at h
        simp only at h
        injection h with h; injection h with e1 e2
        subst e1 e2
        cases m with
        | zero =>
          show vM none (blk (s ++ x)) = _
          rw [blk_app x hne, vM_arr (by rw [isH_app 91 hne]; exact hb), if_neg (by simp [fits, J.kind])]
          rfl
        | succ m =>
          show vM (some (pV m)) (blk (s ++ x)) = _
          rw [blk_app x hne, vM_arr (by rw [isH_app 91 hne]; exact hb)]
          unfold arrM
          simp only
          rw [tail_app x hne]
          have key := rowsM_lev (T := itemM (pV n)) (T' := itemM (pV m)) (e := 93) (fun l => l.all (fits m))
            (fun a s b r h hg => by
              unfold itemM at h
              cases hp : pV n s with
              | error c => rw [hp] at h; cases h
              | ok jr =>
                obtain ⟨j, t⟩ := jr
                rw [hp] at h
                simp only at h
                injection h with h; injection h with h3 h4
                subst h3
                rw [List.all_append, Bool.and_eq_true] at hg
                exact hg.1)
            (fun a s b r x hg h hr => by
              unfold itemM at h ⊢
              cases hp : pV n s with
              | error c => rw [hp] at h; cases h
              | ok jr =>
                obtain ⟨j, t⟩ := jr
                rw [hp] at h
                simp only at h
                injection h with h; injection h with h3 h4
                subst h3 h4
                rw [ih m s j t x hp (fun e => absurd e hr)]
                have e : (a ++ [j]).all (fits m) = fits m j := by rw [List.all_append, hg]; simp
                rw [e]
                cases fits m j <;> rfl)
            [] (blk s).tail l r' x rfl hr (fun s b r h => by
              unfold itemM at h
              cases hp : pV n s with
              | error c => rw [hp] at h; cases h
              | ok jr => exact pV_ne hp)
          rw [key]
          have e : fits (m + 1) (J.arr l) = l.all (fits m) := rfl
          rw [e]
          cases l.all (fits m) <;> rfl
    · by_cases hc : isH 123 (blk s) = true
      · rw [vM_obj hc] at h
        unfold objM at h
        simp only at h
        cases hr : rowsM (membM (pV n)) 125 ([], []) (blk s).tail with
        | error c => rw [hr] at h; cases h
        | ok lr =>
          obtain ⟨⟨ns, l⟩, r'⟩ := lr
          rw [hr] at h
          simp only at h
          injection h with h; injection h with e1 e2
          subst e1 e2
          cases m with
          | zero =>
            show vM none (blk (s ++ x)) = _
            rw [blk_app x hne, vM_obj (by rw [isH_app 123 hne]; exact hc), if_neg (by simp [fits, J.kind])]
            rfl
          | succ m =>
            show vM (some (pV m)) (blk (s ++ x)) = _
            rw [blk_app x hne, vM_obj (by rw [isH_app 123 hne]; exact hc)]
            unfold objM
            simp only
            rw [tail_app x hne]
            have hlen : ns.length = l.length := (rowsM_inv (memI n) (fun x => szN x.1 + szL x.2) (fun x s y r hI hh => membM_inv n (fun s j r => pV_ok n s j r) x s y r hI hh) (memI_nil n) hr).1.1
            have step : ∀ (a : List Bs × List J) (s : Bs) (b : List Bs × List J) (r : Bs), membM (pV n) a s = .ok (b, r) → ∃ t u j, quotM (blk s) = some (t, u) ∧ hasM a.1 t = false ∧ isH 58 (blk u) = true ∧ pV n (blk u).tail = .ok (j, r) ∧ b = (a.1.insertIdx (posM a.1 t) t, a.2.insertIdx (posM a.1 t) j) := by
              intro a s b r h
              unfold membM at h
              cases hq : quotM (blk s) with
              | none => rw [hq] at h; cases h
              | some tr =>
                obtain ⟨t, u⟩ := tr
                rw [hq] at h
                simp only at h
                split at h
                · cases h
                · rename_i hh
                  split at h
                  · rename_i he
                    cases hp : pV n (blk u).tail with
                    | error c => rw [hp] at h; cases h
                    | ok jr =>
                      obtain ⟨j, v⟩ := jr
                      rw [hp] at h
                      simp only at h
                      injection h with h; injection h with h3 h4
                      subst h4
                      exact ⟨t, u, j, rfl, by simpa using hh, he, hp, h3.symm⟩
                  · cases h
            have key := rowsM_lev (T := membM (pV n)) (T' := membM (pV m)) (e := 125) (fun a => decide (a.1.length = a.2.length) && a.2.all (fits m))
              (fun a s b r h hg => by
                obtain ⟨t, u, j, -, -, -, -, rfl⟩ := step a s b r h
                have h7 := posM_le a.1 t
                simp only [Bool.and_eq_true, decide_eq_true_eq, List.length_insertIdx] at hg ⊢
                rw [if_pos h7] at hg
                by_cases hp : posM a.1 t ≤ a.2.length
                · rw [if_pos hp, all_ins _ _ _ _ hp, Bool.and_eq_true] at hg
                  exact ⟨by omega, hg.2.2⟩
                · rw [if_neg hp] at hg
                  omega)
              (fun a s b r x hg h hr => by
                obtain ⟨t, u, j, h1, h2, h3, h4, rfl⟩ := step a s b r h
                have h7 := posM_le a.1 t
                simp only [Bool.and_eq_true, decide_eq_true_eq] at hg
                have hg1 := hg.1
                have hp2 : posM a.1 t ≤ a.2.length := by omega
                have hlen2 : (a.1.insertIdx (posM a.1 t) t).length = (a.2.insertIdx (posM a.1 t) j).length := by
                  rw [List.length_insertIdx, List.length_insertIdx, if_pos h7, if_pos hp2, hg1]
                have hall : (a.2.insertIdx (posM a.1 t) j).all (fits m) = fits m j := by rw [all_ins _ _ _ _ hp2, hg.2, Bool.and_true]
                have hbs : blk s ≠ [] := by intro e; rw [e] at h1; cases h1
                have hbu := isH_ne h3
                unfold membM
                rw [blk_app x hbs, quotM_app x h1]
                simp only
                rw [h2, blk_app x hbu, isH_app 58 hbu, h3, tail_app x hbu, ih m _ j r x h4 (fun e => absurd e hr)]
                simp only [Bool.false_eq_true, if_false, if_true]
                rw [decide_eq_true hlen2, hall]
                simp only [Bool.true_and]
                cases fits m j <;> rfl)
              ([], []) (blk s).tail (ns, l) r' x rfl hr (fun s b r h => by
                obtain ⟨t, u, j, h1, -⟩ := step _ s b r h
                rintro rfl
                cases h1)
            rw [key]
            have e : fits (m + 1) (J.obj ns l) = l.all (fits m) := rfl
            simp only
            rw [e, decide_eq_true hlen]
            simp only [Bool.true_and]
            cases l.all (fits m) <;> rfl
      · obtain ⟨h1, h2, h3, h4⟩ := vM_flat h (by simpa using hb) (by simpa using hc)
        rw [if_pos (fits_flat h2 h3 m)]
        cases m with
        | zero => show vM none (blk (s ++ x)) = _; rw [blk_app x hne]; exact vM_flat_app x h (by simpa using hb) (by simpa using hc) hx
        | succ m => show vM (some (pV m)) (blk (s ++ x)) = _; rw [blk_app x hne]; exact vM_flat_app x h (by simpa using hb) (by simpa using hc) hx

end Go.Proofs.YticnfmfmgdfdeaaGreatDoor

namespace Go.Proofs.YticnfmfmgdfdeaaGreatDoor
open Go.RowKit

/-! ### No error is 0 -/
theorem rowM_no0 {α : Type} {T : α → Bs → Rd α} {e : UInt8} (h0 : ∀ a s, T a s ≠ .error 0) (hl : ∀ a s b r, T a s = .ok (b, r) → r.length ≤ s.length) :
    ∀ (k : Nat) (a : α) (s : Bs), s.length < k → rowM T e k a s ≠ .error 0
  | 0, a, s, h => by omega
  | k + 1, a, s, h => by
    simp only [rowM]
    cases ht : T a s with
    | error c => intro hc; injection hc with hc; exact h0 a s (by rw [ht, hc])
    | ok zr =>
      obtain ⟨z, t⟩ := zr
      have h1 := hl a s z t ht
      have h2 := blkN t
      simp only
      split
      · simp
      · split
        · rename_i he
          have h3 := isH_pos he
          exact rowM_no0 h0 hl k z _ (by omega)
        · simp
theorem rowsM_no0 {α : Type} {T : α → Bs → Rd α} {e : UInt8} (h0 : ∀ a s, T a s ≠ .error 0) (hl : ∀ a s b r, T a s = .ok (b, r) → r.length ≤ s.length) (a : α) (s : Bs) : rowsM T e a s ≠ .error 0 := by
  unfold rowsM
  split
  · simp
  · exact rowM_no0 h0 hl _ _ _ (by have := blkN s; omega)
theorem vM_no0 {P : Option (Bs → Rd J)} (hP : ∀ Q, P = some Q → (∀ s, Q s ≠ .error 0) ∧ ∀ s j r, Q s = .ok (j, r) → r.length < s.length) (s : Bs) : vM P s ≠ .error 0 := by
  have word : ∀ w j, wordM w j s ≠ .error 0 := by intro w j; unfold wordM; split <;> simp
  unfold vM
  split
  · exact word _ _
  · split
    · exact word _ _
    · split
      · exact word _ _
      · split
        · unfold strJ
          cases quotM s with
          | none => simp
          | some y => simp
        · split
          · unfold arrM
            cases P with
            | none => simp
            | some Q =>
              obtain ⟨h1, h2⟩ := hP Q rfl
              simp only
              have := rowsM_no0 (T := itemM Q) (e := 93) (fun a s => by
                unfold itemM
                cases hq : Q s with
                | error c => intro hc; injection hc with hc; exact h1 s (by rw [hq, hc])
                | ok y => simp) (fun a s b r h => (itemM_len h2 h).1) [] s.tail
              cases hr : rowsM (itemM Q) 93 [] s.tail with
              | error c => rw [hr] at this; simpa using this
              | ok y => simp
          · split
            · unfold objM
              cases P with
              | none => simp
              | some Q =>
                obtain ⟨h1, h2⟩ := hP Q rfl
                simp only
                have := rowsM_no0 (T := membM Q) (e := 125) (fun a s => by
                  unfold membM
                  cases quotM (blk s) with
                  | none => simp
                  | some tr =>
                    obtain ⟨m, t⟩ := tr
                    simp only
                    split
                    · simp
                    · split
                      · cases hq : Q (blk t).tail with
                        | error c => intro hc; injection hc with hc; exact h1 _ (by rw [hq, hc])
                        | ok y => simp
                      · simp) (fun a s b r h => (membM_len h2 h).1) ([], []) s.tail
                cases hr : rowsM (membM Q) 125 ([], []) s.tail with
                | error c => rw [hr] at this; simpa using this
                | ok y => simp
            · split
              · unfold numJ
                split
                · simp
                · rename_i h; simpa using h
              · simp
theorem pV_no0 : ∀ (n : Nat) (s : Bs), pV n s ≠ .error 0
  | 0, s => vM_no0 (P := none) (fun Q h => by cases h) (blk s)
  | n + 1, s => vM_no0 (P := some (pV n)) (fun Q h => by cases h; exact ⟨pV_no0 n, fun s j r h => pV_len n s r j h⟩) (blk s)
theorem parseJ_zero {s : Bs} {j : J} (h : parseJ s = (j, 0)) : ∃ r, s.length ≤ 4096 ∧ pV 16 s = .ok (j, r) ∧ blk r = [] := by
  unfold parseJ at h
  split at h
  · cases h
  · rename_i hl
    cases hp : pV 16 s with
    | error c =>
      rw [hp] at h
      simp only at h
      injection h with _ h
      exact absurd (by rw [hp, h]) (pV_no0 16 s)
    | ok jr =>
      obtain ⟨j', r⟩ := jr
      rw [hp] at h
      simp only at h
      split at h
      · rename_i hb
        injection h with h _
        exact ⟨r, by omega, by rw [h], hb⟩
      · cases h
theorem parseJ_mk {s : Bs} {j : J} {r : Bs} (hl : s.length ≤ 4096) (h : pV 16 s = .ok (j, r)) (hb : blk r = []) : parseJ s = (j, 0) := by
  unfold parseJ
  rw [if_neg (by omega), h]
  simp only
  rw [if_pos hb]
theorem parseJ_er {s : Bs} {c : Int} (hl : s.length ≤ 4096) (h : pV 16 s = .error c) : parseJ s = (.null, c) := by
  unfold parseJ
  rw [if_neg (by omega), h]

/-! ### Blanks -/
def Gap (g : Bs) : Prop := g.all blankB = true
theorem Gap.nil : Gap [] := rfl
theorem blk_gap {g : Bs} (h : Gap g) (s : Bs) : blk (g ++ s) = blk s := by
  induction g with
  | nil => rfl
  | cons b t ih =>
    unfold Gap at h
    rw [List.all_cons, Bool.and_eq_true] at h
    show (b :: (t ++ s)).dropWhile blankB = _
    rw [List.dropWhile_cons, if_pos h.1]
    exact ih h.2
theorem blk_all {g : Bs} (h : Gap g) : blk g = [] := by
  have := blk_gap h []
  rw [List.append_nil] at this
  exact this
theorem gap_of {r : Bs} (h : blk r = []) : Gap r := dw_nil.1 h
theorem Gap.app {g h : Bs} (a : Gap g) (b : Gap h) : Gap (g ++ h) := by unfold Gap at *; rw [List.all_append, a, b]; rfl
theorem blank_no {b : UInt8} (h : blankB b = true) : numB b = false := by
  unfold blankB at h
  simp only [Bool.or_eq_true, beq_iff_eq] at h
  rcases h with ((rfl | rfl) | rfl) | rfl <;> decide
theorem noNum_gap {g x : Bs} (hg : Gap g) (hx : noNum x) : noNum (g ++ x) := by
  cases g with
  | nil => exact hx
  | cons b t =>
    unfold Gap at hg
    rw [List.all_cons, Bool.and_eq_true] at hg
    unfold noNum
    rw [List.cons_append, List.takeWhile_cons, blank_no hg.1]
    rfl
theorem pV_gap {n : Nat} {g : Bs} (h : Gap g) (s : Bs) : pV n (g ++ s) = pV n s := by
  cases n with
  | zero => show vM none (blk (g ++ s)) = _; rw [blk_gap h]; rfl
  | succ n => show vM (some (pV n)) (blk (g ++ s)) = _; rw [blk_gap h]; rfl
theorem RJ_fits : ∀ (n : Nat) (j : J), RJ n j → fits n j = true
  | 0, j, h => by simp [fits, h.2]
  | n + 1, j, h => by
    unfold fits
    rw [List.all_eq_true]
    exact fun x hx => RJ_fits n x (h.2 x hx)
/-- A text that is a value's, ahead of other things. -/
structure Tx (s : Bs) (j : J) (r : Bs) : Prop where
  p : pV 16 s = .ok (j, r)
  b : blk r = []
theorem Tx.of {s : Bs} {j : J} (h : parseJ s = (j, 0)) : ∃ r, Tx s j r := by
  obtain ⟨r, -, h1, h2⟩ := parseJ_zero h
  exact ⟨r, h1, h2⟩
theorem Tx.lev {s r x : Bs} {j : J} (h : Tx s j r) (m : Nat) (hx : noNum x) : pV m (s ++ x) = if fits m j then .ok (j, r ++ x) else .error 35 := pV_lev 16 m s j r x h.p (fun _ => hx)
theorem Tx.after {s r : Bs} {j : J} (h : Tx s j r) (x : Bs) : blk (r ++ x) = blk x := blk_gap (gap_of h.b) x
theorem Tx.ne {s r : Bs} {j : J} (h : Tx s j r) : blk s ≠ [] := by
  intro e
  have := h.p
  change vM (some (pV 15)) (blk s) = _ at this
  rw [e] at this
  cases this
theorem Tx.no {s r : Bs} {j : J} (h : Tx s j r) (x : Bs) : isH 93 (blk (s ++ x)) = false := by
  rw [blk_app x h.ne, isH_app 93 h.ne]
  have := h.p
  change vM (some (pV 15)) (blk s) = _ at this
  cases hb : isH 93 (blk s) with
  | false => rfl
  | true =>
    exfalso
    rw [isH_eq hb] at this
    cases this
theorem gap_parse {s g : Bs} {j : J} (h : parseJ s = (j, 0)) (hg : Gap g) (hl : (g ++ s ++ g).length ≤ 4096) : parseJ (g ++ s ++ g) = (j, 0) := by
  obtain ⟨r, T⟩ := Tx.of h
  have hf := RJ_fits 16 j (pV_ok 16 s j r T.p).1
  refine parseJ_mk hl (r := r ++ g) ?_ (by rw [T.after, blk_all hg])
  rw [List.append_assoc, pV_gap hg]
  have hx : noNum g := by have := noNum_gap hg (show noNum [] from rfl); rwa [List.append_nil] at this
  rw [T.lev 16 hx, if_pos hf]
/-- Two items. -/
theorem two_items {s t r q : Bs} {a b : J} (S : Tx s a r) (T : Tx t b q) {g1 g2 g3 g4 : Bs} (h1 : Gap g1) (h2 : Gap g2) (h3 : Gap g3) (h4 : Gap g4) (y : Bs) :
    rowsM (itemM (pV 15)) 93 [] (g1 ++ s ++ (g2 ++ 44 :: (g3 ++ t ++ (g4 ++ 93 :: y)))) = if fits 15 a && fits 15 b then .ok ([a, b], y) else .error 35 := by
  have n44 : ∀ z : Bs, noNum (44 :: z) := fun z => rfl
  have n93 : ∀ z : Bs, noNum (93 :: z) := fun z => rfl
  have b44 : ∀ z : Bs, blk (44 :: z) = 44 :: z := fun z => rfl
  have b93 : ∀ z : Bs, blk (93 :: z) = 93 :: z := fun z => rfl
  unfold rowsM
  rw [List.append_assoc, blk_gap h1, S.no]
  simp only [Bool.false_eq_true, if_false]
  generalize hk : (g1 ++ (s ++ (g2 ++ 44 :: (g3 ++ t ++ (g4 ++ 93 :: y))))).length = k
  obtain ⟨k, rfl⟩ : ∃ k', k = k' + 1 := ⟨k - 1, by rw [← hk]; simp; omega⟩
  have e0 : pV 15 (blk (s ++ (g2 ++ 44 :: (g3 ++ t ++ (g4 ++ 93 :: y))))) = if fits 15 a then .ok (a, r ++ (g2 ++ 44 :: (g3 ++ t ++ (g4 ++ 93 :: y)))) else .error 35 := by
    rw [← S.lev 15 (noNum_gap h2 (n44 _))]
    show vM (some (pV 14)) (blk (blk _)) = vM (some (pV 14)) (blk _)
    have : ∀ z : Bs, blk (blk z) = blk z := by
      intro z
      cases hz : blk z with
      | nil => rfl
      | cons c w =>
        have := dw_head hz
        show (c :: w).dropWhile blankB = _
        rw [List.dropWhile_cons, this]
        rfl
    rw [this]
  simp only [rowM, itemM]
  rw [e0]
  cases fits 15 a with
  | false => rfl
  | true =>
    have i1 : ∀ z : Bs, isH 93 (44 :: z) = false := fun _ => rfl
    have i2 : ∀ z : Bs, isH 44 (44 :: z) = true := fun _ => rfl
    simp only [if_true, Bool.true_and]
    rw [S.after, blk_gap h2, b44, i1, i2]
    simp only [Bool.false_eq_true, if_false, if_true, List.tail_cons]
    rw [List.append_assoc, pV_gap h3, T.lev 15 (noNum_gap h4 (n93 _))]
    cases fits 15 b with
    | false => rfl
    | true =>
      simp only [if_true]
      rw [T.after, blk_gap h4, b93]
      rfl
theorem list_parse {s t : Bs} {a b : J} (hs : parseJ s = (a, 0)) (ht : parseJ t = (b, 0)) {g0 g1 g2 g3 g4 g5 : Bs} (h0 : Gap g0) (h1 : Gap g1) (h2 : Gap g2) (h3 : Gap g3) (h4 : Gap g4) (h5 : Gap g5)
    (hl : (g0 ++ 91 :: (g1 ++ s ++ (g2 ++ 44 :: (g3 ++ t ++ (g4 ++ 93 :: g5))))).length ≤ 4096) :
    parseJ (g0 ++ 91 :: (g1 ++ s ++ (g2 ++ 44 :: (g3 ++ t ++ (g4 ++ 93 :: g5))))) = if fits 15 a && fits 15 b then (.arr [a, b], 0) else (.null, 35) := by
  obtain ⟨r, S⟩ := Tx.of hs
  obtain ⟨q, T⟩ := Tx.of ht
  have key := two_items S T h1 h2 h3 h4 g5
  have e : pV 16 (g0 ++ 91 :: (g1 ++ s ++ (g2 ++ 44 :: (g3 ++ t ++ (g4 ++ 93 :: g5))))) = if fits 15 a && fits 15 b then .ok (.arr [a, b], g5) else .error 35 := by
    rw [pV_gap h0]
    show vM (some (pV 15)) (blk (91 :: _)) = _
    rw [blk91, vM91]
    unfold arrM
    simp only [List.tail_cons]
    rw [key]
    cases fits 15 a && fits 15 b <;> rfl
  cases hf : fits 15 a && fits 15 b with
  | true => rw [hf] at e; exact parseJ_mk hl e (blk_all h5)
  | false => rw [hf] at e; exact parseJ_er hl e

/-! ### Members -/
theorem quot_one (b : UInt8) (hb : (32 ≤ b.toNat ∧ b.toNat < 128) ∧ b ≠ 34 ∧ b ≠ 92) (y : Bs) : quotM (34 :: b :: 34 :: y) = some ([b], y) := by
  obtain ⟨⟨h1, h2⟩, h3, h4⟩ := hb
  rw [quotM_eq]
  show (if (34 : UInt8) == 34 then qS (b :: 34 :: y) else none) = _
  rw [if_pos (by decide), qS_step (by simp)]
  have e1 : Lib.decodeL (b :: 34 :: y) = (b.toNat, 1) := Lib.decodeL_ascii b _ h2
  have e2 : Lib.decodeL (34 :: y) = (34, 1) := Lib.decodeL_ascii 34 y (by decide)
  have n3 : b.toNat ≠ 34 := fun e => h3 (UInt8.toNat_inj.1 e)
  have n4 : b.toNat ≠ 92 := fun e => h4 (UInt8.toNat_inj.1 e)
  have n5 : brokenM (b :: 34 :: y) b.toNat = false := by
    unfold brokenM
    have : (b.toNat == 65533) = false := beq_eq_false_iff_ne.2 (by omega)
    rw [this]; rfl
  rw [e1]
  simp only
  rw [if_neg n3, if_neg n4, n5, if_neg (by simp; omega)]
  simp only [List.drop_succ_cons, List.drop_zero]
  rw [qS_step (by simp), e2]
  simp only [if_true, Option.map_some, List.drop_succ_cons, List.drop_zero, List.append_nil]
  have : Lib.encodeRune (b.toNat : Int) = [b] := by
    unfold Lib.encodeRune
    rw [Lib.encodeRuneZ_one (by omega) (by omega)]
    simp
  rw [this]
theorem memb_one {s r : Bs} {a : J} (S : Tx s a r) (ns : List Bs) (l : List J) (b : UInt8) (hb : (32 ≤ b.toNat ∧ b.toNat < 128) ∧ b ≠ 34 ∧ b ≠ 92) (hh : hasM ns [b] = false) {g1 g2 g3 : Bs} (h1 : Gap g1) (h2 : Gap g2) (h3 : Gap g3) (x : Bs) (hx : noNum x) :
    membM (pV 15) (ns, l) (g1 ++ 34 :: b :: 34 :: (g2 ++ 58 :: (g3 ++ s ++ x))) = if fits 15 a then .ok ((ns.insertIdx (posM ns [b]) [b], l.insertIdx (posM ns [b]) a), r ++ x) else .error 35 := by
  have b34 : ∀ z : Bs, blk (34 :: z) = 34 :: z := fun z => rfl
  have b58 : ∀ z : Bs, blk (58 :: z) = 58 :: z := fun z => rfl
  unfold membM
  rw [blk_gap h1, b34, quot_one b hb]
  simp only
  rw [hh, blk_gap h2, b58]
  simp only [Bool.false_eq_true, if_false, isH, beq_self_eq_true, if_true, List.tail_cons]
  rw [List.append_assoc, pV_gap h3, S.lev 15 hx]
  cases fits 15 a <;> rfl
theorem obj_parse1 {s : Bs} {a : J} (hs : parseJ s = (a, 0)) {g1 g2 g3 g4 : Bs} (h1 : Gap g1) (h2 : Gap g2) (h3 : Gap g3) (h4 : Gap g4)
    (hl : (123 :: (g1 ++ 34 :: 97 :: 34 :: (g2 ++ 58 :: (g3 ++ s ++ (g4 ++ [125]))))).length ≤ 4096) :
    parseJ (123 :: (g1 ++ 34 :: 97 :: 34 :: (g2 ++ 58 :: (g3 ++ s ++ (g4 ++ [125]))))) = if fits 15 a then (.obj [[97]] [a], 0) else (.null, 35) := by
  obtain ⟨r, S⟩ := Tx.of hs
  have n125 : ∀ z : Bs, noNum (125 :: z) := fun z => rfl
  have b125 : ∀ z : Bs, blk (125 :: z) = 125 :: z := fun z => rfl
  have b34 : ∀ z : Bs, blk (34 :: z) = 34 :: z := fun z => rfl
  have b123 : ∀ z : Bs, blk (123 :: z) = 123 :: z := fun z => rfl
  have e : pV 16 (123 :: (g1 ++ 34 :: 97 :: 34 :: (g2 ++ 58 :: (g3 ++ s ++ (g4 ++ [125]))))) = if fits 15 a then .ok (.obj [[97]] [a], []) else .error 35 := by
    show vM (some (pV 15)) (blk (123 :: _)) = _
    rw [b123]
    show objM (some (pV 15)) (123 :: _) = _
    unfold objM
    simp only [List.tail_cons]
    unfold rowsM
    rw [blk_gap h1, b34]
    simp only [isH, show ((34 : UInt8) == 125) = false from rfl, Bool.false_eq_true, if_false]
    generalize hk : (g1 ++ 34 :: 97 :: 34 :: (g2 ++ 58 :: (g3 ++ s ++ (g4 ++ [125])))).length = k
    simp only [rowM]
    have := memb_one S [] [] 97 (by decide) rfl Gap.nil h2 h3 (g4 ++ [125]) (noNum_gap h4 (n125 _))
    rw [List.nil_append] at this
    rw [this]
    cases fits 15 a with
    | false => rfl
    | true =>
      simp only [if_true]
      rw [S.after, blk_gap h4, b125]
      rfl
  cases hf : fits 15 a with
  | true => rw [hf] at e; exact parseJ_mk hl e rfl
  | false => rw [hf] at e; exact parseJ_er hl e
/-- Three members. -/
def obj3 (b1 b2 b3 : UInt8) (s t u : Bs) : Bs := 123 :: 34 :: b1 :: 34 :: 58 :: (s ++ 44 :: 34 :: b2 :: 34 :: 58 :: (t ++ 44 :: 34 :: b3 :: 34 :: 58 :: (u ++ [125])))
def ins3 (x : List Bs × List J) (b : UInt8) (a : J) : List Bs × List J := (x.1.insertIdx (posM x.1 [b]) [b], x.2.insertIdx (posM x.1 [b]) a)
theorem obj3_parse (b1 b2 b3 : UInt8) {s t u : Bs} {a b c : J} (hs : parseJ s = (a, 0)) (ht : parseJ t = (b, 0)) (hu : parseJ u = (c, 0))
    (k1 : (32 ≤ b1.toNat ∧ b1.toNat < 128) ∧ b1 ≠ 34 ∧ b1 ≠ 92) (k2 : (32 ≤ b2.toNat ∧ b2.toNat < 128) ∧ b2 ≠ 34 ∧ b2 ≠ 92) (k3 : (32 ≤ b3.toNat ∧ b3.toNat < 128) ∧ b3 ≠ 34 ∧ b3 ≠ 92)
    (m2 : hasM [[b1]] [b2] = false) (m3 : hasM (ins3 ([[b1]], [a]) b2 b).1 [b3] = false) (hl : (obj3 b1 b2 b3 s t u).length ≤ 4096) :
    parseJ (obj3 b1 b2 b3 s t u) = if fits 15 a && (fits 15 b && fits 15 c) then (.obj (ins3 (ins3 ([[b1]], [a]) b2 b) b3 c).1 (ins3 (ins3 ([[b1]], [a]) b2 b) b3 c).2, 0) else (.null, 35) := by
  obtain ⟨r, S⟩ := Tx.of hs
  obtain ⟨q, T⟩ := Tx.of ht
  obtain ⟨p, U⟩ := Tx.of hu
  have n125 : ∀ z : Bs, noNum (125 :: z) := fun z => rfl
  have n44 : ∀ z : Bs, noNum (44 :: z) := fun z => rfl
  have b125 : ∀ z : Bs, blk (125 :: z) = 125 :: z := fun z => rfl
  have b44 : ∀ z : Bs, blk (44 :: z) = 44 :: z := fun z => rfl
  have b34 : ∀ z : Bs, blk (34 :: z) = 34 :: z := fun z => rfl
  have b123 : ∀ z : Bs, blk (123 :: z) = 123 :: z := fun z => rfl
  have one : ∀ {s r : Bs} {a : J} (S : Tx s a r) (ns : List Bs) (l : List J) (b : UInt8) (hb : (32 ≤ b.toNat ∧ b.toNat < 128) ∧ b ≠ 34 ∧ b ≠ 92) (hh : hasM ns [b] = false) (x : Bs) (hx : noNum x),
      membM (pV 15) (ns, l) (34 :: b :: 34 :: 58 :: (s ++ x)) = if fits 15 a then .ok (ins3 (ns, l) b a, r ++ x) else .error 35 := by
    intro s r a S ns l b hb hh x hx
    exact memb_one S ns l b hb hh Gap.nil Gap.nil Gap.nil x hx
  have e : pV 16 (obj3 b1 b2 b3 s t u) = if fits 15 a && (fits 15 b && fits 15 c) then .ok (.obj (ins3 (ins3 ([[b1]], [a]) b2 b) b3 c).1 (ins3 (ins3 ([[b1]], [a]) b2 b) b3 c).2, []) else .error 35 := by
    unfold obj3
    show vM (some (pV 15)) (blk (123 :: _)) = _
    rw [b123]
    show objM (some (pV 15)) (123 :: _) = _
    unfold objM
    simp only [List.tail_cons]
    unfold rowsM
    rw [b34]
    simp only [isH, show ((34 : UInt8) == 125) = false from rfl, Bool.false_eq_true, if_false]
    generalize hk : (34 :: b1 :: 34 :: 58 :: (s ++ 44 :: 34 :: b2 :: 34 :: 58 :: (t ++ 44 :: 34 :: b3 :: 34 :: 58 :: (u ++ [125])))).length = k
    obtain ⟨k, rfl⟩ : ∃ k', k = k' + 2 := ⟨k - 2, by rw [← hk]; simp only [List.length_cons]; omega⟩
    simp only [rowM]
    rw [one S [] [] b1 k1 rfl _ (n44 _)]
    cases fits 15 a with
    | false => rfl
    | true =>
      simp only [if_true, Bool.true_and]
      rw [S.after, b44]
      simp only [isH, List.tail_cons, show ((44 : UInt8) == 125) = false from rfl, show ((44 : UInt8) == 44) = true from rfl, Bool.false_eq_true, if_false, if_true]
      rw [show ins3 ([], []) b1 a = ([[b1]], [a]) from rfl, one T [[b1]] [a] b2 k2 m2 _ (n44 _)]
      cases fits 15 b with
      | false => rfl
      | true =>
        simp only [if_true, Bool.true_and]
        rw [T.after, b44]
        simp only [isH, List.tail_cons, show ((44 : UInt8) == 125) = false from rfl, show ((44 : UInt8) == 44) = true from rfl, Bool.false_eq_true, if_false, if_true]
        rw [one U _ _ b3 k3 m3 _ (n125 _)]
        cases fits 15 c with
        | false => rfl
        | true =>
          simp only [if_true]
          rw [U.after, b125]
          rfl
  cases hf : fits 15 a && (fits 15 b && fits 15 c) with
  | true => rw [hf] at e; exact parseJ_mk hl e rfl
  | false => rw [hf] at e; exact parseJ_er hl e
theorem orders_parse {s t u : Bs} {a b c : J} (hs : parseJ s = (a, 0)) (ht : parseJ t = (b, 0)) (hu : parseJ u = (c, 0)) (hl : s.length + t.length + u.length ≤ 1000) :
    parseJ (obj3 107 97 122 s t u) = parseJ (obj3 122 107 97 u s t) := by
  rw [obj3_parse 107 97 122 hs ht hu (by decide) (by decide) (by decide) (by decide) rfl (by unfold obj3; simp; omega),
    obj3_parse 122 107 97 hu hs ht (by decide) (by decide) (by decide) (by decide) rfl (by unfold obj3; simp; omega)]
  have e : (fits 15 a && (fits 15 b && fits 15 c)) = (fits 15 c && (fits 15 a && fits 15 b)) := by
    cases fits 15 a <;> cases fits 15 b <;> cases fits 15 c <;> rfl
  rw [e]
  rfl

end Go.Proofs.YticnfmfmgdfdeaaGreatDoor

namespace Go.Proofs.YticnfmfmgdfdeaaGreatDoor
open Go.RowKit

theorem text_head (m : Nm) (h : rightM m = true) : (textM m).all numB = true ∧ ∃ b t, textM m = b :: t ∧ (b = 45 ∨ dig b = true) := by
  have dn : ∀ l : Bs, l.all dig = true → l.all numB = true := by
    intro l hl
    rw [List.all_eq_true] at hl ⊢
    intro b hb
    unfold numB
    rw [hl b hb]; rfl
  have hi : ∀ e : Int, (Lib.itoa e).all numB = true := by
    intro e
    unfold Lib.itoa
    split
    · rw [List.all_cons, dn _ (dec_all _)]; rfl
    · exact dn _ (dec_all _)
  by_cases hd : m.digs = []
  · obtain rfl := right_nil h hd
    exact ⟨by decide, 48, [], by decide, by decide⟩
  · obtain ⟨-, h2, -⟩ := right_parts h hd
    unfold textM
    rw [if_neg hd]
    refine ⟨?_, ?_⟩
    · rw [List.all_append, List.all_append, dn _ h2]
      have a : (if m.down = true then [45] else [] : Bs).all numB = true := by split <;> decide
      have b : (if m.exp = 0 then [] else 101 :: Lib.itoa m.exp : Bs).all numB = true := by
        split
        · rfl
        · rw [List.all_cons, hi]; rfl
      rw [a, b]; rfl
    · cases m.down with
      | true => exact ⟨45, _, rfl, .inl rfl⟩
      | false =>
        cases hg : m.digs with
        | nil => exact absurd hg hd
        | cons b t =>
          rw [hg, List.all_cons, Bool.and_eq_true] at h2
          exact ⟨b, _, rfl, .inr h2.1⟩
theorem not_blank {b : UInt8} (h : numB b = true) : blankB b = false := by
  cases hb : blankB b with
  | false => rfl
  | true => rw [blank_no hb] at h; cases h
theorem blk_cons {b : UInt8} (h : blankB b = false) (t : Bs) : blk (b :: t) = b :: t := by
  show (b :: t).dropWhile blankB = _
  rw [List.dropWhile_cons, h]; rfl
theorem tw_allN {p : UInt8 → Bool} : ∀ (l x : Bs), l.all p = true → x.takeWhile p = [] → (l ++ x).takeWhile p = l ∧ (l ++ x).dropWhile p = x
  | [], x, _, hx => by
    have := List.takeWhile_append_dropWhile (p := p) (l := x)
    rw [hx] at this
    exact ⟨hx, by simpa using this⟩
  | b :: t, x, h, hx => by
    rw [List.all_cons, Bool.and_eq_true] at h
    obtain ⟨h1, h2⟩ := tw_allN t x h.2 hx
    simp only [List.cons_append, List.takeWhile_cons, List.dropWhile_cons, h.1, if_true]
    exact ⟨by rw [h1], h2⟩
theorem vM_num (P : Option (Bs → Rd J)) (m : Nm) (h : rightM m = true) (x : Bs) (hx : noNum x) : vM P (blk (textM m ++ x)) = .ok (.num m, x) := by
  obtain ⟨ha, b, t, e, hb⟩ := text_head m h
  have hnb : numB b = true := by
    rw [e, List.all_cons, Bool.and_eq_true] at ha
    exact ha.1
  obtain ⟨k1, k2⟩ := tw_allN (textM m) x ha hx
  have hbl : blk (textM m ++ x) = textM m ++ x := by rw [e]; exact blk_cons (not_blank hnb) _
  have hnum : numJ (textM m ++ x) = .ok (.num m, x) := by
    unfold numJ
    rw [k1, k2, text_parse h]
    rfl
  have no : ∀ c : UInt8, c ≠ 45 → dig c = false → isH c (textM m ++ x) = false := by
    intro c h1 h2
    rw [e]
    show (b == c) = false
    rw [beq_eq_false_iff_ne]
    rintro rfl
    rcases hb with hb | hb
    · exact h1 hb
    · rw [h2] at hb; cases hb
  rw [hbl]
  unfold vM
  rw [no 110 (by decide) (by decide), no 116 (by decide) (by decide), no 102 (by decide) (by decide), no 34 (by decide) (by decide), no 91 (by decide) (by decide), no 123 (by decide) (by decide)]
  simp only [Bool.false_eq_true, if_false]
  have : (isH 45 (textM m ++ x) || dig ((textM m ++ x).headD 0)) = true := by
    rw [e]
    show ((b == 45) || dig b) = true
    rcases hb with hb | hb
    · rw [hb]; rfl
    · rw [hb]; simp
  rw [if_pos this, hnum]

/-! ### Strings -/
theorem hex_low : ∀ n : Fin 32, hexB (hexd (n.val / 16)) = some (n.val / 16) ∧ hexB (hexd (n.val % 16)) = some (n.val % 16) := by decide
theorem esc_low (b : UInt8) (h : b.toNat < 32) (y : Bs) : escM (92 :: 117 :: 48 :: 48 :: hexd (b.toNat / 16) :: hexd (b.toNat % 16) :: y) = some (b.toNat, 6) := by
  obtain ⟨h1, h2⟩ := hex_low ⟨b.toNat, h⟩
  have hx : hex4 (92 :: 117 :: 48 :: 48 :: hexd (b.toNat / 16) :: hexd (b.toNat % 16) :: y) = some b.toNat := by
    unfold hex4
    rw [if_neg (by simp), if_pos (by simp [Lib.hasPrefix, List.isPrefixOf])]
    simp only [List.drop_succ_cons, List.drop_zero, List.take_succ_cons, List.take_zero]
    have z : hexB 48 = some 0 := by decide
    simp only [hexV, z, h1, h2]
    congr 1
    omega
  unfold escM
  rw [if_neg (by simp)]
  simp only [List.getD_cons_succ, List.getD_cons_zero]
  rw [if_neg (by decide), if_neg (by decide), if_neg (by decide), if_neg (by decide), if_neg (by decide), if_neg (by decide)]
  unfold numbM
  rw [hx]
  simp only
  rw [if_pos (by omega)]
theorem enc_asc (b : UInt8) (h : b.toNat < 128) : Lib.encodeRune (b.toNat : Int) = [b] := by
  unfold Lib.encodeRune
  rw [Lib.encodeRuneZ_one (by omega) (by omega)]
  simp
theorem enc_high (x : Nat) (h : 128 ≤ x) : ∀ b ∈ Lib.encodeRune (x : Int), 128 ≤ b.toNat := by
  have key : ∀ z : Int, 128 ≤ z → z < 256 → 128 ≤ z.toNat.toUInt8.toNat := by
    intro z h1 h2
    rw [tb z z.toNat (by omega) (by omega)]; omega
  have h2 : ∀ z ∈ Lib.encodeRuneZ (x : Int), 128 ≤ z ∧ z < 256 := by
    intro z hz
    have hb := (Lib.encodeRuneZ_byte (x : Int) z hz).2
    refine ⟨?_, hb⟩
    unfold Lib.encodeRuneZ at hz
    rw [if_neg (by omega)] at hz
    split at hz
    · simp at hz; omega
    · split at hz
      · simp at hz; omega
      · split at hz
        · simp at hz; omega
        · simp at hz; omega
  intro b hb
  unfold Lib.encodeRune at hb
  obtain ⟨z, hz, rfl⟩ := List.mem_map.1 hb
  obtain ⟨k1, k2⟩ := h2 z hz
  exact key z k1 k2
theorem quo_high : ∀ l : Bs, (∀ b ∈ l, 128 ≤ b.toNat) → l.flatMap quo1 = l
  | [], _ => rfl
  | b :: t, h => by
    have hb := h b (by simp)
    have e : quo1 b = [b] := by
      unfold quo1
      rw [if_neg, if_neg (by omega)]
      rintro (rfl | rfl)
      · exact absurd hb (by decide)
      · exact absurd hb (by decide)
    rw [List.flatMap_cons, e, quo_high t (fun c hc => h c (by simp [hc]))]
    rfl
theorem qS_text : ∀ (k : Nat) (s x : Bs), s.length ≤ k → UT s → qS (s.flatMap quo1 ++ 34 :: x) = some (s, x) := by
  have base : ∀ x : Bs, qS (34 :: x) = some ([], x) := by
    intro x
    rw [qS_step (by simp), Lib.decodeL_ascii 34 x (by decide)]
    rfl
  intro k
  induction k with
  | zero =>
    intro s x h _
    have : s = [] := List.eq_nil_of_length_eq_zero (by omega)
    subst this
    exact base x
  | succ k ih =>
    intro s x h hv
    cases s with
    | nil => exact base x
    | cons b t =>
      by_cases hb : b.toNat < 128
      · have hv2 : UT t := by unfold UT at hv ⊢; rw [← Lib.validD_cons b t hb]; exact hv
        have IH := ih t x (by simp at h; omega) hv2
        have eb := enc_asc b hb
        rw [List.flatMap_cons, List.append_assoc]
        generalize t.flatMap quo1 ++ 34 :: x = y at *
        by_cases h1 : b = 34 ∨ b = 92
        · have e : quo1 b = [92, b] := by unfold quo1; rw [if_pos h1]
          rw [e]
          show qS (92 :: b :: y) = _
          rw [qS_step (by simp), Lib.decodeL_ascii 92 _ (by decide)]
          have ee : escM (92 :: b :: y) = some (b.toNat, 2) := by
            unfold escM
            rw [if_neg (by simp)]
            simp only [List.getD_cons_succ, List.getD_cons_zero]
            rw [if_pos (by rcases h1 with h1 | h1; exact .inl h1; exact .inr (.inl h1))]
          simp only [show ¬ ((92 : UInt8).toNat = 34) from by decide, if_false, show ((92 : UInt8).toNat = 92) from rfl, if_true]
          rw [ee]
          simp only [List.drop_succ_cons, List.drop_zero]
          rw [IH]
          simp only [Option.map_some, eb, List.cons_append, List.nil_append]
          rw [if_neg (by decide)]
        · by_cases h2 : b.toNat < 32
          · have e : quo1 b = [92, 117, 48, 48, hexd (b.toNat / 16), hexd (b.toNat % 16)] := by unfold quo1; rw [if_neg h1, if_pos h2]
            rw [e]
            show qS (92 :: 117 :: 48 :: 48 :: hexd (b.toNat / 16) :: hexd (b.toNat % 16) :: y) = _
            rw [qS_step (by simp), Lib.decodeL_ascii 92 _ (by decide)]
            simp only [show ¬ ((92 : UInt8).toNat = 34) from by decide, if_false, show ((92 : UInt8).toNat = 92) from rfl, if_true]
            rw [esc_low b h2 y]
            simp only [List.drop_succ_cons, List.drop_zero]
            rw [IH]
            simp only [Option.map_some, eb, List.cons_append, List.nil_append]
            rw [if_neg (by decide)]
          · have e : quo1 b = [b] := by unfold quo1; rw [if_neg h1, if_neg h2]
            have n3 : b.toNat ≠ 34 := fun e => h1 (.inl (UInt8.toNat_inj.1 e))
            have n4 : b.toNat ≠ 92 := fun e => h1 (.inr (UInt8.toNat_inj.1 e))
            rw [e]
            show qS (b :: y) = _
            have n5 : brokenM (b :: y) b.toNat = false := by
              unfold brokenM
              have : (b.toNat == 65533) = false := beq_eq_false_iff_ne.2 (by omega)
              rw [this]; rfl
            rw [qS_step (by simp), Lib.decodeL_ascii b _ hb]
            simp only
            rw [if_neg n3, if_neg n4, n5, if_neg (by simp; omega)]
            simp only [List.drop_succ_cons, List.drop_zero]
            rw [IH]
            simp only [Option.map_some, eb, List.cons_append, List.nil_append]
      · have hne : b :: t ≠ [] := by simp
        have hnb : ¬ ((Lib.decodeL (b :: t)).1 = 65533 ∧ (Lib.decodeL (b :: t)).2 = 1) := by
          intro hc
          unfold UT at hv
          rw [Lib.validD_step _ hne, if_pos hc] at hv
          cases hv
        have hv2 : UT ((b :: t).drop (Lib.decodeL (b :: t)).2) := by
          unfold UT at hv ⊢
          rw [Lib.validD_step _ hne, if_neg hnb] at hv
          exact hv
        have hw := Lib.decodeL_width (b :: t)
        have hlow : 128 ≤ (Lib.decodeL (b :: t)).1 := by
          rcases Nat.lt_or_ge (Lib.decodeL (b :: t)).1 128 with hc | hc
          · have := (dec_low hne hc).1
            simp only [List.getD_cons_zero] at this
            omega
          · exact hc
        obtain ⟨d1, d2, d3⟩ := dec_valid hne hnb
        have IH := ih _ x (by rw [List.length_drop]; omega) hv2
        generalize (b :: t).drop (Lib.decodeL (b :: t)).2 = u at *
        generalize Lib.decodeL (b :: t) = d at *
        obtain ⟨v, w⟩ := d
        simp only at d1 d2 d3 hlow
        rw [d1, List.flatMap_append, quo_high _ (enc_high v hlow), List.append_assoc]
        generalize u.flatMap quo1 ++ 34 :: x = y at *
        have hy := enc_ne (v : Int) y
        have hde := dec_enc v y d3
        have hbk : brokenM (Lib.encodeRune (v : Int) ++ y) v = false := by
          have := broken_no hy (by
            rw [hde]
            rintro ⟨a, b⟩
            simp only at a b
            subst a
            exact absurd b (by decide))
          rw [hde] at this
          exact this
        rw [qS_step hy, hde]
        simp only
        rw [if_neg (by omega), if_neg (by omega), hbk, if_neg (by simp; omega), enc_drop, IH]
        rfl
theorem quot_text (s x : Bs) (h : UT s) : quotM (quoB s ++ x) = some (s, x) := by
  rw [quotM_eq]
  have e : quoB s ++ x = 34 :: (s.flatMap quo1 ++ 34 :: x) := by unfold quoB; simp
  rw [e]
  show (if (34 : UInt8) == 34 then qS (s.flatMap quo1 ++ 34 :: x) else none) = _
  rw [if_pos (by decide)]
  exact qS_text _ s x (Nat.le_refl _) h

/-! ### Values -/
theorem vM_text (P : Option (Bs → Rd J)) (j : J) (x : Bs) (h : flatR j) (hk : j.kind < 4) (hx : j.kind = 2 → noNum x) : vM P (blk (textJ j ++ x)) = .ok (j, x) := by
  cases j with
  | null => unfold textJ; rfl
  | bool b => cases b <;> (unfold textJ; rfl)
  | num m =>
    have e : textJ (.num m) = textM m := by unfold textJ; rfl
    rw [e]
    exact vM_num P m h x (hx rfl)
  | str s =>
    rw [textJ_str]
    have e : quoB s ++ x = 34 :: (s.flatMap quo1 ++ 34 :: x) := by unfold quoB; simp
    have b34 : ∀ z : Bs, blk (34 :: z) = 34 :: z := fun z => rfl
    have hq := quot_text s x h
    rw [e] at hq ⊢
    rw [b34]
    show strJ (34 :: _) = _
    unfold strJ
    rw [hq]
  | arr l => simp [J.kind] at hk
  | obj ns l => simp [J.kind] at hk
theorem head_text (j : J) {n : Nat} (h : RJ n j) (x : Bs) : ∃ b t, textJ j ++ x = b :: t ∧ blankB b = false ∧ b ≠ 93 ∧ b ≠ 125 := by
  cases j with
  | null => exact ⟨110, _, by unfold textJ; rfl, by decide, by decide, by decide⟩
  | bool b => cases b with
    | true => exact ⟨116, _, by unfold textJ; rfl, by decide, by decide, by decide⟩
    | false => exact ⟨102, _, by unfold textJ; rfl, by decide, by decide, by decide⟩
  | num m =>
    obtain ⟨ha, b, t, e, hb⟩ := text_head m h.flat
    have hnb : numB b = true := by
      rw [e, List.all_cons, Bool.and_eq_true] at ha
      exact ha.1
    refine ⟨b, t ++ x, by unfold textJ; rw [e]; rfl, not_blank hnb, ?_, ?_⟩
    · rintro rfl; exact absurd hnb (by decide)
    · rintro rfl; exact absurd hnb (by decide)
  | str s => exact ⟨34, _, by rw [textJ_str]; rfl, by decide, by decide, by decide⟩
  | arr l => exact ⟨91, _, by rw [textJ_arr]; rfl, by decide, by decide, by decide⟩
  | obj ns l => exact ⟨123, _, by rw [textJ_obj]; rfl, by decide, by decide, by decide⟩
theorem n44 (z : Bs) : noNum (44 :: z) := rfl
theorem n93 (z : Bs) : noNum (93 :: z) := rfl
theorem n125 (z : Bs) : noNum (125 :: z) := rfl
theorem b44 (z : Bs) : blk (44 :: z) = 44 :: z := rfl
theorem b93 (z : Bs) : blk (93 :: z) = 93 :: z := rfl
theorem b125 (z : Bs) : blk (125 :: z) = 125 :: z := rfl
theorem b58 (z : Bs) : blk (58 :: z) = 58 :: z := rfl
theorem row_text (n : Nat) (ih : ∀ j x, RJ n j → (j.kind = 2 → noNum x) → pV n (textJ j ++ x) = .ok (j, x)) :
    ∀ (l acc : List J) (k : Nat) (x : Bs), l ≠ [] → l.length ≤ k → (∀ a ∈ l, RJ n a) → rowM (itemM (pV n)) 93 k acc (textL l ++ 93 :: x) = .ok (acc ++ l, x)
  | [], _, _, _, h, _, _ => absurd rfl h
  | _ :: _, _, 0, _, _, h, _ => by simp at h
  | [a], acc, k + 1, x, _, _, hR => by
    simp only [rowM, itemM, textL]
    rw [ih a (93 :: x) (hR a (by simp)) (fun _ => n93 x)]
    rfl
  | a :: b :: l, acc, k + 1, x, _, hk, hR => by
    have IH := row_text n ih (b :: l) (acc ++ [a]) k x (by simp) (by simpa using hk) (fun c hc => hR c (by simp only [List.mem_cons] at hc ⊢; exact .inr hc))
    simp only [rowM, itemM, textL]
    rw [show textJ a ++ 44 :: textL (b :: l) ++ 93 :: x = textJ a ++ 44 :: (textL (b :: l) ++ 93 :: x) by simp, ih a _ (hR a (by simp)) (fun _ => n44 _)]
    simp only
    rw [b44]
    simp only [isH, List.tail_cons, show ((44 : UInt8) == 93) = false from rfl, show ((44 : UInt8) == 44) = true from rfl, Bool.false_eq_true, if_false, if_true]
    rw [IH, List.append_assoc]
    rfl
theorem tw_self {p : Bs → Bool} : ∀ (l : List Bs), (∀ a ∈ l, p a = true) → l.takeWhile p = l
  | [], _ => rfl
  | a :: l, h => by rw [List.takeWhile_cons, if_pos (h a (by simp)), tw_self l (fun b hb => h b (by simp [hb]))]
theorem pos_end {ns : List Bs} {m : Bs} (h : ∀ a ∈ ns, ltB a m = true) : posM ns m = ns.length ∧ hasM ns m = false := by
  have e : posM ns m = ns.length := by
    unfold posM
    rw [tw_self (p := fun a => ltB a m) ns h]
  exact ⟨e, by unfold hasM; rw [e, List.getElem?_eq_none (Nat.le_refl _)]; rfl⟩
theorem memb_text (n : Nat) (ih : ∀ j x, RJ n j → (j.kind = 2 → noNum x) → pV n (textJ j ++ x) = .ok (j, x)) (ns : List Bs) (l : List J) (m : Bs) (a : J) (hl : ns.length = l.length) (hm : ∀ c ∈ ns, ltB c m = true) (hu : UT m) (ha : RJ n a) (x : Bs) (hx : noNum x) :
    membM (pV n) (ns, l) (quoB m ++ 58 :: (textJ a ++ x)) = .ok ((ns ++ [m], l ++ [a]), x) := by
  obtain ⟨e1, e2⟩ := pos_end hm
  have hq := quot_text m (58 :: (textJ a ++ x)) hu
  have hb : blk (quoB m ++ 58 :: (textJ a ++ x)) = quoB m ++ 58 :: (textJ a ++ x) := by unfold quoB; rfl
  unfold membM
  rw [hb, hq]
  simp only
  rw [e2, b58]
  simp only [Bool.false_eq_true, if_false, isH, beq_self_eq_true, if_true, List.tail_cons]
  rw [ih a x ha (fun _ => hx), e1]
  simp only [List.insertIdx_length_self]
  rw [hl, List.insertIdx_length_self]
theorem rowO_text (n : Nat) (ih : ∀ j x, RJ n j → (j.kind = 2 → noNum x) → pV n (textJ j ++ x) = .ok (j, x)) :
    ∀ (ns : List Bs) (l : List J) (aN : List Bs) (aL : List J) (k : Nat) (x : Bs), l ≠ [] → ns.length = l.length → aN.length = aL.length → l.length ≤ k → Ris (aN ++ ns) → (∀ m ∈ ns, UT m) → (∀ a ∈ l, RJ n a) →
    rowM (membM (pV n)) 125 k (aN, aL) (textO ns l ++ 125 :: x) = .ok ((aN ++ ns, aL ++ l), x)
  | _, [], _, _, _, _, h, _, _, _, _, _, _ => absurd rfl h
  | [], _ :: _, _, _, _, _, _, h, _, _, _, _, _ => by simp at h
  | _ :: _, _ :: _, _, _, 0, _, _, _, _, h, _, _, _ => by simp at h
  | [m], [a], aN, aL, k + 1, x, _, _, h4, _, h6, h7, h8 => by
    have hm : ∀ c ∈ aN, ltB c m = true := fun c hc => (List.pairwise_append.1 h6).2.2 c hc m (by simp)
    simp only [rowM, textO]
    rw [show quoB m ++ 58 :: textJ a ++ 125 :: x = quoB m ++ 58 :: (textJ a ++ 125 :: x) by simp, memb_text n ih aN aL m a h4 hm (h7 m (by simp)) (h8 a (by simp)) _ (n125 x)]
    rfl
  | m :: m2 :: ns, a :: b :: l, aN, aL, k + 1, x, _, h3, h4, h5, h6, h7, h8 => by
    have hm : ∀ c ∈ aN, ltB c m = true := fun c hc => (List.pairwise_append.1 h6).2.2 c hc m (by simp)
    have IH := rowO_text n ih (m2 :: ns) (b :: l) (aN ++ [m]) (aL ++ [a]) k x (by simp) (by simpa using h3) (by simp [h4]) (by simpa using h5) (by rw [List.append_assoc]; exact h6)
      (fun c hc => h7 c (by simp only [List.mem_cons] at hc ⊢; exact .inr hc)) (fun c hc => h8 c (by simp only [List.mem_cons] at hc ⊢; exact .inr hc))
    simp only [rowM, textO]
    rw [show quoB m ++ 58 :: (textJ a ++ 44 :: textO (m2 :: ns) (b :: l)) ++ 125 :: x = quoB m ++ 58 :: (textJ a ++ 44 :: (textO (m2 :: ns) (b :: l) ++ 125 :: x)) by simp,
      memb_text n ih aN aL m a h4 hm (h7 m (by simp)) (h8 a (by simp)) _ (n44 _)]
    simp only
    rw [b44]
    simp only [isH, List.tail_cons, show ((44 : UInt8) == 125) = false from rfl, show ((44 : UInt8) == 44) = true from rfl, Bool.false_eq_true, if_false, if_true]
    rw [IH, List.append_assoc, List.append_assoc]
    rfl
  | [_], _ :: _ :: _, _, _, _ + 1, _, _, h, _, _, _, _, _ => by simp at h
  | _ :: _ :: _, [_], _, _, _ + 1, _, _, h, _, _, _, _, _ => by simp at h
theorem pV_text : ∀ (n : Nat) (j : J) (x : Bs), RJ n j → (j.kind = 2 → noNum x) → pV n (textJ j ++ x) = .ok (j, x)
  | 0, j, x, h, hx => vM_text none j x h.1 h.2 hx
  | n + 1, j, x, h, hx => by
    have ih := pV_text n
    show vM (some (pV n)) (blk (textJ j ++ x)) = _
    by_cases hk : j.kind < 4
    · exact vM_text _ j x h.1 hk hx
    · cases j with
      | null => exact absurd (by decide) hk
      | bool b => exact absurd (by simp [J.kind]) hk
      | num m => exact absurd (by simp [J.kind]) hk
      | str s => exact absurd (by simp [J.kind]) hk
      | arr l =>
        rw [textJ_arr, List.cons_append, blk91, vM91]
        unfold arrM
        simp only [List.tail_cons]
        rw [List.append_assoc]
        show (match rowsM (itemM (pV n)) 93 [] (textL l ++ 93 :: x) with | .error c => _ | .ok (l, r) => _) = _
        have key : rowsM (itemM (pV n)) 93 [] (textL l ++ 93 :: x) = .ok (l, x) := by
          unfold rowsM
          cases hl : l with
          | nil => rfl
          | cons a t =>
            rw [← hl]
            have hne : l ≠ [] := by rw [hl]; simp
            obtain ⟨b, u, e, hb, h93, -⟩ : ∃ b u, textL l ++ 93 :: x = b :: u ∧ blankB b = false ∧ b ≠ 93 ∧ b ≠ 125 := by
              rw [hl]
              cases t with
              | nil => exact head_text a (h.2 a (by rw [hl]; simp [J.items])) _
              | cons c t =>
                have := head_text a (h.2 a (by rw [hl]; simp [J.items])) (44 :: textL (c :: t) ++ 93 :: x)
                simpa [textL] using this
            have hb2 : blk (textL l ++ 93 :: x) = textL l ++ 93 :: x := by rw [e]; exact blk_cons hb u
            have hn : isH 93 (textL l ++ 93 :: x) = false := by rw [e]; exact beq_eq_false_iff_ne.2 h93
            rw [hb2, hn]
            simp only [Bool.false_eq_true, if_false]
            have := len_items l
            rw [row_text n ih l [] _ x hne (by simp; omega) h.2]
            rfl
        rw [key]
      | obj ns l =>
        obtain ⟨⟨h1, h2, h3⟩, h4⟩ := h
        rw [textJ_obj, List.cons_append]
        have b123 : ∀ z : Bs, blk (123 :: z) = 123 :: z := fun z => rfl
        rw [b123]
        show objM (some (pV n)) (123 :: _) = _
        unfold objM
        simp only [List.tail_cons]
        rw [List.append_assoc]
        show (match rowsM (membM (pV n)) 125 ([], []) (textO ns l ++ 125 :: x) with | .error c => _ | .ok (y, r) => _) = _
        have key : rowsM (membM (pV n)) 125 ([], []) (textO ns l ++ 125 :: x) = .ok ((ns, l), x) := by
          unfold rowsM
          cases hl : l with
          | nil =>
            have : ns = [] := List.eq_nil_of_length_eq_zero (by rw [h1, hl]; rfl)
            rw [this]
            rfl
          | cons a t =>
            rw [← hl]
            have hne : l ≠ [] := by rw [hl]; simp
            have e : textO ns l ++ 125 :: x = 34 :: (textO ns l ++ 125 :: x).tail := by
              cases hns : ns with
              | nil => rw [hns, hl] at h1; simp at h1
              | cons m ms =>
                rw [hl]
                cases t with
                | nil =>
                  cases ms with
                  | nil => simp only [textO, quoB, List.cons_append, List.tail_cons]
                  | cons _ _ => rw [hns, hl] at h1; simp at h1
                | cons c t =>
                  cases ms with
                  | nil => rw [hns, hl] at h1; simp at h1
                  | cons _ _ => simp only [textO, quoB, List.cons_append, List.tail_cons]
            have hb2 : blk (textO ns l ++ 125 :: x) = textO ns l ++ 125 :: x := by rw [e]; rfl
            have hn : isH 125 (textO ns l ++ 125 :: x) = false := by rw [e]; rfl
            rw [hb2, hn]
            simp only [Bool.false_eq_true, if_false]
            have hle : l.length ≤ (textO ns l).length + 1 := by
              have hx : ∀ (ns : List Bs) (l : List J), ns.length = l.length → l.length ≤ (textO ns l).length := by
                intro ns
                induction ns with
                | nil => intro l hl; rw [← hl]; simp
                | cons m ns ihn =>
                  intro l hl
                  cases l with
                  | nil => simp
                  | cons a l =>
                    have := ihn l (by simpa using hl)
                    cases l with
                    | nil =>
                      cases ns with
                      | nil => simp [textO, quoB]
                      | cons _ _ => simp at hl
                    | cons b l => simp only [textO, List.length_append, List.length_cons] at this ⊢; omega
              have := hx ns l h1
              omega
            rw [rowO_text n ih ns l [] [] _ x hne h1 rfl (by simp; omega) h2 h3 h4]
            rfl
        rw [key]
theorem back_parse {j : J} (h : RJ 16 j) (hl : (textJ j).length ≤ 4096) : parseJ (textJ j) = (j, 0) := by
  have := pV_text 16 j [] h (fun _ => rfl)
  rw [List.append_nil] at this
  exact parseJ_mk hl this rfl
theorem text_inj {i j : J} (hi : RJ 16 i) (hj : RJ 16 j) (hl : (textJ i).length ≤ 4096) (h : textJ i = textJ j) : i = j := by
  have h1 := back_parse hi hl
  rw [h] at hl h1
  have h2 := back_parse hj hl
  rw [h1] at h2
  injection h2

end Go.Proofs.YticnfmfmgdfdeaaGreatDoor
