/-
  Numbers, plain: a text of one is parsed as it; how two stand is an order. Own work.
-/
import Derived.Test.YtpjepdnkolbdhaaDoorNmM
set_option linter.unusedVariables false
set_option linter.unusedSimpArgs false
namespace Go.Proofs.YtpjepdnkolbdhaaDoor
open Go.RowKit

theorem dec_all (u : Nat) : (Lib.decDigits u).all dig = true := by
  induction u using Nat.strongRecOn with
  | _ u ih =>
    have one : ∀ k, k < 10 → dig (UInt8.ofNat (48 + k)) = true := by
      intro k hk
      have : (UInt8.ofNat (48 + k)).toNat = 48 + k := by rw [UInt8.toNat_ofNat']; omega
      simp only [dig, this, Bool.and_eq_true, decide_eq_true_eq]; omega
    rw [Lib.decDigits]
    split
    · rw [List.all_cons, one u (by assumption)]; rfl
    · rename_i h
      simp only [List.all_append, ih (u / 10) (by omega), Bool.true_and, List.all_cons, List.all_nil, Bool.and_true]
      exact one _ (by omega)
theorem dec_ne (u : Nat) : Lib.decDigits u ≠ [] := by
  rw [Lib.decDigits]; split <;> simp
theorem powV_snoc (c : Nat) (l : Bs) (b : UInt8) : powV c (l ++ [b]) = min (10 * powV c l + (b.toNat - 48)) c := by
  simp [powV, List.foldl_append]
theorem powV_dec (c : Nat) (u : Nat) (h : u ≤ c) : powV c (Lib.decDigits u) = u := by
  induction u using Nat.strongRecOn with
  | _ u ih =>
    have one : ∀ k, k < 10 → (UInt8.ofNat (48 + k)).toNat - 48 = k := by
      intro k hk
      rw [UInt8.toNat_ofNat']; omega
    rw [Lib.decDigits]
    split
    · rename_i hu
      simp only [powV, List.foldl_cons, List.foldl_nil, one u hu]; omega
    · rename_i hu
      rw [powV_snoc, ih (u / 10) (by omega) (by omega), one _ (by omega)]; omega

theorem right_zero : rightM Nm.zero = true := by decide
theorem right_nil {n : Nm} (h : rightM n = true) (hd : n.digs = []) : n = Nm.zero := by
  rw [rightM, if_pos hd] at h; exact of_decide_eq_true h
theorem right_parts {n : Nm} (h : rightM n = true) (hd : n.digs ≠ []) : n.digs.length ≤ 40 ∧ n.digs.all dig = true ∧ rtrim0 n.digs = n.digs ∧ trim0 n.digs = n.digs ∧ -999 ≤ n.exp ∧ n.exp ≤ 999 := by
  rw [rightM, if_neg hd] at h
  simp only [Bool.and_eq_true, decide_eq_true_eq] at h
  obtain ⟨⟨⟨⟨h1, h2⟩, h3⟩, h4⟩, h5⟩ := h
  exact ⟨h1, h2, h3.1, h3.2, h4, h5⟩
theorem trim0_head {l : Bs} (h : trim0 l = l) : isH 48 l = false := by
  cases l with
  | nil => rfl
  | cons b t =>
    simp only [isH, beq_eq_false_iff_ne]
    intro e
    have h1 : (trim0 (b :: t)).length ≤ t.length := by
      simp only [trim0, e, isZ, List.dropWhile_cons, beq_self_eq_true, if_true]
      exact (List.dropWhile_sublist _).length_le
    rw [h] at h1; simp at h1; omega

theorem text_parse {n : Nm} (h : rightM n = true) : parseM (textM n) = (n, 0) := by
  by_cases hd : n.digs = []
  · obtain rfl := right_nil h hd
    decide
  · obtain ⟨-, h2, h3, h4, h5, h6⟩ := right_parts h hd
    obtain ⟨d, A, e⟩ := n
    simp only at hd h2 h3 h4 h5 h6
    have hT : textM ⟨d, A, e⟩ = sgB d ++ A ++ pnB none ++ (if e = 0 then [] else 101 :: Lib.itoa e) := by
      rw [textM, if_neg hd]; simp [sgB, pnB]
    rw [hT]
    have hR : noD (if e = 0 then [] else 101 :: Lib.itoa e) := by
      split
      · trivial
      · exact (by decide : dig 101 = false)
    have hRp : (none : Option Bs) = none → isH 46 (if e = 0 then [] else 101 :: Lib.itoa e) = false := by
      intro _; split <;> rfl
    obtain ⟨p1, p2, p3, p4, p5⟩ := parts1 d A none _ h2 hd (fun b hb => by cases hb) hR hRp
    generalize sgB d ++ A ++ pnB none ++ (if e = 0 then [] else 101 :: Lib.itoa e) = s at *
    have hE : okC s = true ∧ (s6 s).isEmpty = true ∧ (if un s then -(powV 1099511627776 (pw s) : Int) else (powV 1099511627776 (pw s) : Int)) = e := by
      by_cases he : e = 0
      · rw [if_pos he] at p5
        obtain ⟨q1, q2, q3, q4⟩ := parts0 (s := s) (by rw [p5]; rfl) (by rw [p5]; rfl)
        refine ⟨by rw [okC, q1]; rfl, by rw [q4, p5]; rfl, ?_⟩
        rw [q2, q3, he]; rfl
      · rw [if_neg he] at p5
        by_cases hn : e < 0
        · have e1 : Lib.itoa e = 45 :: Lib.decDigits e.natAbs := by rw [Lib.itoa, if_pos hn]
          obtain ⟨q1, q2, q3, q4⟩ := parts2 (s := s) 101 [45] (Lib.decDigits e.natAbs) [] (by rw [p5, e1]; simp) (.inl rfl) (.inr (.inl rfl)) (dec_all _) (dec_ne _) trivial
          refine ⟨?_, by rw [q4]; rfl, ?_⟩
          · rw [okC, q3]; have := dec_ne e.natAbs; cases h : Lib.decDigits e.natAbs with
            | nil => exact absurd h this
            | cons _ _ => simp
          · rw [q2, q3, powV_dec _ _ (by omega)]; simp; omega
        · have e1 : Lib.itoa e = Lib.decDigits e.toNat := by rw [Lib.itoa, if_neg hn]
          obtain ⟨q1, q2, q3, q4⟩ := parts2 (s := s) 101 [] (Lib.decDigits e.toNat) [] (by rw [p5, e1]; simp) (.inl rfl) (.inl rfl) (dec_all _) (dec_ne _) trivial
          refine ⟨?_, by rw [q4]; rfl, ?_⟩
          · rw [okC, q3]; have := dec_ne e.toNat; cases h : Lib.decDigits e.toNat with
            | nil => exact absurd h this
            | cons _ _ => simp
          · rw [q2, q3, powV_dec _ _ (by omega)]; simp; omega
    obtain ⟨k1, k2, k3⟩ := hE
    have hok : okN s = true := by
      have a : okA s = true := by
        rw [okA, p2, trim0_head h4]
        cases A with
        | nil => exact absurd rfl hd
        | cons _ _ => simp
      rw [okN, a, k1, k2, okB, p3]; rfl
    have hnum : numM s = ⟨d, A, e⟩ := by
      rw [numM, num5, p1, p2, p4]
      simp only [Option.getD_none, List.append_nil, h4, h3, if_neg hd, k3]
      simp
    rw [parseM, if_pos hok, hnum, if_pos h]

/-! How two stand. -/
def cmpI (x y : Int) : Int := if x < y then -1 else if y < x then 1 else 0
def cmpB : Bs → Bs → Int
  | [], [] => 0
  | [], _ :: _ => -1
  | _ :: _, [] => 1
  | x :: a, y :: b => if x.toNat < y.toNat then -1 else if y.toNat < x.toNat then 1 else cmpB a b
theorem cmpB_anti : ∀ a b, cmpB b a = -cmpB a b
  | [], [] => rfl
  | [], _ :: _ => rfl
  | _ :: _, [] => rfl
  | x :: a, y :: b => by
    have := cmpB_anti a b
    simp only [cmpB]
    split <;> split <;> first | omega | (split <;> omega) | skip
theorem cmpB_range : ∀ a b, cmpB a b = -1 ∨ cmpB a b = 0 ∨ cmpB a b = 1
  | [], [] => .inr (.inl rfl)
  | [], _ :: _ => .inl rfl
  | _ :: _, [] => .inr (.inr rfl)
  | x :: a, y :: b => by
    have := cmpB_range a b
    simp only [cmpB]
    split
    · exact .inl rfl
    · split
      · exact .inr (.inr rfl)
      · exact this
theorem cmpB_refl : ∀ a, cmpB a a = 0
  | [] => rfl
  | x :: a => by simp [cmpB, cmpB_refl a]
theorem cmpB_eq : ∀ a b, cmpB a b = 0 → a = b
  | [], [], _ => rfl
  | [], _ :: _, h => by simp [cmpB] at h
  | _ :: _, [], h => by simp [cmpB] at h
  | x :: a, y :: b, h => by
    simp only [cmpB] at h
    split at h
    · omega
    · split at h
      · omega
      · rw [cmpB_eq a b h, UInt8.toNat_inj.1 (show x.toNat = y.toNat by omega)]
theorem cmpB_trans : ∀ a b c, cmpB a b ≤ 0 → cmpB b c ≤ 0 → cmpB a c ≤ 0
  | [], b, c, _, _ => by cases c <;> simp [cmpB]
  | _ :: _, [], _, h, _ => by simp [cmpB] at h
  | _ :: _, _ :: _, [], _, h => by simp [cmpB] at h
  | x :: a, y :: b, z :: c, h1, h2 => by
    have ih := cmpB_trans a b c
    simp only [cmpB] at h1 h2 ⊢
    split at h1 <;> split at h2 <;> (repeat' split) <;> first | omega | skip
theorem less_cmpB : ∀ a b : Bs, Op.bytesLess a b = decide (cmpB a b < 0)
  | [], [] => by simp [Op.bytesLess, cmpB]
  | _ :: _, [] => by simp [Op.bytesLess, cmpB]
  | [], _ :: _ => by simp [Op.bytesLess, cmpB]
  | x :: a, y :: b => by
    have ih := less_cmpB a b
    show (decide (x < y) || ((x == y) && Op.bytesLess a b)) = _
    rw [ih, cmpB]
    by_cases h1 : x.toNat < y.toNat
    · rw [if_pos h1]; simp [UInt8.lt_iff_toNat_lt.2 h1]
    · rw [if_neg h1, decide_eq_false (fun h => h1 (UInt8.lt_iff_toNat_lt.1 h)), Bool.false_or]
      by_cases h2 : y.toNat < x.toNat
      · rw [if_pos h2, beq_eq_false_iff_ne.2 (fun h => by rw [h] at h2; omega)]; simp
      · rw [if_neg h2, beq_iff_eq.2 (UInt8.toNat_inj.1 (by omega)), Bool.true_and]

def sgn (n : Nm) : Int := if n = Nm.zero then 0 else if n.down then -1 else 1
def hgt (n : Nm) : Int := n.digs.length + n.exp
def cmpK (a b : Nm) : Int := if cmpI (hgt a) (hgt b) = 0 then cmpB a.digs b.digs else cmpI (hgt a) (hgt b)
def cmpM (a b : Nm) : Int := if cmpI (sgn a) (sgn b) = 0 then (if a.down then cmpK b a else cmpK a b) else cmpI (sgn a) (sgn b)

theorem cmpI_anti (x y : Int) : cmpI y x = -cmpI x y := by unfold cmpI; split <;> split <;> omega
theorem cmpI_zero {x y : Int} : cmpI x y = 0 ↔ x = y := by unfold cmpI; split <;> (try split) <;> omega
theorem cmpK_anti (a b : Nm) : cmpK b a = -cmpK a b := by
  unfold cmpK
  rw [cmpI_anti (hgt a) (hgt b), cmpB_anti a.digs b.digs]
  split <;> split <;> omega
theorem cmpK_zero {a b : Nm} (h : cmpK a b = 0) : a.digs = b.digs ∧ a.exp = b.exp := by
  unfold cmpK at h
  split at h
  · rename_i g
    have h1 := cmpB_eq _ _ h
    have h2 := cmpI_zero.1 g
    unfold hgt at h2; rw [h1] at h2
    exact ⟨h1, by omega⟩
  · omega
theorem cmpK_refl (a : Nm) : cmpK a a = 0 := by unfold cmpK; rw [if_pos (cmpI_zero.2 rfl), cmpB_refl]
theorem cmpI_le {x y : Int} : cmpI x y ≤ 0 ↔ x ≤ y := by unfold cmpI; split <;> (try split) <;> omega
theorem cmpK_trans (a b c : Nm) (h1 : cmpK a b ≤ 0) (h2 : cmpK b c ≤ 0) : cmpK a c ≤ 0 := by
  unfold cmpK at *
  split at h1
  · rename_i g1
    have g1 := cmpI_zero.1 g1
    rw [g1]
    split at h2
    · rename_i g2
      rw [if_pos g2]
      exact cmpB_trans _ _ _ h1 h2
    · rename_i g2; rw [if_neg g2]; exact h2
  · rename_i g1
    have k1 := cmpI_le.1 h1
    split at h2
    · rename_i g2
      have g2 := cmpI_zero.1 g2
      rw [← g2, if_neg g1]; exact h1
    · rename_i g2
      have k2 := cmpI_le.1 h2
      have g1' : hgt a ≠ hgt b := fun e => g1 (cmpI_zero.2 e)
      rw [if_neg (fun e => by have := cmpI_zero.1 e; omega)]
      exact cmpI_le.2 (by omega)
theorem sgn_down {a b : Nm} (h : sgn a = sgn b) : a.down = b.down := by
  unfold sgn at h
  by_cases ha : a = Nm.zero
  · rw [if_pos ha] at h
    by_cases hb : b = Nm.zero
    · rw [ha, hb]
    · rw [if_neg hb] at h; split at h <;> omega
  · rw [if_neg ha] at h
    by_cases hb : b = Nm.zero
    · rw [if_pos hb] at h; split at h <;> omega
    · rw [if_neg hb] at h
      cases h1 : a.down <;> cases h2 : b.down <;> simp_all
theorem cmpM_anti (a b : Nm) : cmpM b a = -cmpM a b := by
  unfold cmpM
  rw [cmpI_anti (sgn a) (sgn b)]
  by_cases h : cmpI (sgn a) (sgn b) = 0
  · rw [if_pos h, if_pos (by omega), sgn_down (cmpI_zero.1 h)]
    split
    · rw [cmpK_anti b a]
    · rw [cmpK_anti a b]
  · rw [if_neg h, if_neg (by omega)]
theorem cmpM_refl (a : Nm) : cmpM a a = 0 := by
  unfold cmpM; rw [if_pos (cmpI_zero.2 rfl)]; split <;> exact cmpK_refl a
theorem cmpM_zero {a b : Nm} : cmpM a b = 0 ↔ a = b := by
  constructor
  · intro h
    unfold cmpM at h
    split at h
    · rename_i g
      have hd := sgn_down (cmpI_zero.1 g)
      have : a.digs = b.digs ∧ a.exp = b.exp := by
        split at h
        · obtain ⟨x, y⟩ := cmpK_zero h; exact ⟨x.symm, y.symm⟩
        · exact cmpK_zero h
      obtain ⟨d, A, e⟩ := a; obtain ⟨d', A', e'⟩ := b
      simp_all
    · omega
  · rintro rfl; exact cmpM_refl _
theorem cmpM_trans (a b c : Nm) (h1 : cmpM a b ≤ 0) (h2 : cmpM b c ≤ 0) : cmpM a c ≤ 0 := by
  have le : ∀ x y, cmpM x y ≤ 0 → sgn x ≤ sgn y := by
    intro x y h
    unfold cmpM at h
    split at h
    · rename_i g; rw [cmpI_zero.1 g]; omega
    · exact cmpI_le.1 h
  have k1 := le _ _ h1
  have k2 := le _ _ h2
  by_cases e : sgn a = sgn c
  · have e1 : sgn a = sgn b := by omega
    have e2 : sgn b = sgn c := by omega
    have d1 := sgn_down e1
    have d2 := sgn_down e2
    unfold cmpM at *
    rw [if_pos (cmpI_zero.2 e1)] at h1
    rw [if_pos (cmpI_zero.2 e2)] at h2
    rw [if_pos (cmpI_zero.2 e)]
    rw [← d1] at h2
    split at h1
    · rename_i g; rw [if_pos g] at h2 ⊢
      exact cmpK_trans _ _ _ h2 h1
    · rename_i g; rw [if_neg g] at h2 ⊢
      exact cmpK_trans _ _ _ h1 h2
  · unfold cmpM
    rw [if_neg (fun h => e (cmpI_zero.1 h))]
    exact cmpI_le.2 (by omega)
theorem cmpM_turn {a b : Nm} (ha : a.digs ≠ []) (hb : b.digs ≠ []) : cmpM { a with down := !a.down } { b with down := !b.down } = -cmpM a b := by
  have nz : ∀ n : Nm, n.digs ≠ [] → n ≠ Nm.zero := fun n h e => h (by rw [e]; rfl)
  have s : ∀ n : Nm, n.digs ≠ [] → sgn { n with down := !n.down } = -sgn n := by
    intro n hn
    unfold sgn
    rw [if_neg (nz _ hn), if_neg (nz { n with down := !n.down } hn)]
    cases n.down <;> simp
  unfold cmpM
  rw [s a ha, s b hb]
  have hh : cmpI (-sgn a) (-sgn b) = -cmpI (sgn a) (sgn b) := by unfold cmpI; split <;> split <;> (try split) <;> (try split) <;> omega
  rw [hh]
  have kk : ∀ x y : Nm, ∀ u v, cmpK { x with down := u } { y with down := v } = cmpK x y := fun _ _ _ _ => rfl
  by_cases h : cmpI (sgn a) (sgn b) = 0
  · rw [if_pos h, if_pos (by omega), kk, kk]
    cases a.down
    · simp only [Bool.not_false, if_true, Bool.false_eq_true, if_false]; exact cmpK_anti a b
    · simp only [Bool.not_true, if_true, Bool.false_eq_true, if_false]; exact cmpK_anti b a
  · rw [if_neg h, if_neg (by omega)]

end Go.Proofs.YtpjepdnkolbdhaaDoor
