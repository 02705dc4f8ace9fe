/-
  Numbers, plain: the document's comparison, its parts and its parsing beside the code's; the laws' own texts. Own work.
-/
import Derived.Test.YtpjepdnkolbdhaaDoorNmN
set_option linter.unusedVariables false
set_option linter.unusedSimpArgs false
namespace Go.Proofs.YtpjepdnkolbdhaaDoor
open Go.RowKit

/-! What may be. -/
theorem dw_nil {p : UInt8 → Bool} : ∀ {l : Bs}, l.dropWhile p = [] ↔ l.all p = true
  | [] => by simp
  | b :: t => by
    have ih := dw_nil (p := p) (l := t)
    by_cases h : p b = true
    · simp [h, ih]
    · simp [h]
theorem dw_head {p : UInt8 → Bool} : ∀ {l : Bs} {b : UInt8} {t : Bs}, l.dropWhile p = b :: t → p b = false
  | x :: l, b, t, h => by
    by_cases hx : p x = true
    · simp only [List.dropWhile_cons, hx, if_true] at h; exact dw_head h
    · simp only [List.dropWhile_cons, hx, if_false, Bool.false_eq_true] at h
      rw [← (List.cons.inj h).1]; simpa using hx
theorem trim_all (l : Bs) : Lib.trimS l digs10 = [] ↔ l.all dig = true := by
  have e : (fun b => digs10.contains b) = dig := funext digs10_dig
  rw [Lib.trimS, Lib.trimLeftS, Lib.trimRightS, e]
  constructor
  · intro h
    have h1 : (l.reverse.dropWhile dig).reverse.all dig = true := dw_nil.1 h
    cases hr : l.reverse.dropWhile dig with
    | nil => have := dw_nil.1 hr; simpa using this
    | cons b t =>
      have h2 := dw_head hr
      rw [hr] at h1; simp [h2] at h1
  · intro h
    have : l.reverse.dropWhile dig = [] := dw_nil.2 (by simpa using h)
    rw [this]; rfl
theorem isZ_fun : (fun b => ([48] : Bs).contains b) = isZ := by
  funext b
  simp only [isZ, List.contains_cons, List.contains_nil, Bool.or_false]
theorem trimL0 (l : Bs) : Lib.trimLeftS l [48] = trim0 l := by rw [Lib.trimLeftS, isZ_fun]; rfl
theorem trimR0 (l : Bs) : Lib.trimRightS l [48] = rtrim0 l := by rw [Lib.trimRightS, isZ_fun]; rfl
theorem trim_zero (l : Bs) : Lib.trimS l [48] = l ↔ (rtrim0 l = l ∧ trim0 l = l) := by
  rw [Lib.trimS, trimL0, trimR0]
  constructor
  · intro h
    have h1 : (trim0 (rtrim0 l)).length ≤ (rtrim0 l).length := (List.dropWhile_sublist _).length_le
    have h2 : (rtrim0 l).length ≤ l.length := by
      have := (List.dropWhile_sublist (l := l.reverse) isZ).length_le
      simpa [rtrim0] using this
    have h3 : (rtrim0 l).length = l.length := by rw [h] at h1; omega
    have h4 : rtrim0 l = l := by
      have h5 : l.reverse.dropWhile isZ = l.reverse := (List.dropWhile_sublist _).eq_of_length (by simpa [rtrim0] using h3)
      rw [rtrim0, h5, List.reverse_reverse]
    rw [h4] at h
    exact ⟨h4, h⟩
  · rintro ⟨a, b⟩; rw [a, b]
/-- The code's way to ask. -/
def codeR (n : Nm) : Bool := if n.digs = [] then decide (n = Nm.zero) else decide (n.digs.length ≤ 40) && decide (Lib.trimS n.digs digs10 = []) && decide (Lib.trimS n.digs [48] = n.digs) && decide (-999 ≤ n.exp) && decide (n.exp ≤ 999)
theorem codeR_eq (n : Nm) : codeR n = rightM n := by
  unfold codeR rightM
  split
  · rfl
  · have h1 := trim_all n.digs
    have h2 := trim_zero n.digs
    rw [decide_eq_decide.2 h2]
    congr 4
    by_cases g : n.digs.all dig = true
    · rw [g]; exact decide_eq_true (h1.2 g)
    · rw [decide_eq_false (fun h => g (h1.1 h))]; simp only [Bool.not_eq_true] at g; rw [g]
theorem rtrim_last (l : Bs) (h : l ≠ []) : rtrim0 l = l ↔ l.getLast h ≠ 48 := by
  obtain ⟨t, b, rfl⟩ : ∃ t b, l = t ++ [b] := ⟨l.dropLast, l.getLast h, (List.dropLast_concat_getLast h).symm⟩
  rw [List.getLast_concat, rtrim0, List.reverse_append]
  simp only [List.reverse_cons, List.reverse_nil, List.nil_append, List.singleton_append, List.dropWhile_cons]
  by_cases hb : b = 48
  · subst hb
    simp only [isZ, beq_self_eq_true, if_true, ne_eq, not_true_eq_false, iff_false]
    intro e
    have := congrArg List.length e
    have h2 := (List.dropWhile_sublist (l := t.reverse) fun b => b == 48).length_le
    simp at this h2
    have h3 : (List.dropWhile isZ t.reverse).length ≤ t.reverse.length := (List.dropWhile_sublist _).length_le
    simp at h3; omega
  · simp [isZ, hb]
theorem trim_first (l : Bs) (h : l ≠ []) : trim0 l = l ↔ l.head h ≠ 48 := by
  cases l with
  | nil => exact absurd rfl h
  | cons b t =>
    simp only [List.head_cons, trim0, List.dropWhile_cons]
    by_cases hb : b = 48
    · subst hb
      simp only [isZ, beq_self_eq_true, if_true, ne_eq, not_true_eq_false, iff_false]
      intro e
      have h3 : (List.dropWhile isZ t).length ≤ t.length := (List.dropWhile_sublist _).length_le
      have := congrArg List.length e
      simp only [List.length_cons] at this
      omega
    · simp [isZ, hb]
/-- The document's way to ask. -/
def refR (n : Nm) : Bool := if h : n.digs = [] then !n.down && decide (n.exp = 0) else n.digs.all dig && (decide (n.digs.length ≤ 40) && decide (n.digs.head h ≠ 48) && decide (n.digs.getLast h ≠ 48) && decide (-1000 < n.exp) && decide (n.exp < 1000))
theorem refR_eq (n : Nm) : refR n = rightM n := by
  unfold refR rightM
  by_cases h : n.digs = []
  · rw [dif_pos h, if_pos h]
    obtain ⟨d, A, e⟩ := n
    simp only at h; subst h
    cases d <;> simp [Nm.zero]
  · rw [dif_neg h, if_neg h]
    have h1 := rtrim_last n.digs h
    have h2 := trim_first n.digs h
    rw [Bool.eq_iff_iff]
    simp only [Bool.and_eq_true, decide_eq_true_eq, h1, h2]
    constructor
    · rintro ⟨a, ⟨⟨⟨b, c⟩, d⟩, e⟩, f⟩; exact ⟨⟨⟨⟨b, a⟩, d, c⟩, by omega⟩, by omega⟩
    · rintro ⟨⟨⟨⟨b, a⟩, d, c⟩, e⟩, f⟩; exact ⟨a, ⟨⟨⟨b, c⟩, d⟩, by omega⟩, by omega⟩

/-! How two stand, by the document. -/
def padM (a : Nm) (m : Int) : Bs := if a.digs = [] then [] else a.digs ++ List.replicate (a.exp - m).toNat 48
def grM (x y : Bs) : Bool := decide (y.length < x.length) || (decide (x.length = y.length) && decide (cmpB y x < 0))
def refC (a b : Nm) : Int :=
  let x := padM a (min a.exp b.exp)
  let y := padM b (min a.exp b.exp)
  if a.down && b.down && grM x y then -1
  else if a.down && b.down && grM y x then 1
  else if a.down && b.down then 0
  else if a.down then -1
  else if b.down || grM x y then 1
  else if grM y x then -1
  else 0
def big48 (l : Bs) : Prop := ∀ b ∈ l, 48 ≤ b.toNat
def nz (l : Bs) : Prop := ∀ t, l ≠ t ++ [48]
theorem nz_tail {x : UInt8} {l : Bs} (h : nz (x :: l)) : nz l := fun t e => h (x :: t) (by rw [e]; rfl)
theorem cmpB_zeros : ∀ (i : Nat) (B : Bs) (j : Nat), i = B.length + j → big48 B → nz B → cmpB (List.replicate i 48) (B ++ List.replicate j 48) = cmpB [] B
  | i, [], j, hi, _, _ => by
    obtain rfl : i = j := by simpa using hi
    rw [List.nil_append, cmpB_refl]; rfl
  | 0, y :: B, j, hi, _, _ => by simp at hi; omega
  | i + 1, y :: B, j, hi, hb, hn => by
    have hy : 48 ≤ y.toNat := hb y (by simp)
    simp only [List.replicate_succ, List.cons_append, cmpB]
    have h48 : (48 : UInt8).toNat = 48 := rfl
    rw [h48]
    by_cases g : 48 < y.toNat
    · rw [if_pos g]
    · rw [if_neg g, if_neg (by omega)]
      have hyz : y = 48 := UInt8.toNat_inj.1 (by rw [h48]; omega)
      have hBn : B ≠ [] := fun e => hn [] (by rw [e, hyz]; rfl)
      rw [cmpB_zeros i B j (by simp only [List.length_cons] at hi; omega) (fun b hb' => hb b (by simp [hb'])) (nz_tail hn)]
      cases B with
      | nil => exact absurd rfl hBn
      | cons _ _ => rfl
theorem cmpB_pad : ∀ (A B : Bs) (i j : Nat), A.length + i = B.length + j → big48 A → big48 B → nz A → nz B → cmpB (A ++ List.replicate i 48) (B ++ List.replicate j 48) = cmpB A B
  | [], B, i, j, h, _, hB, _, nB => by
    rw [List.nil_append]; exact cmpB_zeros i B j (by simpa using h) hB nB
  | x :: A, [], i, j, h, hA, _, nA, _ => by
    rw [List.nil_append, cmpB_anti (List.replicate j 48), cmpB_zeros j (x :: A) i (by simpa using h.symm) hA nA]; rfl
  | x :: A, y :: B, i, j, h, hA, hB, nA, nB => by
    simp only [List.cons_append, cmpB]
    rw [cmpB_pad A B i j (by simp only [List.length_cons] at h; omega) (fun b hb => hA b (by simp [hb])) (fun b hb => hB b (by simp [hb])) (nz_tail nA) (nz_tail nB)]
theorem big48_of {l : Bs} (h : l.all dig = true) : big48 l := by
  intro b hb
  have := List.all_eq_true.1 h b hb
  simp only [dig, Bool.and_eq_true, decide_eq_true_eq] at this
  exact this.1
theorem nz_of {l : Bs} (h : rtrim0 l = l) : nz l := by
  rintro t rfl
  have h1 := (rtrim_last (t ++ [48]) (by simp)).1 h
  rw [List.getLast_concat] at h1
  exact h1 rfl
theorem grM_K {a b : Nm} (ha : rightM a = true) (hb : rightM b = true) (na : a.digs ≠ []) (nb : b.digs ≠ []) (m : Int) (h1 : m ≤ a.exp) (h2 : m ≤ b.exp) :
    grM (padM a m) (padM b m) = decide (0 < cmpK a b) := by
  obtain ⟨-, a2, a3, -, -, -⟩ := right_parts ha na
  obtain ⟨-, b2, b3, -, -, -⟩ := right_parts hb nb
  have la : (padM a m).length = a.digs.length + (a.exp - m).toNat := by rw [padM, if_neg na]; simp
  have lb : (padM b m).length = b.digs.length + (b.exp - m).toNat := by rw [padM, if_neg nb]; simp
  unfold grM cmpK
  by_cases e : hgt a = hgt b
  · rw [if_pos (cmpI_zero.2 e)]
    unfold hgt at e
    have el : (padM a m).length = (padM b m).length := by omega
    rw [el, decide_eq_false (Nat.lt_irrefl _), Bool.false_or, decide_eq_true rfl, Bool.true_and]
    have : cmpB (padM b m) (padM a m) = cmpB b.digs a.digs := by
      rw [padM, if_neg nb, padM, if_neg na]
      exact cmpB_pad _ _ _ _ (by rw [← lb, ← la, el]) (big48_of b2) (big48_of a2) (nz_of b3) (nz_of a3)
    rw [this, cmpB_anti a.digs b.digs]
    exact decide_eq_decide.2 (by omega)
  · rw [if_neg (fun h => e (cmpI_zero.1 h))]
    unfold cmpI
    unfold hgt at *
    by_cases g : (padM b m).length < (padM a m).length
    · rw [decide_eq_true g, Bool.true_or, if_neg (by omega), if_pos (by omega)]; rfl
    · rw [decide_eq_false g, Bool.false_or, decide_eq_false (by omega), Bool.false_and, if_pos (by omega)]; rfl
theorem padM_nil {a : Nm} (h : a.digs = []) (m : Int) : padM a m = [] := by rw [padM, if_pos h]
theorem gr_nil {b : Nm} (nb : b.digs ≠ []) (m : Int) : grM [] (padM b m) = false ∧ grM (padM b m) [] = true := by
  have : 0 < (padM b m).length := by rw [padM, if_neg nb, List.length_append]; have := List.length_pos_iff.2 nb; omega
  constructor
  · rw [grM, decide_eq_false (by simp), Bool.false_or, decide_eq_false (by simp; intro h; rw [← h] at this; simp at this), Bool.false_and]
  · rw [grM, decide_eq_true (by simpa using this), Bool.true_or]
theorem refC_eq {a b : Nm} (ha : rightM a = true) (hb : rightM b = true) : refC a b = cmpM a b := by
  have kr : ∀ x y, cmpK x y = -1 ∨ cmpK x y = 0 ∨ cmpK x y = 1 := by
    intro x y; unfold cmpK
    split
    · exact cmpB_range _ _
    · unfold cmpI; split
      · exact .inl rfl
      · split
        · exact .inr (.inr rfl)
        · exact .inr (.inl rfl)
  have hz : ∀ n : Nm, n.digs ≠ [] → n ≠ Nm.zero := fun n h e => h (by rw [e]; rfl)
  have gn : grM [] [] = false := by decide
  by_cases na : a.digs = []
  · obtain rfl := right_nil ha na
    by_cases nb : b.digs = []
    · obtain rfl := right_nil hb nb
      decide
    · obtain ⟨g1, g2⟩ := gr_nil nb (min Nm.zero.exp b.exp)
      have h0 : padM Nm.zero (min Nm.zero.exp b.exp) = [] := padM_nil rfl _
      have s0 : sgn Nm.zero = 0 := by decide
      unfold refC cmpM
      simp only [h0, g1, g2, s0]
      unfold sgn
      rw [if_neg (hz b nb)]
      cases b.down <;> simp [Nm.zero, cmpI]
  · by_cases nb : b.digs = []
    · obtain rfl := right_nil hb nb
      obtain ⟨g1, g2⟩ := gr_nil na (min a.exp Nm.zero.exp)
      have h0 : padM Nm.zero (min a.exp Nm.zero.exp) = [] := padM_nil rfl _
      have s0 : sgn Nm.zero = 0 := by decide
      unfold refC cmpM
      simp only [h0, g1, g2, s0]
      unfold sgn
      rw [if_neg (hz a na)]
      cases a.down <;> simp [Nm.zero, cmpI]
    · have g1 := grM_K ha hb na nb (min a.exp b.exp) (by omega) (by omega)
      have g2 := grM_K hb ha nb na (min a.exp b.exp) (by omega) (by omega)
      have an := cmpK_anti a b
      unfold refC cmpM
      simp only [g1, g2]
      unfold sgn
      rw [if_neg (hz a na), if_neg (hz b nb)]
      have k := kr a b
      cases a.down <;> cases b.down <;> rcases k with k | k | k <;> (rw [k] at an; rw [an, k]; simp [cmpI])

end Go.Proofs.YtpjepdnkolbdhaaDoor
