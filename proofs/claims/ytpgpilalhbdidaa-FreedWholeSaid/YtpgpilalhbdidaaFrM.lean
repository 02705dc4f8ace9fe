/-
  Layer 10, plain: pairs and their bytes. Own work; of no program.
-/
import Derived.Test.YtpgpilalhbdidaaLnk
namespace Go.Proofs.Ytpgpilalhbdidaa
open Go.RowKit

/-- A pair: a change and a page. -/
abbrev Pr := Nat × Nat
def PrOk (p : Pr) : Prop := p.1 < 18446744073709551616 ∧ p.2 < 4294967296

/-! ### bytes of numbers -/
theorem emod_step (Y P : Int) (hP : 0 < P) : Y / 256 % P * 256 + Y % 256 = Y % (P * 256) := by
  obtain ⟨q, hq⟩ : ∃ q, q = Y / 256 := ⟨_, rfl⟩
  obtain ⟨s, hs⟩ : ∃ s, s = q / P := ⟨_, rfl⟩
  obtain ⟨t, ht⟩ : ∃ t, t = q % P := ⟨_, rfl⟩
  have e1 : P * s + t = q := by rw [hs, ht]; exact Int.mul_ediv_add_emod q P
  have t0 : 0 ≤ t := by rw [ht]; exact Int.emod_nonneg _ (by omega)
  have t1 : t < P := by rw [ht]; exact Int.emod_lt_of_pos _ hP
  rw [← hq, ← ht]
  have e2 : Y = (t * 256 + Y % 256) + (P * 256) * s := by
    have : (P * 256) * s = 256 * (P * s) := by rw [Int.mul_comm P 256, Int.mul_assoc]
    rw [this]
    omega
  have h256 : 0 ≤ Y % 256 ∧ Y % 256 < 256 := by omega
  generalize Y % 256 = r at e2 h256 ⊢
  rw [e2, Int.add_mul_emod_self_left, Int.emod_eq_of_lt (by omega) (by omega)]
theorem pow256_pos (k : Nat) : (0 : Int) < 256 ^ k := (pow256_mono k 0).1
theorem be_num (X : Int) (n : Nat) : ∀ k, k ≤ n → beVal (numB X n k) = X / 256 ^ (n - k) % 256 ^ k
  | 0, _ => by simp [numB, beVal, Int.emod_one]
  | k + 1, h => by
    rw [numB_snoc, beVal_snoc, be_num X n k (by omega)]
    have e : n - k = (n - 1 - k) + 1 := by omega
    have e3 : n - (k + 1) = n - 1 - k := by omega
    rw [e, e3, Int.pow_succ, ← Int.ediv_ediv_of_nonneg (Int.le_of_lt (pow256_pos _)), Int.pow_succ]
    exact emod_step _ _ (pow256_pos k)
theorem be_all {X : Int} {n : Nat} (h0 : 0 ≤ X) (h1 : X < 256 ^ n) : beVal (numB X n n) = X := by
  rw [be_num X n n (Nat.le_refl _), Nat.sub_self, Int.pow_zero, Int.ediv_one, Int.emod_eq_of_lt h0 h1]
theorem num_shift (a c : Int) (h0 : 0 ≤ c) (h1 : c ≤ 255) (n k : Nat) (hk : k ≤ n) : numB (a * 256 + c) (n + 1) k = numB a n k := by
  unfold numB
  refine List.map_congr_left fun i hi => ?_
  have hi : i < k := by simpa using hi
  have e : n + 1 - 1 - i = (n - 1 - i) + 1 := by omega
  rw [e, Int.pow_succ, Int.mul_comm (256 ^ (n - 1 - i)) 256, ← Int.ediv_ediv_of_nonneg (by decide), show (a * 256 + c) / 256 = a by omega]
theorem num_be {o : List Int} (hb : Byt o) : ∀ {n : Nat}, o.length = n → numB (beVal o) n n = o := by
  intro n hn
  induction n generalizing o with
  | zero => rw [List.eq_nil_of_length_eq_zero hn]; rfl
  | succ n ih =>
    obtain ⟨l, c, rfl⟩ : ∃ l c, o = l ++ [c] := ⟨o.dropLast, o.getLast (by rintro rfl; simp at hn), (List.dropLast_concat_getLast _).symm⟩
    have hc := hb c (by simp)
    have hl : l.length = n := by simp at hn; omega
    rw [beVal_snoc, numB_snoc, num_shift _ _ hc.1 hc.2 n n (Nat.le_refl _), ih (fun x hx => hb x (by simp [hx])) hl]
    have e : n + 1 - 1 - n = 0 := by omega
    rw [e, Int.pow_zero, Int.ediv_one, show (beVal l * 256 + c) % 256 = c by omega]

/-! ### bytes of pairs -/
def prB (p : Pr) : List Int := numB (p.1 : Int) 8 8 ++ numB (p.2 : Int) 4 4
theorem prB_len (p : Pr) : (prB p).length = 12 := by simp [prB, numB_len]
def prsB (l : List Pr) : List Int := l.flatMap prB
theorem prsB_len : ∀ l : List Pr, (prsB l).length = 12 * l.length
  | [] => rfl
  | p :: l => by
    have := prsB_len l
    unfold prsB at this ⊢
    rw [List.flatMap_cons, List.length_append, prB_len, this, List.length_cons]; omega
theorem prsB_cons (p : Pr) (l : List Pr) : prsB (p :: l) = prB p ++ prsB l := rfl
theorem prsB_snoc (l : List Pr) (p : Pr) : prsB (l ++ [p]) = prsB l ++ prB p := by simp [prsB, List.flatMap_append]
theorem prsB_app (l m : List Pr) : prsB (l ++ m) = prsB l ++ prsB m := by simp [prsB, List.flatMap_append]
theorem prB_byt (p : Pr) : Byt (prB p) := (numB_byt _ _ _).app (numB_byt _ _ _)
theorem prsB_byt : ∀ l : List Pr, Byt (prsB l)
  | [] => fun x hx => by cases hx
  | p :: l => (prB_byt p).app (prsB_byt l)
theorem pw8 : (256 : Int) ^ 8 = 18446744073709551616 := by decide
theorem pw4 : (256 : Int) ^ 4 = 4294967296 := by decide
theorem be8 {n : Nat} (h : n < 18446744073709551616) : beVal (numB (n : Int) 8 8) = (n : Int) := be_all (by omega) (by rw [pw8]; omega)
theorem be4n {n : Nat} (h : n < 4294967296) : beVal (numB (n : Int) 4 4) = (n : Int) := be_all (by omega) (by rw [pw4]; omega)
theorem prB_inj {p q : Pr} (hp : PrOk p) (hq : PrOk q) (h : prB p = prB q) : p = q := by
  obtain ⟨h1, h2⟩ := List.append_inj h (by rw [numB_len, numB_len])
  have e1 := congrArg beVal h1
  have e2 := congrArg beVal h2
  rw [be8 hp.1, be8 hq.1] at e1
  rw [be4n hp.2, be4n hq.2] at e2
  exact Prod.ext (by omega) (by omega)
theorem prsB_inj : ∀ {l m : List Pr}, l.length = m.length → (∀ p ∈ l, PrOk p) → (∀ p ∈ m, PrOk p) → prsB l = prsB m → l = m
  | [], [], _, _, _, _ => rfl
  | [], _ :: _, h, _, _, _ => by simp at h
  | _ :: _, [], h, _, _, _ => by simp at h
  | p :: l, q :: m, h, hl, hm, e => by
    rw [prsB_cons, prsB_cons] at e
    obtain ⟨h1, h2⟩ := List.append_inj e (by rw [prB_len, prB_len])
    rw [prB_inj (hl p (by simp)) (hm q (by simp)) h1, prsB_inj (by simpa using h) (fun x hx => hl x (by simp [hx])) (fun x hx => hm x (by simp [hx])) h2]
/-- Bytes that are enough are pairs, and what is behind them. -/
theorem prs_of : ∀ (n : Nat) {bs : List Int}, Byt bs → 12 * n ≤ bs.length → ∃ ps : List Pr, ps.length = n ∧ (∀ p ∈ ps, PrOk p) ∧ bs = prsB ps ++ bs.drop (12 * n)
  | 0, bs, _, _ => ⟨[], rfl, (fun p hp => by cases hp), by simp [prsB]⟩
  | n + 1, bs, hb, hl => by
    obtain ⟨ps, h1, h2, h3⟩ := prs_of n (bs := bs.drop 12) (hb.drop 12) (by rw [List.length_drop]; omega)
    have b1 : Byt (bs.take 8) := hb.take 8
    have b2 : Byt ((bs.drop 8).take 4) := (hb.drop 8).take 4
    have l1 : (bs.take 8).length = 8 := by rw [List.length_take]; omega
    have l2 : ((bs.drop 8).take 4).length = 4 := by rw [List.length_take, List.length_drop]; omega
    have v1 := beVal_bound _ b1
    have v2 := beVal_bound _ b2
    rw [l1, pw8] at v1
    rw [l2, pw4] at v2
    obtain ⟨a, ha⟩ := Int.eq_ofNat_of_zero_le v1.1
    obtain ⟨c, hc⟩ := Int.eq_ofNat_of_zero_le v2.1
    have n1 := num_be b1 l1
    have n2 := num_be b2 l2
    rw [ha] at n1 v1
    rw [hc] at n2 v2
    refine ⟨(a, c) :: ps, by simp [h1], fun p hp => ?_, ?_⟩
    · rcases List.mem_cons.1 hp with rfl | hp
      · exact ⟨by show a < _; omega, by show c < _; omega⟩
      · exact h2 p hp
    · have e1 : bs.drop (12 * (n + 1)) = (bs.drop 12).drop (12 * n) := by rw [List.drop_drop]; congr 1; omega
      rw [prsB_cons, e1, List.append_assoc, ← h3]
      show bs = (numB (a : Int) 8 8 ++ numB (c : Int) 4 4) ++ bs.drop 12
      rw [n1, n2, List.append_assoc, show bs.drop 12 = (bs.drop 8).drop 4 by rw [List.drop_drop], List.take_append_drop, List.take_append_drop]

/-! ### pairs that rise -/
def lexP (a b : Pr) : Prop := a.1 < b.1 ∨ a.1 = b.1 ∧ a.2 < b.2
instance (a b : Pr) : Decidable (lexP a b) := by unfold lexP; infer_instance
def RiseTo (l : List Pr) (k : Nat) : Prop := ∀ j, j + 1 < k → lexP (l.getD j (0, 0)) (l.getD (j + 1) (0, 0))
def Rise (l : List Pr) : Prop := RiseTo l l.length
theorem riseTo_succ {l : List Pr} {k : Nat} (h : RiseTo l k) (h1 : 0 < k → lexP (l.getD (k - 1) (0, 0)) (l.getD k (0, 0))) : RiseTo l (k + 1) := fun j hj => by
  by_cases e : j + 1 < k
  · exact h j e
  · obtain rfl : k = j + 1 := by omega
    exact h1 (by omega)
theorem riseTo_one (l : List Pr) (k : Nat) (h : k ≤ 1) : RiseTo l k := fun j hj => by omega
theorem rise_pair {l : List Pr} (h : l.Pairwise lexP) : Rise l := fun j hj => by
  rw [List.getD_eq_getElem?_getD, List.getD_eq_getElem?_getD, List.getElem?_eq_getElem (by omega : j < l.length), List.getElem?_eq_getElem hj]
  exact List.pairwise_iff_getElem.1 h j (j + 1) (by omega) hj (by omega)
def cmpP (a b : Pr) : Int := if a.1 < b.1 then -1 else if b.1 < a.1 then 1 else if a.2 < b.2 then -1 else if b.2 < a.2 then 1 else 0
theorem cmpP_neg (a b : Pr) : cmpP a b < 0 ↔ lexP a b := by
  unfold cmpP lexP
  split
  · simp; omega
  · split
    · simp; omega
    · split
      · simp; omega
      · split
        · simp; omega
        · simp; omega

/-! ### a page of pairs -/
/-- How many pairs a page has at most. -/
def roomI (S : Int) : Int := (S - 8) / 12
def RightF (l : List Pr) (S : Int) : Prop := 512 ≤ S ∧ S ≤ 4096 ∧ (l.length : Int) ≤ roomI S ∧ Rise l
def frB (l : List Pr) (x : Int) (S : Nat) : List Int := hdK 4 l.length x ++ (prsB l ++ List.replicate (S - 8 - 12 * l.length) 0)
theorem room_fits {n : Nat} {S : Int} (h : (n : Int) ≤ roomI S) : 8 + 12 * (n : Int) ≤ S := by unfold roomI at h; omega
theorem frB_len {l : List Pr} {x : Int} {S : Nat} (h : 8 + 12 * l.length ≤ S) : (frB l x S).length = S := by
  simp only [frB, List.length_append, hdK_len, prsB_len, List.length_replicate]; omega
theorem frB_byt (l : List Pr) (x : Int) (S : Nat) : Byt (frB l x S) := (hdK_byt _ _ _).app ((prsB_byt l).app (fun y hy => by have := List.eq_of_mem_replicate hy; omega))
/-- b is a page of the pairs l. -/
structure FLaid (b : List Int) (l : List Pr) (x : Int) : Prop where
  page : b = frB l x b.length
  right : RightF l (b.length : Int)
  ok : ∀ p ∈ l, PrOk p
  x0 : 0 ≤ x
  x1 : x ≤ 4294967295
theorem flaid_few {b : List Int} {l : List Pr} {x : Int} (h : FLaid b l x) : l.length ≤ 65535 ∧ 8 + 12 * l.length ≤ b.length := by
  have h1 := room_fits h.right.2.2.1
  have := h.right.2.1
  omega
theorem flaid_at {b r : List Int} {l : List Pr} {C : Nat} {x y : Int} (hC : C ≤ 65535) (hy0 : 0 ≤ y) (hy1 : y ≤ 4294967295) (e : b = hdK 4 C y ++ r) (h : FLaid b l x) :
    l.length = C ∧ x = y ∧ r = prsB l ++ List.replicate (b.length - 8 - 12 * l.length) 0 := by
  have h1 := h.page
  unfold frB at h1
  generalize b.length = n at h1 ⊢
  rw [e] at h1
  obtain ⟨e1, e2, e3⟩ := hdK_inj hC (flaid_few h).1 hy0 hy1 h.x0 h.x1 h1
  exact ⟨e1.symm, e2.symm, e3⟩
theorem flaid_uniq {b : List Int} {l m : List Pr} {x y : Int} (h : FLaid b l x) (k : FLaid b m y) : l = m ∧ x = y := by
  have e1 := h.page
  unfold frB at e1
  obtain ⟨e2, e3, e4⟩ := flaid_at (flaid_few h).1 h.x0 h.x1 e1 k
  obtain ⟨e5, _⟩ := List.append_inj e4 (by rw [prsB_len, prsB_len, e2])
  exact ⟨prsB_inj e2.symm h.ok k.ok e5, e3.symm⟩
theorem frB_laid {l : List Pr} {x : Int} {S : Nat} (hr : RightF l (S : Int)) (ho : ∀ p ∈ l, PrOk p) (h0 : 0 ≤ x) (h1 : x ≤ 4294967295) : FLaid (frB l x S) l x := by
  have hl : (frB l x S).length = S := frB_len (by have := room_fits hr.2.2.1; omega)
  exact ⟨by rw [hl], by rw [hl]; exact hr, ho, h0, h1⟩

end Go.Proofs.Ytpgpilalhbdidaa
