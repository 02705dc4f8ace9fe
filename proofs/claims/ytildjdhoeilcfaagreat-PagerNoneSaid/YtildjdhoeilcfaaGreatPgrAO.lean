/-
  Layer 10, plain: pairs and their bytes. Own work; of no program.
-/
import Derived.Test.YtildjdhoeilcfaaGreatPgrAN
import Derived.Test.YtildjdhoeilcfaaGreatPgrAG
import Derived.Deep.Slices
import Derived.Deep.Fields
import Derived.ProofKit
import Derived.OpenShut
import Derived.Test.YtildjdhoeilcfaaGreatPgrAE

namespace Go.Proofs.YtildjdhoeilcfaaGreat
open Go.RowKit

/-- A pair: a change and a page. -/
abbrev Pr := Nat × Nat
def PrOk (p : Pr) : Prop := p.1 < 18446744073709551616 ∧ p.2 < 4294967296

/-! ### bytes of numbers -/
theorem emod_step (Y P : Int) (hP : 0 < P) : Y / 256 % P * 256 + Y % 256 = Y % (P * 256) := by
  obtain ⟨q, hq⟩ : ∃ q, q = Y / 256 := ⟨_, rfl⟩
  obtain ⟨s, hs⟩ : ∃ s, s = q / P := ⟨_, rfl⟩
  obtain ⟨t, ht⟩ : ∃ t, t = q % P := ⟨_, rfl⟩
  have e1 : P * s + t = q := by rw [hs, ht]; exact Int.mul_ediv_add_emod q P
  have t0 : 0 ≤ t := by rw [ht]; exact Int.emod_nonneg _ (by omega)
  have t1 : t < P := by rw [ht]; exact Int.emod_lt_of_pos _ hP
  rw [← hq, ← ht]
  have e2 : Y = (t * 256 + Y % 256) + (P * 256) * s := by
    have : (P * 256) * s = 256 * (P * s) := by rw [Int.mul_comm P 256, Int.mul_assoc]
    rw [this]
    omega
  have h256 : 0 ≤ Y % 256 ∧ Y % 256 < 256 := by omega
  generalize Y % 256 = r at e2 h256 ⊢
  rw [e2, Int.add_mul_emod_self_left, Int.emod_eq_of_lt (by omega) (by omega)]
theorem pow256_pos (k : Nat) : (0 : Int) < 256 ^ k := (pow256_mono k 0).1
theorem fbe_num (X : Int) (n : Nat) : ∀ k, k ≤ n → beVal (numB X n k) = X / 256 ^ (n - k) % 256 ^ k
  | 0, _ => by simp [numB, beVal, Int.emod_one]
  | k + 1, h => by
    rw [numB_snoc, beVal_snoc, fbe_num X n k (by omega)]
    have e : n - k = (n - 1 - k) + 1 := by omega
    have e3 : n - (k + 1) = n - 1 - k := by omega
    rw [e, e3, Int.pow_succ, ← Int.ediv_ediv_of_nonneg (Int.le_of_lt (pow256_pos _)), Int.pow_succ]
    exact emod_step _ _ (pow256_pos k)
theorem be_all {X : Int} {n : Nat} (h0 : 0 ≤ X) (h1 : X < 256 ^ n) : beVal (numB X n n) = X := by
  rw [fbe_num X n n (Nat.le_refl _), Nat.sub_self, Int.pow_zero, Int.ediv_one, Int.emod_eq_of_lt h0 h1]
theorem num_shift (a c : Int) (h0 : 0 ≤ c) (h1 : c ≤ 255) (n k : Nat) (hk : k ≤ n) : numB (a * 256 + c) (n + 1) k = numB a n k := by
  unfold numB
  refine List.map_congr_left fun i hi => ?_
  have hi : i < k := by simpa using hi
  have e : n + 1 - 1 - i = (n - 1 - i) + 1 := by omega
  rw [e, Int.pow_succ, Int.mul_comm (256 ^ (n - 1 - i)) 256, ← Int.ediv_ediv_of_nonneg (by decide), show (a * 256 + c) / 256 = a by omega]
theorem fnum_be {o : List Int} (hb : Byt o) : ∀ {n : Nat}, o.length = n → numB (beVal o) n n = o := by
  intro n hn
  induction n generalizing o with
  | zero => rw [List.eq_nil_of_length_eq_zero hn]; rfl
  | succ n ih =>
    obtain ⟨l, c, rfl⟩ : ∃ l c, o = l ++ [c] := ⟨o.dropLast, o.getLast (by rintro rfl; simp at hn), (List.dropLast_concat_getLast _).symm⟩
    have hc := hb c (by simp)
    have hl : l.length = n := by simp at hn; omega
    rw [beVal_snoc, numB_snoc, num_shift _ _ hc.1 hc.2 n n (Nat.le_refl _), ih (fun x hx => hb x (by simp [hx])) hl]
    have e : n + 1 - 1 - n = 0 := by omega
    rw [e, Int.pow_zero, Int.ediv_one, show (beVal l * 256 + c) % 256 = c by omega]

/-! ### bytes of pairs -/
def prB (p : Pr) : List Int := numB (p.1 : Int) 8 8 ++ numB (p.2 : Int) 4 4
theorem prB_len (p : Pr) : (prB p).length = 12 := by simp [prB, numB_len]
def prsB (l : List Pr) : List Int := l.flatMap prB
theorem prsB_len : ∀ l : List Pr, (prsB l).length = 12 * l.length
  | [] => rfl
  | p :: l => by
    have := prsB_len l
    unfold prsB at this ⊢
    rw [List.flatMap_cons, List.length_append, prB_len, this, List.length_cons]; omega
theorem prsB_cons (p : Pr) (l : List Pr) : prsB (p :: l) = prB p ++ prsB l := rfl
theorem prsB_snoc (l : List Pr) (p : Pr) : prsB (l ++ [p]) = prsB l ++ prB p := by simp [prsB, List.flatMap_append]
theorem prsB_app (l m : List Pr) : prsB (l ++ m) = prsB l ++ prsB m := by simp [prsB, List.flatMap_append]
theorem prB_byt (p : Pr) : Byt (prB p) := (numB_byt _ _ _).app (numB_byt _ _ _)
theorem prsB_byt : ∀ l : List Pr, Byt (prsB l)
  | [] => fun x hx => by cases hx
  | p :: l => (prB_byt p).app (prsB_byt l)
theorem pw8 : (256 : Int) ^ 8 = 18446744073709551616 := by decide
theorem pw4 : (256 : Int) ^ 4 = 4294967296 := by decide
theorem be8 {n : Nat} (h : n < 18446744073709551616) : beVal (numB (n : Int) 8 8) = (n : Int) := be_all (by omega) (by rw [pw8]; omega)
theorem be4n {n : Nat} (h : n < 4294967296) : beVal (numB (n : Int) 4 4) = (n : Int) := be_all (by omega) (by rw [pw4]; omega)
theorem prB_inj {p q : Pr} (hp : PrOk p) (hq : PrOk q) (h : prB p = prB q) : p = q := by
  obtain ⟨h1, h2⟩ := List.append_inj h (by rw [numB_len, numB_len])
  have e1 := congrArg beVal h1
  have e2 := congrArg beVal h2
  rw [be8 hp.1, be8 hq.1] at e1
  rw [be4n hp.2, be4n hq.2] at e2
  exact Prod.ext (by omega) (by omega)
theorem prsB_inj : ∀ {l m : List Pr}, l.length = m.length → (∀ p ∈ l, PrOk p) → (∀ p ∈ m, PrOk p) → prsB l = prsB m → l = m
  | [], [], _, _, _, _ => rfl
  | [], _ :: _, h, _, _, _ => by simp at h
  | _ :: _, [], h, _, _, _ => by simp at h
  | p :: l, q :: m, h, hl, hm, e => by
    rw [prsB_cons, prsB_cons] at e
    obtain ⟨h1, h2⟩ := List.append_inj e (by rw [prB_len, prB_len])
    rw [prB_inj (hl p (by simp)) (hm q (by simp)) h1, prsB_inj (by simpa using h) (fun x hx => hl x (by simp [hx])) (fun x hx => hm x (by simp [hx])) h2]
/-- Bytes that are enough are pairs, and what is behind them. -/
theorem prs_of : ∀ (n : Nat) {bs : List Int}, Byt bs → 12 * n ≤ bs.length → ∃ ps : List Pr, ps.length = n ∧ (∀ p ∈ ps, PrOk p) ∧ bs = prsB ps ++ bs.drop (12 * n)
  | 0, bs, _, _ => ⟨[], rfl, (fun p hp => by cases hp), by simp [prsB]⟩
  | n + 1, bs, hb, hl => by
    obtain ⟨ps, h1, h2, h3⟩ := prs_of n (bs := bs.drop 12) (hb.drop 12) (by rw [List.length_drop]; omega)
    have b1 : Byt (bs.take 8) := hb.take 8
    have b2 : Byt ((bs.drop 8).take 4) := (hb.drop 8).take 4
    have l1 : (bs.take 8).length = 8 := by rw [List.length_take]; omega
    have l2 : ((bs.drop 8).take 4).length = 4 := by rw [List.length_take, List.length_drop]; omega
    have v1 := beVal_bound _ b1
    have v2 := beVal_bound _ b2
    rw [l1, pw8] at v1
    rw [l2, pw4] at v2
    obtain ⟨a, ha⟩ := Int.eq_ofNat_of_zero_le v1.1
    obtain ⟨c, hc⟩ := Int.eq_ofNat_of_zero_le v2.1
    have n1 := fnum_be b1 l1
    have n2 := fnum_be b2 l2
    rw [ha] at n1 v1
    rw [hc] at n2 v2
    refine ⟨(a, c) :: ps, by simp [h1], fun p hp => ?_, ?_⟩
    · rcases List.mem_cons.1 hp with rfl | hp
      · exact ⟨by show a < _; omega, by show c < _; omega⟩
      · exact h2 p hp
    · have e1 : bs.drop (12 * (n + 1)) = (bs.drop 12).drop (12 * n) := by rw [List.drop_drop]; congr 1; omega
      rw [prsB_cons, e1, List.append_assoc, ← h3]
      show bs = (numB (a : Int) 8 8 ++ numB (c : Int) 4 4) ++ bs.drop 12
      rw [n1, n2, List.append_assoc, show bs.drop 12 = (bs.drop 8).drop 4 by rw [List.drop_drop], List.take_append_drop, List.take_append_drop]

/-! ### pairs that rise -/
def lexP (a b : Pr) : Prop := a.1 < b.1 ∨ a.1 = b.1 ∧ a.2 < b.2
instance (a b : Pr) : Decidable (lexP a b) := by unfold lexP; infer_instance
def RiseTo (l : List Pr) (k : Nat) : Prop := ∀ j, j + 1 < k → lexP (l.getD j (0, 0)) (l.getD (j + 1) (0, 0))
def Rise (l : List Pr) : Prop := RiseTo l l.length
theorem riseTo_succ {l : List Pr} {k : Nat} (h : RiseTo l k) (h1 : 0 < k → lexP (l.getD (k - 1) (0, 0)) (l.getD k (0, 0))) : RiseTo l (k + 1) := fun j hj => by
  by_cases e : j + 1 < k
  · exact h j e
  · obtain rfl : k = j + 1 := by omega
    exact h1 (by omega)
theorem riseTo_one (l : List Pr) (k : Nat) (h : k ≤ 1) : RiseTo l k := fun j hj => by omega
theorem rise_pair {l : List Pr} (h : l.Pairwise lexP) : Rise l := fun j hj => by
  rw [List.getD_eq_getElem?_getD, List.getD_eq_getElem?_getD, List.getElem?_eq_getElem (by omega : j < l.length), List.getElem?_eq_getElem hj]
  exact List.pairwise_iff_getElem.1 h j (j + 1) (by omega) hj (by omega)
def cmpP (a b : Pr) : Int := if a.1 < b.1 then -1 else if b.1 < a.1 then 1 else if a.2 < b.2 then -1 else if b.2 < a.2 then 1 else 0
theorem cmpP_neg (a b : Pr) : cmpP a b < 0 ↔ lexP a b := by
  unfold cmpP lexP
  split
  · simp; omega
  · split
    · simp; omega
    · split
      · simp; omega
      · split
        · simp; omega
        · simp; omega

/-! ### a page of pairs -/
/-- How many pairs a page has at most. -/
def roomI (S : Int) : Int := (S - 8) / 12
def RightF (l : List Pr) (S : Int) : Prop := 512 ≤ S ∧ S ≤ 4096 ∧ (l.length : Int) ≤ roomI S ∧ Rise l
def frB (l : List Pr) (x : Int) (S : Nat) : List Int := hdK 4 l.length x ++ (prsB l ++ List.replicate (S - 8 - 12 * l.length) 0)
theorem room_fits {n : Nat} {S : Int} (h : (n : Int) ≤ roomI S) : 8 + 12 * (n : Int) ≤ S := by unfold roomI at h; omega
theorem frB_len {l : List Pr} {x : Int} {S : Nat} (h : 8 + 12 * l.length ≤ S) : (frB l x S).length = S := by
  simp only [frB, List.length_append, hdK_len, prsB_len, List.length_replicate]; omega
theorem frB_byt (l : List Pr) (x : Int) (S : Nat) : Byt (frB l x S) := (hdK_byt _ _ _).app ((prsB_byt l).app (fun y hy => by have := List.eq_of_mem_replicate hy; omega))
/-- b is a page of the pairs l. -/
structure FLaid (b : List Int) (l : List Pr) (x : Int) : Prop where
  page : b = frB l x b.length
  right : RightF l (b.length : Int)
  ok : ∀ p ∈ l, PrOk p
  x0 : 0 ≤ x
  x1 : x ≤ 4294967295
theorem flaid_few {b : List Int} {l : List Pr} {x : Int} (h : FLaid b l x) : l.length ≤ 65535 ∧ 8 + 12 * l.length ≤ b.length := by
  have h1 := room_fits h.right.2.2.1
  have := h.right.2.1
  omega
theorem flaid_at {b r : List Int} {l : List Pr} {C : Nat} {x y : Int} (hC : C ≤ 65535) (hy0 : 0 ≤ y) (hy1 : y ≤ 4294967295) (e : b = hdK 4 C y ++ r) (h : FLaid b l x) :
    l.length = C ∧ x = y ∧ r = prsB l ++ List.replicate (b.length - 8 - 12 * l.length) 0 := by
  have h1 := h.page
  unfold frB at h1
  generalize b.length = n at h1 ⊢
  rw [e] at h1
  obtain ⟨e1, e2, e3⟩ := hdK_inj hC (flaid_few h).1 hy0 hy1 h.x0 h.x1 h1
  exact ⟨e1.symm, e2.symm, e3⟩
theorem flaid_uniq {b : List Int} {l m : List Pr} {x y : Int} (h : FLaid b l x) (k : FLaid b m y) : l = m ∧ x = y := by
  have e1 := h.page
  unfold frB at e1
  obtain ⟨e2, e3, e4⟩ := flaid_at (flaid_few h).1 h.x0 h.x1 e1 k
  obtain ⟨e5, _⟩ := List.append_inj e4 (by rw [prsB_len, prsB_len, e2])
  exact ⟨prsB_inj e2.symm h.ok k.ok e5, e3.symm⟩
theorem frB_laid {l : List Pr} {x : Int} {S : Nat} (hr : RightF l (S : Int)) (ho : ∀ p ∈ l, PrOk p) (h0 : 0 ≤ x) (h1 : x ≤ 4294967295) : FLaid (frB l x S) l x := by
  have hl : (frB l x S).length = S := frB_len (by have := room_fits hr.2.2.1; omega)
  exact ⟨by rw [hl], by rw [hl]; exact hr, ho, h0, h1⟩

end Go.Proofs.YtildjdhoeilcfaaGreat

namespace Go.Proofs.YtildjdhoeilcfaaGreat
open Go.RowKit

def prc (p : Pr) : List Value := [.int .u64 (p.1 : Int), .int .u32 (p.2 : Int)]
/-- The value v is a slice that reads as the pairs ps; its cells lie in blocks of R. -/
def PrSq (R : Nat → Prop) (w : World) (v : Value) (ps : List Pr) : Prop :=
  ∃ ao c, v = .slice ao ps.length c ∧ ps.length ≤ c ∧ c ≤ maxLen ∧ (∀ p ∈ ps, PrOk p) ∧ (ao = none → c = 0) ∧
    (ps ≠ [] → ∃ b o, ao = some ⟨b, o, none⟩ ∧ R b ∧ ∀ j (p : Pr), ps[j]? = some p → w.cell? ⟨b, o + j * 2, none⟩ = some (.int .u64 (p.1 : Int)) ∧ w.cell? ⟨b, o + j * 2 + 1, none⟩ = some (.int .u32 (p.2 : Int)))
section
variable {R S : Nat → Prop} {w w' : World} {v : Value} {ps : List Pr}
theorem PrSq.kept (h : PrSq R w v ps) (k : ∀ b, R b → b < w.heap.size → w'.heap[b]? = w.heap[b]?) : PrSq R w' v ps := by
  obtain ⟨ao, c, hv, h1, h2, h3, hn, h4⟩ := h
  refine ⟨ao, c, hv, h1, h2, h3, hn, fun hne => ?_⟩
  obtain ⟨b, o, ha, hb, hc⟩ := h4 hne
  refine ⟨b, o, ha, hb, fun j p hp => ?_⟩
  obtain ⟨c1, c2⟩ := hc j p hp
  have e := k b hb (World.block_lt_of_cell? _ _ c1)
  exact ⟨(World.cell?_of_block (w := w) e).trans c1, (World.cell?_of_block (w := w) e).trans c2⟩
theorem PrSq.cells (h : PrSq R w v ps) (k : ∀ a u, w.cell? a = some u → w'.cell? a = some u) : PrSq R w' v ps := by
  obtain ⟨ao, c, hv, h1, h2, h3, hn, h4⟩ := h
  refine ⟨ao, c, hv, h1, h2, h3, hn, fun hne => ?_⟩
  obtain ⟨b, o, ha, hb, hc⟩ := h4 hne
  exact ⟨b, o, ha, hb, fun j p hp => ⟨k _ _ (hc j p hp).1, k _ _ (hc j p hp).2⟩⟩
theorem PrSq.imp (h : PrSq R w v ps) (k : ∀ b, R b → b < w.heap.size → S b) : PrSq S w v ps := by
  obtain ⟨ao, c, hv, h1, h2, h3, hn, h4⟩ := h
  refine ⟨ao, c, hv, h1, h2, h3, hn, fun hne => ?_⟩
  obtain ⟨b, o, ha, hb, hc⟩ := h4 hne
  obtain ⟨p0, hp0⟩ : ∃ p, ps[0]? = some p := ⟨ps[0]'(List.length_pos_iff.2 hne), by simp⟩
  exact ⟨b, o, ha, k b hb (World.block_lt_of_cell? _ _ (hc 0 p0 hp0).1), hc⟩
theorem PrSq.grown (h : PrSq R w v ps) (k : w.grownBy w' none) : PrSq R w' v ps := h.kept fun b _ hb => k.block b hb (by simp)
theorem PrSq.shape (h : PrSq R w v ps) : ∃ ao c, v = .slice ao ps.length c := by
  obtain ⟨ao, c, hv, _⟩ := h
  exact ⟨ao, c, hv⟩
theorem PrSq.len {ao : Option Addr} {n c : Nat} (h : PrSq R w (.slice ao n c) ps) : n = ps.length ∧ n ≤ c ∧ c ≤ maxLen := by
  obtain ⟨ao', c', hv, h1, h2, _⟩ := h
  cases hv
  exact ⟨rfl, h1, h2⟩
theorem PrSq.ok (h : PrSq R w v ps) : ∀ p ∈ ps, PrOk p := by
  obtain ⟨ao, c, hv, h1, h2, h3, _⟩ := h
  exact h3
theorem PrSq.at {ao : Option Addr} {n c : Nat} (h : PrSq R w (.slice ao n c) ps) (j : Nat) (p : Pr) (hp : ps[j]? = some p) :
    ∃ b o, ao = some ⟨b, o, none⟩ ∧ R b ∧ w.cell? ⟨b, o + j * 2, none⟩ = some (.int .u64 (p.1 : Int)) ∧ w.cell? ⟨b, o + j * 2 + 1, none⟩ = some (.int .u32 (p.2 : Int)) := by
  obtain ⟨ao', c', hv, h1, h2, h3, hn, h4⟩ := h
  cases hv
  obtain ⟨b, o, ha, hb, hc⟩ := h4 (fun e => by rw [e] at hp; simp at hp)
  exact ⟨b, o, ha, hb, (hc j p hp).1, (hc j p hp).2⟩
end
theorem PrSq.low {R : Nat → Prop} {w : World} {v : Value} {ps : List Pr} (h : PrSq R w v ps) : PrSq (fun b => b < w.heap.size) w v ps := h.imp fun _ _ hb => hb
theorem prsq_nil (R : Nat → Prop) (w : World) : PrSq R w (.slice none 0 0) [] := ⟨none, 0, rfl, Nat.le_refl _, by simp [maxLen], by simp, fun _ => rfl, fun h => absurd rfl h⟩

theorem prc_flat : ∀ (ps : List Pr) (j : Nat) (p : Pr), ps[j]? = some p → (ps.flatMap prc)[j * 2]? = some (.int .u64 (p.1 : Int)) ∧ (ps.flatMap prc)[j * 2 + 1]? = some (.int .u32 (p.2 : Int))
  | [], j, p, h => by simp at h
  | z :: ps, 0, p, h => by
    have : z = p := by simpa using h
    subst this
    exact ⟨rfl, rfl⟩
  | z :: ps, j + 1, p, h => by
    have ih := prc_flat ps j p (by simpa using h)
    rw [show (j + 1) * 2 = j * 2 + 2 by omega]
    exact ih
theorem prc_len : ∀ ps : List Pr, (ps.flatMap prc).length = ps.length * 2
  | [] => rfl
  | p :: ps => by rw [List.flatMap_cons, List.length_append, prc_len ps, List.length_cons]; simp [prc]; omega
theorem prc_at {ps : List Pr} {j : Nat} {u : Value} (h : (ps.flatMap prc)[j]? = some u) : ∃ p, ps[j / 2]? = some p ∧ (j % 2 = 0 ∧ u = .int .u64 (p.1 : Int) ∨ j % 2 = 1 ∧ u = .int .u32 (p.2 : Int)) := by
  have hj : j < (ps.flatMap prc).length := (List.getElem?_eq_some_iff.1 h).1
  rw [prc_len] at hj
  have hp : ps[j / 2]? = some (ps[j / 2]'(by omega)) := List.getElem?_eq_getElem (by omega)
  obtain ⟨k0, k1⟩ := prc_flat ps _ _ hp
  refine ⟨_, hp, ?_⟩
  rcases Nat.mod_two_eq_zero_or_one j with e | e
  · rw [show j / 2 * 2 = j by omega, h] at k0
    injection k0 with k0
    exact .inl ⟨e, k0⟩
  · rw [show j / 2 * 2 + 1 = j by omega, h] at k1
    injection k1 with k1
    exact .inr ⟨e, k1⟩
theorem prc_one (ps : List Pr) : ∀ u ∈ ps.flatMap prc, u.oneCell' = true := by
  intro u hu
  obtain ⟨p, _, hp⟩ := List.mem_flatMap.1 hu
  simp only [prc, List.mem_cons, List.not_mem_nil, or_false] at hp
  rcases hp with rfl | rfl <;> rfl
theorem PrSq.news {R : Nat → Prop} {w : World} {b o n c : Nat} {ps : List Pr} (h : PrSq R w (.slice (some ⟨b, o, none⟩) n c) ps) : ∀ j u, (ps.flatMap prc)[j]? = some u → w.cell? ((⟨b, o, none⟩ : Addr).add j) = some u := by
  intro j u hu
  obtain ⟨p, hp, hor⟩ := prc_at hu
  obtain ⟨b', o', e, _, c0, c1⟩ := h.at _ p hp
  cases e
  rw [Addr.add_lit]
  rcases hor with ⟨e, rfl⟩ | ⟨e, rfl⟩
  · rw [show o + j = o + j / 2 * 2 by omega]; exact c0
  · rw [show o + j = o + j / 2 * 2 + 1 by omega]; exact c1

/-- Pairs of the call's own, in memory from 'base' on. -/
def POwn (t : TypeId) (base : Nat) (w : World) (v : Value) (ps : List Pr) : Prop := w.ownsRow base t 2 v ps.length (ps.flatMap prc) ∧ ∀ p ∈ ps, PrOk p
section
variable {t : TypeId} {base : Nat} {w w' : World} {v : Value} {ps : List Pr}
theorem POwn.nil (t : TypeId) (base : Nat) (w : World) : POwn t base w (.slice none 0 0) [] := ⟨World.ownsRow_nil _ _ _ _, by simp⟩
theorem POwn.grown (h : POwn t base w v ps) (k : w.grownBy w' none) : POwn t base w' v ps := ⟨World.ownsRow.kept h.1 k (by cases v.ownBlock <;> simp), h.2⟩
theorem POwn.mono {base' : Nat} (h : POwn t base w v ps) (k : base' ≤ base) : POwn t base' w v ps := ⟨own_base h.1 k, h.2⟩
theorem POwn.shape (h : POwn t base w v ps) : ∃ ao c, v = .slice ao ps.length c := own_shape h.1
theorem POwn.psq (h : POwn t base w v ps) : PrSq (fun b => base ≤ b ∧ v.ownBlock = some b) w v ps := by
  have hr := h.1
  rcases h.1.2 with ⟨rfl, hn⟩ | ⟨q, cap, cur, hv, hb, hq, hnc, hcm, hcs, ht⟩
  · rw [List.eq_nil_of_length_eq_zero hn]; exact prsq_nil _ _
  · refine ⟨some ⟨q, 0, none⟩, cap, hv, hnc, hcm, h.2, by simp, fun hne => ⟨q, 0, rfl, ⟨hb, by rw [hv]; rfl⟩, fun j p hp => ?_⟩⟩
    obtain ⟨k0, k1⟩ := prc_flat ps j p hp
    have hc := hr.cells (g := q) (by rw [hv]; rfl)
    refine ⟨?_, ?_⟩
    · have := hc _ _ k0; rwa [Addr.add_lit] at this
    · have := hc _ _ k1; rwa [Addr.add_lit, ← Nat.add_assoc] at this
theorem POwn.sq (h : POwn t base w v ps) : PrSq (fun b => base ≤ b) w v ps := h.psq.imp fun _ k _ => k.1
theorem POwn.low (h : POwn t base w v ps) : PrSq (fun b => b < w.heap.size) w v ps := h.psq.imp fun _ _ k => k
theorem POwn.far {q : Nat} {cs : Array Value} {t2 : TypeId} {f : Nat × Nat} (h : POwn t base w v ps) (k : w.grownBy w' (some q)) (hq : w.heap[q]? = some (.cells cs t2 f)) (ht : t2 ≠ t) : POwn t base w' v ps := by
  refine ⟨World.ownsRow.kept h.1 k ?_, h.2⟩
  rcases h.1.2 with ⟨rfl, _⟩ | ⟨g, cap, cur, rfl, _, hh, _⟩
  · exact .inl rfl
  · right
    intro e
    have : g = q := by injection e
    subst this
    rw [hh] at hq
    injection hq with hq
    injection hq with _ h2
    exact ht h2.symm
/-- Behind 'l = append(l, a pair)'. -/
theorem POwn.push {base0 n : Nat} {v' : Value} {p : Pr} (h : POwn t base w v ps) (hp : PrOk p) (hn : n = ps.length) (hrow : w'.ownsRow base0 t 2 v' (n + 1) (ps.flatMap prc ++ prc p)) : POwn t base0 w' v' (ps ++ [p]) := by
  subst hn
  refine ⟨by simpa [List.flatMap_append] using hrow, fun q hq => ?_⟩
  rcases List.mem_append.1 hq with hq | hq
  · exact h.2 q hq
  · have : q = p := by simpa using hq
    rw [this]; exact hp
end
theorem infoPair : (Tryz.prog.info? 266).map (fun i => (i.zero, i.size, i.bytes)) = some (some (.agg #[.int .u64 0, .int .u32 0]), 2, 16) := by kernel_rfl
/-- A pair that has just been laid. -/
theorem lit_pair (w : World) (p : Pr) (t : TypeId) : ∀ j u, (prc p)[j]? = some u → (w.alloc (.cells #[.int .u64 (p.1 : Int), .int .u32 (p.2 : Int)] t)).cell? ((⟨w.heap.size, 0, none⟩ : Addr).add j) = some u := by
  intro j u hj
  rw [Addr.add_lit, Nat.zero_add, World.cell?_alloc_mark]
  simpa [prc] using hj
theorem one_pair (p : Pr) : ∀ u ∈ prc p, u.oneCell' = true := by
  intro u hu
  simp only [prc, List.mem_cons, List.not_mem_nil, or_false] at hu
  rcases hu with rfl | rfl <;> rfl

/-! ### pairs that came in -/
theorem c1u32' : Tryz.prog.cellsOf 41 = 1 := by kernel_rfl
theorem c1u64' : Tryz.prog.cellsOf 35 = 1 := by kernel_rfl
theorem list_of {α : Type} {p : Nat → α → Prop} : ∀ n, (∀ i, i < n → ∃ x, p i x) → ∃ l : List α, l.length = n ∧ ∀ i x, l[i]? = some x → p i x
  | 0, _ => ⟨[], rfl, fun i x h => by simp at h⟩
  | n + 1, h => by
    obtain ⟨l, hl, hp⟩ := list_of n (fun i hi => h i (by omega))
    obtain ⟨x, hx⟩ := h n (by omega)
    refine ⟨l ++ [x], by simp [hl], fun i y hy => ?_⟩
    by_cases e : i < n
    · rw [List.getElem?_append_left (by omega)] at hy; exact hp i y hy
    · have hi : i < (l ++ [x]).length := (List.getElem?_eq_some_iff.1 hy).1
      simp [hl] at hi
      obtain rfl : i = n := by omega
      rw [List.getElem?_append_right (by omega), hl, Nat.sub_self] at hy
      cases hy; exact hx
end Go.Proofs.YtildjdhoeilcfaaGreat

namespace Go.Proofs.YtildjdhoeilcfaaGreat
open Go.RowKit

theorem snoc_ind {α : Type} {P : List α → Prop} (h0 : P []) (hs : ∀ l x, P l → P (l ++ [x])) : ∀ l, P l := fun l => by
  rw [← List.reverse_reverse l]
  generalize l.reverse = m
  induction m with
  | nil => exact h0
  | cons x m ih => rw [List.reverse_cons]; exact hs _ _ ih
/-- A pair more. -/
def gath (rs : List Rc) (p : Pr) : List Rc :=
  match rs.getLast? with
  | some r => if r.1 = p.1 then rs.dropLast ++ [(r.1, r.2 ++ [p.2])] else rs ++ [(p.1, [p.2])]
  | none => [(p.1, [p.2])]
def gatherL (l : List Pr) : List Rc := l.foldl gath []
theorem gatherL_snoc (l : List Pr) (p : Pr) : gatherL (l ++ [p]) = gath (gatherL l) p := by simp [gatherL]
theorem gatherL_app (l q : List Pr) : gatherL (l ++ q) = q.foldl gath (gatherL l) := by simp [gatherL]
theorem gath_last (rs : List Rc) (p : Pr) : ∃ r, (gath rs p).getLast? = some r ∧ r.1 = p.1 := by
  unfold gath
  cases h : rs.getLast? with
  | none => exact ⟨(p.1, [p.2]), by simp, rfl⟩
  | some r =>
    dsimp only
    split
    · rename_i e; exact ⟨(r.1, r.2 ++ [p.2]), by simp, e⟩
    · exact ⟨(p.1, [p.2]), by simp, rfl⟩
theorem gatherL_last {l : List Pr} (h : l ≠ []) : ∃ r, (gatherL l).getLast? = some r ∧ r.1 = (l.getLast h).1 := by
  obtain ⟨m, p, rfl⟩ : ∃ m p, l = m ++ [p] := ⟨l.dropLast, l.getLast h, (List.dropLast_concat_getLast h).symm⟩
  rw [gatherL_snoc]
  simpa using gath_last (gatherL m) p
/-- A run of one change, behind records of another one. -/
theorem foldl_run {T : Nat} {rs : List Rc} (hr : ∀ r, rs.getLast? = some r → r.1 ≠ T) : ∀ {q : List Pr}, q ≠ [] → (∀ p ∈ q, p.1 = T) → q.foldl gath rs = rs ++ [(T, q.map (·.2))] := by
  intro q
  induction q using snoc_ind with
  | h0 => intro h; exact absurd rfl h
  | hs q p ih =>
    intro _ hq
    have hp : p.1 = T := hq p (by simp)
    rw [List.foldl_append, List.foldl_cons, List.foldl_nil]
    by_cases e : q = []
    · subst e
      simp only [List.foldl_nil, List.nil_append, List.map_cons, List.map_nil]
      unfold gath
      cases h : rs.getLast? with
      | none =>
        have : rs = [] := by simpa using h
        subst this
        simp [hp]
      | some r =>
        dsimp only
        rw [if_neg (by rw [hp]; exact hr r h), hp]
    · rw [ih e (fun x hx => hq x (by simp [hx]))]
      unfold gath
      simp [hp]
def recOf (ps : List Pr) (a e : Nat) : Rc := ((ps.getD a (0, 0)).1, ((ps.drop a).take (e - a)).map (·.2))
/-- The pairs from a to e are of one change, and those ahead of them of another one. -/
structure RunAt (ps : List Pr) (a e : Nat) : Prop where
  lt : a < e
  le : e ≤ ps.length
  same : ∀ j, a ≤ j → j < e → (ps.getD j (0, 0)).1 = (ps.getD a (0, 0)).1
  ahead : 0 < a → (ps.getD a (0, 0)).1 ≠ (ps.getD (a - 1) (0, 0)).1
theorem gather_run {ps : List Pr} {a e : Nat} (h : RunAt ps a e) : gatherL (ps.take e) = gatherL (ps.take a) ++ [recOf ps a e] := by
  have hlt := h.lt
  have hle := h.le
  have e1 : ps.take e = ps.take a ++ (ps.drop a).take (e - a) := by
    rw [← List.take_add, show a + (e - a) = e by omega]
  rw [e1, gatherL_app]
  have hql : ((ps.drop a).take (e - a)).length = e - a := by rw [List.length_take, List.length_drop]; omega
  refine foldl_run (T := (ps.getD a (0, 0)).1) (fun r hr => ?_) (fun e => by rw [e] at hql; simp at hql; omega) (fun p hp => ?_)
  · by_cases ha : 0 < a
    · have hne : ps.take a ≠ [] := by
        intro e
        have h0 : (ps.take a).length = 0 := by rw [e]; rfl
        rw [List.length_take] at h0
        omega
      obtain ⟨r', h1, h2⟩ := gatherL_last hne
      rw [hr] at h1
      injection h1 with h1
      subst h1
      rw [h2]
      have : (ps.take a).getLast hne = ps.getD (a - 1) (0, 0) := by
        rw [List.getLast_eq_getElem, List.getD_eq_getElem?_getD, List.getElem?_eq_getElem (by omega)]
        simp [List.length_take, Nat.min_eq_left (show a ≤ ps.length by omega)]
      rw [this]
      exact (h.ahead ha).symm
    · have : a = 0 := by omega
      subst this
      simp [gatherL] at hr
  · obtain ⟨i, hi⟩ := List.mem_iff_getElem?.1 hp
    have hil := (List.getElem?_eq_some_iff.1 hi).1
    rw [hql] at hil
    rw [List.getElem?_take, if_pos hil, List.getElem?_drop] at hi
    have := h.same (a + i) (by omega) (by omega)
    rw [List.getD_eq_getElem?_getD, hi] at this
    exact this
theorem rec_pages {ps : List Pr} {a e : Nat} (h : RunAt ps a e) : (recOf ps a e).2.length = e - a := by
  have := h.lt; have := h.le
  simp [recOf]; omega

/-! ### records as pairs, gathered again -/
def pairsOf (r : Rc) : List Pr := r.2.map fun p => (r.1, p)
def flatR (rs : List Rc) : List Pr := rs.flatMap pairsOf
theorem flatR_snoc (rs : List Rc) (r : Rc) : flatR (rs ++ [r]) = flatR rs ++ pairsOf r := by simp [flatR, List.flatMap_append]
theorem gather_flat {stop : Nat} {rs : List Rc} (h : Okr stop rs) : gatherL (flatR rs) = rs := by
  induction rs using snoc_ind with
  | h0 => rfl
  | hs rs r ih =>
    have hp := List.pairwise_append.1 h.txns
    have hr := h.each r (by simp)
    have ha := List.pairwise_append.1 h.apart
    rw [flatR_snoc, gatherL_app, ih ⟨hp.1, fun x hx => h.each x (by simp [hx]), ha.1⟩]
    rw [foldl_run (T := r.1) (fun x hx => ?_) (fun e => hr.2.2 (by simpa [pairsOf] using e)) (fun p hp => ?_)]
    · simp [pairsOf, Function.comp_def]
    · have hm : x ∈ rs := List.mem_of_getLast? hx
      have := hp.2.2 x hm r (by simp)
      omega
    · obtain ⟨y, _, rfl⟩ := List.mem_map.1 hp
      rfl
theorem flatR_rise {stop : Nat} {rs : List Rc} (h : Okr stop rs) : (flatR rs).Pairwise lexP := by
  induction rs using snoc_ind with
  | h0 => exact List.Pairwise.nil
  | hs rs r ih =>
    have hp := List.pairwise_append.1 h.txns
    have hr := h.each r (by simp)
    have ha := List.pairwise_append.1 h.apart
    rw [flatR_snoc]
    refine List.pairwise_append.2 ⟨ih ⟨hp.1, fun x hx => h.each x (by simp [hx]), ha.1⟩, ?_, fun a ha b hb => ?_⟩
    · refine List.pairwise_map.2 (hr.1.imp fun hab => .inr ⟨rfl, hab⟩)
    · obtain ⟨x, hx, hxa⟩ := List.mem_flatMap.1 ha
      obtain ⟨y, _, rfl⟩ := List.mem_map.1 hxa
      obtain ⟨z, _, rfl⟩ := List.mem_map.1 hb
      exact .inl (hp.2.2 x hx r (by simp))
theorem flatR_ok {rs : List Rc} (h : ∀ r ∈ rs, r.1 < 18446744073709551616 ∧ ∀ p ∈ r.2, p < 4294967296) : ∀ p ∈ flatR rs, PrOk p := fun p hp => by
  obtain ⟨r, hr, hpr⟩ := List.mem_flatMap.1 hp
  obtain ⟨y, hy, rfl⟩ := List.mem_map.1 hpr
  exact ⟨(h r hr).1, (h r hr).2 y hy⟩
theorem flatR_len (rs : List Rc) {N : Nat} (h : ∀ r ∈ rs, r.2.length ≤ N) : (flatR rs).length ≤ rs.length * N := by
  induction rs with
  | nil => simp [flatR]
  | cons r rs ih =>
    have e : flatR (r :: rs) = pairsOf r ++ flatR rs := rfl
    have h1 := h r (by simp)
    have h2 := ih fun x hx => h x (by simp [hx])
    rw [e, List.length_append, List.length_cons, Nat.succ_mul]
    have : (pairsOf r).length = r.2.length := by simp [pairsOf]
    omega

end Go.Proofs.YtildjdhoeilcfaaGreat
