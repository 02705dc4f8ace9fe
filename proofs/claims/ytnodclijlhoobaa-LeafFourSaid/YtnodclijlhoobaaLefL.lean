/-
  Layer 4: how far a page has been read, in plain lists. Own work.
-/
import Derived.Test.YtnodclijlhoobaaLefJ
namespace Go.Proofs.Ytnodclijlhoobaa
open Go.RowKit

/-- How far a page has been read: the entries so far, where the next one ends, what the Reader has left. -/
structure RdTo (b : List Int) (C : Nat) (k E : Nat) (xs : List En) (bs : List Int) (e : Int) : Prop where
  len : xs.length = k
  got : ∀ x ∈ xs, EnGot x
  csl : E + cs xs k = b.length
  tl : b.drop E = tlB xs k
  hd : e = 0 → b = ([1, 0] ++ numB C 2 2) ++ (plB (xs) b.length k ++ bs)
  all : ∀ L, Laid b L → L.length = C ∧ e = 0 ∧ xs = L.take k

theorem cs_take (l : List En) : ∀ {k n : Nat}, k ≤ n → cs (l.take n) k = cs l k
  | 0, _, _ => rfl
  | k + 1, n, h => by
    rw [cs, cs, cs_take l (show k ≤ n by omega), List.getElem?_take, if_pos (by omega)]
theorem cs_app (l m : List En) : ∀ {k : Nat}, k ≤ l.length → cs (l ++ m) k = cs l k
  | 0, _ => rfl
  | k + 1, h => by
    rw [cs, cs, cs_app l m (show k ≤ l.length by omega), List.getElem?_append_left (by omega)]
theorem tlB_app (l m : List En) : ∀ {k : Nat}, k ≤ l.length → tlB (l ++ m) k = tlB l k
  | 0, _ => rfl
  | k + 1, h => by
    rw [tlB, tlB, tlB_app l m (show k ≤ l.length by omega), List.getElem?_append_left (by omega)]
theorem plB_app (l m : List En) (size : Nat) : ∀ {k : Nat}, k ≤ l.length → plB (l ++ m) size k = plB l size k
  | 0, _ => rfl
  | k + 1, h => by
    rw [plB, plB, plB_app l m size (show k ≤ l.length by omega), cs_app l m h]
theorem plB_take (l : List En) (size : Nat) : ∀ {k n : Nat}, k ≤ n → plB (l.take n) size k = plB l size k
  | 0, _, _ => rfl
  | k + 1, n, h => by
    rw [plB, plB, plB_take l size (show k ≤ n by omega), cs_take l (show k + 1 ≤ n by omega)]

/-- The head read: nothing else so far. -/
theorem RdTo.start {b b1 b2 b3 o1 o2 o3 : List Int} {e1 e2 e3 : Int} {C : Nat} (hb : Byt b) (x1 : nx b 0 1 true = (b1, e1, o1)) (h1 : beVal o1 = 1) (x2 : nx b1 e1 1 true = (b2, e2, o2)) (h2 : beVal o2 = 0) (x3 : nx b2 e2 2 true = (b3, e3, o3)) (hC : beVal o3 = (C : Int)) :
    RdTo b C 0 b.length [] b3 e3 := by
  obtain ⟨c1, bo1, _, _⟩ := nx_both x1 hb
  obtain ⟨c2, bo2, _, _⟩ := nx_both x2 c1
  obtain ⟨c3, bo3, _, _⟩ := nx_both x3 c2
  refine ⟨rfl, (fun x hx => by cases hx), rfl, by rw [List.drop_length]; rfl, fun he => ?_, fun L hL => ?_⟩
  · subst he
    obtain ⟨r2, p2, l3⟩ := nx_ok x3 (by decide)
    subst r2
    obtain ⟨r1, p1, l2⟩ := nx_ok x2 (by decide)
    subst r1
    obtain ⟨_, p0, l1⟩ := nx_ok x1 (by decide)
    rw [← hC, num2 bo3 (by omega), plB, List.nil_append]
    have q1 := num1 bo1 (by omega)
    have q2 := num1 bo2 (by omega)
    rw [h1, numB1] at q1
    rw [h2, numB1] at q2
    rw [p0, ← q1, p1, ← q2, p2]
    simp
  · obtain ⟨r, hr, _⟩ := page_head hL
    have hfew := hL.few
    rw [show ([1, 0] ++ numB (L.length : Int) 2 2) ++ (plB L b.length L.length ++ r) = [1] ++ ([0] ++ (numB (L.length : Int) 2 2 ++ (plB L b.length L.length ++ r))) by simp] at hr
    rw [hr, nx_app (by rfl)] at x1
    injection x1 with a1 x1; injection x1 with a2 a3
    subst a1; subst a2
    rw [nx_app (by rfl)] at x2
    injection x2 with a1 x2; injection x2 with a2 a3
    subst a1; subst a2
    rw [nx_app (by rw [numB_len]; rfl)] at x3
    injection x3 with a1 x3; injection x3 with a2 a3
    subst a1; subst a2; subst a3
    rw [be2 (by omega) (by omega)] at hC
    exact ⟨by omega, rfl, rfl⟩
/-- No page begins otherwise. -/
theorem laid_one {b b1 o1 : List Int} {e1 : Int} (x1 : nx b 0 1 true = (b1, e1, o1)) (h1 : beVal o1 ≠ 1) (L : List En) : ¬ Laid b L := by
  intro hL
  obtain ⟨r, hr, _⟩ := page_head hL
  rw [show ([1, 0] ++ numB (L.length : Int) 2 2) ++ (plB L b.length L.length ++ r) = [1] ++ ([0] ++ (numB (L.length : Int) 2 2 ++ (plB L b.length L.length ++ r))) by simp] at hr
  rw [hr, nx_app (by rfl)] at x1
  injection x1 with a1 x1; injection x1 with a2 a3
  subst a3
  exact h1 rfl
theorem laid_two {b b1 b2 o1 o2 : List Int} {e1 e2 : Int} (x1 : nx b 0 1 true = (b1, e1, o1)) (x2 : nx b1 e1 1 true = (b2, e2, o2)) (h2 : beVal o2 ≠ 0) (L : List En) : ¬ Laid b L := by
  intro hL
  obtain ⟨r, hr, _⟩ := page_head hL
  rw [show ([1, 0] ++ numB (L.length : Int) 2 2) ++ (plB L b.length L.length ++ r) = [1] ++ ([0] ++ (numB (L.length : Int) 2 2 ++ (plB L b.length L.length ++ r))) by simp] at hr
  rw [hr, nx_app (by rfl)] at x1
  injection x1 with a1 x1; injection x1 with a2 a3
  subst a1; subst a2
  rw [nx_app (by rfl)] at x2
  injection x2 with a1 x2; injection x2 with a2 a3
  subst a3
  exact h2 rfl
/-- Of a page the next place is where its entry begins. -/
theorem RdTo.place {b bs bs' o : List Int} {e e' : Int} {C k E : Nat} {xs : List En} (h : RdTo b C k E xs bs e) (hk : k < C) (hx : nx bs e 2 true = (bs', e', o)) {L : List En} (hL : Laid b L) :
    e' = 0 ∧ beVal o = ((b.length - cs L (k + 1) : Nat) : Int) ∧ E = b.length - cs L k ∧ ∃ x, L[k]? = some x ∧ cs L (k + 1) = cs L k + cl x ∧ cs L (k + 1) ≤ b.length ∧ (b.drop (b.length - cs L (k + 1))).take (cl x) = cellB x ∧ EnGot x := by
  obtain ⟨hlen, he, hxs⟩ := h.all L hL
  subst he
  have hkL : k < L.length := by omega
  obtain ⟨x, hx'⟩ : ∃ x, L[k]? = some x := ⟨_, List.getElem?_eq_getElem hkL⟩
  have hc := cs_snoc hx'
  have hm := cs_mono L (show k + 1 ≤ L.length by omega)
  have hf := hL.fill
  unfold fillL fillK at hf
  have hE : E = b.length - cs L k := by
    have := h.csl
    rw [hxs, cs_take L (Nat.le_refl k)] at this
    omega
  obtain ⟨r, hr, _⟩ := page_head hL
  obtain ⟨r2, hr2⟩ := plB_split (l := L) (size := b.length) hkL
  have hh := h.hd rfl
  rw [hr2] at hr
  rw [hxs, plB_take L b.length (Nat.le_refl k), ← hlen] at hh
  have hbs : bs = numB ((b.length - cs L (k + 1) : Nat) : Int) 2 2 ++ (r2 ++ r) := by
    have := hh.symm.trans hr
    simp only [List.append_assoc, List.append_cancel_left_eq, List.cons_append, List.nil_append] at this
    simpa using this
  have hsm := hL.small
  rw [hbs, nx_app (by rw [numB_len]; rfl)] at hx
  injection hx with a1 hx; injection hx with a2 a3
  subst a2; subst a3
  exact ⟨rfl, be2 (by omega) (by omega), hE, x, hx', hc, by omega, page_cell hL hx', hL.got x (List.mem_of_getElem? hx')⟩

theorem cellB_inj {c : List Int} {x y : En} (h : EntOk c x) (k : EntOk c y) : x = y := by
  obtain ⟨c1, e1, o1, x1⟩ : ∃ a b d, nx c 0 1 true = (a, b, d) := ⟨_, _, _, rfl⟩
  obtain ⟨c2, e2, key, x2⟩ : ∃ a b d, nx c1 e1 (beVal o1) true = (a, b, d) := ⟨_, _, _, rfl⟩
  obtain ⟨c3, e3, o3, x3⟩ : ∃ a b d, nx c2 e2 1 true = (a, b, d) := ⟨_, _, _, rfl⟩
  obtain ⟨_, hk1, hf1, hh1⟩ := ent_start x1 x2 x3 h
  obtain ⟨_, hk2, hf2, hh2⟩ := ent_start x1 x2 x3 k
  obtain ⟨kx, vx, lx, fx⟩ := x
  obtain ⟨ky, vy, ly, fy⟩ := y
  simp only at *
  by_cases a : 0 < fx
  · by_cases b : 0 < fy
    · obtain ⟨g1, g2, g3, g4⟩ := h.2.far a
      obtain ⟨i1, i2, i3, i4⟩ := k.2.far b
      have e := (hf1 a).2.symm.trans (hf2 b).2
      have e2 := List.append_inj e (by rw [numB_len, numB_len])
      have q1 := congrArg beVal e2.1
      have q2 := congrArg beVal e2.2
      simp only at g1 g2 g3 g4 i1 i2 i3 i4
      rw [be4 g2 g3, be4 i2 i3] at q1
      rw [be4 (by omega) g4, be4 (by omega) i4] at q2
      rw [← hk1, ← hk2, g1, i1, q1, q2]
    · have := (hf1 a).1; have := (hh2 b).1; omega
  · by_cases b : 0 < fy
    · have := (hh1 a).1; have := (hf2 b).1; omega
    · obtain ⟨g1, g2, g3⟩ := h.2.here a
      obtain ⟨i1, i2, i3⟩ := k.2.here b
      have e := (hh1 a).2.symm.trans (hh2 b).2
      have e2 := List.append_inj e (by rw [numB_len, numB_len])
      simp only at g1 g2 i1 i2
      rw [← hk1, ← hk2, g1, g2, i1, i2, e2.2]

theorem RdTo.step {b bs bs' o : List Int} {e e' : Int} {C k E A : Nat} {xs : List En} {x : En} (h : RdTo b C k E xs bs e) (hb : Byt bs) (hk : k < C) (hx : nx bs e 2 true = (bs', e', o)) (hA : beVal o = (A : Int)) (hAE : A ≤ E) (hc : EntOk ((b.drop A).take (E - A)) x) :
    RdTo b C (k + 1) A (xs ++ [x]) bs' e' := by
  have hlen := h.len
  have hcsl := h.csl
  have hEl : E ≤ b.length := by omega
  have hget : (xs ++ [x])[k]? = some x := by rw [List.getElem?_append_right (by omega), hlen, Nat.sub_self]; rfl
  have hcx : cl x = E - A := by
    rw [← cellB_len, ← hc.1, List.length_take, List.length_drop]; omega
  have hcs : cs (xs ++ [x]) (k + 1) = cs xs k + cl x := by rw [cs_snoc hget, cs_app _ _ (by omega)]
  refine ⟨by simp [hlen], fun y hy => ?_, by omega, ?_, fun he => ?_, fun L hL => ?_⟩
  · rcases List.mem_append.1 hy with hy | hy
    · exact h.got y hy
    · have : y = x := by simpa using hy
      subst this; exact hc.2
  · rw [tlB_snoc hget, tlB_app _ _ (by omega), ← h.tl, ← hc.1, show b.drop E = (b.drop A).drop (E - A) by rw [List.drop_drop]; congr 1; omega, List.take_append_drop]
  · subst he
    obtain ⟨r, hbs, ho⟩ := nx_ok hx (by decide)
    obtain ⟨_, bo, _, _⟩ := nx_both hx hb
    refine (h.hd r).trans ?_
    rw [plB, plB_app _ _ _ (by omega), hcs, show b.length - (cs xs k + cl x) = A by omega, ← hA, num2 bo (by omega), hbs]
    simp
  · obtain ⟨p1, p2, p3, y, hy, p4, p5, p6, p7⟩ := h.place hk hx hL
    obtain ⟨q1, q2, q3⟩ := h.all L hL
    have hAL : A = b.length - cs L (k + 1) := by omega
    have : x = y := cellB_inj hc ⟨by rw [← p6, ← hAL, show E - A = cl y by omega], p7⟩
    subst this
    refine ⟨q1, p1, ?_⟩
    rw [q3, List.take_add_one, hy]; rfl
theorem RdTo.over {b bs bs' o : List Int} {e e' : Int} {C k E A : Nat} {xs : List En} (h : RdTo b C k E xs bs e) (hk : k < C) (hx : nx bs e 2 true = (bs', e', o)) (hA : beVal o = (A : Int)) (hAE : E < A) (L : List En) : ¬ Laid b L := by
  intro hL
  obtain ⟨p1, p2, p3, y, hy, p4, p5, p6, p7⟩ := h.place hk hx hL
  omega
theorem RdTo.bad {b bs bs' o : List Int} {e e' : Int} {C k E A : Nat} {xs : List En} (h : RdTo b C k E xs bs e) (hk : k < C) (hx : nx bs e 2 true = (bs', e', o)) (hA : beVal o = (A : Int)) (hAE : A ≤ E) (hc : ∀ y, ¬ EntOk ((b.drop A).take (E - A)) y) (L : List En) : ¬ Laid b L := by
  intro hL
  obtain ⟨p1, p2, p3, y, hy, p4, p5, p6, p7⟩ := h.place hk hx hL
  have hAL : A = b.length - cs L (k + 1) := by omega
  exact hc y ⟨by rw [← p6, ← hAL, show E - A = cl y by omega], p7⟩
theorem allZ_rep : ∀ (xs : List Int), allZ xs = true → xs = List.replicate xs.length 0
  | [], _ => rfl
  | x :: l, h => by
    simp only [allZ, List.all_cons, Bool.and_eq_true, beq_iff_eq] at h
    have ih := allZ_rep l h.2
    rw [List.length_cons, List.replicate_succ, ← ih, h.1]
theorem rep_allZ (n : Nat) : allZ (List.replicate n 0) = true := by simp [allZ]
theorem nx_neg {bs r o : List Int} {e e' m : Int} (h : nx bs e m (decide (0 ≤ m)) = (r, e', o)) (he : e' = 0) : 0 ≤ m := by
  refine Int.not_lt.1 fun hm => ?_
  have hd : decide (0 ≤ m) = false := by simp; omega
  rw [hd] at h
  unfold nx at h
  split at h
  · rename_i h0; injection h with _ h2; injection h2 with h3 _; exact h0 (h3.trans he)
  · simp at h; omega
theorem RdTo.fin {b bs bs' free : List Int} {e e' m : Int} {C E : Nat} {xs : List En} (h : RdTo b C C E xs bs e) (hC : C ≤ 65535) (hm : m = (E : Int) - 4 - (C : Int) * 2) (hx : nx bs e m (decide (0 ≤ m)) = (bs', e', free)) :
    (e' = 0 ∧ allZ free = true → b.length ≤ 65535 → Laid b xs) ∧ (∀ L, Laid b L → (e' = 0 ∧ allZ free = true) ∧ xs = L) := by
  have hlen := h.len
  have hcsl := h.csl
  refine ⟨fun ⟨he, hz⟩ hsm => ?_, fun L hL => ?_⟩
  · have h0 := nx_neg hx he
    have hd : decide (0 ≤ m) = true := by simpa using h0
    rw [hd] at hx
    subst he
    obtain ⟨r, hbs, ho⟩ := nx_ok hx h0
    have hh := h.hd r
    have hzr := allZ_rep free hz
    have hbl := congrArg List.length hh
    simp only [List.length_append, plB_len, numB_len, List.length_cons, List.length_nil] at hbl
    have hbl2 := congrArg List.length hbs
    rw [List.length_append] at hbl2
    have htl : bs' = tlB xs C := by
      have h1 := h.tl
      rw [hh, hbs] at h1
      rw [← h1, List.drop_append, List.drop_eq_nil_of_le (by simp [numB_len]; omega), List.nil_append, List.drop_append, List.drop_eq_nil_of_le (by rw [plB_len]; simp [numB_len]; omega), List.nil_append, List.drop_append, List.drop_eq_nil_of_le (by rw [plB_len]; simp [numB_len]; omega), List.nil_append]
      have hz0 : ∀ q : Nat, q = 0 → bs' = List.drop q bs' := fun q hq => by rw [hq]; rfl
      exact hz0 _ (by rw [plB_len]; simp [numB_len]; omega)
    refine ⟨h.got, by omega, hsm, by unfold fillL fillK; rw [hlen]; omega, ?_⟩
    rw [pageB, hdB_pl, hlen]
    have e1 : b.length - cs xs C - (4 + 2 * C) = free.length := by omega
    rw [e1, ← hzr, ← htl, List.append_assoc, ← hbs]
    exact hh
  · obtain ⟨q1, q2, q3⟩ := h.all L hL
    have hxL : xs = L := by rw [q3, ← q1, List.take_length]
    subst hxL
    subst q2
    have hh := h.hd rfl
    obtain ⟨r, hr, hre⟩ := page_head hL
    have hf := hL.fill
    unfold fillL fillK at hf
    rw [hlen] at hr hre hf
    have hbs : bs = r := by
      have := hh.symm.trans hr
      simpa using this
    have h0 : 0 ≤ m := by omega
    have hd : decide (0 ≤ m) = true := by simpa using h0
    rw [hd, hbs, hre, nx_app (by simp; omega)] at hx
    injection hx with a1 hx; injection hx with a2 a3
    subst a2; subst a3
    exact ⟨⟨rfl, rep_allZ _⟩, rfl⟩

end Go.Proofs.Ytnodclijlhoobaa
