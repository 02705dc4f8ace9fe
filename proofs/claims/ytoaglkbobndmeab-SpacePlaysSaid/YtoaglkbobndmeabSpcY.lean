/-
  Layer 8: what each page is, beside a space, step by step: what is so of the model. Own work.
-/
import Derived.Test.YtoaglkbobndmeabSpcV
import Derived.Test.YtoaglkbobndmeabSpcQ
namespace Go.Proofs.Ytoaglkbobndmeab

def upd (V : Nat → Nat) (p x : Nat) : Nat → Nat := fun q => if q = p then x else V q
theorem upd_same (V : Nat → Nat) (p x : Nat) : upd V p x p = x := if_pos rfl
theorem upd_other (V : Nat → Nat) {p q : Nat} (x : Nat) (h : q ≠ p) : upd V p x q = V q := if_neg h

structure AInv (WS : List Rc) (M : Sp) (V : Nat → Nat) : Prop where
  lim : M.lim = 60
  en1 : 50 ≤ M.en
  en2 : M.en ≤ 60
  low : ∀ x ∈ M.us, M.low ≤ x
  su : Srt M.us
  sg : Srt M.go
  k1 : ∀ p, V p = 1 ↔ p ∈ M.us
  k2 : ∀ p, V p = 2 ↔ p ∈ M.wa
  k3 : ∀ p, V p = 3 ↔ p ∈ M.fr
  k4 : ∀ p, V p = 4 ↔ p ∈ M.go
  rg : ∀ p, V p ≠ 0 → 2 ≤ p ∧ p < M.en
  v4 : ∀ p, V p ≤ 4
  ws : M.ws = WS
  wa : ∀ p, p ∈ M.wa ↔ p ∈ allOf WS

theorem apart_take {WS : List Rc} {M : Sp} {V : Nat → Nat} (h : AInv WS M V) {M' : Sp} {p : Nat} {e : Int} (ht : takeM M = (M', p, e)) :
    (e = 0 ∧ 2 ≤ p ∧ p < 60 ∧ (p < 50 → V p = 1) ∧ (50 ≤ p → V p ≤ 1) ∧ AInv WS M' (upd V p 3)) ∨ (e = 21 ∧ M' = M ∧ p = 0) := by
  unfold takeM at ht
  cases hu : M.us with
  | cons q r =>
    rw [hu] at ht
    simp only at ht
    injection ht with h1 h2
    injection h2 with h2 h3
    subst h1 h2 h3
    have hs := h.su
    rw [hu] at hs
    obtain ⟨s1, s2⟩ := List.pairwise_cons.1 hs
    have hV : V q = 1 := (h.k1 q).2 (by rw [hu]; exact List.mem_cons_self)
    have hr := h.rg q (by rw [hV]; decide)
    have hqr : q ∉ r := fun k => by have := s1 q k; omega
    have hen := h.en2
    refine .inl ⟨rfl, hr.1, by omega, fun _ => hV, fun _ => by omega, ⟨h.lim, h.en1, h.en2, fun x hx => Nat.le_of_lt (s1 x hx), s2, h.sg, fun x => ?_, fun x => ?_, fun x => ?_, fun x => ?_, fun x hx => ?_, fun x => ?_, h.ws, h.wa⟩⟩
    · show _ ↔ x ∈ r
      by_cases e : x = q
      · subst e; rw [upd_same]; constructor
        · intro k; omega
        · intro k; exact absurd k hqr
      · rw [upd_other V 3 e, h.k1 x, hu, List.mem_cons]
        exact ⟨fun k => k.resolve_left e, .inr⟩
    · show _ ↔ x ∈ M.wa
      by_cases e : x = q
      · subst e; rw [upd_same, ← h.k2]; omega
      · rw [upd_other V 3 e, h.k2 x]
    · show _ ↔ x ∈ ins q M.fr
      rw [mem_ins]
      by_cases e : x = q
      · subst e; rw [upd_same]; simp
      · rw [upd_other V 3 e, h.k3 x]
        exact ⟨.inr, fun k => k.resolve_left e⟩
    · show _ ↔ x ∈ M.go
      by_cases e : x = q
      · subst e; rw [upd_same, ← h.k4]; omega
      · rw [upd_other V 3 e, h.k4 x]
    · by_cases e : x = q
      · subst e; exact hr
      · rw [upd_other V 3 e] at hx; exact h.rg x hx
    · by_cases e : x = q
      · subst e; rw [upd_same]; decide
      · rw [upd_other V 3 e]; exact h.v4 x
  | nil =>
    rw [hu] at ht
    simp only at ht
    split at ht
    · injection ht with h1 h2
      injection h2 with h2 h3
      exact .inr ⟨h3.symm, h1.symm, h2.symm⟩
    · rename_i he
      injection ht with h1 h2
      injection h2 with h2 h3
      subst h1 h2 h3
      have h60 : M.en < 60 := by have := h.en2; have := h.lim; omega
      have hV : V M.en = 0 := by
        rcases Nat.eq_zero_or_pos (V M.en) with e | e
        · exact e
        · have := (h.rg M.en (by omega)).2; omega
      have hen := h.en1
      refine .inl ⟨rfl, by omega, h60, fun k => by omega, fun _ => by omega, ⟨h.lim, Nat.le_succ_of_le h.en1, h60, fun x hx => h.low x (by rw [hu]; exact hx), List.Pairwise.nil, h.sg, fun x => ?_, fun x => ?_, fun x => ?_, fun x => ?_, fun x hx => ?_, fun x => ?_, h.ws, h.wa⟩⟩
      · show _ ↔ x ∈ []
        rw [← hu]
        by_cases e : x = M.en
        · subst e; rw [upd_same, ← h.k1]; omega
        · rw [upd_other V 3 e, h.k1 x]
      · show _ ↔ x ∈ M.wa
        by_cases e : x = M.en
        · subst e; rw [upd_same, ← h.k2]; omega
        · rw [upd_other V 3 e, h.k2 x]
      · show _ ↔ x ∈ ins M.en M.fr
        rw [mem_ins]
        by_cases e : x = M.en
        · subst e; rw [upd_same]; simp
        · rw [upd_other V 3 e, h.k3 x]
          exact ⟨.inr, fun k => k.resolve_left e⟩
      · show _ ↔ x ∈ M.go
        by_cases e : x = M.en
        · subst e; rw [upd_same, ← h.k4]; omega
        · rw [upd_other V 3 e, h.k4 x]
      · show 2 ≤ x ∧ x < M.en + 1
        by_cases e : x = M.en
        · omega
        · rw [upd_other V 3 e] at hx
          have := h.rg x hx; omega
      · by_cases e : x = M.en
        · subst e; rw [upd_same]; decide
        · rw [upd_other V 3 e]; exact h.v4 x

theorem apart_give {WS : List Rc} {M : Sp} {V : Nat → Nat} (h : AInv WS M V) {M' : Sp} {p : Nat} {e : Int} (ht : giveM M p = (M', e)) :
    (e = 0 ∧ V p = 3 ∧ AInv WS M' (upd V p 1)) ∨ (e = 0 ∧ V p = 0 ∧ AInv WS M' (upd V p 4)) ∨ (e = 1 ∧ M' = M) := by
  unfold giveM at ht
  split at ht
  · rename_i hf
    injection ht with h1 h2
    subst h1 h2
    have hV : V p = 3 := (h.k3 p).2 hf
    have hr := h.rg p (by rw [hV]; decide)
    refine .inl ⟨rfl, hV, ⟨h.lim, h.en1, h.en2, fun x hx => ?_, srt_ins h.su, h.sg, fun x => ?_, fun x => ?_, fun x => ?_, fun x => ?_, fun x hx => ?_, fun x => ?_, h.ws, h.wa⟩⟩
    · show min M.low p ≤ x
      rcases mem_ins.1 (show x ∈ ins p M.us from hx) with e | e
      · rw [e]; exact Nat.min_le_right _ _
      · exact Nat.le_trans (Nat.min_le_left _ _) (h.low x e)
    · show _ ↔ x ∈ ins p M.us
      rw [mem_ins]
      by_cases e : x = p
      · subst e; rw [upd_same]; simp
      · rw [upd_other V 1 e, h.k1 x]
        exact ⟨.inr, fun k => k.resolve_left e⟩
    · show _ ↔ x ∈ M.wa
      by_cases e : x = p
      · subst e; rw [upd_same, ← h.k2]; omega
      · rw [upd_other V 1 e, h.k2 x]
    · show _ ↔ x ∈ del p M.fr
      rw [mem_del]
      by_cases e : x = p
      · subst e; rw [upd_same]; simp
      · rw [upd_other V 1 e, h.k3 x]
        exact ⟨fun k => ⟨k, e⟩, fun k => k.1⟩
    · show _ ↔ x ∈ M.go
      by_cases e : x = p
      · subst e; rw [upd_same, ← h.k4]; omega
      · rw [upd_other V 1 e, h.k4 x]
    · show 2 ≤ x ∧ x < M.en
      by_cases e : x = p
      · subst e; exact hr
      · rw [upd_other V 1 e] at hx; exact h.rg x hx
    · by_cases e : x = p
      · subst e; rw [upd_same]; decide
      · rw [upd_other V 1 e]; exact h.v4 x
  · rename_i hf
    split at ht
    · rename_i hi
      injection ht with h1 h2
      subst h1 h2
      unfold inUseM at hi
      simp only [Bool.and_eq_true, decide_eq_true_eq, Bool.not_eq_true', decide_eq_false_iff_not] at hi
      obtain ⟨⟨⟨⟨⟨i1, i2⟩, i3⟩, i4⟩, i5⟩, i6⟩ := hi
      have n1 : V p ≠ 1 := fun k => i3 ((h.k1 p).1 k)
      have n2 : V p ≠ 2 := fun k => i6 ((h.k2 p).1 k)
      have n3 : V p ≠ 3 := fun k => i4 ((h.k3 p).1 k)
      have n4 : V p ≠ 4 := fun k => i5 ((h.k4 p).1 k)
      have hv := h.v4 p
      have hV : V p = 0 := by omega
      refine .inr (.inl ⟨rfl, hV, ⟨h.lim, h.en1, h.en2, h.low, h.su, srt_ins h.sg, fun x => ?_, fun x => ?_, fun x => ?_, fun x => ?_, fun x hx => ?_, fun x => ?_, h.ws, h.wa⟩⟩)
      · show _ ↔ x ∈ M.us
        by_cases e : x = p
        · subst e; rw [upd_same, ← h.k1]; omega
        · rw [upd_other V 4 e, h.k1 x]
      · show _ ↔ x ∈ M.wa
        by_cases e : x = p
        · subst e; rw [upd_same, ← h.k2]; omega
        · rw [upd_other V 4 e, h.k2 x]
      · show _ ↔ x ∈ M.fr
        by_cases e : x = p
        · subst e; rw [upd_same, ← h.k3]; omega
        · rw [upd_other V 4 e, h.k3 x]
      · show _ ↔ x ∈ ins p M.go
        rw [mem_ins]
        by_cases e : x = p
        · subst e; rw [upd_same]; simp
        · rw [upd_other V 4 e, h.k4 x]
          exact ⟨.inr, fun k => k.resolve_left e⟩
      · show 2 ≤ x ∧ x < M.en
        by_cases e : x = p
        · subst e; exact ⟨i1, i2⟩
        · rw [upd_other V 4 e] at hx; exact h.rg x hx
      · by_cases e : x = p
        · subst e; rw [upd_same]; decide
        · rw [upd_other V 4 e]; exact h.v4 x
    · injection ht with h1 h2
      exact .inr (.inr ⟨h2.symm, h1.symm⟩)

/-! ### what is free behind it -/
def good (V : Nat → Nat) (p : Nat) : Bool := V p == 1 || V p == 2 || V p == 4
theorem good_iff {V : Nat → Nat} {p : Nat} : good V p = true ↔ V p = 1 ∨ V p = 2 ∨ V p = 4 := by simp [good, or_assoc]
def goods (V : Nat → Nat) (n : Nat) : Nat := ((List.range n).filter (good V)).length
theorem goods_yes {V : Nat → Nat} {p : Nat} (h : good V p = true) : goods V (p + 1) = goods V p + 1 := by
  simp [goods, List.range_succ, List.filter_append, h]
theorem goods_no {V : Nat → Nat} {p : Nat} (h : good V p = false) : goods V (p + 1) = goods V p := by
  simp [goods, List.range_succ, List.filter_append, h]
theorem allOf_append (a b : List Rc) : allOf (a ++ b) = allOf a ++ allOf b := by simp [allOf]
theorem allOf_recM (L : List Nat) (t : Nat) : allOf (recM L t) = L := by
  unfold recM
  split
  · rename_i e; simp [allOf, e]
  · simp [allOf]
theorem recs_mem {WS : List Rc} {M : Sp} {V : Nat → Nat} (h : AInv WS M V) (t p : Nat) : p ∈ allOf (recsM M t) ↔ good V p = true := by
  unfold recsM
  rw [allOf_append, allOf_append, allOf_recM, allOf_recM, List.mem_append, List.mem_append, good_iff, h.k1, h.k2, h.k4, h.wa, h.ws]
  exact or_assoc
theorem recs_nodup {WS : List Rc} {M : Sp} {V : Nat → Nat} (h : AInv WS M V) (hok : Okr 50 WS) (t : Nat) : (allOf (recsM M t)).Nodup := by
  unfold recsM
  rw [allOf_append, allOf_append, allOf_recM, allOf_recM, h.ws]
  have d12 : ∀ x ∈ M.us, x ∉ allOf WS := fun x hx k => by
    have a1 := (h.k1 x).2 hx
    have a2 := (h.k2 x).2 ((h.wa x).2 k)
    omega
  have d14 : ∀ x ∈ M.us, x ∉ M.go := fun x hx k => by
    have a1 := (h.k1 x).2 hx
    have a2 := (h.k4 x).2 k
    omega
  have d24 : ∀ x ∈ allOf WS, x ∉ M.go := fun x hx k => by
    have a1 := (h.k2 x).2 ((h.wa x).2 hx)
    have a2 := (h.k4 x).2 k
    omega
  refine List.nodup_append.2 ⟨List.nodup_append.2 ⟨srt_nodup h.su, okr_nodup hok, fun a ha b hb e => d12 a ha (e ▸ hb)⟩, srt_nodup h.sg, fun a ha b hb e => ?_⟩
  rcases List.mem_append.1 ha with ha | ha
  · exact d14 a ha (e ▸ hb)
  · exact d24 a ha (e ▸ hb)
theorem recs_count {WS : List Rc} {M : Sp} {V : Nat → Nat} (h : AInv WS M V) (hok : Okr 50 WS) (t : Nat) : (allOf (recsM M t)).length = goods V 60 := by
  unfold goods
  refine List.Perm.length_eq ?_
  refine (List.perm_ext_iff_of_nodup (recs_nodup h hok t) (List.nodup_range.filter _)).2 fun p => ?_
  rw [recs_mem h t p, List.mem_filter, List.mem_range]
  refine ⟨fun k => ⟨?_, k⟩, fun k => k.2⟩
  have hn : V p ≠ 0 := by rcases good_iff.1 k with e | e | e <;> omega
  have := h.rg p hn
  have := h.en2
  omega
theorem recs_right {WS : List Rc} {M : Sp} {V : Nat → Nat} (h : AInv WS M V) (hok : Okr 50 WS) (t : Nat) (h0 : ∀ r ∈ WS, 0 < r.1 ∧ r.1 < t) (ht : 0 < t) : right (recsM M t) M.en = true := by
  have hnd := recs_nodup h hok t
  have hp : ∀ p ∈ allOf (recsM M t), 2 ≤ p ∧ p < M.en := fun p hp => by
    have k := (recs_mem h t p).1 hp
    exact h.rg p (by rcases good_iff.1 k with e | e | e <;> omega)
  refine right_iff.2 ⟨?_, fun r hr => ?_, ?_⟩
  · unfold recsM
    rw [h.ws]
    have f1 : ∀ {L : List Nat} {t : Nat} {r : Rc}, r ∈ recM L t → r = (t, L) := fun {L t r} hr => by
      unfold recM at hr
      split at hr
      · cases hr
      · simpa using hr
    have f2 : ∀ (L : List Nat) (t : Nat), (recM L t).Pairwise (fun a b : Rc => a.1 < b.1) := fun L t => by
      unfold recM; split
      · exact List.Pairwise.nil
      · exact List.pairwise_singleton _ _
    refine List.pairwise_append.2 ⟨List.pairwise_append.2 ⟨f2 _ _, hok.txns, fun a ha b hb => ?_⟩, f2 _ _, fun a ha b hb => ?_⟩
    · rw [f1 ha]; exact (h0 b hb).1
    · rw [f1 hb]
      rcases List.mem_append.1 ha with ha | ha
      · rw [f1 ha]; exact ht
      · exact (h0 a ha).2
  · have hsub : ∀ x ∈ r.2, 2 ≤ x ∧ x < M.en := fun x hx => hp x (mem_allOf.2 ⟨r, hr, hx⟩)
    have hsr : Srt r.2 ∧ r.2 ≠ [] := by
      unfold recsM at hr
      rw [h.ws] at hr
      rcases List.mem_append.1 hr with hr | hr
      · rcases List.mem_append.1 hr with hr | hr
        · unfold recM at hr
          split at hr
          · cases hr
          · rename_i hne
            obtain rfl : r = (0, M.us) := by simpa using hr
            exact ⟨h.su, hne⟩
        · exact ⟨(hok.each r hr).1, (hok.each r hr).2.2⟩
      · unfold recM at hr
        split at hr
        · cases hr
        · rename_i hne
          obtain rfl : r = (t, M.go) := by simpa using hr
          exact ⟨h.sg, hne⟩
    exact ⟨hsr.1, hsub, hsr.2⟩
  · have : ∀ l : List Rc, (allOf l).Nodup → l.Pairwise (fun a b : Rc => ∀ x ∈ a.2, x ∉ b.2) := fun l => by
      induction l with
      | nil => intro _; exact List.Pairwise.nil
      | cons r l ih =>
        intro hn
        have e : allOf (r :: l) = r.2 ++ allOf l := rfl
        rw [e] at hn
        obtain ⟨_, n2, n3⟩ := List.nodup_append.1 hn
        exact List.pairwise_cons.2 ⟨fun b hb x hx k => n3 x hx x (mem_allOf.2 ⟨b, hb, k⟩) rfl, ih n2⟩
    exact this _ hnd

end Go.Proofs.Ytoaglkbobndmeab
