/-
  Layer 8: a space beside the document's: plain. Own work; its first part is printed by tools/mkplain8.py out of SpcY's text.
-/
import Derived.Test.YtoaglkbobndmeabSpcDC
import Derived.Deep.CutBlock

namespace Go.Proofs.Ytoaglkbobndmeab

structure BInv (E0 L : Nat) (WS : List Rc) (M : Sp) (V : Nat → Nat) : Prop where
  lim : M.lim = L
  en1 : E0 ≤ M.en
  en2 : M.en ≤ L
  low : ∀ x ∈ M.us, M.low ≤ x
  su : Srt M.us
  sg : Srt M.go
  k1 : ∀ p, V p = 1 ↔ p ∈ M.us
  k2 : ∀ p, V p = 2 ↔ p ∈ M.wa
  k3 : ∀ p, V p = 3 ↔ p ∈ M.fr
  k4 : ∀ p, V p = 4 ↔ p ∈ M.go
  rg : ∀ p, V p ≠ 0 → 2 ≤ p ∧ p < M.en
  v4 : ∀ p, V p ≤ 4
  ws : M.ws = WS
  wa : ∀ p, p ∈ M.wa ↔ p ∈ allOf WS

theorem bpart_take {E0 L : Nat} {WS : List Rc} {M : Sp} {V : Nat → Nat} (h : BInv E0 L WS M V) {M' : Sp} {p : Nat} {e : Int} (hE : 2 ≤ E0) (ht : takeM M = (M', p, e)) :
    (e = 0 ∧ 2 ≤ p ∧ p < L ∧ (p < E0 → V p = 1) ∧ (E0 ≤ p → V p ≤ 1) ∧ BInv E0 L WS M' (upd V p 3)) ∨ (e = 21 ∧ M' = M ∧ p = 0) := by
  unfold takeM at ht
  cases hu : M.us with
  | cons q r =>
    rw [hu] at ht
    simp only at ht
    injection ht with h1 h2
    injection h2 with h2 h3
    subst h1 h2 h3
    have hs := h.su
    rw [hu] at hs
    obtain ⟨s1, s2⟩ := List.pairwise_cons.1 hs
    have hV : V q = 1 := (h.k1 q).2 (by rw [hu]; exact List.mem_cons_self)
    have hr := h.rg q (by rw [hV]; decide)
    have hqr : q ∉ r := fun k => by have := s1 q k; omega
    have hen := h.en2
    refine .inl ⟨rfl, hr.1, by omega, fun _ => hV, fun _ => by omega, ⟨h.lim, h.en1, h.en2, fun x hx => Nat.le_of_lt (s1 x hx), s2, h.sg, fun x => ?_, fun x => ?_, fun x => ?_, fun x => ?_, fun x hx => ?_, fun x => ?_, h.ws, h.wa⟩⟩
    · show _ ↔ x ∈ r
      by_cases e : x = q
      · subst e; rw [upd_same]; constructor
        · intro k; omega
        · intro k; exact absurd k hqr
      · rw [upd_other V 3 e, h.k1 x, hu, List.mem_cons]
        exact ⟨fun k => k.resolve_left e, .inr⟩
    · show _ ↔ x ∈ M.wa
      by_cases e : x = q
      · subst e; rw [upd_same, ← h.k2]; omega
      · rw [upd_other V 3 e, h.k2 x]
    · show _ ↔ x ∈ ins q M.fr
      rw [mem_ins]
      by_cases e : x = q
      · subst e; rw [upd_same]; simp
      · rw [upd_other V 3 e, h.k3 x]
        exact ⟨.inr, fun k => k.resolve_left e⟩
    · show _ ↔ x ∈ M.go
      by_cases e : x = q
      · subst e; rw [upd_same, ← h.k4]; omega
      · rw [upd_other V 3 e, h.k4 x]
    · by_cases e : x = q
      · subst e; exact hr
      · rw [upd_other V 3 e] at hx; exact h.rg x hx
    · by_cases e : x = q
      · subst e; rw [upd_same]; decide
      · rw [upd_other V 3 e]; exact h.v4 x
  | nil =>
    rw [hu] at ht
    simp only at ht
    split at ht
    · injection ht with h1 h2
      injection h2 with h2 h3
      exact .inr ⟨h3.symm, h1.symm, h2.symm⟩
    · rename_i he
      injection ht with h1 h2
      injection h2 with h2 h3
      subst h1 h2 h3
      have h60 : M.en < L := by have := h.en2; have := h.lim; omega
      have hV : V M.en = 0 := by
        rcases Nat.eq_zero_or_pos (V M.en) with e | e
        · exact e
        · have := (h.rg M.en (by omega)).2; omega
      have hen := h.en1
      refine .inl ⟨rfl, by omega, h60, fun k => by omega, fun _ => by omega, ⟨h.lim, Nat.le_succ_of_le h.en1, h60, fun x hx => h.low x (by rw [hu]; exact hx), List.Pairwise.nil, h.sg, fun x => ?_, fun x => ?_, fun x => ?_, fun x => ?_, fun x hx => ?_, fun x => ?_, h.ws, h.wa⟩⟩
      · show _ ↔ x ∈ []
        rw [← hu]
        by_cases e : x = M.en
        · subst e; rw [upd_same, ← h.k1]; omega
        · rw [upd_other V 3 e, h.k1 x]
      · show _ ↔ x ∈ M.wa
        by_cases e : x = M.en
        · subst e; rw [upd_same, ← h.k2]; omega
        · rw [upd_other V 3 e, h.k2 x]
      · show _ ↔ x ∈ ins M.en M.fr
        rw [mem_ins]
        by_cases e : x = M.en
        · subst e; rw [upd_same]; simp
        · rw [upd_other V 3 e, h.k3 x]
          exact ⟨.inr, fun k => k.resolve_left e⟩
      · show _ ↔ x ∈ M.go
        by_cases e : x = M.en
        · subst e; rw [upd_same, ← h.k4]; omega
        · rw [upd_other V 3 e, h.k4 x]
      · show 2 ≤ x ∧ x < M.en + 1
        by_cases e : x = M.en
        · omega
        · rw [upd_other V 3 e] at hx
          have := h.rg x hx; omega
      · by_cases e : x = M.en
        · subst e; rw [upd_same]; decide
        · rw [upd_other V 3 e]; exact h.v4 x

theorem bpart_give {E0 L : Nat} {WS : List Rc} {M : Sp} {V : Nat → Nat} (h : BInv E0 L WS M V) {M' : Sp} {p : Nat} {e : Int} (ht : giveM M p = (M', e)) :
    (e = 0 ∧ V p = 3 ∧ BInv E0 L WS M' (upd V p 1)) ∨ (e = 0 ∧ V p = 0 ∧ BInv E0 L WS M' (upd V p 4)) ∨ (e = 1 ∧ M' = M) := by
  unfold giveM at ht
  split at ht
  · rename_i hf
    injection ht with h1 h2
    subst h1 h2
    have hV : V p = 3 := (h.k3 p).2 hf
    have hr := h.rg p (by rw [hV]; decide)
    refine .inl ⟨rfl, hV, ⟨h.lim, h.en1, h.en2, fun x hx => ?_, srt_ins h.su, h.sg, fun x => ?_, fun x => ?_, fun x => ?_, fun x => ?_, fun x hx => ?_, fun x => ?_, h.ws, h.wa⟩⟩
    · show min M.low p ≤ x
      rcases mem_ins.1 (show x ∈ ins p M.us from hx) with e | e
      · rw [e]; exact Nat.min_le_right _ _
      · exact Nat.le_trans (Nat.min_le_left _ _) (h.low x e)
    · show _ ↔ x ∈ ins p M.us
      rw [mem_ins]
      by_cases e : x = p
      · subst e; rw [upd_same]; simp
      · rw [upd_other V 1 e, h.k1 x]
        exact ⟨.inr, fun k => k.resolve_left e⟩
    · show _ ↔ x ∈ M.wa
      by_cases e : x = p
      · subst e; rw [upd_same, ← h.k2]; omega
      · rw [upd_other V 1 e, h.k2 x]
    · show _ ↔ x ∈ del p M.fr
      rw [mem_del]
      by_cases e : x = p
      · subst e; rw [upd_same]; simp
      · rw [upd_other V 1 e, h.k3 x]
        exact ⟨fun k => ⟨k, e⟩, fun k => k.1⟩
    · show _ ↔ x ∈ M.go
      by_cases e : x = p
      · subst e; rw [upd_same, ← h.k4]; omega
      · rw [upd_other V 1 e, h.k4 x]
    · show 2 ≤ x ∧ x < M.en
      by_cases e : x = p
      · subst e; exact hr
      · rw [upd_other V 1 e] at hx; exact h.rg x hx
    · by_cases e : x = p
      · subst e; rw [upd_same]; decide
      · rw [upd_other V 1 e]; exact h.v4 x
  · rename_i hf
    split at ht
    · rename_i hi
      injection ht with h1 h2
      subst h1 h2
      unfold inUseM at hi
      simp only [Bool.and_eq_true, decide_eq_true_eq, Bool.not_eq_true', decide_eq_false_iff_not] at hi
      obtain ⟨⟨⟨⟨⟨i1, i2⟩, i3⟩, i4⟩, i5⟩, i6⟩ := hi
      have n1 : V p ≠ 1 := fun k => i3 ((h.k1 p).1 k)
      have n2 : V p ≠ 2 := fun k => i6 ((h.k2 p).1 k)
      have n3 : V p ≠ 3 := fun k => i4 ((h.k3 p).1 k)
      have n4 : V p ≠ 4 := fun k => i5 ((h.k4 p).1 k)
      have hv := h.v4 p
      have hV : V p = 0 := by omega
      refine .inr (.inl ⟨rfl, hV, ⟨h.lim, h.en1, h.en2, h.low, h.su, srt_ins h.sg, fun x => ?_, fun x => ?_, fun x => ?_, fun x => ?_, fun x hx => ?_, fun x => ?_, h.ws, h.wa⟩⟩)
      · show _ ↔ x ∈ M.us
        by_cases e : x = p
        · subst e; rw [upd_same, ← h.k1]; omega
        · rw [upd_other V 4 e, h.k1 x]
      · show _ ↔ x ∈ M.wa
        by_cases e : x = p
        · subst e; rw [upd_same, ← h.k2]; omega
        · rw [upd_other V 4 e, h.k2 x]
      · show _ ↔ x ∈ M.fr
        by_cases e : x = p
        · subst e; rw [upd_same, ← h.k3]; omega
        · rw [upd_other V 4 e, h.k3 x]
      · show _ ↔ x ∈ ins p M.go
        rw [mem_ins]
        by_cases e : x = p
        · subst e; rw [upd_same]; simp
        · rw [upd_other V 4 e, h.k4 x]
          exact ⟨.inr, fun k => k.resolve_left e⟩
      · show 2 ≤ x ∧ x < M.en
        by_cases e : x = p
        · subst e; exact ⟨i1, i2⟩
        · rw [upd_other V 4 e] at hx; exact h.rg x hx
      · by_cases e : x = p
        · subst e; rw [upd_same]; decide
        · rw [upd_other V 4 e]; exact h.v4 x
    · injection ht with h1 h2
      exact .inr (.inr ⟨h2.symm, h1.symm⟩)


theorem bpart_start {old E0 L : Nat} {rs : List Rc} (hEL : E0 ≤ L) (hok : Okr E0 rs) : BInv E0 L (newRecs old rs) (spOf E0 L old rs) (fillR old (fun _ => 0) rs) := by
  have hnd := okr_nodup hok
  have hat := fillR_at old rs (fun _ => 0) hnd
  have hex : ∀ x, x ∈ allOf (oldRecs old rs) → x ∈ allOf (newRecs old rs) → False := fun x h1 h2 => by
    obtain ⟨a, ha, hxa⟩ := mem_allOf.1 h1
    obtain ⟨b, hb, hxb⟩ := mem_allOf.1 h2
    obtain ⟨ha1, ha2⟩ := List.mem_filter.1 ha
    obtain ⟨hb1, hb2⟩ := List.mem_filter.1 hb
    have hne : a ≠ b := fun e => by subst e; simp [ha2] at hb2
    have hp : rs.Pairwise (fun a b : Rc => ∀ x ∈ a.2, x ∉ b.2) := hok.apart
    obtain ⟨i, hi, e1⟩ := List.mem_iff_getElem.1 ha1
    obtain ⟨j, hj, e2⟩ := List.mem_iff_getElem.1 hb1
    rcases Nat.lt_trichotomy i j with k | k | k
    · have := List.pairwise_iff_getElem.1 hp i j hi hj k x (by rw [e1]; exact hxa)
      rw [e2] at this; exact this hxb
    · subst k; exact hne (e1.symm.trans e2)
    · have := List.pairwise_iff_getElem.1 hp j i hj hi k x (by rw [e2]; exact hxb)
      rw [e1] at this; exact this hxa
  have hr : ∀ x ∈ allOf rs, 2 ≤ x ∧ x < E0 := okr_range hok
  have so : ∀ x, x ∈ allOf (oldRecs old rs) → x ∈ allOf rs := fun x hx => by
    obtain ⟨a, ha, hx⟩ := mem_allOf.1 hx
    exact mem_allOf.2 ⟨a, (List.mem_filter.1 ha).1, hx⟩
  have sn : ∀ x, x ∈ allOf (newRecs old rs) → x ∈ allOf rs := fun x hx => by
    obtain ⟨a, ha, hx⟩ := mem_allOf.1 hx
    exact mem_allOf.2 ⟨a, (List.mem_filter.1 ha).1, hx⟩
  have mu : ∀ x, x ∈ (spOf E0 L old rs).us ↔ x ∈ allOf (oldRecs old rs) := fun x => by
    show x ∈ insAll _ [] ↔ _
    rw [mem_insAll]; simp
  have mw : ∀ x, x ∈ (spOf E0 L old rs).wa ↔ x ∈ allOf (newRecs old rs) := fun x => by
    show x ∈ insAll _ [] ↔ _
    rw [mem_insAll]; simp
  refine ⟨rfl, Nat.le_refl _, hEL, fun x hx => (hr x (so x ((mu x).1 hx))).1, srt_insAll List.Pairwise.nil, List.Pairwise.nil, fun p => ?_, fun p => ?_, fun p => ?_, fun p => ?_, fun p hp => ?_, fun p => ?_, rfl, mw⟩
  · rw [mu, hat]
    by_cases h1 : p ∈ allOf (oldRecs old rs)
    · simp [h1]
    · rw [if_neg h1]; split <;> simp [h1]
  · rw [mw, hat]
    by_cases h1 : p ∈ allOf (oldRecs old rs)
    · rw [if_pos h1]; exact ⟨fun k => by omega, fun k => (hex p h1 k).elim⟩
    · rw [if_neg h1]; split
      · rename_i h2; simp [h2]
      · rename_i h2; simp [h2]
  · show _ ↔ p ∈ []
    rw [hat]
    split
    · simp
    · split <;> simp
  · show _ ↔ p ∈ []
    rw [hat]
    split
    · simp
    · split <;> simp
  · show 2 ≤ p ∧ p < E0
    rw [hat] at hp
    split at hp
    · rename_i h1; exact hr p (so p h1)
    · split at hp
      · rename_i h1; exact hr p (sn p h1)
      · exact absurd rfl hp
  · rw [hat]
    split
    · decide
    · split <;> decide


/-! ### the document's lists -/
abbrev whF (wh : List Nat) : Nat → Nat := fun p => wh.getD p 0
theorem whF_set {wh : List Nat} {p x : Nat} (hp : p < wh.length) : whF (wh.set p x) = upd (whF wh) p x := by
  funext q
  by_cases e : q = p
  · subst e; simp [whF, upd_same, List.getD_eq_getElem?_getD, hp]
  · rw [upd_other _ _ e]; simp [whF, List.getD_eq_getElem?_getD, List.getElem?_set, Ne.symm e]
theorem whF_more {wh : List Nat} {x : Nat} : whF (wh ++ [x]) = upd (whF wh) wh.length x := by
  funext q
  by_cases e : q = wh.length
  · subst e; simp [whF, upd_same, List.getD_eq_getElem?_getD]
  · rw [upd_other _ _ e]
    simp only [whF, List.getD_eq_getElem?_getD]
    by_cases h : q < wh.length
    · rw [List.getElem?_append_left h]
    · rw [List.getElem?_append_right (by omega), List.getElem?_eq_none (show wh.length ≤ q by omega), List.getElem?_eq_none (by simp; omega)]
theorem whF_get {wh : List Nat} {p x : Nat} (h : whF wh p = x) (hp : p < wh.length) : wh[p]? = some x := by
  rw [← h, List.getElem?_eq_getElem hp]
  simp [whF, List.getD_eq_getElem?_getD, hp]
theorem get_whF {wh : List Nat} {p x : Nat} (h : wh[p]? = some x) : whF wh p = x := by simp [whF, List.getD_eq_getElem?_getD, h]
theorem someK_congr {f g : Nat → Bool} {n : Nat} (h : ∀ p, p < n → f p = g p) : someK f n = someK g n := by
  unfold someK
  exact List.filter_congr fun p hp => h p (List.mem_range.1 hp)
theorem someK_srt (f : Nat → Bool) (n : Nat) : Srt (someK f n) := List.pairwise_lt_range.filter _
theorem Waits.congr {wh wh' tx tx' : List Nat} {NR : List Rc} (h : Waits wh tx NR) (hn : wh.length ≤ wh'.length) (h1 : ∀ p, p < wh.length → (whF wh' p = 2 ↔ whF wh p = 2) ∧ whF tx' p = whF tx p) (h2 : ∀ p, wh.length ≤ p → p < wh'.length → whF wh' p ≠ 2) : Waits wh' tx' NR := by
  refine ⟨h.rise, h.pos, fun r hr => ⟨(h.some_ r hr).1, ?_⟩, fun p hp hp2 => ?_⟩
  · rw [← (h.some_ r hr).2]
    refine srt_ext (someK_srt _ _) (someK_srt _ _) fun p => ?_
    rw [mem_someK, mem_someK, Bool.and_eq_true, Bool.and_eq_true, beq_iff_eq, beq_iff_eq, beq_iff_eq, beq_iff_eq]
    constructor
    · rintro ⟨a, b, c⟩
      rcases Nat.lt_or_ge p wh.length with e | e
      · exact ⟨e, (h1 p e).1.1 b, by rw [← c]; exact (h1 p e).2.symm⟩
      · exact absurd b (h2 p e a)
    · rintro ⟨a, b, c⟩
      exact ⟨by omega, (h1 p a).1.2 b, by rw [← c]; exact (h1 p a).2⟩
  · rcases Nat.lt_or_ge p wh.length with e | e
    · obtain ⟨r, hr, he⟩ := h.all p e ((h1 p e).1.1 hp2)
      exact ⟨r, hr, by rw [he]; exact (h1 p e).2.symm⟩
    · exact absurd hp2 (h2 p e hp)

structure PI (L : Nat) (NR : List Rc) (M : Sp) (wh tx : List Nat) : Prop where
  b : BInv 2 L NR M (whF wh)
  hw : wh.length = M.en
  ht : tx.length = M.en
  w : Waits wh tx NR
theorem take_en {M M' : Sp} {p : Nat} {e : Int} (h : takeM M = (M', p, e)) (hp : p < M.en) (he : e = 0) : M'.en = M.en := by
  unfold takeM at h
  split at h
  · injection h with h1 h2; rw [← h1]
  · split at h
    · injection h with h1 h2; rw [← h1]
    · injection h with h1 h2; injection h2 with h2 h3; omega
theorem PI.set {L : Nat} {NR : List Rc} {M M' : Sp} {wh tx : List Nat} {p x y : Nat} (h : PI L NR M wh tx) (hp : p < wh.length) (hx : whF wh p = x) (h2 : x ≠ 2) (hy : y ≠ 2) (hb : BInv 2 L NR M' (upd (whF wh) p y)) (he : M'.en = M.en) : PI L NR M' (wh.set p y) tx := by
  refine ⟨by rw [whF_set hp]; exact hb, by rw [List.length_set, he]; exact h.hw, by rw [he]; exact h.ht, h.w.congr (by simp) (fun q hq => ⟨?_, rfl⟩) (fun q h1 h2 => absurd h2 (by simp; omega))⟩
  rw [whF_set hp]
  by_cases e : q = p
  · subst e; rw [upd_same, hx]; exact ⟨fun k => absurd k hy, fun k => absurd k h2⟩
  · rw [upd_other _ _ e]
theorem plays_take {L : Nat} {NR : List Rc} {M : Sp} {wh tx : List Nat} (h : PI L NR M wh tx) :
    (∃ p M', takeM M = (M', p, 0) ∧ wh[p]? = some 1 ∧ (∀ j, j < p → wh[j]? ≠ some 1) ∧ PI L NR M' (wh.set p 3) tx) ∨
    (takeM M = (M, 0, 21) ∧ (∀ x ∈ wh, x ≠ 1) ∧ L ≤ wh.length) ∨
    (∃ M', takeM M = (M', wh.length, 0) ∧ (∀ x ∈ wh, x ≠ 1) ∧ ¬ L ≤ wh.length ∧ PI L NR M' (wh ++ [3]) (tx ++ [0])) := by
  have none1 : M.us = [] → ∀ x ∈ wh, x ≠ 1 := fun hu x hx e => by
    obtain ⟨q, hq⟩ := List.mem_iff_getElem?.1 hx
    have := (h.b.k1 q).1 (by rw [get_whF hq, e])
    rw [hu] at this
    cases this
  cases hu : M.us with
  | cons q r =>
    have ht : takeM M = ({ M with low := q, us := r, fr := ins q M.fr }, q, 0) := by unfold takeM; rw [hu]
    have hV : whF wh q = 1 := (h.b.k1 q).2 (by rw [hu]; exact List.mem_cons_self)
    have hr := h.b.rg q (by rw [hV]; decide)
    have hql : q < wh.length := by rw [h.hw]; exact hr.2
    rcases bpart_take h.b (Nat.le_refl _) ht with ⟨_, _, _, _, _, hb⟩ | ⟨e, _⟩
    · refine .inl ⟨q, _, ht, whF_get hV hql, fun j hj e => ?_, h.set hql hV (by decide) (by decide) hb (take_en ht hr.2 rfl)⟩
      have hm := (h.b.k1 j).1 (get_whF e)
      have hs := h.b.su
      rw [hu] at hm hs
      have := srt_head hs hm
      omega
    · exact absurd e (by decide)
  | nil =>
    by_cases he : M.en = M.lim
    · have ht : takeM M = (M, 0, 21) := by unfold takeM; rw [hu]; simp [he]
      exact .inr (.inl ⟨ht, none1 hu, by rw [h.hw, he, h.b.lim]; exact Nat.le_refl _⟩)
    · have ht : takeM M = ({ M with en := M.en + 1, fr := ins M.en M.fr }, M.en, 0) := by unfold takeM; rw [hu]; simp [he]
      rcases bpart_take h.b (Nat.le_refl _) ht with ⟨_, _, _, _, _, hb⟩ | ⟨e, _⟩
      · refine .inr (.inr ⟨_, by rw [h.hw]; exact ht, none1 hu, ?_, ⟨by rw [whF_more, h.hw]; exact hb, by simp [h.hw], by simp [h.ht], h.w.congr (by simp) (fun p hp => ⟨?_, ?_⟩) (fun p h1 h2 => ?_)⟩⟩)
        · have := h.b.en2; have := h.b.lim; rw [h.hw]; omega
        · rw [whF_more, upd_other _ _ (by omega)]
        · rw [whF_more, upd_other _ _ (by rw [h.ht, ← h.hw]; omega)]
        · have : p = wh.length := by simp at h2; omega
          rw [this, whF_more, upd_same]; decide
      · exact absurd e (by decide)
theorem give_en {M M' : Sp} {p : Nat} {e : Int} (h : giveM M p = (M', e)) : M'.en = M.en := by
  unfold giveM at h
  split at h
  · injection h with h1 h2; rw [← h1]
  · split at h
    · injection h with h1 h2; rw [← h1]
    · injection h with h1 h2; rw [← h1]
theorem plays_give {L : Nat} {NR : List Rc} {M : Sp} {wh tx : List Nat} (h : PI L NR M wh tx) (p : Nat) :
    (∃ M', giveM M p = (M', 0) ∧ 2 ≤ p ∧ p < wh.length ∧ wh[p]? = some 3 ∧ PI L NR M' (wh.set p 1) tx) ∨
    (∃ M', giveM M p = (M', 0) ∧ 2 ≤ p ∧ p < wh.length ∧ wh[p]? = some 0 ∧ PI L NR M' (wh.set p 4) tx) ∨
    (giveM M p = (M, 1) ∧ (p < 2 ∨ wh.length ≤ p)) ∨ (giveM M p = (M, 1) ∧ 2 ≤ p ∧ p < wh.length ∧ ∃ x, wh[p]? = some x ∧ x ≠ 0 ∧ x ≠ 3) := by
  obtain ⟨M', e, hg⟩ : ∃ M' e, giveM M p = (M', e) := ⟨_, _, rfl⟩
  have hen := give_en hg
  rcases bpart_give h.b hg with ⟨rfl, hV, hb⟩ | ⟨rfl, hV, hb⟩ | ⟨rfl, hM⟩
  · have hr := h.b.rg p (by rw [hV]; decide)
    have hpl : p < wh.length := by rw [h.hw]; exact hr.2
    exact .inl ⟨M', hg, hr.1, hpl, whF_get hV hpl, h.set hpl hV (by decide) (by decide) hb hen⟩
  · have hr := hb.rg p (by rw [upd_same]; decide)
    have hpl : p < wh.length := by rw [h.hw, ← hen]; exact hr.2
    exact .inr (.inl ⟨M', hg, hr.1, hpl, whF_get hV hpl, h.set hpl hV (by decide) (by decide) hb hen⟩)
  · have hM' := hM.symm
    subst hM'
    by_cases hp : p < 2 ∨ wh.length ≤ p
    · exact .inr (.inr (.inl ⟨hg, hp⟩))
    · have hpl : p < wh.length := by omega
      refine .inr (.inr (.inr ⟨hg, by omega, hpl, whF wh p, whF_get rfl hpl, fun e => ?_, fun e => ?_⟩))
      · unfold giveM at hg
        split at hg
        · injection hg with _ h2; cases h2
        · split at hg
          · injection hg with _ h2; cases h2
          · rename_i hi
            refine hi ?_
            unfold inUseM
            simp only [Bool.and_eq_true, decide_eq_true_eq, Bool.not_eq_true', decide_eq_false_iff_not]
            have n1 : p ∉ M.us := fun k => by have := (h.b.k1 p).2 k; omega
            have n2 : p ∉ M.wa := fun k => by have := (h.b.k2 p).2 k; omega
            have n3 : p ∉ M.fr := fun k => by have := (h.b.k3 p).2 k; omega
            have n4 : p ∉ M.go := fun k => by have := (h.b.k4 p).2 k; omega
            have := h.hw
            exact ⟨⟨⟨⟨⟨by omega, by omega⟩, n1⟩, n3⟩, n4⟩, n2⟩
      · unfold giveM at hg
        split at hg
        · injection hg with _ h2; cases h2
        · rename_i hf
          exact hf ((h.b.k3 p).1 e)
theorem PI.fresh {L : Nat} {NR : List Rc} {M : Sp} {wh tx : List Nat} (h : PI L NR M wh tx) (p : Nat) : decide (p ∈ M.fr) = (decide (p < wh.length) && (whF wh p == 3)) := by
  by_cases hp : p < wh.length
  · by_cases e : whF wh p = 3
    · rw [decide_eq_true ((h.b.k3 p).1 e), decide_eq_true hp, e]; rfl
    · have : p ∉ M.fr := fun k => e ((h.b.k3 p).2 k)
      have e2 : (whF wh p == 3) = false := by simpa using e
      rw [e2]; simp [this]
  · have : p ∉ M.fr := fun k => by
      have h1 := (h.b.k3 p).2 k
      have := (h.b.rg p (by omega)).2
      have := h.hw
      omega
    simp [this, hp]
theorem PI.recs {L : Nat} {NR : List Rc} {M : Sp} {wh tx : List Nat} (h : PI L NR M wh tx) (t : Nat) : recsM M t = recM (someK (fun p => wh.getD p 0 == 1) wh.length) 0 ++ NR ++ recM (someK (fun p => wh.getD p 0 == 4) wh.length) t := by
  have k : ∀ (y : Nat) (S : List Nat), y ≠ 0 → Srt S → (∀ p, whF wh p = y ↔ p ∈ S) → someK (fun p => wh.getD p 0 == y) wh.length = S := fun y S hy hs hm => by
    refine srt_ext (someK_srt _ _) hs fun p => ?_
    rw [mem_someK, beq_iff_eq]
    constructor
    · rintro ⟨_, b⟩; exact (hm p).1 b
    · intro hp
      have hv := (hm p).2 hp
      exact ⟨by have := (h.b.rg p (by omega)).2; have := h.hw; omega, hv⟩
  unfold recsM
  rw [k 1 M.us (by decide) h.b.su h.b.k1, k 4 M.go (by decide) h.b.sg h.b.k4, h.b.ws]

/-! ### at first -/
theorem fillU_at (t : Nat) : ∀ (ps : List Nat) (T : Nat → Nat) (p : Nat), fillU t T ps p = if p ∈ ps then t else T p
  | [], T, p => by simp [fillU]
  | q :: ps, T, p => by
    show fillU t (upd T q t) ps p = _
    rw [fillU_at t ps]
    by_cases h1 : p ∈ ps
    · simp [h1]
    · rw [if_neg h1]
      by_cases e : p = q
      · subst e; simp [upd_same]
      · rw [upd_other _ _ e, if_neg (by simp [e, h1])]
theorem fillX_no : ∀ (rs : List Rc) (T : Nat → Nat) (p : Nat), p ∉ allOf rs → fillX T rs p = T p
  | [], T, p, _ => rfl
  | r :: rs, T, p, h => by
    have e : allOf (r :: rs) = r.2 ++ allOf rs := rfl
    rw [e, List.mem_append, not_or] at h
    show fillX (fillU r.1 T r.2) rs p = _
    rw [fillX_no rs _ p h.2, fillU_at, if_neg h.1]
theorem fillX_at : ∀ (rs : List Rc) (T : Nat → Nat), (allOf rs).Nodup → ∀ r ∈ rs, ∀ p ∈ r.2, fillX T rs p = r.1
  | [], _, _, r, hr, _, _ => by cases hr
  | r0 :: rs, T, hn, r, hr, p, hp => by
    have e : allOf (r0 :: rs) = r0.2 ++ allOf rs := rfl
    rw [e] at hn
    obtain ⟨_, n2, n3⟩ := List.nodup_append.1 hn
    show fillX (fillU r0.1 T r0.2) rs p = _
    rcases List.mem_cons.1 hr with e2 | e2
    · subst e2
      rw [fillX_no rs _ p (fun k => n3 p hp p k rfl), fillU_at, if_pos hp]
    · exact fillX_at rs _ n2 r e2 p hp
theorem plays_start {old en L : Nat} {rs : List Rc} (h2 : 2 ≤ en) (hEL : en ≤ L) (hok : Okr en rs) (h64 : ∀ r ∈ rs, r.1 < 18446744073709551616) :
    PI L (newRecs old rs) (spOf en L old rs) (mapR (fillR old (fun _ => 0) rs) en) (mapR (fillX (fun _ => 0) rs) en) := by
  have hb := bpart_start (old := old) hEL hok
  have hnd := okr_nodup hok
  have hat := fillR_at old rs (fun _ => 0) hnd
  have hlen : (mapR (fillR old (fun _ => 0) rs) en).length = en := mapR_len _ _
  have hwf : whF (mapR (fillR old (fun _ => 0) rs) en) = fillR old (fun _ => 0) rs := by
    funext p
    by_cases hp : p < en
    · exact get_whF (mapR_at hp)
    · have h0 : fillR old (fun _ => 0) rs p = 0 := by
        rcases Nat.eq_zero_or_pos (fillR old (fun _ => 0) rs p) with e | e
        · exact e
        · have := (hb.rg p (by omega)).2
          exact absurd this hp
      rw [h0]
      simp only [whF, List.getD_eq_getElem?_getD]
      rw [List.getElem?_eq_none (by rw [hlen]; omega)]
      rfl
  have htf : ∀ p, p < en → whF (mapR (fillX (fun _ => 0) rs) en) p = fillX (fun _ => 0) rs p := fun p hp => get_whF (mapR_at hp)
  have hb2 : BInv 2 L (newRecs old rs) (spOf en L old rs) (fillR old (fun _ => 0) rs) := ⟨hb.lim, h2, hb.en2, hb.low, hb.su, hb.sg, hb.k1, hb.k2, hb.k3, hb.k4, hb.rg, hb.v4, hb.ws, hb.wa⟩
  have hsub : ∀ r ∈ newRecs old rs, r ∈ rs := fun r hr => (List.mem_filter.1 hr).1
  have hmw : ∀ p, fillR old (fun _ => 0) rs p = 2 ↔ p ∈ allOf (newRecs old rs) := fun p => (hb.k2 p).trans (hb.wa p)
  refine ⟨by rw [hwf]; exact hb2, hlen, mapR_len _ _, ⟨hok.txns.filter _, fun r hr => ⟨?_, h64 r (hsub r hr)⟩, fun r hr => ⟨(hok.each r (hsub r hr)).2.2, ?_⟩, fun p hp hp2 => ?_⟩⟩
  · have := (List.mem_filter.1 hr).2
    have h3 : ¬ r.1 ≤ old := by simpa [isOld] using this
    omega
  · refine srt_ext (someK_srt _ _) (hok.each r (hsub r hr)).1 fun p => ?_
    rw [mem_someK, Bool.and_eq_true, beq_iff_eq, beq_iff_eq, hlen]
    show (p < en ∧ whF _ p = 2 ∧ whF _ p = r.1) ↔ _
    rw [hwf]
    constructor
    · rintro ⟨a, b, c⟩
      rw [htf p a] at c
      obtain ⟨r', hr', hp'⟩ := mem_allOf.1 ((hmw p).1 b)
      have c2 := fillX_at rs (fun _ => 0) hnd r' (hsub r' hr') p hp'
      have hpw : (newRecs old rs).Pairwise (fun a b => a.1 < b.1) := hok.txns.filter _
      have : r' = r := by
        obtain ⟨i, hi, e1⟩ := List.mem_iff_getElem.1 hr'
        obtain ⟨j, hj, e2⟩ := List.mem_iff_getElem.1 hr
        rcases Nat.lt_trichotomy i j with k | k | k
        · have := List.pairwise_iff_getElem.1 hpw i j hi hj k
          rw [e1, e2] at this; omega
        · subst k; exact e1.symm.trans e2
        · have := List.pairwise_iff_getElem.1 hpw j i hj hi k
          rw [e1, e2] at this; omega
      rw [← this]; exact hp'
    · intro hp
      have hpe := ((hok.each r (hsub r hr)).2.1 p hp).2
      exact ⟨hpe, (hmw p).2 (mem_allOf.2 ⟨r, hr, hp⟩), by rw [htf p hpe]; exact fillX_at rs _ hnd r (hsub r hr) p hp⟩
  · rw [hlen] at hp
    have hp3 : whF (mapR (fillR old (fun _ => 0) rs) en) p = 2 := hp2
    rw [hwf] at hp3
    obtain ⟨r, hr, hpr⟩ := mem_allOf.1 ((hmw p).1 hp3)
    refine ⟨r, hr, ?_⟩
    show r.1 = whF _ p
    rw [htf p hp]
    exact (fillX_at rs _ hnd r (hsub r hr) p hpr).symm

end Go.Proofs.Ytoaglkbobndmeab

namespace Go.Proofs.Ytoaglkbobndmeab
open Go.RowKit Go.Maps

noncomputable def spBody : Code := (Try.f3.body).getD .skip
noncomputable def spMax : Code := (blk 0 spBody).getD .skip
noncomputable def spActs : Code := (blk 2 spBody).getD .skip
noncomputable def spIn : Code := cL ((blk 3 spBody).getD .skip)
noncomputable def spCond : Code := cR (cL (cR spIn))
noncomputable def spTail : Code := cR (cR spIn)
theorem NRow.offT {t t' : TypeId} {e : Nat → Value} {base q : Nat} {w : World} {v : Value} {xs : List Nat} {cs : Array Value} {f : Nat × Nat} (h : NRow t e base w v xs) (hq : w.heap[q]? = some (.cells cs t' f)) (hne : t ≠ t') : v.ownBlock = none ∨ v.ownBlock ≠ some q := by
  cases hv : v.ownBlock with
  | none => exact .inl rfl
  | some k =>
    refine .inr fun e => ?_
    injection e with e
    subst e
    rcases h.2 with ⟨hl, _⟩ | ⟨q2, cap2, cur2, hl, _, hq2, _⟩
    · rw [hl] at hv; cases hv
    · rw [hl] at hv
      simp [Value.ownBlock] at hv
      subst hv
      rw [hq] at hq2
      injection hq2 with hq2
      injection hq2 with _ ht _
      exact hne ht.symm
theorem NRow.sfr {t : TypeId} {e : Nat → Value} {B base : Nat} {w w' : World} {v : Value} {xs : List Nat} (h : NRow t e base w v xs) (k : Sfr B w w') (hb : B + 5 ≤ base) : NRow t e base w' v xs := by
  refine ⟨h.1, ?_⟩
  rcases h.2 with hn | ⟨g, cap, cur, rfl, hg, hgg, r⟩
  · exact .inl hn
  · exact .inr ⟨g, cap, cur, rfl, hg, (k.block g (lt_of_block hgg) (.inr (by omega))).trans hgg, r⟩
/-- What stands in a round: the space; the document's, in a block of its own. -/
structure P8 (W : World) (B H base q lim : Nat) (M : Sp) (wh tx : List Nat) (w : World) : Prop where
  le : W.heap.size ≤ B ∧ B + 5 ≤ H ∧ H ≤ base ∧ base ≤ q
  s : SpAt B H w M
  bx : ∃ wa wc ta tc, w.heap[q]? = some (.cells (bx wa wh.length wc ta tx.length tc (lim : Int)) 40 (0, 0)) ∧ IRow base w (.slice wa wh.length wc) wh ∧ URow base w (.slice ta tx.length tc) tx
  gr : W.grownBy w none
theorem P8.grown {W w w' : World} {B H base q lim : Nat} {M : Sp} {wh tx : List Nat} (h : P8 W B H base q lim M wh tx w) (g : w.grownBy w' none) : P8 W B H base q lim M wh tx w' := by
  obtain ⟨wa, wc, ta, tc, h1, h2, h3⟩ := h.bx
  exact ⟨h.le, h.s.grown g, ⟨wa, wc, ta, tc, (g.block q (lt_of_block h1) (by simp)).trans h1, h2.grown g, h3.grown g⟩, gtrans h.gr g⟩
theorem P8.op {W w w' : World} {B H base q lim : Nat} {M M' : Sp} {wh tx : List Nat} (h : P8 W B H base q lim M wh tx w) (hs : SpAt B H w' M') (hf : Sfr B w w') : P8 W B H base q lim M' wh tx w' := by
  obtain ⟨l1, l2, l3, l4⟩ := h.le
  obtain ⟨wa, wc, ta, tc, h1, h2, h3⟩ := h.bx
  exact ⟨h.le, hs, ⟨wa, wc, ta, tc, (hf.block q (lt_of_block h1) (.inr (by omega))).trans h1, h2.sfr hf (by omega), h3.sfr hf (by omega)⟩, hf.grown h.gr l1⟩
theorem P8.turn {W w : World} {B H base q lim : Nat} {M : Sp} {wh tx wh' tx' : List Nat} {wa ta : Option Addr} {wc tc n m : Nat} (h : P8 W B H base q lim M wh tx w) (hi : IRow base w (.slice wa n wc) wh') (hu : URow base w (.slice ta m tc) tx') :
    P8 W B H base q lim M wh' tx' (((w.setCell ⟨q, 0, none⟩ (.slice wa n wc)).setCell ⟨q, 1, none⟩ (.slice ta m tc)).setCell ⟨q, 2, none⟩ (.int .i64 (lim : Int))) := by
  obtain ⟨l1, l2, l3, l4⟩ := h.le
  obtain ⟨wa0, wc0, ta0, tc0, h1, h2, h3⟩ := h.bx
  have hs := gset3 w q (.slice wa n wc) (.slice ta m tc) (.int .i64 (lim : Int))
  have hn := hi.len
  have hm := hu.len
  subst hn hm
  exact ⟨h.le, h.s.far hs (by omega) (by omega), ⟨wa, wc, ta, tc, store3 h1 _ _ _, hi.far hs (hi.offT h1 (by decide)), hu.far hs (hu.offT h1 (by decide))⟩, gnew h.gr hs (by omega)⟩
def ActAt (w : World) (qa kd pg : Nat) : Prop := w.heap[qa]? = some (.cells #[.int .u8 (kd : Int), .int .u32 (pg : Int)] 49 (0, 0))
theorem ActAt.grown {w w' : World} {qa kd pg : Nat} (h : ActAt w qa kd pg) (g : w.grownBy w' none) : ActAt w' qa kd pg := (g.block qa (lt_of_block h) (by simp)).trans h
theorem ActAt.op {w w' : World} {B qa kd pg : Nat} (h : ActAt w qa kd pg) (hf : Sfr B w w') (hq : B + 5 ≤ qa) : ActAt w' qa kd pg := (hf.block qa (lt_of_block h) (.inr hq)).trans h
theorem ActAt.turn {w : World} {q qa kd pg : Nat} {a b c : Value} {cs : Array Value} (h : ActAt w qa kd pg) (hq : w.heap[q]? = some (.cells cs 40 (0, 0))) : ActAt (((w.setCell ⟨q, 0, none⟩ a).setCell ⟨q, 1, none⟩ b).setCell ⟨q, 2, none⟩ c) qa kd pg := by
  refine ((gset3 w q a b c).block qa (lt_of_block h) fun e => ?_).trans h
  injection e with e
  subst e
  unfold ActAt at h
  rw [h] at hq
  injection hq with hq
  injection hq with _ ht _
  exact absurd ht (by decide)
theorem ActAt.cells {w : World} {qa kd pg : Nat} (h : ActAt w qa kd pg) : w.cell? ⟨qa, 0, none⟩ = some (.int .u8 (kd : Int)) ∧ w.cell? ⟨qa, 1, none⟩ = some (.int .u32 (pg : Int)) := by
  obtain ⟨a, b, _, _⟩ := cells2 h
  exact ⟨a, b⟩
theorem PI.lens {L : Nat} {NR : List Rc} {M : Sp} {wh tx : List Nat} (h : PI L NR M wh tx) : tx.length = wh.length ∧ M.us.length ≤ wh.length ∧ M.go.length ≤ wh.length ∧ M.en ≤ L := by
  have hr : ∀ x, whF wh x ≠ 0 → x < wh.length := fun x hx => by rw [h.hw]; exact (h.b.rg x hx).2
  refine ⟨h.ht.trans h.hw.symm, ?_, ?_, h.b.en2⟩
  · have := srt_len (N := wh.length) 0 h.b.su fun x hx => ⟨Nat.zero_le _, hr x (by have := (h.b.k1 x).2 hx; omega)⟩
    omega
  · have := srt_len (N := wh.length) 0 h.b.sg fun x hx => ⟨Nat.zero_le _, hr x (by have := (h.b.k4 x).2 hx; omega)⟩
    omega

end Go.Proofs.Ytoaglkbobndmeab

namespace Go.Proofs.Ytoaglkbobndmeab
open Go.RowKit Go.Maps

set_option maxRecDepth 1000000 in
set_option maxHeartbeats 8000000 in
theorem sptake_any (W w : World) (B H base q qa lim kd pg : Nat) (M : Sp) (NR : List Rc) (wh tx : List Nat) (h8 : P8 W B H base q lim M wh tx w) (ha : ActAt w qa kd pg) (hqa : B + 5 ≤ qa) (hpi : PI lim NR M wh tx) (hlim : lim ≤ 65536) (hsz : wh.length ≤ 4000) (hpg : pg < 4294967296)
    (u12 u24 u25 u26 u27 u28 u125 u126 u127 u128 u129 u130 u131 u132 u133 u134 u135 u136 u137 u138 u139 u140 u141 u142 u143 u144 u145 v0 v1 v2 v3 v4 v5 v6 v7 v8 v9 v10 v11 v13 v14 v15 v16 v18 v20 v21 v22 v29 v30 v31 v32 v33 v34 v35 v36 v37 v38 v39 v40 v41 v42 v43 v44 v45 v46 v47 v48 v49 v50 v51 v52 v53 v54 v55 v56 v57 v58 v59 v60 v61 v62 v63 v64 v65 v66 v67 v68 v69 v70 v71 v72 v73 v74 v75 v76 v77 v78 v79 v80 v81 v82 v83 v84 v85 v86 v87 v88 v89 v90 v91 v92 v93 v94 v95 v96 v97 v98 v99 v100 v101 v102 v103 v104 v105 v106 v107 v108 v109 v110 v111 v112 v113 v114 v115 v116 v117 v118 v119 v120 v121 v122 v123 v146 v147 v148 v149 v150 v151 v152 v153 v154 v155 v156 v157 v158 v159 v160 v161 v162 v163 v164 v165 v166 v167 v168 v169 v170 v171 v172 v173 v174 v175 v176 v177 v178 v179 v180 v181 v182 v183 v184 v185 v186 v187 v188 v189 v190 v191 v192 v193 v194 v195 v196 v197 v198 v199 v200 v201 v202 v203 v204 v205 v206 v207 v208 v209 v210 v211 v212 v213 v214 v215 v216 v217 v218 v219 v220 v221 v222 v223 v224 v225 v226 v227 v228 v229 v230 v231 v232 v233 v234 v235 v236 : Value) (Kc : Act → World → Prop) (Qc : Exit → Act → World → Prop)
    (hK : ∀ (x12 x24 x25 x26 x27 x28 x125 x126 x127 x128 x129 x130 x131 x132 x133 x134 x135 x136 x137 x138 x139 x140 x141 x142 x143 x144 x145 : Value) (M' : Sp) (wh' tx' : List Nat) (w5 : World), P8 W B H base q lim M' wh' tx' w5 → ActAt w5 qa kd pg → PI lim NR M' wh' tx' → wh'.length ≤ wh.length + 1 → Kc ⟨#[v0, v1, v2, v3, v4, v5, v6, v7, v8, v9, v10, v11, x12, v13, v14, v15, v16, .pointer (some ⟨B + 4, 0, none⟩), v18, .pointer (some ⟨q, 0, none⟩), v20, v21, v22, .pointer (some ⟨qa, 0, none⟩), x24, x25, x26, x27, x28, v29, v30, v31, v32, v33, v34, v35, v36, v37, v38, v39, v40, v41, v42, v43, v44, v45, v46, v47, v48, v49, v50, v51, v52, v53, v54, v55, v56, v57, v58, v59, v60, v61, v62, v63, v64, v65, v66, v67, v68, v69, v70, v71, v72, v73, v74, v75, v76, v77, v78, v79, v80, v81, v82, v83, v84, v85, v86, v87, v88, v89, v90, v91, v92, v93, v94, v95, v96, v97, v98, v99, v100, v101, v102, v103, v104, v105, v106, v107, v108, v109, v110, v111, v112, v113, v114, v115, v116, v117, v118, v119, v120, v121, v122, v123, .bool true, x125, x126, x127, x128, x129, x130, x131, x132, x133, x134, x135, x136, x137, x138, x139, x140, x141, x142, x143, x144, x145, v146, v147, v148, v149, v150, v151, v152, v153, v154, v155, v156, v157, v158, v159, v160, v161, v162, v163, v164, v165, v166, v167, v168, v169, v170, v171, v172, v173, v174, v175, v176, v177, v178, v179, v180, v181, v182, v183, v184, v185, v186, v187, v188, v189, v190, v191, v192, v193, v194, v195, v196, v197, v198, v199, v200, v201, v202, v203, v204, v205, v206, v207, v208, v209, v210, v211, v212, v213, v214, v215, v216, v217, v218, v219, v220, v221, v222, v223, v224, v225, v226, v227, v228, v229, v230, v231, v232, v233, v234, v235, v236], []⟩ w5) :
    Code.wp Try.prog spCond (Exit.then Kc Qc) ⟨#[v0, v1, v2, v3, v4, v5, v6, v7, v8, v9, v10, v11, u12, v13, v14, v15, v16, .pointer (some ⟨B + 4, 0, none⟩), v18, .pointer (some ⟨q, 0, none⟩), v20, v21, v22, .pointer (some ⟨qa, 0, none⟩), u24, u25, u26, u27, u28, v29, v30, v31, v32, v33, v34, v35, v36, v37, v38, v39, v40, v41, v42, v43, v44, v45, v46, v47, v48, v49, v50, v51, v52, v53, v54, v55, v56, v57, v58, v59, v60, v61, v62, v63, v64, v65, v66, v67, v68, v69, v70, v71, v72, v73, v74, v75, v76, v77, v78, v79, v80, v81, v82, v83, v84, v85, v86, v87, v88, v89, v90, v91, v92, v93, v94, v95, v96, v97, v98, v99, v100, v101, v102, v103, v104, v105, v106, v107, v108, v109, v110, v111, v112, v113, v114, v115, v116, v117, v118, v119, v120, v121, v122, v123, .bool true, u125, u126, u127, u128, u129, u130, u131, u132, u133, u134, u135, u136, u137, u138, u139, u140, u141, u142, u143, u144, u145, v146, v147, v148, v149, v150, v151, v152, v153, v154, v155, v156, v157, v158, v159, v160, v161, v162, v163, v164, v165, v166, v167, v168, v169, v170, v171, v172, v173, v174, v175, v176, v177, v178, v179, v180, v181, v182, v183, v184, v185, v186, v187, v188, v189, v190, v191, v192, v193, v194, v195, v196, v197, v198, v199, v200, v201, v202, v203, v204, v205, v206, v207, v208, v209, v210, v211, v212, v213, v214, v215, v216, v217, v218, v219, v220, v221, v222, v223, v224, v225, v226, v227, v228, v229, v230, v231, v232, v233, v234, v235, v236], []⟩ w := by
  conv => arg 2; whnf
  have HK := Lib.hid hK
  clear hK
  have H8 := Lib.hid h8
  have HA := Lib.hid ha
  have HPI := Lib.hid hpi
  obtain ⟨htl, -, -, hen⟩ := hpi.lens
  have hel := hpi.hw
  have HTL := Lib.hid htl
  have HEL := Lib.hid hel
  obtain ⟨l1, l2, l3, l4⟩ := h8.le
  clear h8 ha hpi htl hel
  rcases plays_take HPI.out with ⟨p, M', ht, hp1, hp2, hpi2⟩ | ⟨ht, hno, hfull⟩ | ⟨M', ht, hno, hfull, hpi2⟩
  · have HT := Lib.hid ht
    have HP1 := Lib.hid hp1
    have HP2 := Lib.hid hp2
    have HPI2 := Lib.hid hpi2
    have hpl : p < wh.length := (List.getElem?_eq_some_iff.1 hp1).1
    have hp32 : p < 4294967296 := by omega
    clear ht hp1 hp2 hpi2 hpl
    obtain ⟨wa, wc, ta, tc, hq, hi, hu⟩ := H8.out.bx
    have HQ := Lib.hid hq
    have HI := Lib.hid hi
    have HU := Lib.hid hu
    clear hq hi hu
    obtain ⟨n, hn⟩ : ∃ n, n = wh.length := ⟨_, rfl⟩
    obtain ⟨m, hm⟩ : ∃ m, m = tx.length := ⟨_, rfl⟩
    have HN := Lib.hid hn
    have HM := Lib.hid hm
    obtain ⟨n2, hn2⟩ : ∃ n, n = (wh.set p 3).length := ⟨_, rfl⟩
    obtain ⟨m2, hm2⟩ : ∃ m, m = (tx).length := ⟨_, rfl⟩
    have HN2 := Lib.hid hn2
    have HM2 := Lib.hid hm2
    clear hn hm hn2 hm2
    go_upto_region 22 with (first
      | (go_at_call 12; (with_reducible refine (take_at w B M M' p 0 H8.out.s (HPI.out.b.low) (by rw [HPI.out.b.lim]; exact HPI.out.b.en2) (by rw [HPI.out.b.lim]; exact hlim) HT.out).mono ?_); rintro r w6 ⟨rfl, hs, hsf⟩; have H6 := Lib.hid (H8.out.op hs hsf); have HA6 := Lib.hid (HA.out.op hsf hqa); have HQ6 := Lib.hid ((hsf.block q (lt_of_block HQ.out) (.inr (by omega))).trans HQ.out); have HI6 := Lib.hid (HI.out.sfr hsf (by omega)); have HU6 := Lib.hid (HU.out.sfr hsf (by omega)); have hqq := HQ6.out; rw [← HN.out, ← HM.out] at hqq; obtain ⟨k0, k1, k2, -⟩ := cells3 hqq; obtain ⟨p0, p1⟩ := HA6.out.cells; have hbs := Nat.le_of_lt (Nat.lt_of_le_of_lt l4 (lt_of_block HQ6.out)); clear hs hsf hqq)
      | go_in)
    go_upto_region 23 with (first
      | (go_at_call 13; have K := rtake_hit w6 base wa ta wc tc lim p wh tx hbs HI6.out HU6.out (by omega) HP1.out HP2.out; rw [← HN.out, ← HM.out] at K; (with_reducible refine K.mono ?_); clear K; rintro r w7 ⟨v7, u7, rfl, hi7, hu7, hg7⟩; obtain ⟨a7, c7, e7⟩ := hi7.shape; obtain ⟨b7, d7, e8⟩ := hu7.shape; rw [← HN2.out] at e7; rw [← HM2.out] at e8; subst e7 e8; have HI7 := Lib.hid hi7; have HU7 := Lib.hid hu7; have H7 := Lib.hid (H6.out.grown hg7); have HA7 := Lib.hid (HA6.out.grown hg7); have HQ7 := Lib.hid ((hg7.block _ (lt_of_block HQ6.out) (by simp)).trans HQ6.out); clear hi7 hu7 hg7)
      | go_in)
    have hal := World.grownBy_alloc w7 (.cells #[.slice a7 n2 c7, .slice b7 m2 d7, .int .i64 (lim : Int)] 40) none
    have HNW := Lib.hid (heap_alloc_new w7 (.cells #[.slice a7 n2 c7, .slice b7 m2 d7, .int .i64 (lim : Int)] 40))
    have H8' := Lib.hid (H7.out.grown hal)
    have HA8 := Lib.hid (HA7.out.grown hal)
    have HQ8 := Lib.hid ((hal.block _ (lt_of_block HQ7.out) (by simp)).trans HQ7.out)
    have HI8 := Lib.hid (HI7.out.grown hal)
    have HU8 := Lib.hid (HU7.out.grown hal)
    clear hal k0 k1 k2
    generalize w7.alloc (.cells #[.slice a7 n2 c7, .slice b7 m2 d7, .int .i64 (lim : Int)] 40) = W8 at HNW H8' HA8 HQ8 HI8 HU8 ⊢
    obtain ⟨k0, k1, k2, -⟩ := cells3 HNW.out
    obtain ⟨d0, d1, d2, f0, f1, f2⟩ := cells3 HQ8.out
    go_upto_region 24 with fail
    have H9 := Lib.hid (P8.turn H8'.out HI8.out HU8.out)
    have HA9 := Lib.hid (ActAt.turn (a := .slice a7 n2 c7) (b := .slice b7 m2 d7) (c := .int .i64 (lim : Int)) HA8.out HQ8.out)
    clear k0 k1 k2 d0 d1 d2 f0 f1 f2 H8' HA8 HQ8 HI8 HU8 HNW
    generalize ((W8.setCell ⟨q, 0, none⟩ (.slice a7 n2 c7)).setCell ⟨q, 1, none⟩ (.slice b7 m2 d7)).setCell ⟨q, 2, none⟩ (.int .i64 (lim : Int)) = W9 at H9 HA9 ⊢
    go_wp2
    exact HK.out _ _ _ _ _ _ _ _ _ _ _ _ _ _ _ _ _ _ _ _ _ _ _ _ _ _ _ M' _ _ W9 H9.out HA9.out HPI2.out (by simp)
  · have HT := Lib.hid ht
    have HNO := Lib.hid hno
    have HFL := Lib.hid hfull
    have HPI2 := HPI
    clear ht hno hfull
    obtain ⟨wa, wc, ta, tc, hq, hi, hu⟩ := H8.out.bx
    have HQ := Lib.hid hq
    have HI := Lib.hid hi
    have HU := Lib.hid hu
    clear hq hi hu
    obtain ⟨n, hn⟩ : ∃ n, n = wh.length := ⟨_, rfl⟩
    obtain ⟨m, hm⟩ : ∃ m, m = tx.length := ⟨_, rfl⟩
    have HN := Lib.hid hn
    have HM := Lib.hid hm
    obtain ⟨n2, hn2⟩ : ∃ n, n = (wh).length := ⟨_, rfl⟩
    obtain ⟨m2, hm2⟩ : ∃ m, m = (tx).length := ⟨_, rfl⟩
    have HN2 := Lib.hid hn2
    have HM2 := Lib.hid hm2
    clear hn hm hn2 hm2
    go_upto_region 22 with (first
      | (go_at_call 12; (with_reducible refine (take_full w B M H8.out.s (HPI.out.b.low) (by rw [HPI.out.b.lim]; exact HPI.out.b.en2) (by rw [HPI.out.b.lim]; exact hlim) HT.out).mono ?_); rintro r w6 ⟨rfl, hs, hsf⟩; have H6 := Lib.hid (H8.out.op hs hsf); have HA6 := Lib.hid (HA.out.op hsf hqa); have HQ6 := Lib.hid ((hsf.block q (lt_of_block HQ.out) (.inr (by omega))).trans HQ.out); have HI6 := Lib.hid (HI.out.sfr hsf (by omega)); have HU6 := Lib.hid (HU.out.sfr hsf (by omega)); have hqq := HQ6.out; rw [← HN.out, ← HM.out] at hqq; obtain ⟨k0, k1, k2, -⟩ := cells3 hqq; obtain ⟨p0, p1⟩ := HA6.out.cells; have hbs := Nat.le_of_lt (Nat.lt_of_le_of_lt l4 (lt_of_block HQ6.out)); clear hs hsf hqq)
      | go_in)
    go_upto_region 23 with (first
      | (go_at_call 13; have K := rtake_full w6 base wa ta wc tc lim wh tx hbs HI6.out HU6.out (by omega) HNO.out HFL.out; rw [← HN.out, ← HM.out] at K; (with_reducible refine K.mono ?_); clear K; rintro r w7 ⟨v7, u7, rfl, hi7, hu7, hg7⟩; obtain ⟨a7, c7, e7⟩ := hi7.shape; obtain ⟨b7, d7, e8⟩ := hu7.shape; rw [← HN2.out] at e7; rw [← HM2.out] at e8; subst e7 e8; have HI7 := Lib.hid hi7; have HU7 := Lib.hid hu7; have H7 := Lib.hid (H6.out.grown hg7); have HA7 := Lib.hid (HA6.out.grown hg7); have HQ7 := Lib.hid ((hg7.block _ (lt_of_block HQ6.out) (by simp)).trans HQ6.out); clear hi7 hu7 hg7)
      | go_in)
    have hal := World.grownBy_alloc w7 (.cells #[.slice a7 n2 c7, .slice b7 m2 d7, .int .i64 (lim : Int)] 40) none
    have HNW := Lib.hid (heap_alloc_new w7 (.cells #[.slice a7 n2 c7, .slice b7 m2 d7, .int .i64 (lim : Int)] 40))
    have H8' := Lib.hid (H7.out.grown hal)
    have HA8 := Lib.hid (HA7.out.grown hal)
    have HQ8 := Lib.hid ((hal.block _ (lt_of_block HQ7.out) (by simp)).trans HQ7.out)
    have HI8 := Lib.hid (HI7.out.grown hal)
    have HU8 := Lib.hid (HU7.out.grown hal)
    clear hal k0 k1 k2
    generalize w7.alloc (.cells #[.slice a7 n2 c7, .slice b7 m2 d7, .int .i64 (lim : Int)] 40) = W8 at HNW H8' HA8 HQ8 HI8 HU8 ⊢
    obtain ⟨k0, k1, k2, -⟩ := cells3 HNW.out
    obtain ⟨d0, d1, d2, f0, f1, f2⟩ := cells3 HQ8.out
    go_upto_region 24 with fail
    have H9 := Lib.hid (P8.turn H8'.out HI8.out HU8.out)
    have HA9 := Lib.hid (ActAt.turn (a := .slice a7 n2 c7) (b := .slice b7 m2 d7) (c := .int .i64 (lim : Int)) HA8.out HQ8.out)
    clear k0 k1 k2 d0 d1 d2 f0 f1 f2 H8' HA8 HQ8 HI8 HU8 HNW
    generalize ((W8.setCell ⟨q, 0, none⟩ (.slice a7 n2 c7)).setCell ⟨q, 1, none⟩ (.slice b7 m2 d7)).setCell ⟨q, 2, none⟩ (.int .i64 (lim : Int)) = W9 at H9 HA9 ⊢
    go_wp2
    exact HK.out _ _ _ _ _ _ _ _ _ _ _ _ _ _ _ _ _ _ _ _ _ _ _ _ _ _ _ M _ _ W9 H9.out HA9.out HPI2.out (by omega)
  · have HT := Lib.hid ht
    have HNO := Lib.hid hno
    have HFL := Lib.hid hfull
    have HPI2 := Lib.hid hpi2
    have hle : wh.length < 4294967296 := by omega
    clear ht hno hfull hpi2
    obtain ⟨wa, wc, ta, tc, hq, hi, hu⟩ := H8.out.bx
    have HQ := Lib.hid hq
    have HI := Lib.hid hi
    have HU := Lib.hid hu
    clear hq hi hu
    obtain ⟨n, hn⟩ : ∃ n, n = wh.length := ⟨_, rfl⟩
    obtain ⟨m, hm⟩ : ∃ m, m = tx.length := ⟨_, rfl⟩
    have HN := Lib.hid hn
    have HM := Lib.hid hm
    obtain ⟨n2, hn2⟩ : ∃ n, n = (wh ++ [3]).length := ⟨_, rfl⟩
    obtain ⟨m2, hm2⟩ : ∃ m, m = (tx ++ [0]).length := ⟨_, rfl⟩
    have HN2 := Lib.hid hn2
    have HM2 := Lib.hid hm2
    clear hn hm hn2 hm2
    have HT2 := Lib.hid (show takeM M = (M', n, 0) by rw [HN.out]; exact HT.out)
    rw [← HN.out] at hle
    go_upto_region 22 with (first
      | (go_at_call 12; (with_reducible refine (take_at w B M M' n 0 H8.out.s (HPI.out.b.low) (by rw [HPI.out.b.lim]; exact HPI.out.b.en2) (by rw [HPI.out.b.lim]; exact hlim) HT2.out).mono ?_); rintro r w6 ⟨rfl, hs, hsf⟩; have H6 := Lib.hid (H8.out.op hs hsf); have HA6 := Lib.hid (HA.out.op hsf hqa); have HQ6 := Lib.hid ((hsf.block q (lt_of_block HQ.out) (.inr (by omega))).trans HQ.out); have HI6 := Lib.hid (HI.out.sfr hsf (by omega)); have HU6 := Lib.hid (HU.out.sfr hsf (by omega)); have hqq := HQ6.out; rw [← HN.out, ← HM.out] at hqq; obtain ⟨k0, k1, k2, -⟩ := cells3 hqq; obtain ⟨p0, p1⟩ := HA6.out.cells; have hbs := Nat.le_of_lt (Nat.lt_of_le_of_lt l4 (lt_of_block HQ6.out)); clear hs hsf hqq)
      | go_in)
    go_upto_region 23 with (first
      | (go_at_call 13; have K := rtake_more w6 base wa ta wc tc lim wh tx hbs HI6.out HU6.out (by omega) HNO.out HFL.out (by have := HPI.out.b.en1; have := HEL.out; omega) HTL.out; rw [← HN.out, ← HM.out] at K; (with_reducible refine K.mono ?_); clear K; rintro r w7 ⟨v7, u7, rfl, hi7, hu7, hg7⟩; obtain ⟨a7, c7, e7⟩ := hi7.shape; obtain ⟨b7, d7, e8⟩ := hu7.shape; rw [← HN2.out] at e7; rw [← HM2.out] at e8; subst e7 e8; have HI7 := Lib.hid hi7; have HU7 := Lib.hid hu7; have H7 := Lib.hid (H6.out.grown hg7); have HA7 := Lib.hid (HA6.out.grown hg7); have HQ7 := Lib.hid ((hg7.block _ (lt_of_block HQ6.out) (by simp)).trans HQ6.out); clear hi7 hu7 hg7)
      | go_in)
    have hal := World.grownBy_alloc w7 (.cells #[.slice a7 n2 c7, .slice b7 m2 d7, .int .i64 (lim : Int)] 40) none
    have HNW := Lib.hid (heap_alloc_new w7 (.cells #[.slice a7 n2 c7, .slice b7 m2 d7, .int .i64 (lim : Int)] 40))
    have H8' := Lib.hid (H7.out.grown hal)
    have HA8 := Lib.hid (HA7.out.grown hal)
    have HQ8 := Lib.hid ((hal.block _ (lt_of_block HQ7.out) (by simp)).trans HQ7.out)
    have HI8 := Lib.hid (HI7.out.grown hal)
    have HU8 := Lib.hid (HU7.out.grown hal)
    clear hal k0 k1 k2
    generalize w7.alloc (.cells #[.slice a7 n2 c7, .slice b7 m2 d7, .int .i64 (lim : Int)] 40) = W8 at HNW H8' HA8 HQ8 HI8 HU8 ⊢
    obtain ⟨k0, k1, k2, -⟩ := cells3 HNW.out
    obtain ⟨d0, d1, d2, f0, f1, f2⟩ := cells3 HQ8.out
    go_upto_region 24 with fail
    have H9 := Lib.hid (P8.turn H8'.out HI8.out HU8.out)
    have HA9 := Lib.hid (ActAt.turn (a := .slice a7 n2 c7) (b := .slice b7 m2 d7) (c := .int .i64 (lim : Int)) HA8.out HQ8.out)
    clear k0 k1 k2 d0 d1 d2 f0 f1 f2 H8' HA8 HQ8 HI8 HU8 HNW
    generalize ((W8.setCell ⟨q, 0, none⟩ (.slice a7 n2 c7)).setCell ⟨q, 1, none⟩ (.slice b7 m2 d7)).setCell ⟨q, 2, none⟩ (.int .i64 (lim : Int)) = W9 at H9 HA9 ⊢
    go_wp2
    exact HK.out _ _ _ _ _ _ _ _ _ _ _ _ _ _ _ _ _ _ _ _ _ _ _ _ _ _ _ M' _ _ W9 H9.out HA9.out HPI2.out (by simp)

end Go.Proofs.Ytoaglkbobndmeab

namespace Go.Proofs.Ytoaglkbobndmeab
open Go.RowKit Go.Maps

set_option maxRecDepth 1000000 in
set_option maxHeartbeats 8000000 in
theorem spgive_any (W w : World) (B H base q qa lim kd pg : Nat) (M : Sp) (NR : List Rc) (wh tx : List Nat) (h8 : P8 W B H base q lim M wh tx w) (ha : ActAt w qa kd pg) (hqa : B + 5 ≤ qa) (hpi : PI lim NR M wh tx) (hlim : lim ≤ 65536) (hsz : wh.length ≤ 4000) (hpg : pg < 4294967296)
    (u12 u29 u30 u31 u146 u147 u148 u149 u150 u151 u152 u153 u154 u155 u156 u157 u158 u159 u160 v0 v1 v2 v3 v4 v5 v6 v7 v8 v9 v10 v11 v13 v14 v15 v16 v18 v20 v21 v22 v24 v25 v26 v27 v28 v32 v33 v34 v35 v36 v37 v38 v39 v40 v41 v42 v43 v44 v45 v46 v47 v48 v49 v50 v51 v52 v53 v54 v55 v56 v57 v58 v59 v60 v61 v62 v63 v64 v65 v66 v67 v68 v69 v70 v71 v72 v73 v74 v75 v76 v77 v78 v79 v80 v81 v82 v83 v84 v85 v86 v87 v88 v89 v90 v91 v92 v93 v94 v95 v96 v97 v98 v99 v100 v101 v102 v103 v104 v105 v106 v107 v108 v109 v110 v111 v112 v113 v114 v115 v116 v117 v118 v119 v120 v121 v122 v123 v125 v126 v127 v128 v129 v130 v131 v132 v133 v134 v135 v136 v137 v138 v139 v140 v141 v142 v143 v144 v145 v161 v162 v163 v164 v165 v166 v167 v168 v169 v170 v171 v172 v173 v174 v175 v176 v177 v178 v179 v180 v181 v182 v183 v184 v185 v186 v187 v188 v189 v190 v191 v192 v193 v194 v195 v196 v197 v198 v199 v200 v201 v202 v203 v204 v205 v206 v207 v208 v209 v210 v211 v212 v213 v214 v215 v216 v217 v218 v219 v220 v221 v222 v223 v224 v225 v226 v227 v228 v229 v230 v231 v232 v233 v234 v235 v236 : Value) (Kc : Act → World → Prop) (Qc : Exit → Act → World → Prop)
    (hK : ∀ (x12 x29 x30 x31 x146 x147 x148 x149 x150 x151 x152 x153 x154 x155 x156 x157 x158 x159 x160 : Value) (M' : Sp) (wh' tx' : List Nat) (w5 : World), P8 W B H base q lim M' wh' tx' w5 → ActAt w5 qa kd pg → PI lim NR M' wh' tx' → wh'.length ≤ wh.length + 1 → Kc ⟨#[v0, v1, v2, v3, v4, v5, v6, v7, v8, v9, v10, v11, x12, v13, v14, v15, v16, .pointer (some ⟨B + 4, 0, none⟩), v18, .pointer (some ⟨q, 0, none⟩), v20, v21, v22, .pointer (some ⟨qa, 0, none⟩), v24, v25, v26, v27, v28, x29, x30, x31, v32, v33, v34, v35, v36, v37, v38, v39, v40, v41, v42, v43, v44, v45, v46, v47, v48, v49, v50, v51, v52, v53, v54, v55, v56, v57, v58, v59, v60, v61, v62, v63, v64, v65, v66, v67, v68, v69, v70, v71, v72, v73, v74, v75, v76, v77, v78, v79, v80, v81, v82, v83, v84, v85, v86, v87, v88, v89, v90, v91, v92, v93, v94, v95, v96, v97, v98, v99, v100, v101, v102, v103, v104, v105, v106, v107, v108, v109, v110, v111, v112, v113, v114, v115, v116, v117, v118, v119, v120, v121, v122, v123, .bool false, v125, v126, v127, v128, v129, v130, v131, v132, v133, v134, v135, v136, v137, v138, v139, v140, v141, v142, v143, v144, v145, x146, x147, x148, x149, x150, x151, x152, x153, x154, x155, x156, x157, x158, x159, x160, v161, v162, v163, v164, v165, v166, v167, v168, v169, v170, v171, v172, v173, v174, v175, v176, v177, v178, v179, v180, v181, v182, v183, v184, v185, v186, v187, v188, v189, v190, v191, v192, v193, v194, v195, v196, v197, v198, v199, v200, v201, v202, v203, v204, v205, v206, v207, v208, v209, v210, v211, v212, v213, v214, v215, v216, v217, v218, v219, v220, v221, v222, v223, v224, v225, v226, v227, v228, v229, v230, v231, v232, v233, v234, v235, v236], []⟩ w5) :
    Code.wp Try.prog spCond (Exit.then Kc Qc) ⟨#[v0, v1, v2, v3, v4, v5, v6, v7, v8, v9, v10, v11, u12, v13, v14, v15, v16, .pointer (some ⟨B + 4, 0, none⟩), v18, .pointer (some ⟨q, 0, none⟩), v20, v21, v22, .pointer (some ⟨qa, 0, none⟩), v24, v25, v26, v27, v28, u29, u30, u31, v32, v33, v34, v35, v36, v37, v38, v39, v40, v41, v42, v43, v44, v45, v46, v47, v48, v49, v50, v51, v52, v53, v54, v55, v56, v57, v58, v59, v60, v61, v62, v63, v64, v65, v66, v67, v68, v69, v70, v71, v72, v73, v74, v75, v76, v77, v78, v79, v80, v81, v82, v83, v84, v85, v86, v87, v88, v89, v90, v91, v92, v93, v94, v95, v96, v97, v98, v99, v100, v101, v102, v103, v104, v105, v106, v107, v108, v109, v110, v111, v112, v113, v114, v115, v116, v117, v118, v119, v120, v121, v122, v123, .bool false, v125, v126, v127, v128, v129, v130, v131, v132, v133, v134, v135, v136, v137, v138, v139, v140, v141, v142, v143, v144, v145, u146, u147, u148, u149, u150, u151, u152, u153, u154, u155, u156, u157, u158, u159, u160, v161, v162, v163, v164, v165, v166, v167, v168, v169, v170, v171, v172, v173, v174, v175, v176, v177, v178, v179, v180, v181, v182, v183, v184, v185, v186, v187, v188, v189, v190, v191, v192, v193, v194, v195, v196, v197, v198, v199, v200, v201, v202, v203, v204, v205, v206, v207, v208, v209, v210, v211, v212, v213, v214, v215, v216, v217, v218, v219, v220, v221, v222, v223, v224, v225, v226, v227, v228, v229, v230, v231, v232, v233, v234, v235, v236], []⟩ w := by
  conv => arg 2; whnf
  have HK := Lib.hid hK
  clear hK
  have H8 := Lib.hid h8
  have HA := Lib.hid ha
  have HPI := Lib.hid hpi
  obtain ⟨htl, -, -, hen⟩ := hpi.lens
  have hel := hpi.hw
  have HTL := Lib.hid htl
  have HEL := Lib.hid hel
  obtain ⟨l1, l2, l3, l4⟩ := h8.le
  clear h8 ha hpi htl hel
  rcases plays_give HPI.out pg with ⟨M', hg, h2, hpl, hx, hpi2⟩ | ⟨M', hg, h2, hpl, hx, hpi2⟩ | ⟨hg, hno⟩ | ⟨hg, h2, hpl, x, hx, hx0, hx3⟩
  · have HT := Lib.hid hg
    have HX := Lib.hid hx
    have HPI2 := Lib.hid hpi2
    have HPL := Lib.hid (And.intro h2 hpl)
    clear hg hx hpi2 hpl h2
    obtain ⟨wa, wc, ta, tc, hq, hi, hu⟩ := H8.out.bx
    have HQ := Lib.hid hq
    have HI := Lib.hid hi
    have HU := Lib.hid hu
    clear hq hi hu
    obtain ⟨n, hn⟩ : ∃ n, n = wh.length := ⟨_, rfl⟩
    obtain ⟨m, hm⟩ : ∃ m, m = tx.length := ⟨_, rfl⟩
    have HN := Lib.hid hn
    have HM := Lib.hid hm
    obtain ⟨n2, hn2⟩ : ∃ n, n = (wh.set pg 1).length := ⟨_, rfl⟩
    obtain ⟨m2, hm2⟩ : ∃ m, m = (tx).length := ⟨_, rfl⟩
    have HN2 := Lib.hid hn2
    have HM2 := Lib.hid hm2
    clear hn hm hn2 hm2
    obtain ⟨p0, p1⟩ := HA.out.cells
    go_upto_region 27 with (first
      | (go_at_call 14; (with_reducible refine (give_at w B M M' pg 0 H8.out.s hpg HT.out).mono ?_); rintro r w6 ⟨rfl, hs, hsf⟩; have H6 := Lib.hid (H8.out.op hs hsf); have HA6 := Lib.hid (HA.out.op hsf hqa); have HQ6 := Lib.hid ((hsf.block q (lt_of_block HQ.out) (.inr (by omega))).trans HQ.out); have HI6 := Lib.hid (HI.out.sfr hsf (by omega)); have HU6 := Lib.hid (HU.out.sfr hsf (by omega)); have hqq := HQ6.out; rw [← HN.out, ← HM.out] at hqq; obtain ⟨k0, k1, k2, -⟩ := cells3 hqq; obtain ⟨p0, p1⟩ := HA6.out.cells; have hbs := Nat.le_of_lt (Nat.lt_of_le_of_lt l4 (lt_of_block HQ6.out)); clear hs hsf hqq)
      | go_in)
    go_upto_region 28 with (first
      | (go_at_call 15; have K := rgive_fresh w6 base wa ta wc tc lim pg wh tx hbs HI6.out HU6.out (by omega) hpg HPL.out.1 HPL.out.2 HX.out; rw [← HN.out, ← HM.out] at K; (with_reducible refine K.mono ?_); clear K; rintro r w7 ⟨v7, u7, rfl, hi7, hu7, hg7⟩; obtain ⟨a7, c7, e7⟩ := hi7.shape; obtain ⟨b7, d7, e8⟩ := hu7.shape; rw [← HN2.out] at e7; rw [← HM2.out] at e8; subst e7 e8; have HI7 := Lib.hid hi7; have HU7 := Lib.hid hu7; have H7 := Lib.hid (H6.out.grown hg7); have HA7 := Lib.hid (HA6.out.grown hg7); have HQ7 := Lib.hid ((hg7.block _ (lt_of_block HQ6.out) (by simp)).trans HQ6.out); clear hi7 hu7 hg7)
      | go_in)
    have hal := World.grownBy_alloc w7 (.cells #[.slice a7 n2 c7, .slice b7 m2 d7, .int .i64 (lim : Int)] 40) none
    have HNW := Lib.hid (heap_alloc_new w7 (.cells #[.slice a7 n2 c7, .slice b7 m2 d7, .int .i64 (lim : Int)] 40))
    have H8' := Lib.hid (H7.out.grown hal)
    have HA8 := Lib.hid (HA7.out.grown hal)
    have HQ8 := Lib.hid ((hal.block _ (lt_of_block HQ7.out) (by simp)).trans HQ7.out)
    have HI8 := Lib.hid (HI7.out.grown hal)
    have HU8 := Lib.hid (HU7.out.grown hal)
    clear hal k0 k1 k2
    generalize w7.alloc (.cells #[.slice a7 n2 c7, .slice b7 m2 d7, .int .i64 (lim : Int)] 40) = W8 at HNW H8' HA8 HQ8 HI8 HU8 ⊢
    obtain ⟨k0, k1, k2, -⟩ := cells3 HNW.out
    obtain ⟨d0, d1, d2, f0, f1, f2⟩ := cells3 HQ8.out
    go_upto_region 29 with fail
    have H9 := Lib.hid (P8.turn H8'.out HI8.out HU8.out)
    have HA9 := Lib.hid (ActAt.turn (a := .slice a7 n2 c7) (b := .slice b7 m2 d7) (c := .int .i64 (lim : Int)) HA8.out HQ8.out)
    clear k0 k1 k2 d0 d1 d2 f0 f1 f2 H8' HA8 HQ8 HI8 HU8 HNW
    generalize ((W8.setCell ⟨q, 0, none⟩ (.slice a7 n2 c7)).setCell ⟨q, 1, none⟩ (.slice b7 m2 d7)).setCell ⟨q, 2, none⟩ (.int .i64 (lim : Int)) = W9 at H9 HA9 ⊢
    go_wp2
    exact HK.out _ _ _ _ _ _ _ _ _ _ _ _ _ _ _ _ _ _ _ M' _ _ W9 H9.out HA9.out HPI2.out (by simp)
  · have HT := Lib.hid hg
    have HX := Lib.hid hx
    have HPI2 := Lib.hid hpi2
    have HPL := Lib.hid (And.intro h2 hpl)
    clear hg hx hpi2 hpl h2
    obtain ⟨wa, wc, ta, tc, hq, hi, hu⟩ := H8.out.bx
    have HQ := Lib.hid hq
    have HI := Lib.hid hi
    have HU := Lib.hid hu
    clear hq hi hu
    obtain ⟨n, hn⟩ : ∃ n, n = wh.length := ⟨_, rfl⟩
    obtain ⟨m, hm⟩ : ∃ m, m = tx.length := ⟨_, rfl⟩
    have HN := Lib.hid hn
    have HM := Lib.hid hm
    obtain ⟨n2, hn2⟩ : ∃ n, n = (wh.set pg 4).length := ⟨_, rfl⟩
    obtain ⟨m2, hm2⟩ : ∃ m, m = (tx).length := ⟨_, rfl⟩
    have HN2 := Lib.hid hn2
    have HM2 := Lib.hid hm2
    clear hn hm hn2 hm2
    obtain ⟨p0, p1⟩ := HA.out.cells
    go_upto_region 27 with (first
      | (go_at_call 14; (with_reducible refine (give_at w B M M' pg 0 H8.out.s hpg HT.out).mono ?_); rintro r w6 ⟨rfl, hs, hsf⟩; have H6 := Lib.hid (H8.out.op hs hsf); have HA6 := Lib.hid (HA.out.op hsf hqa); have HQ6 := Lib.hid ((hsf.block q (lt_of_block HQ.out) (.inr (by omega))).trans HQ.out); have HI6 := Lib.hid (HI.out.sfr hsf (by omega)); have HU6 := Lib.hid (HU.out.sfr hsf (by omega)); have hqq := HQ6.out; rw [← HN.out, ← HM.out] at hqq; obtain ⟨k0, k1, k2, -⟩ := cells3 hqq; obtain ⟨p0, p1⟩ := HA6.out.cells; have hbs := Nat.le_of_lt (Nat.lt_of_le_of_lt l4 (lt_of_block HQ6.out)); clear hs hsf hqq)
      | go_in)
    go_upto_region 28 with (first
      | (go_at_call 15; have K := rgive_use w6 base wa ta wc tc lim pg wh tx hbs HI6.out HU6.out (by omega) hpg HPL.out.1 HPL.out.2 HX.out; rw [← HN.out, ← HM.out] at K; (with_reducible refine K.mono ?_); clear K; rintro r w7 ⟨v7, u7, rfl, hi7, hu7, hg7⟩; obtain ⟨a7, c7, e7⟩ := hi7.shape; obtain ⟨b7, d7, e8⟩ := hu7.shape; rw [← HN2.out] at e7; rw [← HM2.out] at e8; subst e7 e8; have HI7 := Lib.hid hi7; have HU7 := Lib.hid hu7; have H7 := Lib.hid (H6.out.grown hg7); have HA7 := Lib.hid (HA6.out.grown hg7); have HQ7 := Lib.hid ((hg7.block _ (lt_of_block HQ6.out) (by simp)).trans HQ6.out); clear hi7 hu7 hg7)
      | go_in)
    have hal := World.grownBy_alloc w7 (.cells #[.slice a7 n2 c7, .slice b7 m2 d7, .int .i64 (lim : Int)] 40) none
    have HNW := Lib.hid (heap_alloc_new w7 (.cells #[.slice a7 n2 c7, .slice b7 m2 d7, .int .i64 (lim : Int)] 40))
    have H8' := Lib.hid (H7.out.grown hal)
    have HA8 := Lib.hid (HA7.out.grown hal)
    have HQ8 := Lib.hid ((hal.block _ (lt_of_block HQ7.out) (by simp)).trans HQ7.out)
    have HI8 := Lib.hid (HI7.out.grown hal)
    have HU8 := Lib.hid (HU7.out.grown hal)
    clear hal k0 k1 k2
    generalize w7.alloc (.cells #[.slice a7 n2 c7, .slice b7 m2 d7, .int .i64 (lim : Int)] 40) = W8 at HNW H8' HA8 HQ8 HI8 HU8 ⊢
    obtain ⟨k0, k1, k2, -⟩ := cells3 HNW.out
    obtain ⟨d0, d1, d2, f0, f1, f2⟩ := cells3 HQ8.out
    go_upto_region 29 with fail
    have H9 := Lib.hid (P8.turn H8'.out HI8.out HU8.out)
    have HA9 := Lib.hid (ActAt.turn (a := .slice a7 n2 c7) (b := .slice b7 m2 d7) (c := .int .i64 (lim : Int)) HA8.out HQ8.out)
    clear k0 k1 k2 d0 d1 d2 f0 f1 f2 H8' HA8 HQ8 HI8 HU8 HNW
    generalize ((W8.setCell ⟨q, 0, none⟩ (.slice a7 n2 c7)).setCell ⟨q, 1, none⟩ (.slice b7 m2 d7)).setCell ⟨q, 2, none⟩ (.int .i64 (lim : Int)) = W9 at H9 HA9 ⊢
    go_wp2
    exact HK.out _ _ _ _ _ _ _ _ _ _ _ _ _ _ _ _ _ _ _ M' _ _ W9 H9.out HA9.out HPI2.out (by simp)
  · have HT := Lib.hid hg
    have HX := Lib.hid hno
    have HPI2 := HPI
    clear hg hno
    obtain ⟨wa, wc, ta, tc, hq, hi, hu⟩ := H8.out.bx
    have HQ := Lib.hid hq
    have HI := Lib.hid hi
    have HU := Lib.hid hu
    clear hq hi hu
    obtain ⟨n, hn⟩ : ∃ n, n = wh.length := ⟨_, rfl⟩
    obtain ⟨m, hm⟩ : ∃ m, m = tx.length := ⟨_, rfl⟩
    have HN := Lib.hid hn
    have HM := Lib.hid hm
    obtain ⟨n2, hn2⟩ : ∃ n, n = (wh).length := ⟨_, rfl⟩
    obtain ⟨m2, hm2⟩ : ∃ m, m = (tx).length := ⟨_, rfl⟩
    have HN2 := Lib.hid hn2
    have HM2 := Lib.hid hm2
    clear hn hm hn2 hm2
    obtain ⟨p0, p1⟩ := HA.out.cells
    go_upto_region 27 with (first
      | (go_at_call 14; (with_reducible refine (give_at w B M M pg 1 H8.out.s hpg HT.out).mono ?_); rintro r w6 ⟨rfl, hs, hsf⟩; have H6 := Lib.hid (H8.out.op hs hsf); have HA6 := Lib.hid (HA.out.op hsf hqa); have HQ6 := Lib.hid ((hsf.block q (lt_of_block HQ.out) (.inr (by omega))).trans HQ.out); have HI6 := Lib.hid (HI.out.sfr hsf (by omega)); have HU6 := Lib.hid (HU.out.sfr hsf (by omega)); have hqq := HQ6.out; rw [← HN.out, ← HM.out] at hqq; obtain ⟨k0, k1, k2, -⟩ := cells3 hqq; obtain ⟨p0, p1⟩ := HA6.out.cells; have hbs := Nat.le_of_lt (Nat.lt_of_le_of_lt l4 (lt_of_block HQ6.out)); clear hs hsf hqq)
      | go_in)
    go_upto_region 28 with (first
      | (go_at_call 15; have K := rgive_no w6 base wa ta wc tc lim pg wh tx hbs HI6.out HU6.out (by omega) hpg HX.out; rw [← HN.out, ← HM.out] at K; (with_reducible refine K.mono ?_); clear K; rintro r w7 ⟨v7, u7, rfl, hi7, hu7, hg7⟩; obtain ⟨a7, c7, e7⟩ := hi7.shape; obtain ⟨b7, d7, e8⟩ := hu7.shape; rw [← HN2.out] at e7; rw [← HM2.out] at e8; subst e7 e8; have HI7 := Lib.hid hi7; have HU7 := Lib.hid hu7; have H7 := Lib.hid (H6.out.grown hg7); have HA7 := Lib.hid (HA6.out.grown hg7); have HQ7 := Lib.hid ((hg7.block _ (lt_of_block HQ6.out) (by simp)).trans HQ6.out); clear hi7 hu7 hg7)
      | go_in)
    have hal := World.grownBy_alloc w7 (.cells #[.slice a7 n2 c7, .slice b7 m2 d7, .int .i64 (lim : Int)] 40) none
    have HNW := Lib.hid (heap_alloc_new w7 (.cells #[.slice a7 n2 c7, .slice b7 m2 d7, .int .i64 (lim : Int)] 40))
    have H8' := Lib.hid (H7.out.grown hal)
    have HA8 := Lib.hid (HA7.out.grown hal)
    have HQ8 := Lib.hid ((hal.block _ (lt_of_block HQ7.out) (by simp)).trans HQ7.out)
    have HI8 := Lib.hid (HI7.out.grown hal)
    have HU8 := Lib.hid (HU7.out.grown hal)
    clear hal k0 k1 k2
    generalize w7.alloc (.cells #[.slice a7 n2 c7, .slice b7 m2 d7, .int .i64 (lim : Int)] 40) = W8 at HNW H8' HA8 HQ8 HI8 HU8 ⊢
    obtain ⟨k0, k1, k2, -⟩ := cells3 HNW.out
    obtain ⟨d0, d1, d2, f0, f1, f2⟩ := cells3 HQ8.out
    go_upto_region 29 with fail
    have H9 := Lib.hid (P8.turn H8'.out HI8.out HU8.out)
    have HA9 := Lib.hid (ActAt.turn (a := .slice a7 n2 c7) (b := .slice b7 m2 d7) (c := .int .i64 (lim : Int)) HA8.out HQ8.out)
    clear k0 k1 k2 d0 d1 d2 f0 f1 f2 H8' HA8 HQ8 HI8 HU8 HNW
    generalize ((W8.setCell ⟨q, 0, none⟩ (.slice a7 n2 c7)).setCell ⟨q, 1, none⟩ (.slice b7 m2 d7)).setCell ⟨q, 2, none⟩ (.int .i64 (lim : Int)) = W9 at H9 HA9 ⊢
    go_wp2
    exact HK.out _ _ _ _ _ _ _ _ _ _ _ _ _ _ _ _ _ _ _ M _ _ W9 H9.out HA9.out HPI2.out (by omega)
  · have HT := Lib.hid hg
    have HX := Lib.hid hx
    have HX2 := Lib.hid (And.intro hx0 hx3)
    have HPL := Lib.hid (And.intro h2 hpl)
    have HPI2 := HPI
    clear hg hx hx0 hx3 h2 hpl
    obtain ⟨wa, wc, ta, tc, hq, hi, hu⟩ := H8.out.bx
    have HQ := Lib.hid hq
    have HI := Lib.hid hi
    have HU := Lib.hid hu
    clear hq hi hu
    obtain ⟨n, hn⟩ : ∃ n, n = wh.length := ⟨_, rfl⟩
    obtain ⟨m, hm⟩ : ∃ m, m = tx.length := ⟨_, rfl⟩
    have HN := Lib.hid hn
    have HM := Lib.hid hm
    obtain ⟨n2, hn2⟩ : ∃ n, n = (wh).length := ⟨_, rfl⟩
    obtain ⟨m2, hm2⟩ : ∃ m, m = (tx).length := ⟨_, rfl⟩
    have HN2 := Lib.hid hn2
    have HM2 := Lib.hid hm2
    clear hn hm hn2 hm2
    obtain ⟨p0, p1⟩ := HA.out.cells
    go_upto_region 27 with (first
      | (go_at_call 14; (with_reducible refine (give_at w B M M pg 1 H8.out.s hpg HT.out).mono ?_); rintro r w6 ⟨rfl, hs, hsf⟩; have H6 := Lib.hid (H8.out.op hs hsf); have HA6 := Lib.hid (HA.out.op hsf hqa); have HQ6 := Lib.hid ((hsf.block q (lt_of_block HQ.out) (.inr (by omega))).trans HQ.out); have HI6 := Lib.hid (HI.out.sfr hsf (by omega)); have HU6 := Lib.hid (HU.out.sfr hsf (by omega)); have hqq := HQ6.out; rw [← HN.out, ← HM.out] at hqq; obtain ⟨k0, k1, k2, -⟩ := cells3 hqq; obtain ⟨p0, p1⟩ := HA6.out.cells; have hbs := Nat.le_of_lt (Nat.lt_of_le_of_lt l4 (lt_of_block HQ6.out)); clear hs hsf hqq)
      | go_in)
    go_upto_region 28 with (first
      | (go_at_call 15; have K := rgive_other w6 base wa ta wc tc lim pg wh tx hbs HI6.out HU6.out (by omega) hpg HPL.out.1 HPL.out.2 x HX.out HX2.out.1 HX2.out.2; rw [← HN.out, ← HM.out] at K; (with_reducible refine K.mono ?_); clear K; rintro r w7 ⟨v7, u7, rfl, hi7, hu7, hg7⟩; obtain ⟨a7, c7, e7⟩ := hi7.shape; obtain ⟨b7, d7, e8⟩ := hu7.shape; rw [← HN2.out] at e7; rw [← HM2.out] at e8; subst e7 e8; have HI7 := Lib.hid hi7; have HU7 := Lib.hid hu7; have H7 := Lib.hid (H6.out.grown hg7); have HA7 := Lib.hid (HA6.out.grown hg7); have HQ7 := Lib.hid ((hg7.block _ (lt_of_block HQ6.out) (by simp)).trans HQ6.out); clear hi7 hu7 hg7)
      | go_in)
    have hal := World.grownBy_alloc w7 (.cells #[.slice a7 n2 c7, .slice b7 m2 d7, .int .i64 (lim : Int)] 40) none
    have HNW := Lib.hid (heap_alloc_new w7 (.cells #[.slice a7 n2 c7, .slice b7 m2 d7, .int .i64 (lim : Int)] 40))
    have H8' := Lib.hid (H7.out.grown hal)
    have HA8 := Lib.hid (HA7.out.grown hal)
    have HQ8 := Lib.hid ((hal.block _ (lt_of_block HQ7.out) (by simp)).trans HQ7.out)
    have HI8 := Lib.hid (HI7.out.grown hal)
    have HU8 := Lib.hid (HU7.out.grown hal)
    clear hal k0 k1 k2
    generalize w7.alloc (.cells #[.slice a7 n2 c7, .slice b7 m2 d7, .int .i64 (lim : Int)] 40) = W8 at HNW H8' HA8 HQ8 HI8 HU8 ⊢
    obtain ⟨k0, k1, k2, -⟩ := cells3 HNW.out
    obtain ⟨d0, d1, d2, f0, f1, f2⟩ := cells3 HQ8.out
    go_upto_region 29 with fail
    have H9 := Lib.hid (P8.turn H8'.out HI8.out HU8.out)
    have HA9 := Lib.hid (ActAt.turn (a := .slice a7 n2 c7) (b := .slice b7 m2 d7) (c := .int .i64 (lim : Int)) HA8.out HQ8.out)
    clear k0 k1 k2 d0 d1 d2 f0 f1 f2 H8' HA8 HQ8 HI8 HU8 HNW
    generalize ((W8.setCell ⟨q, 0, none⟩ (.slice a7 n2 c7)).setCell ⟨q, 1, none⟩ (.slice b7 m2 d7)).setCell ⟨q, 2, none⟩ (.int .i64 (lim : Int)) = W9 at H9 HA9 ⊢
    go_wp2
    exact HK.out _ _ _ _ _ _ _ _ _ _ _ _ _ _ _ _ _ _ _ M _ _ W9 H9.out HA9.out HPI2.out (by omega)

end Go.Proofs.Ytoaglkbobndmeab
