/-
  Layer 10, plain: pairs gathered as records. Own work; of no program.
-/
import Derived.Test.YtpgpilalhbdidaaFrM
import Derived.Test.YtpgpilalhbdidaaSpcM
namespace Go.Proofs.Ytpgpilalhbdidaa
open Go.RowKit

theorem snoc_ind {α : Type} {P : List α → Prop} (h0 : P []) (hs : ∀ l x, P l → P (l ++ [x])) : ∀ l, P l := fun l => by
  rw [← List.reverse_reverse l]
  generalize l.reverse = m
  induction m with
  | nil => exact h0
  | cons x m ih => rw [List.reverse_cons]; exact hs _ _ ih
/-- A pair more. -/
def gath (rs : List Rc) (p : Pr) : List Rc :=
  match rs.getLast? with
  | some r => if r.1 = p.1 then rs.dropLast ++ [(r.1, r.2 ++ [p.2])] else rs ++ [(p.1, [p.2])]
  | none => [(p.1, [p.2])]
def gatherL (l : List Pr) : List Rc := l.foldl gath []
theorem gatherL_snoc (l : List Pr) (p : Pr) : gatherL (l ++ [p]) = gath (gatherL l) p := by simp [gatherL]
theorem gatherL_app (l q : List Pr) : gatherL (l ++ q) = q.foldl gath (gatherL l) := by simp [gatherL]
theorem gath_last (rs : List Rc) (p : Pr) : ∃ r, (gath rs p).getLast? = some r ∧ r.1 = p.1 := by
  unfold gath
  cases h : rs.getLast? with
  | none => exact ⟨(p.1, [p.2]), by simp, rfl⟩
  | some r =>
    dsimp only
    split
    · rename_i e; exact ⟨(r.1, r.2 ++ [p.2]), by simp, e⟩
    · exact ⟨(p.1, [p.2]), by simp, rfl⟩
theorem gatherL_last {l : List Pr} (h : l ≠ []) : ∃ r, (gatherL l).getLast? = some r ∧ r.1 = (l.getLast h).1 := by
  obtain ⟨m, p, rfl⟩ : ∃ m p, l = m ++ [p] := ⟨l.dropLast, l.getLast h, (List.dropLast_concat_getLast h).symm⟩
  rw [gatherL_snoc]
  simpa using gath_last (gatherL m) p
/-- A run of one change, behind records of another one. -/
theorem foldl_run {T : Nat} {rs : List Rc} (hr : ∀ r, rs.getLast? = some r → r.1 ≠ T) : ∀ {q : List Pr}, q ≠ [] → (∀ p ∈ q, p.1 = T) → q.foldl gath rs = rs ++ [(T, q.map (·.2))] := by
  intro q
  induction q using snoc_ind with
  | h0 => intro h; exact absurd rfl h
  | hs q p ih =>
    intro _ hq
    have hp : p.1 = T := hq p (by simp)
    rw [List.foldl_append, List.foldl_cons, List.foldl_nil]
    by_cases e : q = []
    · subst e
      simp only [List.foldl_nil, List.nil_append, List.map_cons, List.map_nil]
      unfold gath
      cases h : rs.getLast? with
      | none =>
        have : rs = [] := by simpa using h
        subst this
        simp [hp]
      | some r =>
        dsimp only
        rw [if_neg (by rw [hp]; exact hr r h), hp]
    · rw [ih e (fun x hx => hq x (by simp [hx]))]
      unfold gath
      simp [hp]
def recOf (ps : List Pr) (a e : Nat) : Rc := ((ps.getD a (0, 0)).1, ((ps.drop a).take (e - a)).map (·.2))
/-- The pairs from a to e are of one change, and those ahead of them of another one. -/
structure RunAt (ps : List Pr) (a e : Nat) : Prop where
  lt : a < e
  le : e ≤ ps.length
  same : ∀ j, a ≤ j → j < e → (ps.getD j (0, 0)).1 = (ps.getD a (0, 0)).1
  ahead : 0 < a → (ps.getD a (0, 0)).1 ≠ (ps.getD (a - 1) (0, 0)).1
theorem gather_run {ps : List Pr} {a e : Nat} (h : RunAt ps a e) : gatherL (ps.take e) = gatherL (ps.take a) ++ [recOf ps a e] := by
  have hlt := h.lt
  have hle := h.le
  have e1 : ps.take e = ps.take a ++ (ps.drop a).take (e - a) := by
    rw [← List.take_add, show a + (e - a) = e by omega]
  rw [e1, gatherL_app]
  have hql : ((ps.drop a).take (e - a)).length = e - a := by rw [List.length_take, List.length_drop]; omega
  refine foldl_run (T := (ps.getD a (0, 0)).1) (fun r hr => ?_) (fun e => by rw [e] at hql; simp at hql; omega) (fun p hp => ?_)
  · by_cases ha : 0 < a
    · have hne : ps.take a ≠ [] := by
        intro e
        have h0 : (ps.take a).length = 0 := by rw [e]; rfl
        rw [List.length_take] at h0
        omega
      obtain ⟨r', h1, h2⟩ := gatherL_last hne
      rw [hr] at h1
      injection h1 with h1
      subst h1
      rw [h2]
      have : (ps.take a).getLast hne = ps.getD (a - 1) (0, 0) := by
        rw [List.getLast_eq_getElem, List.getD_eq_getElem?_getD, List.getElem?_eq_getElem (by omega)]
        simp [List.length_take, Nat.min_eq_left (show a ≤ ps.length by omega)]
      rw [this]
      exact (h.ahead ha).symm
    · have : a = 0 := by omega
      subst this
      simp [gatherL] at hr
  · obtain ⟨i, hi⟩ := List.mem_iff_getElem?.1 hp
    have hil := (List.getElem?_eq_some_iff.1 hi).1
    rw [hql] at hil
    rw [List.getElem?_take, if_pos hil, List.getElem?_drop] at hi
    have := h.same (a + i) (by omega) (by omega)
    rw [List.getD_eq_getElem?_getD, hi] at this
    exact this
theorem rec_pages {ps : List Pr} {a e : Nat} (h : RunAt ps a e) : (recOf ps a e).2.length = e - a := by
  have := h.lt; have := h.le
  simp [recOf]; omega

/-! ### records as pairs, gathered again -/
def pairsOf (r : Rc) : List Pr := r.2.map fun p => (r.1, p)
def flatR (rs : List Rc) : List Pr := rs.flatMap pairsOf
theorem flatR_snoc (rs : List Rc) (r : Rc) : flatR (rs ++ [r]) = flatR rs ++ pairsOf r := by simp [flatR, List.flatMap_append]
theorem gather_flat {stop : Nat} {rs : List Rc} (h : Okr stop rs) : gatherL (flatR rs) = rs := by
  induction rs using snoc_ind with
  | h0 => rfl
  | hs rs r ih =>
    have hp := List.pairwise_append.1 h.txns
    have hr := h.each r (by simp)
    have ha := List.pairwise_append.1 h.apart
    rw [flatR_snoc, gatherL_app, ih ⟨hp.1, fun x hx => h.each x (by simp [hx]), ha.1⟩]
    rw [foldl_run (T := r.1) (fun x hx => ?_) (fun e => hr.2.2 (by simpa [pairsOf] using e)) (fun p hp => ?_)]
    · simp [pairsOf, Function.comp_def]
    · have hm : x ∈ rs := List.mem_of_getLast? hx
      have := hp.2.2 x hm r (by simp)
      omega
    · obtain ⟨y, _, rfl⟩ := List.mem_map.1 hp
      rfl
theorem flatR_rise {stop : Nat} {rs : List Rc} (h : Okr stop rs) : (flatR rs).Pairwise lexP := by
  induction rs using snoc_ind with
  | h0 => exact List.Pairwise.nil
  | hs rs r ih =>
    have hp := List.pairwise_append.1 h.txns
    have hr := h.each r (by simp)
    have ha := List.pairwise_append.1 h.apart
    rw [flatR_snoc]
    refine List.pairwise_append.2 ⟨ih ⟨hp.1, fun x hx => h.each x (by simp [hx]), ha.1⟩, ?_, fun a ha b hb => ?_⟩
    · refine List.pairwise_map.2 (hr.1.imp fun hab => .inr ⟨rfl, hab⟩)
    · obtain ⟨x, hx, hxa⟩ := List.mem_flatMap.1 ha
      obtain ⟨y, _, rfl⟩ := List.mem_map.1 hxa
      obtain ⟨z, _, rfl⟩ := List.mem_map.1 hb
      exact .inl (hp.2.2 x hx r (by simp))
theorem flatR_ok {rs : List Rc} (h : ∀ r ∈ rs, r.1 < 18446744073709551616 ∧ ∀ p ∈ r.2, p < 4294967296) : ∀ p ∈ flatR rs, PrOk p := fun p hp => by
  obtain ⟨r, hr, hpr⟩ := List.mem_flatMap.1 hp
  obtain ⟨y, hy, rfl⟩ := List.mem_map.1 hpr
  exact ⟨(h r hr).1, (h r hr).2 y hy⟩
theorem flatR_len (rs : List Rc) {N : Nat} (h : ∀ r ∈ rs, r.2.length ≤ N) : (flatR rs).length ≤ rs.length * N := by
  induction rs with
  | nil => simp [flatR]
  | cons r rs ih =>
    have e : flatR (r :: rs) = pairsOf r ++ flatR rs := rfl
    have h1 := h r (by simp)
    have h2 := ih fun x hx => h x (by simp [hx])
    rw [e, List.length_append, List.length_cons, Nat.succ_mul]
    have : (pairsOf r).length = r.2.length := by simp [pairsOf]
    omega

end Go.Proofs.Ytpgpilalhbdidaa
