/-
  Layer 3: what was written last stands over what is for good; behind a crash both are one (plain). Own work.
-/
import Derived.Test.YtnodclijlhoobaaDskT
namespace Go.Proofs.Ytnodclijlhoobaa
open Go.RowKit

/-- What loose writes leave of page p, whose old bytes are g. -/
def overL (p : Nat) : List (Nat × List Int) → List Int → List Int
  | [], g => g
  | x :: l, g => overL p l (if x.1 = p then x.2 else g)
theorem overL_snoc (p : Nat) : ∀ (l : List (Nat × List Int)) (x : Nat × List Int) (g : List Int), overL p (l ++ [x]) g = if x.1 = p then x.2 else overL p l g
  | [], _, _ => rfl
  | y :: l, x, g => by rw [List.cons_append, overL, overL_snoc p l, overL]
theorem overL_none (p : Nat) : ∀ (l : List (Nat × List Int)) (g : List Int), p ∉ l.map (·.1) → overL p l g = g
  | [], _, _ => rfl
  | y :: l, g, h => by
    simp only [List.map_cons, List.mem_cons, not_or] at h
    rw [overL, if_neg (fun e => h.1 e.symm), overL_none p l g h.2]

abbrev pgAt (pg : List (List Int × List Int)) (p : Nat) : List Int × List Int := pg.getD p ([], [])
theorem pgAt_set (pg : List (List Int × List Int)) (i p : Nat) (y : List Int × List Int) (hi : i < pg.length) : pgAt (pg.set i y) p = if i = p then y else pgAt pg p := by
  simp only [pgAt, List.getD_eq_getElem?_getD, List.getElem?_set]
  by_cases h : i = p
  · rw [if_pos h, if_pos hi, if_pos h]; rfl
  · rw [if_neg h, if_neg h]

/-- What was written last stands over what is for good. -/
def WF (M : SM) : Prop := ∀ p, p < M.pg.length → lastM M p = overL p M.loose (pgAt M.pg p).1
theorem WF.cnt {M : SM} (h : WF M) : WF (cntM M) := h
theorem WF.wr {M : SM} {i : Nat} {bs : List Int} (h : WF M) (hi : i < M.pg.length) : WF (wrM M i bs) := by
  intro p hp
  have hp' : p < M.pg.length := by simpa [wrM] using hp
  rw [lastM_wr _ _ _ _ hi]
  show _ = overL p (M.loose ++ [(i, bs)]) (pgAt (M.pg.set i _) p).1
  rw [overL_snoc, pgAt_set _ _ _ _ hi]
  by_cases e : i = p
  · subst e; rw [if_pos rfl, if_pos rfl]
  · rw [if_neg (fun e' => e e'.symm), if_neg e, if_neg e]; exact h p hp'
theorem syncP_good (p : Nat) : ∀ (l : List (Nat × List Int)) (pg : List (List Int × List Int)), (∀ x ∈ l, x.1 < pg.length) → (pgAt (syncP pg l) p).1 = overL p l (pgAt pg p).1
  | [], _, _ => rfl
  | x :: l, pg, h => by
    have hx := h x (by simp)
    rw [syncP, syncP_good p l _ (fun y hy => by rw [List.length_set]; exact h y (by simp [hy])), overL, pgAt_set _ _ _ _ hx]
    by_cases e : x.1 = p
    · rw [if_pos e, if_pos e]
    · rw [if_neg e, if_neg e]
theorem WF.sync {M : SM} (h : WF M) (hin : ∀ x ∈ M.loose, x.1 < M.pg.length) : WF (syncM M) := by
  intro p hp
  have hp' : p < M.pg.length := by simpa [syncM, syncP_len] using hp
  rw [lastM_sync, h p hp']
  show _ = (pgAt (syncP M.pg M.loose) p).1
  rw [syncP_good p _ _ hin]
theorem wf_grow {M : SM} {k : Nat} {o : Bool} (h : WF M) (hin : ∀ x ∈ M.loose, x.1 < M.pg.length) : WF (growM (cntM M) k o) := by
  intro p hp
  simp only [growM, cntM, List.length_append, List.length_replicate] at hp
  show (pgAt (M.pg ++ List.replicate k (List.replicate M.size 0, List.replicate M.size 0)) p).2 = overL p M.loose (pgAt (M.pg ++ List.replicate k (List.replicate M.size 0, List.replicate M.size 0)) p).1
  by_cases hl : p < M.pg.length
  · have e : pgAt (M.pg ++ List.replicate k (List.replicate M.size 0, List.replicate M.size 0)) p = pgAt M.pg p := by simp [pgAt, List.getD_eq_getElem?_getD, List.getElem?_append, hl]
    rw [e]; exact h p hl
  · have e : pgAt (M.pg ++ List.replicate k (List.replicate M.size 0, List.replicate M.size 0)) p = (List.replicate M.size 0, List.replicate M.size 0) := by
      simp [pgAt, List.getD_eq_getElem?_getD, List.getElem?_append, hl, show p - M.pg.length < k by omega]
    rw [e, overL_none]
    intro hm
    obtain ⟨x, hx, hxp⟩ := List.mem_map.1 hm
    have := hin x hx
    omega
theorem wf_none {M : SM} (h : ∀ p, p < M.pg.length → (pgAt M.pg p).2 = (pgAt M.pg p).1) (hl : M.loose = []) : WF M := fun p hp => by rw [hl]; exact h p hp

theorem crashP_both (ks : List Int) (p : Nat) : ∀ (l : List (Nat × List Int)) (i : Nat) (pg : List (List Int × List Int)), (∀ x ∈ l, x.1 < pg.length) → (p ∈ l.map (·.1) ∨ (pgAt pg p).2 = (pgAt pg p).1) → (pgAt (crashP ks i pg l) p).2 = (pgAt (crashP ks i pg l) p).1
  | [], _, _, _, h => by
    rcases h with h | h
    · simp at h
    · exact h
  | x :: l, i, pg, hin, h => by
    have hx := hin x (by simp)
    rw [crashP]
    refine crashP_both ks p l _ _ (fun y hy => by rw [crashS_len]; exact hin y (by simp [hy])) ?_
    by_cases e : x.1 = p
    · right; rw [crashS, pgAt_set _ _ _ _ hx, if_pos e]
    · rcases h with h | h
      · left
        simp only [List.map_cons, List.mem_cons] at h
        exact h.resolve_left (fun e' => e e'.symm)
      · right; rw [crashS, pgAt_set _ _ _ _ hx, if_neg e]; exact h
theorem crash_both {M : SM} {ks : List Int} (h : WF M) (hin : ∀ x ∈ M.loose, x.1 < M.pg.length) (p : Nat) (hp : p < M.pg.length) : (pgAt (crashP ks 0 M.pg M.loose) p).2 = (pgAt (crashP ks 0 M.pg M.loose) p).1 := by
  refine crashP_both ks p _ _ _ hin ?_
  by_cases hm : p ∈ M.loose.map (·.1)
  · exact .inl hm
  · right
    have := h p hp
    rw [overL_none p _ _ hm] at this
    exact this
theorem WF.crash {M : SM} {ks : List Int} (h : WF M) (hin : ∀ x ∈ M.loose, x.1 < M.pg.length) : WF (crashM M ks) := by
  intro p hp
  exact crash_both h hin p (by simpa [crashM, crashP_len] using hp)

/-- What a crash would leave for good of page p. -/
def crM (M : SM) (ks : List Int) (p : Nat) : List Int := (pgAt (crashP ks 0 M.pg M.loose) p).1
theorem lastM_crash {M : SM} {ks : List Int} (h : WF M) (hin : ∀ x ∈ M.loose, x.1 < M.pg.length) (p : Nat) (hp : p < M.pg.length) : lastM (crashM M ks) p = crM M ks p := crash_both h hin p hp

/-- A crash asks for what is for good alone. -/
theorem crashP_congr (ks : List Int) : ∀ (l : List (Nat × List Int)) (i : Nat) (pg qg : List (List Int × List Int)), pg.map (·.1) = qg.map (·.1) → (crashP ks i pg l).map (·.1) = (crashP ks i qg l).map (·.1)
  | [], _, _, _, h => h
  | x :: l, i, pg, qg, h => by
    rw [crashP, crashP]
    refine crashP_congr ks l _ _ _ ?_
    have e : (pgAt pg x.1).1 = (pgAt qg x.1).1 := by
      have h1 : ∀ rg : List (List Int × List Int), (pgAt rg x.1).1 = (rg.map (·.1)).getD x.1 [] := fun rg => by
        simp only [pgAt, List.getD_eq_getElem?_getD, List.getElem?_map]
        cases rg[x.1]? <;> rfl
      rw [h1, h1, h]
    simp only [crashS, List.map_set, h]
    simp only [pgAt] at e
    rw [e]
theorem fst_at (rg : List (List Int × List Int)) (p : Nat) : (pgAt rg p).1 = (rg.map (·.1)).getD p [] := by
  simp only [pgAt, List.getD_eq_getElem?_getD, List.getElem?_map]
  cases rg[p]? <;> rfl
theorem crM_wr (M : SM) (ks : List Int) (i p : Nat) (bs : List Int) (hi : i < M.pg.length) :
    crM (wrM M i bs) ks p = if i = p then (if M.loose.length < ks.length then tornB (crM M ks i) bs (ks.getD M.loose.length 0).toNat ((crM M ks i).length / 128) else crM M ks i) else crM M ks p := by
  have e1 : (M.pg.set i ((pgAt M.pg i).1, bs)).map (·.1) = M.pg.map (·.1) := by
    rw [List.map_set]
    apply List.ext_getElem?
    intro j
    rw [List.getElem?_set]
    by_cases e : i = j
    · subst e
      simp [pgAt, List.getD_eq_getElem?_getD, hi]
    · rw [if_neg e]
  have e2 : ∀ q, (pgAt (crashP ks 0 (M.pg.set i ((pgAt M.pg i).1, bs)) M.loose) q).1 = crM M ks q := fun q => by
    rw [fst_at, crashP_congr ks _ _ _ _ e1, ← fst_at]; rfl
  show (pgAt (crashP ks 0 (M.pg.set i ((pgAt M.pg i).1, bs)) (M.loose ++ [(i, bs)])) p).1 = _
  rw [crashP_snoc, crashS, pgAt_set _ _ _ _ (by rw [crashP_len, List.length_set]; exact hi), Nat.zero_add]
  by_cases e : i = p
  · subst e
    rw [if_pos rfl, if_pos rfl]
    show (if M.loose.length < ks.length then tornB (pgAt (crashP ks 0 _ M.loose) i).1 bs _ ((pgAt (crashP ks 0 _ M.loose) i).1.length / 128) else (pgAt (crashP ks 0 _ M.loose) i).1) = _
    rw [e2]
  · rw [if_neg e, if_neg e]; exact e2 p

end Go.Proofs.Ytnodclijlhoobaa
