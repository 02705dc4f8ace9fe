/-
  Layer 11, plain: one page, written anew by each change: how many pages that needs, at most. Own work.
-/
import Derived.Test.YtildjdhoeilcfaaGreatPgrBF
import Derived.Test.YtildjdhoeilcfaaGreatPgrAD
import Derived.Test.YtildjdhoeilcfaaGreatPgrBE

namespace Go.Proofs.YtildjdhoeilcfaaGreat

structure AgF (f : Fl) (H : List Nat) : Prop where
  F : FInv 20 f H
  h : H.length ≤ 1
  l : f.ls.length ≤ 1
  n : ∀ r ∈ f.rs, r.1 = f.t → r.2.length ≤ 2
  e : f.e ≤ 8
  t : 1 ≤ f.t
structure AgC (f : Fl) (H : List Nat) (M : Sp) (V : Nat → Nat) (I G A : List Nat) (k : Nat) : Prop where
  c : CInv 20 (f.t - 1) f H M V I G A
  ws : (allOf M.ws).length ≤ 2
  go : M.go.length ≤ k
  en : M.en ≤ 8
theorem ag_ws {f : Fl} {H : List Nat} (h : AgF f H) : (allOf (newRecs (f.t - 1) f.rs)).length ≤ 2 := by
  have ht : ∀ r ∈ newRecs (f.t - 1) f.rs, r.1 = f.t ∧ r ∈ f.rs := fun r hr => by
    have k := new_mem.1 hr
    have := h.F.tx r k.1
    have := h.t
    exact ⟨by omega, k.1⟩
  have hp : (newRecs (f.t - 1) f.rs).Pairwise (fun a b : Rc => a.1 < b.1) := h.F.ok.txns.filter _
  generalize newRecs (f.t - 1) f.rs = L at ht hp
  match L, ht, hp with
  | [], _, _ => simp [allOf]
  | [r], ht, _ =>
    have := ht r (by simp)
    have := h.n r this.2 this.1
    simp [allOf]; omega
  | r :: q :: L, ht, hp =>
    have h1 := (ht r (by simp)).1
    have h2 := (ht q (by simp)).1
    have := (List.pairwise_cons.1 hp).1 q (by simp)
    omega
theorem ag_begin {f : Fl} {H : List Nat} (h : AgF f H) : AgC f H (spOf f.e 20 (f.t - 1) f.rs) (fillR (f.t - 1) (fun _ => 0) f.rs) H [] [] 0 :=
  ⟨c_begin h.F, ag_ws h, Nat.le_refl _, h.e⟩
theorem ag_new {f : Fl} {H : List Nat} {M M' : Sp} {V : Nat → Nat} {p : Nat} {e : Int} (hf : AgF f H) (h : AgC f H M V H [] [] 0) (ht : takeM M = (M', p, e)) : e = 0 ∧ AgC f H M' (upd V p 3) (H ++ [p]) [] [] 0 := by
  have cov : M.us = [] → M.en ≤ 6 := fun hu => by
    have k := cover_len (a := 2) (b := M.en) (c_cover hf.F h.c)
    simp only [hu, List.length_append, List.length_nil] at k
    have := List.length_filter_le (fun p => decide (p ∉ ([] : List Nat))) f.ls
    have := h.ws; have := h.go; have := hf.h; have := hf.l
    omega
  have hws : M'.ws = M.ws := by
    unfold takeM at ht
    split at ht
    · cases ht; rfl
    · split at ht <;> cases ht <;> rfl
  rcases g_take h.c.g ht with ⟨rfl, hx, hgo, hg⟩ | ⟨_, _, hu, he⟩
  · refine ⟨rfl, c_new hf.F h.c ?_ hg rfl, by rw [hws]; exact h.ws, by rw [hgo]; exact h.go, ?_⟩
    · rcases hx with ⟨k, _⟩ | ⟨k, k2, _⟩
      · exact .inl k
      · exact .inr ⟨k, k2⟩
    · rcases hx with ⟨_, k, _⟩ | ⟨_, _, k, _, k2⟩
      · rw [k]; exact h.en
      · have := cov k2; omega
  · have := cov hu; omega
theorem give_ws {M M' : Sp} {p : Nat} {e : Int} (ht : giveM M p = (M', e)) : M'.ws = M.ws := by
  unfold giveM at ht
  split at ht
  · cases ht; rfl
  · split at ht <;> cases ht <;> rfl
theorem ag_free {f : Fl} {M M' : Sp} {V : Nat → Nat} {q p : Nat} {e : Int} (hf : AgF f [q]) (h : AgC f [q] M V ([q] ++ [p]) [] [] 0) (ht : giveM M q = (M', e)) : e = 0 ∧ AgC f [q] M' (upd V q 4) [p] [] [] 1 := by
  have hV : V q = 0 := by
    rcases h.c.h q (by simp) with k | ⟨k, _⟩
    · rcases h.c.i q (by simp) with x | ⟨x, _⟩ <;> omega
    · exact k
  have hr := hf.F.rh q (by simp)
  have hnd : q ≠ p := fun k => by have := h.c.nd; simp [k] at this
  rcases g_give h.c.g ht with ⟨_, k, _⟩ | ⟨rfl, _, _, _, hen, _, hgo, hg⟩ | ⟨_, _, k⟩
  · omega
  · refine ⟨rfl, c_free hf.F h.c (by simp) (.inr ⟨hV, rfl⟩) hg (by simp) (fun x => ?_), by rw [give_ws ht]; exact h.ws, ?_, by rw [hen]; exact h.en⟩
    · simp only [List.cons_append, List.nil_append, List.mem_cons, List.not_mem_nil, or_false]
      constructor
      · rintro rfl; exact ⟨.inr rfl, fun k => hnd k.symm⟩
      · rintro ⟨k | k, k2⟩
        · exact absurd k k2
        · exact k
    · rw [hgo]
      have := len_ins_le q M.go
      have := h.go
      omega
  · exact absurd (.inr ⟨hV, hr.1, hr.2⟩) k
theorem ag_list {f : Fl} {H : List Nat} {M M' : Sp} {V : Nat → Nat} {I G : List Nat} {p k : Nat} {e : Int} (hf : AgF f H) (h : AgC f H M V I G [] k) (hp : p ∈ f.ls) (hG : p ∉ G) (ht : giveM M p = (M', e)) : e = 0 ∧ AgC f H M' (upd V p 4) I (G ++ [p]) [] (k + 1) := by
  have hV := h.c.l0 p hp hG
  have hr := hf.F.rl p hp
  rcases g_give h.c.g ht with ⟨_, k, _⟩ | ⟨rfl, _, _, _, hen, _, hgo, hg⟩ | ⟨_, _, k⟩
  · omega
  · refine ⟨rfl, c_list hf.F h.c hp hG hg, by rw [give_ws ht]; exact h.ws, ?_, by rw [hen]; exact h.en⟩
    rw [hgo]
    have := len_ins_le p M.go
    have := h.go
    omega
  · exact absurd (.inr ⟨hV, hr.1, hr.2⟩) k
theorem ag_take {f : Fl} {H : List Nat} {M M' : Sp} {V : Nat → Nat} {I G : List Nat} {p : Nat} {e : Int} (hf : AgF f H) (h : AgC f H M V I G [] 2) (hI : I.length ≤ 1) (hG : ∀ p ∈ f.ls, p ∈ G) (ht : takeM M = (M', p, e)) : e = 0 ∧ AgC f H M' (upd V p 3) I G [p] 2 := by
  have cov : M.us = [] → M.en ≤ 7 := fun hu => by
    have k := cover_len (a := 2) (b := M.en) (c_cover hf.F h.c)
    have e0 : f.ls.filter (fun p => decide (p ∉ G)) = [] := List.filter_eq_nil_iff.2 fun p hp => by simp [hG p hp]
    rw [e0] at k
    simp only [hu, List.length_append, List.length_nil] at k
    have := h.ws; have := h.go
    omega
  have hws : M'.ws = M.ws := by
    unfold takeM at ht
    split at ht
    · cases ht; rfl
    · split at ht <;> cases ht <;> rfl
  rcases g_take h.c.g ht with ⟨rfl, hx, hgo, hg⟩ | ⟨_, _, hu, he⟩
  · refine ⟨rfl, (show CInv 20 (f.t - 1) f H M' (upd V p 3) I G ([] ++ [p]) from c_take hf.F h.c ?_ hg), by rw [hws]; exact h.ws, by rw [hgo]; exact h.go, ?_⟩
    · rcases hx with ⟨k, _⟩ | ⟨k, k2, _⟩
      · exact .inl k
      · exact .inr ⟨k, k2⟩
    · rcases hx with ⟨_, k, _⟩ | ⟨_, _, k, _, k2⟩
      · rw [k]; exact h.en
      · have := cov k2; omega
  · have := cov hu; omega
theorem ag_count {f : Fl} {H : List Nat} {M : Sp} {V : Nat → Nat} {I G A : List Nat} {k : Nat} (hf : AgF f H) (h : AgC f H M V I G A k) (t : Nat) : (allOf (recsM M t)).length ≤ 6 := by
  have h1 := nodup_le (l := allOf (recsM M t)) (m := List.range' 2 6) (grecs_nodup h.c.g (okr_new _ hf.F.ok) t) fun p hp => by
    have k := ggood_iff.1 ((grecs_mem h.c.g t p).1 hp)
    have := h.c.g.rg p (by omega)
    have := h.en
    rw [List.mem_range'_1]; omega
  simpa using h1
theorem ag_commit {f : Fl} {H : List Nat} {M : Sp} {V : Nat → Nat} {I G A : List Nat} (mn : Nat) (hf : AgF f H) (h : AgC f H M V I G A 2) (hI : I.length ≤ 1) (hA : A.length ≤ 1) (hG : ∀ p ∈ f.ls, p ∈ G) : AgF ⟨f.t + 1, M.en, mn, recsM M (f.t + 1), A⟩ I := by
  refine ⟨c_commit hf.F h.c hG, hI, hA, fun r hr e => ?_, h.en, by show 1 ≤ f.t + 1; omega⟩
  have hr : r ∈ recsM M (f.t + 1) := hr
  have e : r.1 = f.t + 1 := e
  unfold recsM at hr
  rw [h.c.g.ws] at hr
  have f1 : ∀ {L : List Nat} {t : Nat}, r ∈ recM L t → r = (t, L) := fun {L t} hr => by
    unfold recM at hr
    split at hr
    · cases hr
    · simpa using hr
  rcases List.mem_append.1 hr with k | k
  · rcases List.mem_append.1 k with k | k
    · rw [f1 k] at e; cases e
    · have := hf.F.tx r (new_mem.1 k).1; omega
  · rw [f1 k]; exact h.go

end Go.Proofs.YtildjdhoeilcfaaGreat

namespace Go.Proofs.YtildjdhoeilcfaaGreat
open Go.RowKit

/-- What loose writes leave of page p, whose old bytes are g. -/
def overL (p : Nat) : List (Nat × List Int) → List Int → List Int
  | [], g => g
  | x :: l, g => overL p l (if x.1 = p then x.2 else g)
theorem overL_snoc (p : Nat) : ∀ (l : List (Nat × List Int)) (x : Nat × List Int) (g : List Int), overL p (l ++ [x]) g = if x.1 = p then x.2 else overL p l g
  | [], _, _ => rfl
  | y :: l, x, g => by rw [List.cons_append, overL, overL_snoc p l, overL]
theorem overL_none (p : Nat) : ∀ (l : List (Nat × List Int)) (g : List Int), p ∉ l.map (·.1) → overL p l g = g
  | [], _, _ => rfl
  | y :: l, g, h => by
    simp only [List.map_cons, List.mem_cons, not_or] at h
    rw [overL, if_neg (fun e => h.1 e.symm), overL_none p l g h.2]

abbrev pgAt (pg : List (List Int × List Int)) (p : Nat) : List Int × List Int := pg.getD p ([], [])
theorem pgAt_set (pg : List (List Int × List Int)) (i p : Nat) (y : List Int × List Int) (hi : i < pg.length) : pgAt (pg.set i y) p = if i = p then y else pgAt pg p := by
  simp only [pgAt, List.getD_eq_getElem?_getD, List.getElem?_set]
  by_cases h : i = p
  · rw [if_pos h, if_pos hi, if_pos h]; rfl
  · rw [if_neg h, if_neg h]

/-- What was written last stands over what is for good. -/
def WF (M : SM) : Prop := ∀ p, p < M.pg.length → lastM M p = overL p M.loose (pgAt M.pg p).1
theorem WF.cnt {M : SM} (h : WF M) : WF (cntM M) := h
theorem WF.wr {M : SM} {i : Nat} {bs : List Int} (h : WF M) (hi : i < M.pg.length) : WF (wrM M i bs) := by
  intro p hp
  have hp' : p < M.pg.length := by simpa [wrM] using hp
  rw [lastM_wr _ _ _ _ hi]
  show _ = overL p (M.loose ++ [(i, bs)]) (pgAt (M.pg.set i _) p).1
  rw [overL_snoc, pgAt_set _ _ _ _ hi]
  by_cases e : i = p
  · subst e; rw [if_pos rfl, if_pos rfl]
  · rw [if_neg (fun e' => e e'.symm), if_neg e, if_neg e]; exact h p hp'
theorem syncP_good (p : Nat) : ∀ (l : List (Nat × List Int)) (pg : List (List Int × List Int)), (∀ x ∈ l, x.1 < pg.length) → (pgAt (syncP pg l) p).1 = overL p l (pgAt pg p).1
  | [], _, _ => rfl
  | x :: l, pg, h => by
    have hx := h x (by simp)
    rw [syncP, syncP_good p l _ (fun y hy => by rw [List.length_set]; exact h y (by simp [hy])), overL, pgAt_set _ _ _ _ hx]
    by_cases e : x.1 = p
    · rw [if_pos e, if_pos e]
    · rw [if_neg e, if_neg e]
theorem WF.sync {M : SM} (h : WF M) (hin : ∀ x ∈ M.loose, x.1 < M.pg.length) : WF (syncM M) := by
  intro p hp
  have hp' : p < M.pg.length := by simpa [syncM, syncP_len] using hp
  rw [lastM_sync, h p hp']
  show _ = (pgAt (syncP M.pg M.loose) p).1
  rw [syncP_good p _ _ hin]
theorem wf_grow {M : SM} {k : Nat} {o : Bool} (h : WF M) (hin : ∀ x ∈ M.loose, x.1 < M.pg.length) : WF (growM (cntM M) k o) := by
  intro p hp
  simp only [growM, cntM, List.length_append, List.length_replicate] at hp
  show (pgAt (M.pg ++ List.replicate k (List.replicate M.size 0, List.replicate M.size 0)) p).2 = overL p M.loose (pgAt (M.pg ++ List.replicate k (List.replicate M.size 0, List.replicate M.size 0)) p).1
  by_cases hl : p < M.pg.length
  · have e : pgAt (M.pg ++ List.replicate k (List.replicate M.size 0, List.replicate M.size 0)) p = pgAt M.pg p := by simp [pgAt, List.getD_eq_getElem?_getD, List.getElem?_append, hl]
    rw [e]; exact h p hl
  · have e : pgAt (M.pg ++ List.replicate k (List.replicate M.size 0, List.replicate M.size 0)) p = (List.replicate M.size 0, List.replicate M.size 0) := by
      simp [pgAt, List.getD_eq_getElem?_getD, List.getElem?_append, hl, show p - M.pg.length < k by omega]
    rw [e, overL_none]
    intro hm
    obtain ⟨x, hx, hxp⟩ := List.mem_map.1 hm
    have := hin x hx
    omega
theorem wf_none {M : SM} (h : ∀ p, p < M.pg.length → (pgAt M.pg p).2 = (pgAt M.pg p).1) (hl : M.loose = []) : WF M := fun p hp => by rw [hl]; exact h p hp

theorem crashP_both (ks : List Int) (p : Nat) : ∀ (l : List (Nat × List Int)) (i : Nat) (pg : List (List Int × List Int)), (∀ x ∈ l, x.1 < pg.length) → (p ∈ l.map (·.1) ∨ (pgAt pg p).2 = (pgAt pg p).1) → (pgAt (crashP ks i pg l) p).2 = (pgAt (crashP ks i pg l) p).1
  | [], _, _, _, h => by
    rcases h with h | h
    · simp at h
    · exact h
  | x :: l, i, pg, hin, h => by
    have hx := hin x (by simp)
    rw [crashP]
    refine crashP_both ks p l _ _ (fun y hy => by rw [crashS_len]; exact hin y (by simp [hy])) ?_
    by_cases e : x.1 = p
    · right; rw [crashS, pgAt_set _ _ _ _ hx, if_pos e]
    · rcases h with h | h
      · left
        simp only [List.map_cons, List.mem_cons] at h
        exact h.resolve_left (fun e' => e e'.symm)
      · right; rw [crashS, pgAt_set _ _ _ _ hx, if_neg e]; exact h
theorem crash_both {M : SM} {ks : List Int} (h : WF M) (hin : ∀ x ∈ M.loose, x.1 < M.pg.length) (p : Nat) (hp : p < M.pg.length) : (pgAt (crashP ks 0 M.pg M.loose) p).2 = (pgAt (crashP ks 0 M.pg M.loose) p).1 := by
  refine crashP_both ks p _ _ _ hin ?_
  by_cases hm : p ∈ M.loose.map (·.1)
  · exact .inl hm
  · right
    have := h p hp
    rw [overL_none p _ _ hm] at this
    exact this
theorem WF.crash {M : SM} {ks : List Int} (h : WF M) (hin : ∀ x ∈ M.loose, x.1 < M.pg.length) : WF (crashM M ks) := by
  intro p hp
  exact crash_both h hin p (by simpa [crashM, crashP_len] using hp)

/-- What a crash would leave for good of page p. -/
def crM (M : SM) (ks : List Int) (p : Nat) : List Int := (pgAt (crashP ks 0 M.pg M.loose) p).1
theorem lastM_crash {M : SM} {ks : List Int} (h : WF M) (hin : ∀ x ∈ M.loose, x.1 < M.pg.length) (p : Nat) (hp : p < M.pg.length) : lastM (crashM M ks) p = crM M ks p := crash_both h hin p hp

/-- A crash asks for what is for good alone. -/
theorem crashP_congr (ks : List Int) : ∀ (l : List (Nat × List Int)) (i : Nat) (pg qg : List (List Int × List Int)), pg.map (·.1) = qg.map (·.1) → (crashP ks i pg l).map (·.1) = (crashP ks i qg l).map (·.1)
  | [], _, _, _, h => h
  | x :: l, i, pg, qg, h => by
    rw [crashP, crashP]
    refine crashP_congr ks l _ _ _ ?_
    have e : (pgAt pg x.1).1 = (pgAt qg x.1).1 := by
      have h1 : ∀ rg : List (List Int × List Int), (pgAt rg x.1).1 = (rg.map (·.1)).getD x.1 [] := fun rg => by
        simp only [pgAt, List.getD_eq_getElem?_getD, List.getElem?_map]
        cases rg[x.1]? <;> rfl
      rw [h1, h1, h]
    simp only [crashS, List.map_set, h]
    simp only [pgAt] at e
    rw [e]
theorem fst_at (rg : List (List Int × List Int)) (p : Nat) : (pgAt rg p).1 = (rg.map (·.1)).getD p [] := by
  simp only [pgAt, List.getD_eq_getElem?_getD, List.getElem?_map]
  cases rg[p]? <;> rfl
theorem crM_wr (M : SM) (ks : List Int) (i p : Nat) (bs : List Int) (hi : i < M.pg.length) :
    crM (wrM M i bs) ks p = if i = p then (if M.loose.length < ks.length then tornB (crM M ks i) bs (ks.getD M.loose.length 0).toNat ((crM M ks i).length / 128) else crM M ks i) else crM M ks p := by
  have e1 : (M.pg.set i ((pgAt M.pg i).1, bs)).map (·.1) = M.pg.map (·.1) := by
    rw [List.map_set]
    apply List.ext_getElem?
    intro j
    rw [List.getElem?_set]
    by_cases e : i = j
    · subst e
      simp [pgAt, List.getD_eq_getElem?_getD, hi]
    · rw [if_neg e]
  have e2 : ∀ q, (pgAt (crashP ks 0 (M.pg.set i ((pgAt M.pg i).1, bs)) M.loose) q).1 = crM M ks q := fun q => by
    rw [fst_at, crashP_congr ks _ _ _ _ e1, ← fst_at]; rfl
  show (pgAt (crashP ks 0 (M.pg.set i ((pgAt M.pg i).1, bs)) (M.loose ++ [(i, bs)])) p).1 = _
  rw [crashP_snoc, crashS, pgAt_set _ _ _ _ (by rw [crashP_len, List.length_set]; exact hi), Nat.zero_add]
  by_cases e : i = p
  · subst e
    rw [if_pos rfl, if_pos rfl]
    show (if M.loose.length < ks.length then tornB (pgAt (crashP ks 0 _ M.loose) i).1 bs _ ((pgAt (crashP ks 0 _ M.loose) i).1.length / 128) else (pgAt (crashP ks 0 _ M.loose) i).1) = _
    rw [e2]
  · rw [if_neg e, if_neg e]; exact e2 p

end Go.Proofs.YtildjdhoeilcfaaGreat

namespace Go.Proofs.YtildjdhoeilcfaaGreat
open Go.RowKit Go.Maps

/-- The file as a plain one, with records rs. -/
def flOf (F : FV) (rs : List Rc) : Fl := ⟨F.mt.t, F.mt.e, F.mt.m, rs, F.ls⟩

/-! ### lists given back, and taken -/
theorem give_list {lm o : Nat} {f : Fl} {H I G : List Nat} {M : Sp} {V : Nat → Nat} {p : Nat} (hf : FInv lm f H) (h : CInv lm o f H M V I G []) (hp : p ∈ f.ls) (hG : p ∉ G) :
    (giveM M p).2 = 0 ∧ CInv lm o f H (giveM M p).1 (upd V p 4) I (G ++ [p]) [] := by
  have hV := h.l0 p hp hG
  have hr := hf.rl p hp
  rcases g_give (M' := (giveM M p).1) (e := (giveM M p).2) h.g rfl with ⟨_, k, _⟩ | ⟨e, _, _, _, _, _, _, hg⟩ | ⟨_, _, k⟩
  · omega
  · exact ⟨e, c_list hf h hp hG hg⟩
  · exact absurd (.inr ⟨hV, hr.1, hr.2⟩) k
theorem frAll_lists {lm o : Nat} {f : Fl} {H I : List Nat} (hf : FInv lm f H) : ∀ (l G : List Nat) (T : TV) (V : Nat → Nat), f.ls = G ++ l → CInv lm o f H T.sp V I G [] → (∀ q ∈ T.K, V q = 3) →
    ∃ sp1 V1, frAll T l = ({ T with sp := sp1 }, 0) ∧ CInv lm o f H sp1 V1 I f.ls [] ∧ ∀ q, q ∉ f.ls → V1 q = V q
  | [], G, T, V, he, h, _ => ⟨T.sp, V, rfl, by rw [he, List.append_nil]; exact h, fun _ _ => rfl⟩
  | p :: l, G, T, V, he, h, hK => by
    have hp : p ∈ f.ls := by rw [he]; simp
    have hG : p ∉ G := fun hx => by
      have := (hf.apart).1
      rw [he] at this
      exact (List.nodup_append.1 this).2.2 p hx p (by simp) rfl
    obtain ⟨g1, g2⟩ := give_list hf h hp hG
    have hV := h.l0 p hp hG
    have hpK : p ∉ T.K := fun hx => by have := hK p hx; omega
    have e1 : freeT T p = ({ T with sp := (giveM T.sp p).1 }, 0) := by
      unfold freeT; rw [if_pos g1, del_no hpK]
    obtain ⟨sp1, V1, a, b, c⟩ := frAll_lists hf l (G ++ [p]) { T with sp := (giveM T.sp p).1 } (upd V p 4) (by rw [he]; simp) g2 (fun q hq => by rw [upd_other V 4 (fun e => by subst e; exact hpK hq)]; exact hK q hq)
    refine ⟨sp1, V1, ?_, b, fun q hq => by rw [c q hq, upd_other V 4 (fun e => by subst e; exact hq hp)]⟩
    unfold frAll
    rw [e1]
    exact a
theorem take_lists {lm o S : Nat} {O : Int} {f : Fl} {H I G : List Nat} (hf : FInv lm f H) {a b : Sp} {l m : List Nat} (h : TakeTo S O a l b m) : ∀ {V : Nat → Nat}, CInv lm o f H a V I G l →
    ∃ V', CInv lm o f H b V' I G m ∧ (∀ q, q ∉ m → V' q = V q) ∧ ∀ q ∈ l, q ∈ m := by
  induction h with
  | refl l => intro V hc; exact ⟨V, hc, fun _ _ => rfl, fun _ h => h⟩
  | step hab hlt ht ih =>
    rename_i b c l m p
    intro V hc
    obtain ⟨V', h1, h2, h3⟩ := ih hc
    rcases g_take h1.g ht with ⟨_, hx, _, hg⟩ | ⟨e, _⟩
    · refine ⟨upd V' p 3, c_take hf h1 ?_ hg, fun q hq => ?_, fun q hq => by simp [h3 q hq]⟩
      · rcases hx with ⟨k, _⟩ | ⟨k, k2, _⟩
        · exact .inl k
        · exact .inr ⟨k, k2⟩
      · have hq1 : q ∉ m := fun x => hq (by simp [x])
        have hq2 : q ≠ p := fun x => hq (by simp [x])
        rw [upd_other V' 3 hq2, h2 q hq1]
    · exact absurd e (by decide)
theorem take_same {S : Nat} {O : Int} {a b : Sp} {l m : List Nat} (h : TakeTo S O a l b m) : b.go = a.go ∧ b.ws = a.ws := by
  induction h with
  | refl l => exact ⟨rfl, rfl⟩
  | step hab hlt ht ih =>
    rename_i b c l m p
    have : c.go = b.go ∧ c.ws = b.ws := by
      unfold takeM at ht
      split at ht
      · cases ht; exact ⟨rfl, rfl⟩
      · split at ht <;> cases ht
        exact ⟨rfl, rfl⟩
    exact ⟨this.1.trans ih.1, this.2.trans ih.2⟩

/-! ### how many pairs -/
theorem flatR_allOf (rs : List Rc) : (flatR rs).length = (allOf rs).length := by
  induction rs with
  | nil => rfl
  | cons r rs ih =>
    have e : flatR (r :: rs) = pairsOf r ++ flatR rs := rfl
    have e2 : allOf (r :: rs) = r.2 ++ allOf rs := rfl
    rw [e, e2, List.length_append, List.length_append, ih]
    simp [pairsOf]
theorem flat_recs (M : Sp) (t : Nat) : (flatR (recsM M t)).length = M.us.length + ((allOf M.ws).length + M.go.length) := by
  rw [flatR_allOf]
  unfold recsM
  rw [gallOf_append, gallOf_append, gallOf_recM, gallOf_recM]
  simp only [List.length_append]; omega

/-! ### the change's pages -/
theorem putT_K (T : TV) (l : List Nat) (ps : List Pr) (M S : Nat) : ∀ k, k ≤ l.length → ∀ q, q ∈ (putT T l ps M S k).K ↔ q ∈ T.K ∨ q ∈ l.take k
  | 0, _, q => by simp [putT]
  | k + 1, hk, q => by
    have hlt : k < l.length := by omega
    show q ∈ ins (l.getD k 0) (putT T l ps M S k).K ↔ _
    rw [mem_ins, putT_K T l ps M S k (by omega) q, List.take_succ_eq_append_getElem hlt]
    have : l.getD k 0 = l[k] := by simp [List.getD_eq_getElem?_getD, hlt]
    rw [this]
    simp only [List.mem_append, List.mem_singleton]
    constructor
    · rintro (h | h | h)
      · exact .inr (.inr h)
      · exact .inl h
      · exact .inr (.inl h)
    · rintro (h | h | h)
      · exact .inr (.inl h)
      · exact .inr (.inr h)
      · exact .inl h
theorem putT_srt (T : TV) (l : List Nat) (ps : List Pr) (M S : Nat) (h : Srt T.K) : ∀ k, Srt (putT T l ps M S k).K
  | 0 => h
  | k + 1 => srt_ins (putT_srt T l ps M S h k)
theorem nodup_at {l : List Nat} (h : l.Nodup) {i j : Nat} (hi : i < l.length) (hj : j < l.length) (e : l[i] = l[j]) : i = j := by
  have k := List.pairwise_iff_getElem.1 h
  rcases Nat.lt_trichotomy i j with x | x | x
  · exact absurd e (k i j hi hj x)
  · exact x
  · exact absurd e.symm (k j i hj hi x)
theorem putT_C (T : TV) {l : List Nat} (ps : List Pr) (M S : Nat) (hnd : l.Nodup) : ∀ k, k ≤ l.length →
    (∀ q, q ∉ l.take k → (putT T l ps M S k).C q = T.C q) ∧ ∀ j, j < k → (putT T l ps M S k).C (l.getD j 0) = frB (partF ps M j) ((aftL l (j + 1) : Nat) : Int) S
  | 0, _ => ⟨fun _ _ => rfl, fun j hj => by omega⟩
  | k + 1, hk => by
    have hlt : k < l.length := by omega
    obtain ⟨h1, h2⟩ := putT_C T ps M S hnd k (by omega)
    have e : l.getD k 0 = l[k] := by simp [List.getD_eq_getElem?_getD, hlt]
    refine ⟨fun q hq => ?_, fun j hj => ?_⟩
    · rw [List.take_succ_eq_append_getElem hlt] at hq
      simp only [List.mem_append, List.mem_singleton, not_or] at hq
      show updC (putT T l ps M S k).C (l.getD k 0) _ q = _
      unfold updC
      rw [e, if_neg hq.2]
      exact h1 q hq.1
    · show updC (putT T l ps M S k).C (l.getD k 0) _ (l.getD j 0) = _
      unfold updC
      by_cases ej : j = k
      · subst ej; rw [if_pos rfl]
      · have hj2 : j < l.length := by omega
        have e2 : l.getD j 0 = l[j] := by simp [List.getD_eq_getElem?_getD, hj2]
        rw [if_neg (by rw [e, e2]; exact fun x => ej (nodup_at hnd hj2 hlt x))]
        exact h2 j (by omega)

/-! ### a disk's page that nothing happens to -/
structure Still (p : Nat) (b : List Int) (M : SM) : Prop where
  lt : p < M.pg.length
  at_ : pgAt M.pg p = (b, b)
  no : p ∉ M.loose.map (·.1)
theorem Still.last {p : Nat} {b : List Int} {M : SM} (h : Still p b M) : lastM M p = b := by
  have := h.at_
  show (pgAt M.pg p).2 = b
  rw [this]
theorem Still.cnt {p : Nat} {b : List Int} {M : SM} (h : Still p b M) : Still p b (cntM M) := ⟨h.lt, h.at_, h.no⟩
theorem Still.wr {p i : Nat} {b c : List Int} {M : SM} (h : Still p b M) (hi : i ≠ p) (hl : i < M.pg.length) : Still p b (wrM M i c) := by
  refine ⟨by simp [wrM]; exact h.lt, ?_, ?_⟩
  · show pgAt (M.pg.set i _) p = _
    rw [pgAt_set _ _ _ _ hl, if_neg hi]; exact h.at_
  · show p ∉ (M.loose ++ [(i, c)]).map (·.1)
    simp only [List.map_append, List.map_cons, List.map_nil, List.mem_append, List.mem_singleton, not_or]
    exact ⟨h.no, fun e => hi e.symm⟩
theorem syncP_off (p : Nat) : ∀ (l : List (Nat × List Int)) (pg : List (List Int × List Int)), p ∉ l.map (·.1) → pgAt (syncP pg l) p = pgAt pg p
  | [], _, _ => rfl
  | x :: l, pg, h => by
    simp only [List.map_cons, List.mem_cons, not_or] at h
    rw [syncP, syncP_off p l _ h.2]
    by_cases hx : x.1 < pg.length
    · rw [pgAt_set _ _ _ _ hx, if_neg (fun e => h.1 e.symm)]
    · rw [List.set_eq_of_length_le (by omega)]
theorem Still.sync {p : Nat} {b : List Int} {M : SM} (h : Still p b M) : Still p b (syncM M) := by
  refine ⟨by show p < (syncP M.pg M.loose).length; rw [syncP_len]; exact h.lt, ?_, by show p ∉ [].map _; simp⟩
  show pgAt (syncP M.pg M.loose) p = _
  rw [syncP_off p _ _ h.no]; exact h.at_
theorem Still.grow {p k : Nat} {b : List Int} {M : SM} {o : Bool} (h : Still p b M) : Still p b (growM M k o) := by
  refine ⟨by simp [growM]; have := h.lt; omega, ?_, h.no⟩
  have := h.at_
  show (M.pg ++ _).getD p ([], []) = _
  rw [List.getD_eq_getElem?_getD, List.getElem?_append_left h.lt, ← List.getD_eq_getElem?_getD]
  exact this
theorem Still.jgr {p n : Nat} {b : List Int} {M : SM} (h : Still p b M) : Still p b (jgrM M n) := by
  unfold jgrM
  split
  · exact h
  · split
    · exact h.cnt.grow
    · exact h.cnt
theorem crashP_off (ks : List Int) (p : Nat) : ∀ (l : List (Nat × List Int)) (i : Nat) (pg : List (List Int × List Int)), p ∉ l.map (·.1) → pgAt (crashP ks i pg l) p = pgAt pg p
  | [], _, _, _ => rfl
  | x :: l, i, pg, h => by
    simp only [List.map_cons, List.mem_cons, not_or] at h
    rw [crashP, crashP_off ks p l _ _ h.2]
    unfold crashS
    by_cases hx : x.1 < pg.length
    · rw [pgAt_set _ _ _ _ hx, if_neg (fun e => h.1 e.symm)]
    · rw [List.set_eq_of_length_le (by omega)]
theorem Still.crash {p : Nat} {b : List Int} {M : SM} (h : Still p b M) (ks : List Int) : Still p b (crashM M ks) := by
  refine ⟨by show p < (crashP ks 0 M.pg M.loose).length; rw [crashP_len]; exact h.lt, ?_, by show p ∉ [].map _; simp⟩
  show pgAt (crashP ks 0 M.pg M.loose) p = _
  rw [crashP_off ks p _ _ _ h.no]; exact h.at_
theorem Still.wrs {p : Nat} {b : List Int} (C : Nat → List Int) : ∀ (l : List Nat) {M M1 : SM} {e : Int}, wrsM C M l = (M1, e) → Still p b M → p ∉ l → (∀ q ∈ l, q < M.pg.length) → Still p b M1
  | [], M, M1, e, h, hs, _, _ => by
    simp only [wrsM, Prod.mk.injEq] at h
    obtain ⟨rfl, _⟩ := h
    exact hs
  | q :: l, M, M1, e, h, hs, hp, hl => by
    simp only [List.mem_cons, not_or] at hp
    unfold wrsM at h
    split at h
    · have hq := hl q (by simp)
      have ew : (wrM M q (C q)).pg.length = M.pg.length := by simp [wrM]
      exact Still.wrs C l h (hs.wr (fun x => hp.1 x.symm) hq) hp.2 (fun y hy => by rw [ew]; exact hl y (by simp [hy]))
    · simp only [Prod.mk.injEq] at h
      obtain ⟨rfl, _⟩ := h
      exact hs.cnt
theorem wrs_last (C : Nat → List Int) : ∀ (l : List Nat) {M M1 : SM}, wrsM C M l = (M1, 0) → (∀ q ∈ l, q < M.pg.length) → ∀ p, lastM M1 p = if p ∈ l then C p else lastM M p
  | [], M, M1, h, _, p => by
    simp only [wrsM, Prod.mk.injEq] at h
    obtain ⟨rfl, _⟩ := h
    simp
  | q :: l, M, M1, h, hl, p => by
    unfold wrsM at h
    split at h
    · have hq := hl q (by simp)
      have ew : (wrM M q (C q)).pg.length = M.pg.length := by simp [wrM]
      rw [wrs_last C l h (fun y hy => by rw [ew]; exact hl y (by simp [hy])) p, lastM_wr M q p (C q) hq]
      by_cases e1 : p ∈ l
      · rw [if_pos e1, if_pos (by simp [e1])]
      · rw [if_neg e1]
        by_cases e2 : p = q
        · subst e2; simp
        · rw [if_neg e2, if_neg (by simp [e1, e2])]
    · simp at h
theorem wrs_wf (C : Nat → List Int) : ∀ (l : List Nat) {M M1 : SM} {e : Int}, wrsM C M l = (M1, e) → WF M → (∀ q ∈ l, q < M.pg.length) → WF M1
  | [], M, M1, e, h, hs, _ => by
    simp only [wrsM, Prod.mk.injEq] at h
    obtain ⟨rfl, _⟩ := h
    exact hs
  | q :: l, M, M1, e, h, hs, hl => by
    unfold wrsM at h
    split at h
    · have hq := hl q (by simp)
      have ew : (wrM M q (C q)).pg.length = M.pg.length := by simp [wrM]
      exact wrs_wf C l h (hs.wr hq) (fun y hy => by rw [ew]; exact hl y (by simp [hy]))
    · simp only [Prod.mk.injEq] at h
      obtain ⟨rfl, _⟩ := h
      exact hs.cnt
theorem wrs_byd (C : Nat → List Int) : ∀ (l : List Nat) {M M1 : SM} {e : Int}, wrsM C M l = (M1, e) → Byd M → (∀ q ∈ l, q < M.pg.length) → (∀ q ∈ l, Byt (C q) ∧ (C q).length = M.size) → Byd M1
  | [], M, M1, e, h, hs, _, _ => by
    simp only [wrsM, Prod.mk.injEq] at h
    obtain ⟨rfl, _⟩ := h
    exact hs
  | q :: l, M, M1, e, h, hs, hl, hC => by
    unfold wrsM at h
    split at h
    · have hq := hl q (by simp)
      have ew : (wrM M q (C q)).pg.length = M.pg.length := by simp [wrM]
      exact wrs_byd C l h (hs.wr hq (hC q (by simp)).1 (hC q (by simp)).2) (fun y hy => by rw [ew]; exact hl y (by simp [hy])) (fun y hy => hC y (by simp [hy]))
    · simp only [Prod.mk.injEq] at h
      obtain ⟨rfl, _⟩ := h
      exact hs.cnt
theorem wrs_wel (C : Nat → List Int) : ∀ (l : List Nat) {M M1 : SM} {e : Int} {c : Nat}, wrsM C M l = (M1, e) → Wel M c → (∀ q ∈ l, q < M.pg.length) → Wel M1 (c + l.length) ∧ M1.pg.length = M.pg.length ∧ M1.size = M.size ∧ M1.limit = M.limit
  | [], M, M1, e, c, h, hs, _ => by
    simp only [wrsM, Prod.mk.injEq] at h
    obtain ⟨rfl, _⟩ := h
    exact ⟨hs, rfl, rfl, rfl⟩
  | q :: l, M, M1, e, c, h, hs, hl => by
    unfold wrsM at h
    split at h
    · have hq := hl q (by simp)
      have ew : (wrM M q (C q)).pg.length = M.pg.length := by simp [wrM]
      obtain ⟨a, b, c1, d⟩ := wrs_wel C l h (hs.wr (bs := C q) hq) (fun y hy => by rw [ew]; exact hl y (by simp [hy]))
      exact ⟨a.mono (by simp; omega), b.trans ew, c1, d⟩
    · simp only [Prod.mk.injEq] at h
      obtain ⟨rfl, _⟩ := h
      exact ⟨hs.cnt.mono (by simp), rfl, rfl, rfl⟩

end Go.Proofs.YtildjdhoeilcfaaGreat
