/-
  Layer 11, plain: a change of a file at rest: new pages, pages let go of; what its commit wants, and leaves. Own work.
-/
import Derived.Test.YtildjdhoeilcfaaGreatPgrBH

namespace Go.Proofs.YtildjdhoeilcfaaGreat
open Go.RowKit Go.Maps

/-- A change of F (which holds H, with the bytes D): it holds I, with the bytes E. -/
structure Chg (S lim o : Nat) (F : FV) (rs : List Rc) (H : List Nat) (D : Nat → List Int) (T : TV) (V : Nat → Nat) (I : List Nat) (E : Nat → List Int) : Prop where
  n : T.n = F.mt.t + 1
  c : CInv lim o (flOf F rs) H T.sp V I [] []
  srt : Srt T.K
  k : ∀ p, p ∈ T.K ↔ p ∈ I ∧ V p = 3
  d : ∀ p ∈ T.K, T.C p = E p
  d0 : ∀ p ∈ I, V p = 0 → E p = D p
  b : ∀ p ∈ T.K, Byt (T.C p) ∧ (T.C p).length = S
section
variable {S lim c o : Nat} {M : SM} {F : FV} {rs : List Rc} {H I : List Nat} {D E : Nat → List Int} {T : TV} {V : Nat → Nat}
theorem chg_begin (h : Rest S lim c M F rs H D) (o : Nat) (C : Nat → List Int) : Chg S lim o F rs H D ⟨F.mt.t + 1, spOf F.mt.e lim o rs, [], C⟩ (fillR o (fun _ => 0) rs) H D := by
  have hc := c_begin (o := o) h.inv
  refine ⟨rfl, hc, List.Pairwise.nil, fun p => ⟨fun k => (by cases k), fun k => ?_⟩, (by intro p hp; cases hp), fun _ _ _ => rfl, (by intro p hp; cases hp)⟩
  have : p ∈ (spOf (flOf F rs).e lim o (flOf F rs).rs).fr := (hc.g.k3 p).1 k.2
  cases this
theorem Chg.lt (hR : Rest S lim c M F rs H D) (h : Chg S lim o F rs H D T V I E) : ∀ p ∈ I, 2 ≤ p ∧ p < T.sp.en := fun p hp => by
  rcases h.c.i p hp with k | ⟨_, k⟩
  · exact h.c.g.rg p (by omega)
  · have := hR.inv.rh p k
    have := h.c.g.en1
    exact ⟨by omega, by omega⟩
theorem Chg.tkok (hR : Rest S lim c M F rs H D) {M' : Sp} {G A : List Nat} (h : CInv lim o (flOf F rs) H M' V I G A) : TkOk M' := by
  have hl := hR.l1
  refine ⟨h.g.su, h.g.low, by rw [h.g.lim]; exact h.g.en2, by rw [h.g.lim]; exact hl, fun x hx => ?_⟩
  have hV : V x = 1 := (h.g.k1 x).2 hx
  have := h.g.rg x (by omega)
  have := h.g.en2
  omega
/-- New, as it goes. -/
theorem chg_new (hR : Rest S lim c M F rs H D) (h : Chg S lim o F rs H D T V I E) {b : List Int} (hb : Byt b) (hl : b.length = S) :
    ((newT T b).2.2 = 0 ∧ (newT T b).2.1 ∉ I ∧ 2 ≤ (newT T b).2.1 ∧ (newT T b).2.1 < (newT T b).1.sp.en ∧ (takeM T.sp = ((newT T b).1.sp, (newT T b).2.1, 0)) ∧ (V (newT T b).2.1 = 1 ∨ V (newT T b).2.1 = 0 ∧ (newT T b).2.1 = T.sp.en) ∧
      Chg S lim o F rs H D (newT T b).1 (upd V (newT T b).2.1 3) (I ++ [(newT T b).2.1]) (updC E (newT T b).2.1 b)) ∨
    ((newT T b).2.2 = 21 ∧ (newT T b).2.1 = 0 ∧ (newT T b).1 = T ∧ T.sp.us = [] ∧ T.sp.en = lim) := by
  rcases g_take (M' := (takeM T.sp).1) (p := (takeM T.sp).2.1) (e := (takeM T.sp).2.2) h.c.g rfl with ⟨e0, hx, _, hg⟩ | ⟨e1, hM, hu, hen⟩
  · left
    have en : newT T b = ({ T with sp := (takeM T.sp).1, K := ins (takeM T.sp).2.1 T.K, C := updC T.C (takeM T.sp).2.1 b }, (takeM T.sp).2.1, 0) := by unfold newT; rw [if_pos e0]
    have hp : V (takeM T.sp).2.1 = 1 ∨ V (takeM T.sp).2.1 = 0 ∧ (takeM T.sp).2.1 = T.sp.en := by
      rcases hx with ⟨k, _⟩ | ⟨k, k2, _⟩
      · exact .inl k
      · exact .inr ⟨k, k2⟩
    have hc := c_new hR.inv h.c hp hg rfl
    obtain ⟨n1, _, n3, _, _, n6⟩ := c_taken hR.inv h.c hp
    rw [en]
    generalize hp0 : (takeM T.sp).2.1 = p at hp hc n1 n3 n6 hg hx ⊢
    have hr := hg.rg p (by rw [upd_same]; decide)
    refine ⟨rfl, n1, n6, hr.2, ?_, hp, ?_⟩
    · show takeM T.sp = ((takeM T.sp).1, p, 0)
      rw [← hp0, ← e0]
    refine ⟨h.n, hc, srt_ins h.srt, fun q => ?_, fun q hq => ?_, fun q hq hv => ?_, fun q hq => ?_⟩
    · show q ∈ ins p T.K ↔ _
      rw [mem_ins, h.k q]
      simp only [List.mem_append, List.mem_singleton]
      by_cases e : q = p
      · subst e; simp [upd_same]
      · simp [e, upd_other V 3 e]
    · show updC T.C p b q = updC E p b q
      unfold updC
      by_cases e : q = p
      · rw [if_pos e, if_pos e]
      · rw [if_neg e, if_neg e]
        have hq' : q ∈ ins p T.K := hq
        rw [mem_ins] at hq'
        exact h.d q (hq'.resolve_left e)
    · have e : q ≠ p := fun e => by subst e; rw [upd_same] at hv; cases hv
      rw [upd_other V 3 e] at hv
      show updC E p b q = _
      unfold updC
      rw [if_neg e]
      simp only [List.mem_append, List.mem_singleton] at hq
      exact h.d0 q (hq.resolve_right e) hv
    · show Byt (updC T.C p b q) ∧ (updC T.C p b q).length = S
      unfold updC
      by_cases e : q = p
      · rw [if_pos e]; exact ⟨hb, hl⟩
      · rw [if_neg e]
        have hq' : q ∈ ins p T.K := hq
        rw [mem_ins] at hq'
        exact h.b q (hq'.resolve_left e)
  · right
    have hne : ¬ (takeM T.sp).2.2 = 0 := by rw [e1]; decide
    have en : newT T b = ({ T with sp := (takeM T.sp).1 }, 0, (takeM T.sp).2.2) := by unfold newT; rw [if_neg hne]
    rw [en]
    exact ⟨e1, rfl, by rw [hM], hu, hen⟩
/-- Free, of a page that is held. -/
theorem chg_free (hR : Rest S lim c M F rs H D) (h : Chg S lim o F rs H D T V I E) {p : Nat} (hp : p ∈ I) {I' : List Nat} (hn : I'.Nodup) (hI : ∀ q, q ∈ I' ↔ q ∈ I ∧ q ≠ p) :
    (freeT T p).2 = 0 ∧ (giveM T.sp p = ((freeT T p).1.sp, 0)) ∧ ∃ x, (V p = 3 ∧ x = 1 ∨ V p = 0 ∧ p ∈ H ∧ x = 4) ∧ Chg S lim o F rs H D (freeT T p).1 (upd V p x) I' E := by
  have key : ∀ x, (V p = 3 ∧ x = 1 ∨ V p = 0 ∧ x = 4) → (giveM T.sp p).2 = 0 → GInv (flOf F rs).e lim (newRecs o (flOf F rs).rs) (giveM T.sp p).1 (upd V p x) → (freeT T p).2 = 0 ∧ (giveM T.sp p = ((freeT T p).1.sp, 0)) ∧ Chg S lim o F rs H D (freeT T p).1 (upd V p x) I' E := fun x hx e0 hg => by
    have en : freeT T p = ({ T with sp := (giveM T.sp p).1, K := del p T.K }, 0) := by unfold freeT; rw [if_pos e0]
    rw [en]
    have hc := c_free hR.inv h.c hp hx hg hn hI
    refine ⟨rfl, by rw [← e0], h.n, hc, srt_del' h.srt, fun q => ?_, fun q hq => h.d q (mem_del.1 hq).1, fun q hq hv => ?_, fun q hq => h.b q (mem_del.1 hq).1⟩
    · show q ∈ del p T.K ↔ _
      rw [mem_del, h.k q, hI q]
      by_cases e : q = p
      · simp [e]
      · rw [upd_other V x e]; simp [e]
    · have hq' := (hI q).1 hq
      rw [upd_other V x hq'.2] at hv
      exact h.d0 q hq'.1 hv
  rcases g_give (M' := (giveM T.sp p).1) (e := (giveM T.sp p).2) h.c.g rfl with ⟨e0, hV, _, hg⟩ | ⟨e0, hV, _, _, _, _, _, hg⟩ | ⟨_, _, k⟩
  · obtain ⟨a, b, d⟩ := key 1 (.inl ⟨hV, rfl⟩) e0 hg
    exact ⟨a, b, 1, .inl ⟨hV, rfl⟩, d⟩
  · obtain ⟨a, b, d⟩ := key 4 (.inr ⟨hV, rfl⟩) e0 hg
    have hH : p ∈ H := by
      rcases h.c.i p hp with x | ⟨_, x⟩
      · omega
      · exact x
    exact ⟨a, b, 4, .inr ⟨hV, hH, rfl⟩, d⟩
  · refine absurd ?_ k
    rcases h.c.i p hp with x | ⟨x, y⟩
    · exact .inl x
    · have := hR.inv.rh p y
      exact .inr ⟨x, this.1, this.2⟩

/-! ### what a commit wants -/
theorem c_recs (hR : Rest S lim c M F rs H D) {sp : Sp} {V : Nat → Nat} {G A : List Nat} (h : CInv lim o (flOf F rs) H sp V I G A) : Okr sp.en (recsM sp (F.mt.t + 1)) :=
  right_iff.1 (grecs_right h.g (okr_new o hR.inv.ok) (F.mt.t + 1) (fun r hr => by
    have k := new_mem.1 hr
    have : r.1 ≤ F.mt.t := hR.inv.tx r k.1
    exact ⟨by omega, by omega⟩) (by omega))
theorem c_few (hR : Rest S lim c M F rs H D) (hc : c ≤ 80000) {sp : Sp} {V : Nat → Nat} {G A : List Nat} (h : CInv lim o (flOf F rs) H sp V I G A) : Few sp (F.mt.t + 1) := by
  have hl := hR.l1
  have hen : sp.en ≤ lim := h.g.en2
  have ht := hR.tb
  have hk := c_recs hR h
  have hw : Okr (flOf F rs).e sp.ws := by rw [h.g.ws]; exact okr_new o hR.inv.ok
  have hel : (flOf F rs).e ≤ lim := hR.inv.el
  refine ⟨?_, ?_, fun r hr => ⟨(hw.each r hr).2.2, ?_⟩, ?_, by omega, ?_, fun r hr => ⟨?_, fun p hp => ?_⟩⟩
  · have := nodup_len (srt_nodup h.g.su) (fun x hx => (h.g.rg x (by rw [(h.g.k1 x).2 hx]; decide)).2)
    omega
  · have := nodup_len (srt_nodup h.g.sg) (fun x hx => (h.g.rg x (by rw [(h.g.k4 x).2 hx]; decide)).2)
    omega
  · have := okr_each hw hr; omega
  · have := okr_len hw; omega
  · rw [flatR_allOf]
    have := nodup_len (okr_nodup hk) (fun x hx => (okr_range hk x hx).2)
    omega
  · have hr' := hr
    unfold recsM at hr
    have f1 : ∀ {L : List Nat} {t : Nat}, r ∈ recM L t → r.1 = t := fun {L t} hr => by
      unfold recM at hr
      split at hr
      · cases hr
      · simp at hr; rw [hr]
    rcases List.mem_append.1 hr with k | k
    · rcases List.mem_append.1 k with k | k
      · have := f1 k; omega
      · rw [h.g.ws] at k
        have : r.1 ≤ F.mt.t := hR.inv.tx r (new_mem.1 k).1
        omega
    · have := f1 k; omega
  · have := ((hk.each r hr).2.1 p hp).2
    omega
theorem many_enough {n L Mr S : Nat} (s1 : 512 ≤ S) (s2 : S ≤ 4096) (hM : (Mr : Int) = roomI (S : Int)) (h : manyF (n : Int) (S : Int) ≤ (L : Int)) : n ≤ L * Mr := by
  unfold manyF at h
  have hr : 1 ≤ roomI (S : Int) := by unfold roomI; omega
  by_cases hn : 1 ≤ n
  · rw [if_pos ⟨by omega, by omega, by omega⟩, ← hM] at h
    rw [← hM] at hr
    have h1 : ((n : Int) - 1) / (Mr : Int) < (L : Int) := by omega
    have h2 := Int.lt_mul_of_ediv_lt (show (0 : Int) < (Mr : Int) by omega) h1
    have h3 : ((L * Mr : Nat) : Int) = (L : Int) * (Mr : Int) := by simp
    have : ((n : Int) - 1) < ((L * Mr : Nat) : Int) := by rw [h3]; exact h2
    omega
  · omega
/-- The lists, page by page. -/
theorem chain_of {S Mr e : Nat} {M : SM} {l : List Nat} {ps : List Pr} (s1 : 512 ≤ S) (s2 : S ≤ 4096) (hM : (Mr : Int) = roomI (S : Int)) (hr : ps.Pairwise lexP) (ho : ∀ p ∈ ps, PrOk p) (hge : ps.length ≤ l.length * Mr) (hl : ∀ p ∈ l, 2 ≤ p ∧ p < e) (he : e < 4294967296)
    (hb : ∀ j, j < l.length → lastM M (l.getD j 0) = frB (partF ps Mr j) ((aftL l (j + 1) : Nat) : Int) S) : ∀ j k, k + j = l.length → LCh M e (aftL l j) (l.drop j) (ps.drop (j * Mr))
  | j, 0, hj => by
    have : j = l.length := by omega
    subst this
    rw [List.drop_eq_nil_of_le (Nat.le_refl _), List.drop_eq_nil_of_le hge]
    refine ⟨?_, rfl⟩
    unfold aftL
    simp [List.getD_eq_getElem?_getD]
  | j, k + 1, hj => by
    have hlt : j < l.length := by omega
    have ih := chain_of s1 s2 hM hr ho hge hl he hb (j + 1) k (by omega)
    have e1 : l.drop j = l[j] :: l.drop (j + 1) := List.drop_eq_getElem_cons hlt
    have e2 : aftL l j = l[j] := by unfold aftL; simp [List.getD_eq_getElem?_getD, hlt]
    have hj2 := hl l[j] (List.getElem_mem hlt)
    have e3 : ps.drop (j * Mr) = partF ps Mr j ++ ps.drop ((j + 1) * Mr) := by
      unfold partF
      conv => lhs; rw [← List.take_append_drop Mr (ps.drop (j * Mr))]
      rw [List.drop_drop, Nat.succ_mul]
    have hax : aftL l (j + 1) < 4294967296 := by
      unfold aftL
      by_cases h : j + 1 < l.length
      · have := hl l[j + 1] (List.getElem_mem h)
        simp [List.getD_eq_getElem?_getD, h]; omega
      · simp [List.getD_eq_getElem?_getD, h]
    rw [e1]
    refine ⟨e2, by rw [e2]; exact hj2.1, by rw [e2]; exact hj2.2, partF ps Mr j, aftL l (j + 1), ps.drop ((j + 1) * Mr), ?_, e3, ih⟩
    rw [e2]
    have hbj := hb j hlt
    rw [show l.getD j 0 = l[j] by simp [List.getD_eq_getElem?_getD, hlt]] at hbj
    rw [hbj]
    refine frB_laid ⟨by omega, by omega, ?_, rise_part hr Mr j⟩ (fun p hp => ho p (List.mem_of_mem_drop (List.mem_of_mem_take hp))) (by omega) (by omega)
    rw [← hM]
    unfold partF
    rw [List.length_take]
    omega

/-! ### what a commit leaves -/
/-- The change, once the lists are given back and taken. -/
structure Cls (S lim o : Nat) (F : FV) (rs : List Rc) (H : List Nat) (T : TV) (V : Nat → Nat) (I : List Nat) (sp : Sp) (l : List Nat) (V' : Nat → Nat) : Prop where
  c : CInv lim o (flOf F rs) H sp V' I F.ls l
  ge : manyF ((flatR (recsM sp (F.mt.t + 1))).length : Int) (S : Int) ≤ (l.length : Int)
  same : ∀ q, q ∉ F.ls → q ∉ l → V' q = V q
theorem cls_of (hR : Rest S lim c M F rs H D) (h : Chg S lim o F rs H D T V I E) : ∃ sp1 V1, frAll T F.ls = ({ T with sp := sp1 }, 0) ∧ CInv lim o (flOf F rs) H sp1 V1 I F.ls [] ∧
    ∀ sp l, TakeTo S (((flatR (recsM sp1 T.n)).length : Int) - (sp1.us.length : Int)) sp1 [] sp l → ¬ ((l.length : Int) < manyF (((flatR (recsM sp1 T.n)).length : Int) - (sp1.us.length : Int) + (sp.us.length : Int)) (S : Int)) → ∃ V', Cls S lim o F rs H T V I sp l V' := by
  obtain ⟨sp1, V1, a, b, d⟩ := frAll_lists hR.inv F.ls [] T V rfl h.c (fun q hq => ((h.k q).1 hq).2)
  refine ⟨sp1, V1, a, b, fun sp l ht hge => ?_⟩
  obtain ⟨V', g1, g2, _⟩ := take_lists hR.inv ht b
  have hs := take_same ht
  refine ⟨V', g1, ?_, fun q hq hl => by rw [g2 q hl, d q hq]⟩
  rw [h.n, flat_recs] at hge
  rw [flat_recs, hs.1, hs.2]
  have e : ((sp1.us.length + ((allOf sp1.ws).length + sp1.go.length) : Nat) : Int) - (sp1.us.length : Int) + (sp.us.length : Int) = ((sp.us.length + ((allOf sp1.ws).length + sp1.go.length) : Nat) : Int) := by omega
  rw [e] at hge
  omega
end
/-- What is committed. -/
abbrev cmF (T : TV) (sp : Sp) (l : List Nat) (main : Nat) : FV := ⟨⟨T.n, sp.en, main, aftL l 0⟩, flatR (recsM sp T.n), l, false⟩
abbrev cmT (T : TV) (sp : Sp) (l : List Nat) (Mr S : Nat) : TV := putT { T with sp := sp } l (flatR (recsM sp T.n)) Mr S l.length
section
variable {S lim c o : Nat} {M : SM} {F : FV} {rs : List Rc} {H I : List Nat} {D E : Nat → List Int} {T : TV} {V V' : Nat → Nat} {sp : Sp} {l : List Nat}
structure ClsF (S lim o Mr : Nat) (F : FV) (rs : List Rc) (H : List Nat) (E : Nat → List Int) (T : TV) (I : List Nat) (sp : Sp) (l : List Nat) (main : Nat) : Prop where
  okr : Okr sp.en (recsM sp T.n)
  mo : MtOk (cmF T sp l main).mt
  mr : mright (cmF T sp l main).mt = true
  K : ∀ p, p ∈ (cmT T sp l Mr S).K ↔ p ∈ T.K ∨ p ∈ l
  lt : ∀ p ∈ (cmT T sp l Mr S).K, 2 ≤ p ∧ p < sp.en
  len : (cmT T sp l Mr S).K.length ≤ lim
  own : ∀ p ∈ T.K, (cmT T sp l Mr S).C p = E p
  lis : ∀ j, j < l.length → (cmT T sp l Mr S).C (l.getD j 0) = frB (partF (flatR (recsM sp T.n)) Mr j) ((aftL l (j + 1) : Nat) : Int) S
  b : ∀ p ∈ (cmT T sp l Mr S).K, Byt ((cmT T sp l Mr S).C p) ∧ ((cmT T sp l Mr S).C p).length = S
  en : (cmT T sp l Mr S).sp.en = sp.en
  old : ∀ p, p ∈ H ∨ p ∈ F.ls → p ∉ (cmT T sp l Mr S).K
  inv : FInv lim (flOf (cmF T sp l main) (recsM sp T.n)) I
  ge : manyF ((flatR (recsM sp T.n)).length : Int) (S : Int) ≤ (l.length : Int)
  el : sp.en ≤ lim
  few : Few sp T.n
  ll : l.length ≤ lim
  nl : l.Nodup
  rl : ∀ p ∈ l, 2 ≤ p ∧ p < sp.en
  held : ∀ p ∈ I, p ∉ T.K → V' p = 0 → p ∈ H
theorem cls_ok {main Mr : Nat} (hR : Rest S lim c M F rs H D) (hc : c ≤ 80000) (h : Chg S lim o F rs H D T V I E) (k : Cls S lim o F rs H T V I sp l V') (hMr : (Mr : Int) = roomI (S : Int)) (hm : main = 0 ∨ main ∈ I) : ClsF (V' := V') S lim o Mr F rs H E T I sp l main := by
  have hl1 := hR.l1
  have hel : sp.en ≤ lim := k.c.g.en2
  have hen1 : F.mt.e ≤ sp.en := k.c.g.en1
  have he2 := hR.e2
  have ht := hR.tb
  have hn := h.n
  have hnl : l.Nodup := (List.nodup_append.1 k.c.nd).2.1
  have hrl : ∀ p ∈ l, 2 ≤ p ∧ p < sp.en := fun p hp => k.c.g.rg p (by rw [k.c.a p hp]; decide)
  have hI3 : ∀ p ∈ T.K, V' p = 3 ∧ p ∈ I := fun p hp => by
    have := (h.k p).1 hp
    have hpl : p ∉ F.ls := fun x => by have := h.c.l0 p x (by simp); omega
    by_cases e : p ∈ l
    · exact ⟨k.c.a p e, this.1⟩
    · exact ⟨by rw [k.same p hpl e]; exact this.2, this.1⟩
  have hII : ∀ p ∈ I, 2 ≤ p ∧ p < sp.en := fun p hp => by
    rcases k.c.i p hp with x | ⟨_, x⟩
    · exact k.c.g.rg p (by omega)
    · have := hR.inv.rh p x
      have : p < F.mt.e := this.2
      exact ⟨by omega, by omega⟩
  have hIl : ∀ p ∈ I, p ∉ l := fun p hp hx => (List.nodup_append.1 k.c.nd).2.2 p hp p hx rfl
  have hK : ∀ p, p ∈ (cmT T sp l Mr S).K ↔ p ∈ T.K ∨ p ∈ l := fun p => by
    have := putT_K { T with sp := sp } l (flatR (recsM sp T.n)) Mr S l.length (Nat.le_refl _) p
    rw [List.take_of_length_le (Nat.le_refl _)] at this
    exact this
  have hlt : ∀ p ∈ (cmT T sp l Mr S).K, 2 ≤ p ∧ p < sp.en := fun p hp => ((hK p).1 hp).elim (fun x => hII p (hI3 p x).2) (hrl p)
  have hsK : (cmT T sp l Mr S).K.Nodup := srt_nodup (putT_srt { T with sp := sp } l _ Mr S h.srt l.length)
  obtain ⟨pc1, pc2⟩ := putT_C { T with sp := sp } (flatR (recsM sp T.n)) Mr S hnl l.length (Nat.le_refl _)
  rw [List.take_of_length_le (Nat.le_refl _)] at pc1
  have hokr : Okr sp.en (recsM sp T.n) := by rw [hn]; exact c_recs hR k.c
  have hax : aftL l 0 = 0 ∨ 2 ≤ aftL l 0 ∧ aftL l 0 < sp.en := by
    unfold aftL
    cases l with
    | nil => exact .inl rfl
    | cons p l => exact .inr (hrl p (by simp))
  have hmain : main = 0 ∨ 2 ≤ main ∧ main < sp.en := hm.imp id fun x => hII main x
  have hrise := flatR_rise hokr
  have hfew : Few sp T.n := by rw [hn]; exact c_few hR hc k.c
  refine { okr := hokr, mo := ⟨by show T.n < _; omega, by show sp.en < _; omega, by show main < _; omega, by show aftL l 0 < _; omega⟩, mr := ?_, K := hK, lt := hlt, len := ?_, own := fun p hp => ?_, lis := pc2, b := fun p hp => ?_, en := by show (putT _ _ _ _ _ _).sp.en = _; rw [(putT_same _ _ _ _ _ _).2], old := fun p hp hx => ?_, inv := ?_, ge := by rw [hn]; exact k.ge, el := hel, few := hfew, ll := ?_, nl := hnl, rl := hrl, held := fun p hp hpK hv => ?_ }
  · have r1 : rpg main sp.en = true := by unfold rpg; rcases hmain with x | x <;> simp [x]
    have r2 : rpg (aftL l 0) sp.en = true := by unfold rpg; rcases hax with x | x <;> simp [x]
    have q1 : 1 ≤ T.n := by omega
    have q2 : 2 ≤ sp.en := by omega
    unfold mright
    rw [r1, r2]
    simp [q1, q2]
  · have := nodup_len hsK (fun x hx => (hlt x hx).2); omega
  · show (putT _ _ _ _ _ _).C p = _
    rw [pc1 p (hIl p (hI3 p hp).2)]
    exact h.d p hp
  · by_cases e : p ∈ l
    · obtain ⟨j, hj, rfl⟩ := List.getElem_of_mem e
      have e2 : l.getD j 0 = l[j] := by simp [List.getD_eq_getElem?_getD, hj]
      have := pc2 j hj
      rw [e2] at this
      have hb : (cmT T sp l Mr S).C l[j] = _ := this
      rw [hb]
      refine ⟨frB_byt _ _ _, frB_len ?_⟩
      have hp : (partF (flatR (recsM sp T.n)) Mr j).length ≤ Mr := by unfold partF; rw [List.length_take]; omega
      have := room_fits (n := (partF (flatR (recsM sp T.n)) Mr j).length) (S := (S : Int)) (by rw [← hMr]; omega)
      omega
    · have hpT := ((hK p).1 hp).resolve_right e
      have : (cmT T sp l Mr S).C p = T.C p := pc1 p e
      rw [this]
      exact h.b p hpT
  · have hV3 : V' p = 3 := ((hK p).1 hx).elim (fun y => (hI3 p y).1) (k.c.a p)
    rcases hp with y | y
    · rcases k.c.h p y with z | ⟨z, _⟩ <;> omega
    · have := (k.c.l4 p y).1; omega
  · have := c_commit (mn := main) hR.inv k.c (fun p hp => hp)
    rw [show (flOf F rs).t + 1 = T.n from hn.symm] at this
    exact this
  · have := nodup_len hnl (fun x hx => (hrl x hx).2); omega
  · rcases k.c.i p hp with x | ⟨_, x⟩
    · omega
    · exact x
theorem cm_wel {M : SM} {c : Nat} (h : Wel M c) (i : Nat) (b : List Int) (hi : i < M.pg.length) : Wel (wrM (syncM M) i b) (c + 2) := (h.sync.wr (bs := b) (by show i < (syncP M.pg M.loose).length; rw [syncP_len]; exact hi))

/-! ### a meta's page, torn -/
theorem torn_meta {S : Nat} {a b : List Int} (h1 : 512 ≤ S) (ha : a.length = S) (hb : b.length = S) (za : a.drop 128 = List.replicate (S - 128) 0) (zb : b.drop 128 = List.replicate (S - 128) 0) (x : Nat) : tornB a b x (a.length / 128) = a ∨ tornB a b x (a.length / 128) = b := by
  have hz : ∀ (c : List Int) (j : Nat), c.length = S → c.drop 128 = List.replicate (S - 128) 0 → 128 ≤ j → j < S → c[j]? = some 0 := fun c j hc hd hj hjS => by
    have : (c.drop 128)[j - 128]? = some 0 := by rw [hd, List.getElem?_replicate, if_pos (by omega)]
    rw [List.getElem?_drop, show 128 + (j - 128) = j by omega] at this
    exact this
  by_cases hx : bitB x 0 = true
  · right
    apply List.ext_getElem?
    intro j
    by_cases hj : j < a.length
    · rw [tornB_get _ _ _ _ _ hj]
      by_cases h8 : j < 128
      · have e : j / 128 = 0 := by omega
        rw [e, if_pos ⟨by omega, hx⟩]
        rw [List.getD_eq_getElem?_getD, List.getElem?_eq_getElem (show j < b.length by omega)]; rfl
      · have ea := hz a j ha za (by omega) (by omega)
        have eb := hz b j hb zb (by omega) (by omega)
        rw [eb]
        split
        · rw [List.getD_eq_getElem?_getD, eb]; rfl
        · rw [List.getD_eq_getElem?_getD, ea]; rfl
    · rw [List.getElem?_eq_none (by rw [tornB_len]; omega), List.getElem?_eq_none (by omega)]
  · left
    apply List.ext_getElem?
    intro j
    by_cases hj : j < a.length
    · rw [tornB_get _ _ _ _ _ hj]
      by_cases h8 : j < 128
      · have e : j / 128 = 0 := by omega
        rw [e, if_neg (fun k => hx k.2)]
        rw [List.getD_eq_getElem?_getD, List.getElem?_eq_getElem hj]; rfl
      · have ea := hz a j ha za (by omega) (by omega)
        have eb := hz b j hb zb (by omega) (by omega)
        rw [ea]
        split
        · rw [List.getD_eq_getElem?_getD, eb]; rfl
        · rw [List.getD_eq_getElem?_getD, ea]; rfl
    · rw [List.getElem?_eq_none (by rw [tornB_len]; omega), List.getElem?_eq_none (by omega)]
theorem wrs_calm (C : Nat → List Int) : ∀ (l : List Nat) (M : SM), M.fails = false → (wrsM C M l).2 = 0 ∧ (wrsM C M l).1.fails = false
  | [], M, h => ⟨rfl, h⟩
  | q :: l, M, h => by
    unfold wrsM
    rw [if_pos (calm_cE h)]
    exact wrs_calm C l _ (wr_calm h _ _)
theorem dw_calm {T : TV} {M : SM} (h : M.fails = false) : (dwM T M).1.fails = false := by
  unfold dwM
  split
  · exact (wrs_calm _ _ _ (jgrM_calm h _)).2
  · exact jgrM_calm h _
theorem dw_codes_calm {T : TV} {M : SM} (h : M.fails = false) (he : T.sp.en ≤ M.limit) : (dwM T M).2 = 0 := by
  unfold dwM
  rw [if_pos (jgrE_calm h he)]
  exact (wrs_calm _ _ _ (jgrM_calm h _)).1

/-- What a commit leaves of a disk at rest. -/
theorem commit_plain {main Mr : Nat} (hR : Rest S lim c M F rs H D) (hc : c ≤ 80000) (h : Chg S lim o F rs H D T V I E) (k : Cls S lim o F rs H T V I sp l V') (hMr : (Mr : Int) = roomI (S : Int)) (hm : main = 0 ∨ main ∈ I)
    {N : SM} {q : Nat} (hcm : cmR (cmT T sp l Mr S) M (cmF T sp l main).mt = (N, q)) :
    (q = 0 → Rest S lim (c + lim + 6) N (cmF T sp l main) (recsM sp T.n) I E) ∧ (q = 1 → ∀ ks, Rest S lim (c + lim + 6) (crashM N ks) F rs H D) ∧
    (q ≠ 0 → ∀ ks, Rest S lim (c + lim + 6) (crashM N ks) F rs H D ∨ Rest S lim (c + lim + 6) (crashM N ks) (cmF T sp l main) (recsM sp T.n) I E) ∧
    (∀ p, 2 ≤ p → p < M.pg.length → p ∉ (cmT T sp l Mr S).K → lastM N p = lastM M p) ∧ Wel N (c + lim + 6) ∧ (M.fails = false → q = 0 ∧ N.fails = false) := by
  have hf := cls_ok hR hc h k hMr hm
  have s1 := hR.s1
  have s2 := hR.s2
  have hsz := hR.sz
  have hlen2 := hR.len2
  have hle := hR.len
  have ht := hR.tb
  have hn := h.n
  obtain ⟨M1, e1, hdw⟩ : ∃ M1 e1, dwM (cmT T sp l Mr S) M = (M1, e1) := ⟨_, _, rfl⟩
  have hd := dw_ok hdw hR.wel hR.byd hR.wf (fun p hp => by rw [hf.en]; exact (hf.lt p hp).2) (fun p hp => by rw [hsz]; exact hf.b p hp)
  have hkl := hf.len
  have hln : M.pg.length ≤ M1.pg.length := hd.ln
  have hst1 : ∀ p, p < M.pg.length → p ∉ (cmT T sp l Mr S).K → Still p (lastM M p) M1 := fun p hp hx => hd.still p _ (rest_pg hR hp) hx
  have h01 : ∀ p, p < 2 → p ∉ (cmT T sp l Mr S).K := fun p hp hx => by have := (hf.lt p hx).1; omega
  -- what is left as it was
  have back : ∀ (N : SM) (ks : List Int), N.size = S → N.limit = lim → Wel N (c + lim + 6) → Byd N → WF N → M.pg.length ≤ N.pg.length → (∀ p, p < M.pg.length → p ∉ (cmT T sp l Mr S).K → Still p (lastM M p) N) → Rest S lim (c + lim + 6) (crashM N ks) F rs H D := fun N ks a1 a2 a3 a4 a5 a6 a7 =>
    hR.keep (M' := crashM N ks) a1 a2 (a3.crash ks) (by omega) (a4.crash a3.lin ks) (a5.crash a3.lin) rfl (by show _ ≤ (crashP ks 0 N.pg N.loose).length; rw [crashP_len]; exact a6)
      (fun p hp => ((a7 p (by
        rcases hp with x | x
        · have := (hR.inv.rl p x).2; have : p < F.mt.e := this; omega
        · have := (hR.inv.rh p x).2; have : p < F.mt.e := this; omega) (hf.old p hp.symm)).crash ks).last) (fun p hp => ((a7 p (by omega) (h01 p hp)).crash ks).last)
  have hsl : (cmF T sp l main).mt.t % 2 < M1.pg.length := by have := Nat.mod_lt T.n (show 2 > 0 by decide); show T.n % 2 < _; omega
  have hmb : Byt (mpage (cmF T sp l main).mt S) ∧ (mpage (cmF T sp l main).mt S).length = S := ⟨mpage_byt _ _, mpage_len (by omega)⟩
  have wfS : WF (syncM M1) := hd.wf.sync hd.wel.lin
  have bydS : Byd (syncM M1) := hd.byd.sync hd.wel.lin
  have lenS : (syncM M1).pg.length = M1.pg.length := by show (syncP M1.pg M1.loose).length = _; rw [syncP_len]
  -- what is new
  have fresh : ∀ (N : SM), e1 = 0 → N.size = S → N.limit = lim → Wel N (c + lim + 6) → Byd N → WF N → N.loose = [] → N.pg.length = M1.pg.length → (∀ p, p < M1.pg.length → p ≠ (cmF T sp l main).mt.t % 2 → lastM N p = lastM M1 p) → lastM N ((cmF T sp l main).mt.t % 2) = mpage (cmF T sp l main).mt S →
      Rest S lim (c + lim + 6) N (cmF T sp l main) (recsM sp T.n) I E := fun N e0 a1 a2 a3 a4 a5 a6 a7 a8 a9 => by
    have hen := hd.en e0
    rw [hf.en] at hen
    have hT2 := Nat.mod_lt T.n (show 2 > 0 by decide)
    have oth : ((cmF T sp l main).mt.t + 1) % 2 = F.mt.t % 2 := by show (T.n + 1) % 2 = _; omega
    have eo : lastM N (((cmF T sp l main).mt.t + 1) % 2) = mpage F.mt S := by
      rw [oth, a8 _ (by omega) (by show F.mt.t % 2 ≠ T.n % 2; omega), (hst1 _ (by omega) (h01 _ (by omega))).last]
      exact hR.sl
    have inN : ∀ p, p ∈ (cmT T sp l Mr S).K → lastM N p = (cmT T sp l Mr S).C p := fun p hp => by
      have := hf.lt p hp
      rw [a8 p (by omega) (by show p ≠ T.n % 2; omega), hd.last e0 p hp]
    refine ⟨a1, a2, a3, a4, a5, a6, rfl, hf.mo, hf.mr, by show T.n ≤ _; omega, a9, by rw [eo]; exact page_drop128 _ _, fun _ => ?_, by rw [a7]; exact hen, rfl, hf.inv, ?_, fun p hp => ?_⟩
    · rw [eo, (get_page hR.mo hR.mr s1 s2).2]
      show F.mt.t < T.n
      omega
    · have := chain_of (M := N) (Mr := Mr) (e := sp.en) s1 s2 hMr (flatR_rise hf.okr) (flatR_ok hf.few.ok) (many_enough s1 s2 hMr hf.ge) hf.rl (by have := hf.el; have := hR.l1; omega) (fun j hj => by
        have hm : l.getD j 0 ∈ l := by simp [List.getD_eq_getElem?_getD, hj]
        rw [inN _ ((hf.K _).2 (.inr hm))]
        exact hf.lis j hj) 0 l.length (by omega)
      simpa using this
    · by_cases hpK : p ∈ T.K
      · rw [inN p ((hf.K p).2 (.inl hpK))]
        exact hf.own p hpK
      · have hv : V p = 0 := by
          rcases h.c.i p hp with x | ⟨x, _⟩
          · exact absurd ((h.k p).2 ⟨hp, x⟩) hpK
          · exact x
        have hH : p ∈ H := by
          rcases h.c.i p hp with x | ⟨_, x⟩
          · omega
          · exact x
        have hr := hR.inv.rh p hH
        have hlt : p < F.mt.e := hr.2
        rw [a8 p (by omega) (by show p ≠ T.n % 2; omega), (hst1 p (by omega) (hf.old p (.inl hH))).last, h.d0 p hp hv]
        exact hR.dat p hH
  by_cases hz : e1 = 0
  · subst hz
    by_cases x1 : cE M1.fails M1.ahead = 0
    · by_cases x2 : cE (syncM M1).fails (syncM M1).ahead = 0
      · have wW := cm_wel hd.wel _ (mpage (cmF T sp l main).mt M.size) hsl
        have hslS : (cmF T sp l main).mt.t % 2 < (syncM M1).pg.length := by rw [lenS]; exact hsl
        have bW : Byd (wrM (syncM M1) ((cmF T sp l main).mt.t % 2) (mpage (cmF T sp l main).mt M.size)) := bydS.wr hslS (by rw [hsz]; exact hmb.1) (by rw [hsz]; exact hmb.2.trans (hsz.symm.trans hd.sz.symm))
        have fW : WF (wrM (syncM M1) ((cmF T sp l main).mt.t % 2) (mpage (cmF T sp l main).mt M.size)) := wfS.wr hslS
        have lW : (wrM (syncM M1) ((cmF T sp l main).mt.t % 2) (mpage (cmF T sp l main).mt M.size)).pg.length = M1.pg.length := by simp [wrM, cntM]; exact lenS
        have laW : ∀ p, lastM (wrM (syncM M1) ((cmF T sp l main).mt.t % 2) (mpage (cmF T sp l main).mt M.size)) p = if p = (cmF T sp l main).mt.t % 2 then mpage (cmF T sp l main).mt S else lastM M1 p := fun p => by
          rw [lastM_wr _ _ _ _ hslS, lastM_sync, hsz]
        have stW : ∀ p, 2 ≤ p → p < M.pg.length → p ∉ (cmT T sp l Mr S).K → Still p (lastM M p) (wrM (syncM M1) ((cmF T sp l main).mt.t % 2) (mpage (cmF T sp l main).mt M.size)) := fun p h2 hp hx => (hst1 p hp hx).sync.wr (by have := Nat.mod_lt T.n (show 2 > 0 by decide); show T.n % 2 ≠ p; omega) hslS
        generalize hW : wrM (syncM M1) ((cmF T sp l main).mt.t % 2) (mpage (cmF T sp l main).mt M.size) = W at wW bW fW lW laW stW
        by_cases x3 : cE W.fails W.ahead = 0
        · have e := cm_e (mt := (cmF T sp l main).mt) hdw x1 x2 (by rw [hW]; exact x3)
          rw [hW] at e
          rw [e] at hcm
          simp only [Prod.mk.injEq] at hcm
          obtain ⟨rfl, rfl⟩ := hcm
          refine ⟨fun _ => fresh (syncM W) rfl ?_ ?_ (wW.sync.mono (by omega)) (bW.sync wW.lin) (fW.sync wW.lin) rfl (by show (syncP W.pg W.loose).length = _; rw [syncP_len]; exact lW) (fun p _ hp => by rw [lastM_sync, laW, if_neg hp]) (by rw [lastM_sync, laW, if_pos rfl]), fun k => absurd k (by decide), fun k => absurd rfl k, fun p h2 hp hx => ((stW p h2 hp hx).sync).last, wW.sync.mono (by omega), fun hcalm => ⟨rfl, ?_⟩⟩
          · show W.size = S; rw [← hW]; exact hd.sz.trans hsz
          · show W.limit = lim; rw [← hW]; exact hd.li.trans hR.li
          · have : W.fails = false := by
              rw [← hW]
              refine wr_calm (sync_calm ?_) _ _
              have := dw_calm (T := cmT T sp l Mr S) hcalm
              rw [hdw] at this
              exact this
            exact sync_calm this
        · have e := cm_d (mt := (cmF T sp l main).mt) hdw x1 x2 (by rw [hW]; exact x3)
          rw [hW] at e
          rw [e] at hcm
          simp only [Prod.mk.injEq] at hcm
          obtain ⟨rfl, rfl⟩ := hcm
          have c1 : Wel (cntM W) (c + lim + 6) := wW.cnt.mono (by omega)
          refine ⟨fun k => absurd k (by decide), fun k => absurd k (by decide), fun _ ks => ?_, fun p h2 hp hx => ((stW p h2 hp hx).cnt).last, c1, fun hcalm => ?_⟩
          · have hks : crashM (cntM W) ks = { W with calls := W.calls + 1, pg := crashP ks 0 W.pg W.loose, loose := [], fails := false, ahead := -1 } := rfl
            have hso := rest_pg hR (p := T.n % 2) (by have := Nat.mod_lt T.n (show 2 > 0 by decide); omega)
            have hs0 := (hst1 (T.n % 2) (by have := Nat.mod_lt T.n (show 2 > 0 by decide); omega) (h01 _ (Nat.mod_lt T.n (by decide)))).sync
            have hg : pgAt W.pg (T.n % 2) = (lastM M (T.n % 2), mpage (cmF T sp l main).mt S) := by
              rw [← hW]
              show pgAt ((syncM M1).pg.set (T.n % 2) ((pgAt (syncM M1).pg (T.n % 2)).1, mpage (cmF T sp l main).mt M.size)) (T.n % 2) = _
              rw [pgAt_set _ _ _ _ hslS, if_pos rfl, hs0.at_, hsz]
            have hlo : W.loose = [(T.n % 2, mpage (cmF T sp l main).mt S)] := by
              rw [← hW]
              show [] ++ [(T.n % 2, mpage (cmF T sp l main).mt M.size)] = _
              rw [hsz]; rfl
            have hsz1 : W.size = S := by rw [← hW]; exact hd.sz.trans hsz
            have hli1 : W.limit = lim := by rw [← hW]; exact hd.li.trans hR.li
            have hpar : T.n % 2 = (F.mt.t + 1) % 2 := by rw [hn]
            have hlen0 : (lastM M (T.n % 2)).length = S := by
              have := (hR.byd.at hso.lt).2.2
              rw [hsz] at this; exact this
            have hTL := Nat.mod_lt T.n (show 2 > 0 by decide)
            have hcr : lastM (crashM (cntM W) ks) (T.n % 2) = lastM M (T.n % 2) ∨ lastM (crashM (cntM W) ks) (T.n % 2) = mpage (cmF T sp l main).mt S := by
              show (pgAt (crashP ks 0 W.pg W.loose) (T.n % 2)).2 = _ ∨ (pgAt (crashP ks 0 W.pg W.loose) (T.n % 2)).2 = _
              rw [hlo]
              unfold crashP crashP crashS
              rw [pgAt_set _ _ _ _ (by rw [lW]; exact hsl), if_pos rfl]
              show (if 0 < ks.length then tornB (pgAt W.pg (T.n % 2)).1 (mpage (cmF T sp l main).mt S) (ks.getD 0 0).toNat ((pgAt W.pg (T.n % 2)).1.length / 128) else (pgAt W.pg (T.n % 2)).1) = _ ∨ (if 0 < ks.length then tornB (pgAt W.pg (T.n % 2)).1 (mpage (cmF T sp l main).mt S) (ks.getD 0 0).toNat ((pgAt W.pg (T.n % 2)).1.length / 128) else (pgAt W.pg (T.n % 2)).1) = _
              rw [hg]
              by_cases hk0 : 0 < ks.length
              · rw [if_pos hk0]
                exact torn_meta s1 hlen0 hmb.2 (by rw [hpar]; exact hR.ot) (page_drop128 _ _) _
              · rw [if_neg hk0]; exact .inl rfl
            have hoff : ∀ p, p < M1.pg.length → p ≠ T.n % 2 → lastM (crashM (cntM W) ks) p = lastM M1 p := fun p hp hx => by
              show (pgAt (crashP ks 0 W.pg W.loose) p).2 = _
              rw [crashP_off ks p _ _ _ (by rw [hlo]; simpa using hx)]
              have := laW p
              rw [if_neg hx] at this
              exact this
            rcases hcr with e3 | e3
            · left
              have hall : ∀ p, p < M.pg.length → p ∉ (cmT T sp l Mr S).K → lastM (crashM (cntM W) ks) p = lastM M p := fun p hp hx => by
                by_cases e4 : p = T.n % 2
                · rw [e4]; exact e3
                · rw [hoff p (by omega) e4]; exact (hst1 p hp hx).last
              exact hR.keep (M' := crashM (cntM W) ks) hsz1 hli1 (c1.crash ks) (by omega) (bW.cnt.crash c1.lin ks) (fW.cnt.crash c1.lin) rfl (by show _ ≤ (crashP ks 0 W.pg W.loose).length; rw [crashP_len, lW]; exact hln)
                (fun p hp => hall p (by
                  rcases hp with x | x
                  · have := (hR.inv.rl p x).2; have : p < F.mt.e := this; omega
                  · have := (hR.inv.rh p x).2; have : p < F.mt.e := this; omega) (hf.old p hp.symm)) (fun p hp => hall p (by omega) (h01 p hp))
            · right
              exact fresh (crashM (cntM W) ks) rfl hsz1 hli1 (c1.crash ks) (bW.cnt.crash c1.lin ks) (fW.cnt.crash c1.lin) rfl (by show (crashP ks 0 W.pg W.loose).length = _; rw [crashP_len]; exact lW) hoff e3
          · exfalso
            apply x3
            refine calm_cE ?_
            rw [← hW]
            refine wr_calm (sync_calm ?_) _ _
            have := dw_calm (T := cmT T sp l Mr S) hcalm
            rw [hdw] at this
            exact this
      · have e := cm_c (mt := (cmF T sp l main).mt) hdw x1 x2
        rw [e] at hcm
        simp only [Prod.mk.injEq] at hcm
        obtain ⟨rfl, rfl⟩ := hcm
        have hb := fun ks => back (cntM (syncM M1)) ks (hd.sz.trans hsz) (hd.li.trans hR.li) (hd.wel.sync.cnt.mono (by omega)) bydS.cnt wfS.cnt (by show _ ≤ (syncP M1.pg M1.loose).length; rw [syncP_len]; exact hln) (fun p hp hx => ((hst1 p hp hx).sync).cnt)
        refine ⟨fun k => absurd k (by decide), fun _ => hb, fun _ ks => .inl (hb ks), fun p _ hp hx => ((hst1 p hp hx).sync).cnt.last, hd.wel.sync.cnt.mono (by omega), fun hcalm => absurd (calm_cE (sync_calm ?_)) x2⟩
        have := dw_calm (T := cmT T sp l Mr S) hcalm
        rw [hdw] at this
        exact this
    · have e := cm_b (mt := (cmF T sp l main).mt) hdw x1
      rw [e] at hcm
      simp only [Prod.mk.injEq] at hcm
      obtain ⟨rfl, rfl⟩ := hcm
      have hb := fun ks => back (cntM M1) ks (hd.sz.trans hsz) (hd.li.trans hR.li) (hd.wel.cnt.mono (by omega)) hd.byd.cnt hd.wf.cnt hln (fun p hp hx => (hst1 p hp hx).cnt)
      refine ⟨fun k => absurd k (by decide), fun _ => hb, fun _ ks => .inl (hb ks), fun p _ hp hx => (hst1 p hp hx).cnt.last, hd.wel.cnt.mono (by omega), fun hcalm => absurd (calm_cE ?_) x1⟩
      have := dw_calm (T := cmT T sp l Mr S) hcalm
      rw [hdw] at this
      exact this
  · have e := cm_a (T := cmT T sp l Mr S) (M := M) (mt := (cmF T sp l main).mt) (by rw [hdw]; exact hz)
    rw [hdw] at e
    rw [e] at hcm
    simp only [Prod.mk.injEq] at hcm
    obtain ⟨rfl, rfl⟩ := hcm
    have hb := fun ks => back M1 ks (hd.sz.trans hsz) (hd.li.trans hR.li) (hd.wel.mono (by omega)) hd.byd hd.wf hln hst1
    refine ⟨fun k => absurd k (by decide), fun _ => hb, fun _ ks => .inl (hb ks), fun p _ hp hx => (hst1 p hp hx).last, hd.wel.mono (by omega), fun hcalm => ?_⟩
    exfalso
    apply hz
    have := dw_codes_calm (T := cmT T sp l Mr S) hcalm (by rw [hf.en, hR.li]; exact hf.el)
    rw [hdw] at this
    exact this
end

end Go.Proofs.YtildjdhoeilcfaaGreat
