/-
  Layer 11, plain: a disk at rest, with a file on it; what is opened there; what a commit, and a crash in it, leave of it. Own work.
-/
import Derived.Test.YtildjdhoeilcfaaGreatPgrBG

namespace Go.Proofs.YtildjdhoeilcfaaGreat
open Go.RowKit Go.Maps

theorem jgr_wf {M : SM} {c n : Nat} (h : WF M) (hW : Wel M c) : WF (jgrM M n) := by
  unfold jgrM
  split
  · exact h
  · split
    · exact wf_grow h hW.lin
    · exact h.cnt
theorem jgr_mono (M : SM) (n : Nat) : M.pg.length ≤ (jgrM M n).pg.length := by
  unfold jgrM
  split
  · exact Nat.le_refl _
  · split
    · simp [growM, cntM]
    · exact Nat.le_refl _
structure DwOk (T : TV) (M M1 : SM) (e : Int) (c : Nat) : Prop where
  wel : Wel M1 (c + 1 + T.K.length)
  byd : Byd M1
  wf : WF M1
  sz : M1.size = M.size
  li : M1.limit = M.limit
  ln : M.pg.length ≤ M1.pg.length
  still : ∀ p b, Still p b M → p ∉ T.K → Still p b M1
  en : e = 0 → T.sp.en ≤ M1.pg.length
  last : e = 0 → ∀ p, p ∈ T.K → lastM M1 p = T.C p
theorem dw_ok {T : TV} {M M1 : SM} {e : Int} {c : Nat} (h : dwM T M = (M1, e)) (hW : Wel M c) (hB : Byd M) (hF : WF M) (hK : ∀ p ∈ T.K, p < T.sp.en) (hC : ∀ p ∈ T.K, Byt (T.C p) ∧ (T.C p).length = M.size) : DwOk T M M1 e c := by
  have hs := jgrM_size M T.sp.en
  have hW1 := hW.jgr (n := T.sp.en)
  have hB1 := hB.jgr T.sp.en
  have hF1 := jgr_wf (n := T.sp.en) hF hW
  have hm := jgr_mono M T.sp.en
  unfold dwM at h
  split at h
  · rename_i hj
    have hl := jgr_len hj
    have hK1 : ∀ p ∈ T.K, p < (jgrM M T.sp.en).pg.length := fun p hp => by have := hK p hp; omega
    obtain ⟨a, b, c1, d⟩ := wrs_wel T.C T.K h hW1 hK1
    exact ⟨a, wrs_byd T.C T.K h hB1 hK1 (fun p hp => by rw [hs.1]; exact hC p hp), wrs_wf T.C T.K h hF1 hK1, c1.trans hs.1, d.trans hs.2.1, by omega,
      fun p y hy hp => Still.wrs T.C T.K h hy.jgr hp hK1, fun _ => by omega, fun e0 p hp => by subst e0; rw [wrs_last T.C T.K h hK1 p, if_pos hp]⟩
  · rename_i hj
    simp only [Prod.mk.injEq] at h
    obtain ⟨rfl, rfl⟩ := h
    exact ⟨hW1.mono (by omega), hB1, hF1, hs.1, hs.2.1, hm, fun p y hy _ => hy.jgr, fun k => absurd k hj, fun k => absurd k hj⟩

/-! ### bytes behind a crash -/
theorem tornB_byt {a b : List Int} (ha : Byt a) (hb : Byt b) (x k : Nat) : Byt (tornB a b x k) := fun y hy => by
  obtain ⟨j, _, rfl⟩ := List.mem_map.1 hy
  split
  · exact hb.get j
  · exact ha.get j
theorem byd_crashP {n : Nat} (ks : List Int) : ∀ (l : List (Nat × List Int)) (i : Nat) (pg : List (List Int × List Int)), (∀ x ∈ l, x.1 < pg.length) → (∀ x ∈ l, Byt x.2 ∧ x.2.length = n) → (∀ x ∈ pg, (Byt x.1 ∧ x.1.length = n) ∧ Byt x.2 ∧ x.2.length = n) → ∀ x ∈ crashP ks i pg l, (Byt x.1 ∧ x.1.length = n) ∧ Byt x.2 ∧ x.2.length = n
  | [], _, pg, _, _, h => h
  | y :: l, i, pg, h0, h1, h => by
    rw [crashP]
    refine byd_crashP ks l _ _ (fun x hx => by unfold crashS; rw [List.length_set]; exact h0 x (by simp [hx])) (fun x hx => h1 x (by simp [hx])) fun x hx => ?_
    have hy := h0 y (by simp)
    have hg : (Byt (pg.getD y.1 ([], [])).1 ∧ (pg.getD y.1 ([], [])).1.length = n) := by
      rw [List.getD_eq_getElem?_getD, List.getElem?_eq_getElem hy]
      exact (h _ (List.getElem_mem hy)).1
    unfold crashS at hx
    rcases List.mem_or_eq_of_mem_set hx with e | e
    · exact h x e
    · subst e
      have k1 := (h1 y (by simp)).1
      split
      · exact ⟨⟨tornB_byt hg.1 k1 _ _, by rw [tornB_len]; exact hg.2⟩, tornB_byt hg.1 k1 _ _, by rw [tornB_len]; exact hg.2⟩
      · exact ⟨hg, hg⟩
theorem Byd.crash {M : SM} (h : Byd M) (hl : ∀ x ∈ M.loose, x.1 < M.pg.length) (ks : List Int) : Byd (crashM M ks) := ⟨byd_crashP ks M.loose 0 M.pg hl h.lo h.pg, by intro x hx; cases hx⟩

/-! ### a disk at rest -/
structure Rest (S lim c : Nat) (M : SM) (F : FV) (rs : List Rc) (H : List Nat) (D : Nat → List Int) : Prop where
  sz : M.size = S
  li : M.limit = lim
  wel : Wel M c
  byd : Byd M
  wf : WF M
  lo : M.loose = []
  st : F.st = false
  mo : MtOk F.mt
  mr : mright F.mt = true
  tb : F.mt.t ≤ c + 1
  sl : lastM M (F.mt.t % 2) = mpage F.mt S
  ot : (lastM M ((F.mt.t + 1) % 2)).drop 128 = List.replicate (S - 128) 0
  ol : mgetE (lastM M ((F.mt.t + 1) % 2)) = 0 → (mgetM (lastM M ((F.mt.t + 1) % 2))).t < F.mt.t
  len : F.mt.e ≤ M.pg.length
  ps : F.ps = flatR rs
  inv : FInv lim (flOf F rs) H
  ch : LCh M F.mt.e F.mt.f F.ls F.ps
  dat : ∀ p ∈ H, lastM M p = D p
section
variable {S lim c : Nat} {M : SM} {F : FV} {rs : List Rc} {H : List Nat} {D : Nat → List Int}
theorem LCh.to {M M' : SM} {E : Nat} : ∀ {ls : List Nat} {p : Nat} {ps : List Pr}, (∀ q ∈ ls, lastM M' q = lastM M q) → LCh M E p ls ps → LCh M' E p ls ps
  | [], _, _, _, h => h
  | q :: ls, p, ps, hM, h => by
    obtain ⟨rfl, h1, h2, l, x, rest, h3, e, h4⟩ := h
    exact ⟨rfl, h1, h2, l, x, rest, by rw [hM p (by simp)]; exact h3, e, h4.to fun q hq => hM q (by simp [hq])⟩
theorem Rest.s1 (h : Rest S lim c M F rs H D) : 512 ≤ S := by have := h.wel.s1; rw [h.sz] at this; exact this
theorem Rest.s2 (h : Rest S lim c M F rs H D) : S ≤ 4096 := by have := h.wel.s2; rw [h.sz] at this; exact this
theorem Rest.l1 (h : Rest S lim c M F rs H D) : lim ≤ 65536 := by have := h.wel.l; rw [h.li] at this; exact this
theorem Rest.e2 (h : Rest S lim c M F rs H D) : 2 ≤ F.mt.e := h.inv.e2
theorem Rest.el (h : Rest S lim c M F rs H D) : F.mt.e ≤ lim := h.inv.el
theorem Rest.t1 (h : Rest S lim c M F rs H D) : 1 ≤ F.mt.t := mright_t h.mr
theorem Rest.len2 (h : Rest S lim c M F rs H D) : 2 ≤ M.pg.length := Nat.le_trans h.e2 h.len
theorem Rest.keep (h : Rest S lim c M F rs H D) {M' : SM} {c' : Nat} (sz : M'.size = S) (li : M'.limit = lim) (wel : Wel M' c') (hc : c ≤ c') (byd : Byd M') (wf : WF M') (lo : M'.loose = []) (len : M.pg.length ≤ M'.pg.length)
    (hs : ∀ p, p ∈ F.ls ∨ p ∈ H → lastM M' p = lastM M p) (h01 : ∀ p, p < 2 → lastM M' p = lastM M p) : Rest S lim c' M' F rs H D :=
  ⟨sz, li, wel, byd, wf, lo, h.st, h.mo, h.mr, by have := h.tb; omega, by rw [h01 _ (by omega)]; exact h.sl, by rw [h01 _ (by omega)]; exact h.ot, by rw [h01 _ (by omega)]; exact h.ol, by have := h.len; omega, h.ps, h.inv,
    h.ch.to fun q hq => hs q (.inl hq), fun p hp => by rw [hs p (.inr hp)]; exact h.dat p hp⟩
theorem Rest.mono (h : Rest S lim c M F rs H D) {c' : Nat} (k : c ≤ c') : Rest S lim c' M F rs H D := h.keep h.sz h.li (h.wel.mono k) k h.byd h.wf h.lo (Nat.le_refl _) (fun _ _ => rfl) (fun _ _ => rfl)
theorem Rest.cnt (h : Rest S lim c M F rs H D) : Rest S lim (c + 1) (cntM M) F rs H D := h.keep (M' := cntM M) h.sz h.li h.wel.cnt (by omega) h.byd.cnt h.wf.cnt h.lo (Nat.le_refl _) (fun _ _ => rfl) (fun _ _ => rfl)
theorem Rest.cntK (h : Rest S lim c M F rs H D) : ∀ k, Rest S lim (c + k) (Proofs.YtildjdhoeilcfaaGreat.cntK M k) F rs H D
  | 0 => h
  | k + 1 => (Rest.cntK h k).cnt
theorem Rest.sync (h : Rest S lim c M F rs H D) : Rest S lim (c + 1) (syncM M) F rs H D :=
  h.keep (M' := syncM M) h.sz h.li h.wel.sync (by omega) (h.byd.sync h.wel.lin) (h.wf.sync h.wel.lin) rfl (by show _ ≤ (syncP M.pg M.loose).length; rw [syncP_len]; exact Nat.le_refl _) (fun p _ => lastM_sync M p) (fun p _ => lastM_sync M p)
theorem Rest.fail (h : Rest S lim c M F rs H D) (n : Int) (h1 : -9223372036854775808 ≤ n) (h2 : n ≤ 9223372036854775807) : Rest S lim c { M with fails := decide (0 ≤ n), ahead := n } F rs H D :=
  h.keep (M' := { M with fails := decide (0 ≤ n), ahead := n }) h.sz h.li (h.wel.fail n h1 h2) (Nat.le_refl _) ⟨h.byd.pg, h.byd.lo⟩ h.wf h.lo (Nat.le_refl _) (fun _ _ => rfl) (fun _ _ => rfl)
theorem rest_pg (h : Rest S lim c M F rs H D) {p : Nat} (hp : p < M.pg.length) : Still p (lastM M p) M := by
  refine ⟨hp, ?_, by rw [h.lo]; simp⟩
  have e := h.wf p hp
  rw [h.lo] at e
  refine Prod.ext ?_ rfl
  exact e.symm
theorem Rest.crash (h : Rest S lim c M F rs H D) (ks : List Int) : Rest S lim c (crashM M ks) F rs H D := by
  have hl : ∀ p, p < M.pg.length → lastM (crashM M ks) p = lastM M p := fun p hp => ((rest_pg h hp).crash ks).last
  have e2 := h.len2
  have hle := h.len
  exact h.keep (M' := crashM M ks) h.sz h.li (h.wel.crash ks) (Nat.le_refl _) (h.byd.crash h.wel.lin ks) (h.wf.crash h.wel.lin) rfl (by show _ ≤ (crashP ks 0 M.pg M.loose).length; rw [crashP_len]; exact Nat.le_refl _)
    (fun p hp => hl p (by
      rcases hp with k | k
      · have := (h.inv.rl p k).2; have : p < F.mt.e := this; omega
      · have := (h.inv.rh p k).2; have : p < F.mt.e := this; omega)) (fun p hp => hl p (by omega))

/-! ### what is opened -/
theorem mpage_nz (m : Mt) (S : Nat) : allZ (mpage m S) = false := by
  unfold mpage told
  simp [RUB, allZ]
theorem rest_choose (h : Rest S lim c M F rs H D) : chM (lastM M 0) (lastM M 1) = F.mt := by
  obtain ⟨g1, g2⟩ := get_page h.mo h.mr h.s1 h.s2
  have t1 := h.t1
  have hs := h.sl
  have ho := h.ol
  rcases Nat.mod_two_eq_zero_or_one F.mt.t with e | e
  · have e' : (F.mt.t + 1) % 2 = 1 := by omega
    rw [e] at hs
    rw [e'] at ho
    have f0 : firstM (lastM M 0) = F.mt := by
      unfold firstM
      rw [if_pos (by unfold isOf; rw [hs, g1, g2, e]; rfl), hs, g2]
    unfold chM
    rw [f0, if_neg]
    rintro ⟨k1, k2⟩
    have := ho (isOf_t k1).1
    omega
  · have e' : (F.mt.t + 1) % 2 = 0 := by omega
    rw [e] at hs
    rw [e'] at ho
    have f0 : (firstM (lastM M 0)).t < F.mt.t := by
      unfold firstM
      split
      · rename_i k; exact ho (isOf_t k).1
      · show 0 < F.mt.t; omega
    unfold chM
    rw [if_pos, hs, g2]
    rw [hs, g2]
    exact ⟨by unfold isOf; rw [g1, g2, e]; rfl, f0⟩
theorem rest_lmR (h : Rest S lim c M F rs H D) : lmR M = (F.mt, 0) ∧ lmM M = Proofs.YtildjdhoeilcfaaGreat.cntK M 2 := by
  have hl := h.len2
  have hb : blankM M = false := by
    have hs := h.sl
    unfold blankM
    rcases Nat.mod_two_eq_zero_or_one F.mt.t with e | e
    · rw [e] at hs; rw [hs, mpage_nz]; simp
    · rw [e] at hs; rw [hs, mpage_nz]; simp
  constructor
  · unfold lmR
    rw [if_neg (by omega), if_neg (by omega), if_neg (by simp [hb])]
    unfold nmR
    rw [if_pos, rest_choose h]
    unfold nmOk
    rw [rest_choose h]
    have := h.len; have := h.el; have := h.li; have := h.t1
    exact ⟨by omega, by omega⟩
  · unfold lmM
    rw [if_neg (by omega), if_neg (by omega), if_neg (by simp [hb])]
theorem rest_opM (h : Rest S lim c M F rs H D) : opM M = Proofs.YtildjdhoeilcfaaGreat.cntK (syncM M) 2 := (rest_lmR h.sync).2
theorem rest_ok (h : Rest S lim c M F rs H D) : OpOk M F := by
  have h2 := h.sync
  refine ⟨(rest_lmR h2).1, ?_, h.inv.apart.1, ?_, h.st⟩
  · rw [rest_opM h]; exact (h2.cntK 2).ch
  · have hok : Okr F.mt.e rs := h.inv.ok
    rw [h.ps, gather_flat hok]
    unfold okRecsM
    rw [right_iff.2 hok]
    simp only [Bool.true_and, Bool.not_eq_true', anyLater, List.any_eq_false, decide_eq_true_eq]
    intro r hr
    have := h.inv.tx r hr
    show ¬ F.mt.t < r.1
    have : r.1 ≤ F.mt.t := this
    omega
theorem opOk_uniq {M : SM} {F G : FV} (h : OpOk M F) (k : OpOk M G) : G = F := by
  have e1 : F.mt = G.mt := by have := h.mt.symm.trans k.mt; simpa using this
  have hc := h.ch
  rw [e1] at hc
  obtain ⟨e2, e3⟩ := hc.uniq k.ch
  have e4 : F.st = G.st := by rw [h.st, k.st]
  cases F; cases G
  simp only at e1 e2 e3 e4
  subst e1 e2 e3 e4
  rfl
/-- Opened again it is the same. -/
theorem Rest.reopen {B d : Nat} {w w' : World} {r : Ending} (h : Rest S lim c M F rs H D) (k : OpenR B d w M r w') :
    ∃ f n, n ≤ lim + 1 ∧ r = .returned (.tuple #[.pointer (some ⟨f, 0, none⟩), .int .i64 0]) ∧ PD B w' d (Proofs.YtildjdhoeilcfaaGreat.cntK (opM M) n) ∧ FileAt w.heap.size w' f d F ∧ Dfr B w w' ∧ Rest S lim (c + 3 + n) (Proofs.YtildjdhoeilcfaaGreat.cntK (opM M) n) F rs H D := by
  obtain ⟨⟨n, hn, hp⟩, hd, ho⟩ := k
  rcases ho with ⟨G, f, hG, hr, hf⟩ | ⟨_, hno⟩
  · obtain rfl := opOk_uniq (rest_ok h) hG
    refine ⟨f, n, by have := h.li; omega, hr, hp, hf, hd, ?_⟩
    have h3 := (h.sync.cntK 2).cntK n
    rw [← rest_opM h] at h3
    exact h3
  · exact absurd (rest_ok h) (hno F)
theorem Rest.calm {n : Nat} (h : Rest S lim c M F rs H D) (hf : M.fails = false) : (Proofs.YtildjdhoeilcfaaGreat.cntK (opM M) n).fails = false := by
  rw [rest_opM h]
  exact cntK_calm (cntK_calm (sync_calm hf) 2) n
end

/-! ### a new file -/
def fv0 : FV := ⟨fm0, [], [], false⟩
theorem mget_zero (n : Nat) : mgetE (List.replicate n 0) ≠ 0 := fun h => by
  have := (mget_told h).mark
  rw [List.take_replicate] at this
  have h2 := (mget_told h).lo
  rw [List.length_replicate] at h2
  rw [show min 4 n = 4 by omega] at this
  exact absurd this (by decide)
theorem finv_first {lim : Nat} (hl : 2 ≤ lim) : FInv lim (flOf fv0 []) [] where
  e2 := Nat.le_refl _
  el := hl
  ok := ⟨List.Pairwise.nil, (by intro r hr; cases hr), List.Pairwise.nil⟩
  tx := by intro r hr; cases hr
  nd := by simp [flOf, fv0, allOf]
  al := fun p h1 h2 => by have : p < 2 := h2; omega
  rl := by intro p hp; cases hp
  rh := by intro p hp; cases hp
theorem rest_first {c : Nat} {M : SM} (D : Nat → List Int) (hp : M.pg = []) (hlo : M.loose = []) (hW : Wel M c) (hB : Byd M) (hf : M.fails = false) (hl : 2 ≤ M.limit) :
    OpOk M fv0 ∧ ∀ n, Rest M.size M.limit (c + 4 + n) (Proofs.YtildjdhoeilcfaaGreat.cntK (opM M) n) fv0 [] [] D := by
  have hWs := hW.sync
  have hfs := sync_calm hf
  have hps : (syncM M).pg = [] := by show syncP M.pg M.loose = []; rw [hp, hlo]; rfl
  have e1 : opM M = fmM (syncM M) := by
    unfold opM lmM
    rw [if_pos (by rw [hps]; rfl)]
  have e2 : lmR (syncM M) = (fm0, 0) := by
    unfold lmR
    rw [if_pos (by rw [hps]; rfl)]
  have hg : jgrM (syncM M) 2 = growM (cntM (syncM M)) 2 (syncM M).once := by
    unfold jgrM
    have hll : ¬ ((2 : Nat) ≤ (syncM M).pg.length ∨ (syncM M).limit < 2) := by
      rw [hps]
      have : (syncM M).limit = M.limit := rfl
      rw [this]
      simp; omega
    rw [if_neg hll, if_pos (calm_cE hfs), hps]
    rfl
  have hpg : (jgrM (syncM M) 2).pg = [(List.replicate M.size 0, List.replicate M.size 0), (List.replicate M.size 0, List.replicate M.size 0)] := by
    rw [hg]
    show (syncM M).pg ++ List.replicate 2 _ = _
    rw [hps]; rfl
  have hle : (jgrM (syncM M) 2).pg.length = 2 := by rw [hpg]; rfl
  have hbd : Byd (opM M) := by rw [e1]; exact (hB.sync hW.lin).fm hWs hfs hl
  have hwe : Wel (opM M) (c + 4) := by rw [e1]; exact (hWs.fm hfs hl).mono (by omega)
  have hwf : WF (opM M) := by
    have h0 : WF (syncM M) := fun p hp => by rw [hps] at hp; cases hp
    rw [e1]
    refine WF.sync (WF.wr (jgr_wf h0 hWs) (by rw [hle]; decide)) ((hWs.jgr (n := 2)).wr (i := 1) (bs := mpage fm0 (syncM M).size) (by rw [hle]; decide)).lin
  have hla : ∀ p, lastM (opM M) p = if p = 1 then mpage fm0 M.size else lastM (jgrM (syncM M) 2) p := fun p => by
    rw [e1]
    show lastM (syncM (wrM (jgrM (syncM M) 2) 1 (mpage fm0 (syncM M).size))) p = _
    rw [lastM_sync, lastM_wr _ _ _ _ (by rw [hle]; decide)]
    rfl
  have hl0 : lastM (opM M) 0 = List.replicate M.size 0 := by
    rw [hla 0, if_neg (by decide)]
    unfold lastM
    rw [hpg]; rfl
  have hR : Rest M.size M.limit (c + 4) (opM M) fv0 [] [] D := by
    refine ⟨?_, ?_, hwe, hbd, hwf, by rw [e1]; rfl, rfl, fm0_ok, by decide, by show 1 ≤ _; omega, ?_, ?_, ?_, ?_, rfl, finv_first hl, ⟨rfl, rfl⟩, by intro p hp; cases hp⟩
    · rw [e1]; exact (fm_same _).1
    · rw [e1]; exact (fm_same _).2
    · rw [show fv0.mt.t % 2 = 1 from rfl, hla 1, if_pos rfl]; rfl
    · rw [show (fv0.mt.t + 1) % 2 = 0 from rfl, hl0, List.drop_replicate]
    · rw [show (fv0.mt.t + 1) % 2 = 0 from rfl, hl0]; exact fun k => absurd k (mget_zero _)
    · rw [e1]
      exact fm_len hfs hl
  refine ⟨⟨e2, ⟨rfl, rfl⟩, List.nodup_nil, rfl, rfl⟩, fun n => ?_⟩
  exact hR.cntK n
theorem open_first {B d c : Nat} {w w' : World} {r : Ending} {M : SM} (D : Nat → List Int) (hp : M.pg = []) (hlo : M.loose = []) (hW : Wel M c) (hB : Byd M) (hf : M.fails = false) (hl : 2 ≤ M.limit) (k : OpenR B d w M r w') :
    ∃ f n, n ≤ M.limit + 1 ∧ r = .returned (.tuple #[.pointer (some ⟨f, 0, none⟩), .int .i64 0]) ∧ PD B w' d (Proofs.YtildjdhoeilcfaaGreat.cntK (opM M) n) ∧ FileAt w.heap.size w' f d fv0 ∧ Dfr B w w' ∧ Rest M.size M.limit (c + 4 + n) (Proofs.YtildjdhoeilcfaaGreat.cntK (opM M) n) fv0 [] [] D ∧ (Proofs.YtildjdhoeilcfaaGreat.cntK (opM M) n).fails = false := by
  obtain ⟨ho, hr⟩ := rest_first D hp hlo hW hB hf hl
  obtain ⟨⟨n, hn, hpd⟩, hd, hx⟩ := k
  rcases hx with ⟨G, f, hG, hr', hf'⟩ | ⟨_, hno⟩
  · obtain rfl := opOk_uniq ho hG
    exact ⟨f, n, hn, hr', hpd, hf', hd, hr n, cntK_calm (lm_calm (sync_calm hf)) n⟩
  · exact absurd ho (hno _)

end Go.Proofs.YtildjdhoeilcfaaGreat
