/-
  Layer 7: the contract of meta's Get: pages that begin as one does. Own work.
-/
import Derived.Test.YtnggebohefbopaaMetD
import Derived.Deep.RegionHeld3
namespace Go.Proofs.Ytnggebohefbopaa
open Go.RowKit

set_option maxHeartbeats 1000000 in
theorem mget_d (w : World) (ao : Option Addr) (n c : Nat) (b : List Int) (h : Seq w.heap.size w (.slice ao n c) b) (hb : Byt b) (hs1 : 512 ≤ n) (hs2 : n ≤ 4096) (hz : allZ (b.drop 32) = true) (hm : b.take 4 = RUB) (hf : fld b 4 4 ≠ (b.length : Int)) :
    Calls Try.prog 17 #[.slice ao n c] w fun r w' => GotM b w w' r := by
  have hn : n = b.length := by obtain ⟨_, _, hv, _⟩ := h; injection hv
  have hc0 : n ≤ c := by obtain ⟨_, c', hv, h1, _⟩ := h; cases hv; exact h1
  have hc32 : ¬ c = 32 := by omega
  have hc32i : (32 : Int) ≤ (c : Int) := by omega
  have hs1i : (512 : Int) ≤ (n : Int) := by omega
  have hs2i : (n : Int) ≤ 4096 := by omega
  have h32 : (32 : Int) ≤ (n : Int) := by omega
  have hH := h.head 32 (by omega)
  have HT := Lib.hid (show Seq w.heap.size (w.alloc (.cells #[.int .u64 0, .int .u32 0, .int .u32 0, .int .u32 0] 29)) (.slice (ao.map fun x => x.add 32) (n - 32) (c - 32)) (b.drop 32) by
    have := (h.below (w' := w.alloc (.cells #[.int .u64 0, .int .u32 0, .int .u32 0, .int .u32 0] 29)) (fun i hi => Below.heap_alloc w _ i hi)).tail (k := 32) (by omega)
    rwa [← hn] at this)
  have HH := Lib.hid (hH.below (w' := w.alloc (.cells #[.int .u64 0, .int .u32 0, .int .u32 0, .int .u32 0] 29)) (fun i hi => Below.heap_alloc w _ i hi))
  have HZ := Lib.hid hz
  have H := Lib.hid h
  have HL := Lib.hid hn
  have HB := Lib.hid hb
  have HM := Lib.hid (rub_yes hm)
  have hwn : IntKind.u64.wrap (n : Int) = (n : Int) := by rw [show IntKind.u64.wrap (n : Int) = (n : Int) % 18446744073709551616 from rfl]; omega
  have HE := Lib.hid (mget_size (b := b) hf)
  have hF := fld4 hb 4
  rw [← hn] at hf
  clear h hz hn hH hb hm
  obtain ⟨F, hFe⟩ : ∃ F, F = fld b 4 4 := ⟨_, rfl⟩
  rw [← hFe] at hf hF
  have hfd : (F != (n : Int)) = true := by simpa using hf
  have HF := Lib.hid hFe
  clear hFe
  go_enter Try.func17, Try.ntmps17
  go_wp2_with (first
    | (go_at_call 23; refine (lsize_yes _ _ hs1i hs2i).mono ?_; rintro r w2 ⟨rfl, rfl⟩)
    | (go_at_call 34; refine (noughts_any _ _ _ _ _ _ HT.out).mono ?_; rintro r w2 ⟨rfl, rfl⟩; rw [HZ.out])
    | (go_at_call 35; refine (newR_any _ w.heap.size _ (b.take 32) HH.out (by simp) (by rw [List.length_take]; omega)).mono ?_; rintro r wr ⟨g, rfl, hgg, hrd, hgr⟩; have HG := Lib.hid (GS.start H.out HB.out (by rw [← HL.out]; exact hs2) hrd hgg hgr); clear hrd hgr hgg)
    | (go_at_call 36; have K := HG.out.raw 4 4 rfl (by decide) (by rw [← HL.out]; omega); ((with_reducible refine K.mono ?_); clear K; rintro r w3 ⟨a4, c4, rfl, hsq, hgs⟩; have hcv := seq_string hsq; rw [List.drop_zero] at hcv; have hrub := HM.out; generalize strOfNums (b.take 4) = T at hcv hrub; have HG3 := Lib.hid hgs; clear hgs hsq HG HM))
    | (go_at_call 37; have K := HG3.out.num 4 4 rfl (by decide) (by decide) (by decide) (by rw [← HL.out]; omega); rw [← HF.out] at K; ((with_reducible refine K.mono ?_); clear K; rintro r w4 ⟨rfl, hgs⟩; have HG4 := Lib.hid hgs; obtain ⟨⟨z0, z1, z2, z3⟩, f0, f1, f2, f3⟩ := cells4 hgs.hq; clear hgs HG3)))
  exact bodyPost_ret (results_M rfl _ _ w.heap.size _ _ rfl rfl (store4 HG4.out.hq _ _ _ _) rfl) rfl (gotM_no HE.out (by decide) (gof (below4 HG4.out.rs.bel (Nat.le_refl _) _ _ _ _) none))

/-- A meta that was read lies in a block of its own, too. -/
structure HS7 (g q q2 : Nat) (w0 w : World) (v : Value) (b : List Int) (k : Nat) (C : Array Value) : Prop where
  gs : GS g q w0 w v b k
  hm : w.heap[q2]? = some (.cells C 29 (0, 0))
  gq : g < q2
theorem HS7.far {g q q2 : Nat} {w0 w w' : World} {v : Value} {b : List Int} {k : Nat} {C : Array Value} (h : HS7 g q q2 w0 w v b k C) (kk : w.grownBy w' none) : HS7 g q q2 w0 w' v b k C :=
  ⟨h.gs.far kk, (kk.block q2 (lt_of_block h.hm) (by simp)).trans h.hm, h.gq⟩
theorem HS7.num {g q q2 : Nat} {w0 w : World} {v : Value} {b : List Int} {k : Nat} {C : Array Value} (h : HS7 g q q2 w0 w v b k C) (n : Nat) (m : Int) (hm : m = (n : Int)) (h1 : 1 ≤ n) (h8 : n ≤ 8) (hk : k + n ≤ 32) (hl : 32 ≤ b.length) :
    Calls Try.prog 37 #[.pointer (some ⟨g, 0, none⟩), .int .i64 m] w fun r w' => r = .returned (.int .u64 (fld b k n)) ∧ HS7 g q q2 w0 w' v b (k + n) C ∧ w.grownBy w' (some g) := by
  subst hm
  exact (h.gs.rs.num (n : Int) (by omega) (by omega) (h.gs.nx n hk hl)).mono fun r w' ⟨e, hr, hg⟩ => ⟨e, ⟨h.gs.by_g hr hg, (hg.block q2 (lt_of_block h.hm) (by intro e; injection e with e; have := h.gq; omega)).trans h.hm, h.gq⟩, hg⟩
theorem HS7.start {g q : Nat} {w0 w : World} {v : Value} {b : List Int} {k : Nat} (h : GS g q w0 w v b k) (C : Array Value) : HS7 g q w.heap.size w0 (w.alloc (.cells C 29)).drew v b k C :=
  ⟨h.far (gtrans (World.grownBy_alloc _ _ _) (gdrew _)), heap_alloc_new _ _, h.rs.rd.lt⟩

set_option maxHeartbeats 2000000 in
theorem mget_e (w : World) (ao : Option Addr) (n c : Nat) (b : List Int) (h : Seq w.heap.size w (.slice ao n c) b) (hb : Byt b) (hs1 : 512 ≤ n) (hs2 : n ≤ 4096) (hz : allZ (b.drop 32) = true) (hm : b.take 4 = RUB) (hf : fld b 4 4 = (b.length : Int))
    (hsum : fld b 28 4 ≠ ((crcN (b.take 28) : Nat) : Int)) :
    Calls Try.prog 17 #[.slice ao n c] w fun r w' => GotM b w w' r := by
  have hn : n = b.length := by obtain ⟨_, _, hv, _⟩ := h; injection hv
  have hc0 : n ≤ c := by obtain ⟨_, c', hv, h1, _⟩ := h; cases hv; exact h1
  have hc32 : ¬ c = 32 := by omega
  have hc32i : (32 : Int) ≤ (c : Int) := by omega
  have hs1i : (512 : Int) ≤ (n : Int) := by omega
  have hs2i : (n : Int) ≤ 4096 := by omega
  have h32 : (32 : Int) ≤ (n : Int) := by omega
  have hH := h.head 32 (by omega)
  have HT := Lib.hid (show Seq w.heap.size (w.alloc (.cells #[.int .u64 0, .int .u32 0, .int .u32 0, .int .u32 0] 29)) (.slice (ao.map fun x => x.add 32) (n - 32) (c - 32)) (b.drop 32) by
    have := (h.below (w' := w.alloc (.cells #[.int .u64 0, .int .u32 0, .int .u32 0, .int .u32 0] 29)) (fun i hi => Below.heap_alloc w _ i hi)).tail (k := 32) (by omega)
    rwa [← hn] at this)
  have HH := Lib.hid (hH.below (w' := w.alloc (.cells #[.int .u64 0, .int .u32 0, .int .u32 0, .int .u32 0] 29)) (fun i hi => Below.heap_alloc w _ i hi))
  have HZ := Lib.hid hz
  have H := Lib.hid h
  have HL := Lib.hid hn
  have HB := Lib.hid hb
  have HM := Lib.hid (rub_yes hm)
  have hwn : IntKind.u64.wrap (n : Int) = (n : Int) := by rw [show IntKind.u64.wrap (n : Int) = (n : Int) % 18446744073709551616 from rfl]; omega
  have HE := Lib.hid (mget_sum (b := b) (by omega) hz hm hf hsum)
  rw [← hn] at hf
  have HF := Lib.hid hf
  have HP := Lib.hid (h.pre 28 (by omega))
  clear hz hn hH hm hf
  obtain ⟨X, hX⟩ : ∃ X, X = fld b 28 4 := ⟨_, rfl⟩
  obtain ⟨Y, hY⟩ : ∃ Y, Y = crcN (b.take 28) := ⟨_, rfl⟩
  have hcl := crcN_lt (l := b.take 28) (hb.take 28)
  rw [← hX, ← hY] at hsum
  rw [← hY] at hcl
  have hne : (X != (Y : Int)) = true := by simpa using hsum
  have hwy : IntKind.u64.wrap (Y : Int) = (Y : Int) := by rw [show IntKind.u64.wrap (Y : Int) = (Y : Int) % 18446744073709551616 from rfl]; omega
  have HX := Lib.hid hX
  have HY := Lib.hid hY
  have g8 := fld8 hb 8
  have g16 := fld4 hb 16
  have g20 := fld4 hb 20
  have g24 := fld4 hb 24
  obtain ⟨M, hMe⟩ : ∃ M, M = mtOf b := ⟨_, rfl⟩
  have HM8 := Lib.hid (show fld b 8 8 = (M.t : Int) by rw [hMe]; simp only [mtOf]; omega)
  have HM16 := Lib.hid (show fld b 16 4 = (M.e : Int) by rw [hMe]; simp only [mtOf]; omega)
  have HM20 := Lib.hid (show fld b 20 4 = (M.m : Int) by rw [hMe]; simp only [mtOf]; omega)
  have HM24 := Lib.hid (show fld b 24 4 = (M.f : Int) by rw [hMe]; simp only [mtOf]; omega)
  have HMO := Lib.hid hMe
  clear hX hY h hb hMe g8 g16 g20 g24
  go_enter Try.func17, Try.ntmps17
  go_wp2_with (first
    | (go_at_call 23; refine (lsize_yes _ _ hs1i hs2i).mono ?_; rintro r w2 ⟨rfl, rfl⟩)
    | (go_at_call 34; refine (noughts_any _ _ _ _ _ _ HT.out).mono ?_; rintro r w2 ⟨rfl, rfl⟩; rw [HZ.out])
    | (go_at_call 35; refine (newR_any _ w.heap.size _ (b.take 32) HH.out (by simp) (by rw [List.length_take]; omega)).mono ?_; rintro r wr ⟨g, rfl, hgg, hrd, hgr⟩; have HG := Lib.hid (GS.start H.out HB.out (by rw [← HL.out]; exact hs2) hrd hgg hgr); clear hrd hgr hgg)
    | (go_at_call 36; have K := HG.out.raw 4 4 rfl (by decide) (by rw [← HL.out]; omega); ((with_reducible refine K.mono ?_); clear K; rintro r w3 ⟨a4, c4, rfl, hsq, hgs⟩; have hcv := seq_string hsq; rw [List.drop_zero] at hcv; have hrub := HM.out; generalize strOfNums (b.take 4) = T at hcv hrub; have HG3 := Lib.hid hgs; clear hgs hsq HG HM))
    | (go_at_call 37; have K := HG3.out.num 4 4 rfl (by decide) (by decide) (by decide) (by rw [← HL.out]; omega); rw [HF.out] at K; ((with_reducible refine K.mono ?_); clear K; rintro r w4 ⟨rfl, hgs⟩; have HG4 := Lib.hid hgs; clear hgs HG3))
    | (go_at_call 37; have K := HG4.out.num 8 8 rfl (by decide) (by decide) (by decide) (by rw [← HL.out]; omega); rw [HM8.out] at K; ((with_reducible refine K.mono ?_); clear K; rintro r w5 ⟨rfl, hgs⟩; have HG5 := Lib.hid hgs; clear hgs HG4))
    | (go_at_call 38; have K := HG5.out.page HB.out (by decide) (by rw [← HL.out]; omega); rw [HM16.out] at K; ((with_reducible refine K.mono ?_); clear K; rintro r w6 ⟨rfl, hgs⟩; have HG6 := Lib.hid hgs; clear hgs HG5))
    | (go_at_call 38; have K := HG6.out.page HB.out (by decide) (by rw [← HL.out]; omega); rw [HM20.out] at K; ((with_reducible refine K.mono ?_); clear K; rintro r w7 ⟨rfl, hgs⟩; have HG7 := Lib.hid hgs; clear hgs HG6))
    | (go_at_call 38; have K := HG7.out.page HB.out (by decide) (by rw [← HL.out]; omega); rw [HM24.out] at K; ((with_reducible refine K.mono ?_); clear K; rintro r w8 ⟨rfl, hgs⟩; have HG8 := Lib.hid hgs; clear hgs HG7)))
  have HS := Lib.hid (HS7.start HG8.out #[.int .u64 (M.t : Int), .int .u32 (M.e : Int), .int .u32 (M.m : Int), .int .u32 (M.f : Int)])
  have HWB := Lib.hid (heap_alloc_new w8 (.cells #[.int .u64 (M.t : Int), .int .u32 (M.e : Int), .int .u32 (M.m : Int), .int .u32 (M.f : Int)] 29))
  have hc28 : (28 : Int) ≤ (c : Int) := by omega
  clear HG8 hcv hrub
  obtain ⟨q2, hq2⟩ : ∃ q2, q2 = w8.heap.size := ⟨_, rfl⟩
  rw [← hq2] at HS HWB ⊢
  clear hq2
  generalize w8.alloc (.cells #[.int .u64 (M.t : Int), .int .u32 (M.e : Int), .int .u32 (M.m : Int), .int .u32 (M.f : Int)] 29) = W at HS HWB ⊢
  go_region_held3 (fun _ => True) (trivial) (first
    | (go_at_call 37; have K := HS.out.num 4 4 rfl (by decide) (by decide) (by decide) (by rw [← HL.out]; omega); rw [← HX.out] at K; ((with_reducible refine K.mono ?_); clear K; rintro r w9 ⟨rfl, h9, hg9⟩; have H9 := Lib.hid h9; clear h9 hg9))
    | (go_at_call 28; have K := of1 (w := w9) (t := 33) (q := w9.heap.size) rfl ((H9.out.gs.sq.pre 28 (by rw [← HL.out]; omega)).mono H9.out.gs.rs.bel.size) (HB.out.take 28); rw [← HY.out] at K; ((with_reducible refine K.mono ?_); clear K; rintro r wA ⟨rfl, hg⟩; have HA := Lib.hid (H9.out.far hg); clear hg H9))
    | (go_at_call 37; rw [drew_alloc]; have K := (HS.out.far (World.grownBy_alloc W.drew (.cells #[.slice ao 28 c] 33) none)).num 4 4 rfl (by decide) (by decide) (by decide) (by rw [← HL.out]; omega); rw [← HX.out] at K; ((with_reducible refine K.mono ?_); clear K; rintro r w9 ⟨rfl, h9, hg9⟩; have HQ := Lib.hid ((hg9.block W.heap.size (lt_of_block (heap_alloc_new W.drew _)) (by intro e; injection e with e; have := HS.out.gq; have := lt_of_block HWB.out; omega)).trans (heap_alloc_new W.drew (.cells #[.slice ao 28 c] 33))); have H9 := Lib.hid h9; clear h9 hg9))
    | (go_at_call 28; have K := ofb1 (W := w9) (t := 33) (q := W.heap.size) HQ.out ((H9.out.gs.sq.pre 28 (by rw [← HL.out]; omega)).mono H9.out.gs.rs.bel.size) (HB.out.take 28); rw [← HY.out] at K; ((with_reducible refine K.mono ?_); clear K; rintro r wA ⟨rfl, hg⟩; have HA := Lib.hid (H9.out.far hg); clear hg H9)))
  all_goals
    obtain ⟨⟨z0, z1, z2, z3⟩, f0, f1, f2, f3⟩ := cells4 HA.out.gs.hq
    go_wp2
    exact bodyPost_ret (results_M rfl _ _ w.heap.size _ _ rfl rfl (store4 HA.out.gs.hq _ _ _ _) rfl) rfl (gotM_no HE.out (by decide) (gof (below4 HA.out.gs.rs.bel (Nat.le_refl _) _ _ _ _) none))

set_option maxHeartbeats 2000000 in
theorem mget_f (w : World) (ao : Option Addr) (n c : Nat) (b : List Int) (h : Seq w.heap.size w (.slice ao n c) b) (hb : Byt b) (hs1 : 512 ≤ n) (hs2 : n ≤ 4096) (hz : allZ (b.drop 32) = true) (hm : b.take 4 = RUB) (hf : fld b 4 4 = (b.length : Int))
    (hsum : fld b 28 4 = ((crcN (b.take 28) : Nat) : Int)) (hr : mright (mtOf b) = false) :
    Calls Try.prog 17 #[.slice ao n c] w fun r w' => GotM b w w' r := by
  have hn : n = b.length := by obtain ⟨_, _, hv, _⟩ := h; injection hv
  have hc0 : n ≤ c := by obtain ⟨_, c', hv, h1, _⟩ := h; cases hv; exact h1
  have hc32 : ¬ c = 32 := by omega
  have hc32i : (32 : Int) ≤ (c : Int) := by omega
  have hs1i : (512 : Int) ≤ (n : Int) := by omega
  have hs2i : (n : Int) ≤ 4096 := by omega
  have h32 : (32 : Int) ≤ (n : Int) := by omega
  have hH := h.head 32 (by omega)
  have HT := Lib.hid (show Seq w.heap.size (w.alloc (.cells #[.int .u64 0, .int .u32 0, .int .u32 0, .int .u32 0] 29)) (.slice (ao.map fun x => x.add 32) (n - 32) (c - 32)) (b.drop 32) by
    have := (h.below (w' := w.alloc (.cells #[.int .u64 0, .int .u32 0, .int .u32 0, .int .u32 0] 29)) (fun i hi => Below.heap_alloc w _ i hi)).tail (k := 32) (by omega)
    rwa [← hn] at this)
  have HH := Lib.hid (hH.below (w' := w.alloc (.cells #[.int .u64 0, .int .u32 0, .int .u32 0, .int .u32 0] 29)) (fun i hi => Below.heap_alloc w _ i hi))
  have HZ := Lib.hid hz
  have H := Lib.hid h
  have HL := Lib.hid hn
  have HB := Lib.hid hb
  have HM := Lib.hid (rub_yes hm)
  have hwn : IntKind.u64.wrap (n : Int) = (n : Int) := by rw [show IntKind.u64.wrap (n : Int) = (n : Int) % 18446744073709551616 from rfl]; omega
  have HE := Lib.hid (mget_wrong (b := b) (by omega) hz hm hf hsum hr)
  rw [← hn] at hf
  have HF := Lib.hid hf
  have HP := Lib.hid (h.pre 28 (by omega))
  clear hz hn hH hm hf
  obtain ⟨Y, hY⟩ : ∃ Y, Y = crcN (b.take 28) := ⟨_, rfl⟩
  have hcl := crcN_lt (l := b.take 28) (hb.take 28)
  rw [← hY] at hsum
  rw [← hY] at hcl
  have HSUM := Lib.hid hsum
  have hwy : IntKind.u64.wrap (Y : Int) = (Y : Int) := by rw [show IntKind.u64.wrap (Y : Int) = (Y : Int) % 18446744073709551616 from rfl]; omega
  have HY := Lib.hid hY
  have g8 := fld8 hb 8
  have g16 := fld4 hb 16
  have g20 := fld4 hb 20
  have g24 := fld4 hb 24
  obtain ⟨M, hMe⟩ : ∃ M, M = mtOf b := ⟨_, rfl⟩
  have HM8 := Lib.hid (show fld b 8 8 = (M.t : Int) by rw [hMe]; simp only [mtOf]; omega)
  have HM16 := Lib.hid (show fld b 16 4 = (M.e : Int) by rw [hMe]; simp only [mtOf]; omega)
  have HM20 := Lib.hid (show fld b 20 4 = (M.m : Int) by rw [hMe]; simp only [mtOf]; omega)
  have HM24 := Lib.hid (show fld b 24 4 = (M.f : Int) by rw [hMe]; simp only [mtOf]; omega)
  have HMO := Lib.hid hMe
  rw [← hMe] at hr
  clear hY h hb hsum hMe g8 g16 g20 g24
  go_enter Try.func17, Try.ntmps17
  go_wp2_with (first
    | (go_at_call 23; refine (lsize_yes _ _ hs1i hs2i).mono ?_; rintro r w2 ⟨rfl, rfl⟩)
    | (go_at_call 34; refine (noughts_any _ _ _ _ _ _ HT.out).mono ?_; rintro r w2 ⟨rfl, rfl⟩; rw [HZ.out])
    | (go_at_call 35; refine (newR_any _ w.heap.size _ (b.take 32) HH.out (by simp) (by rw [List.length_take]; omega)).mono ?_; rintro r wr ⟨g, rfl, hgg, hrd, hgr⟩; have HG := Lib.hid (GS.start H.out HB.out (by rw [← HL.out]; exact hs2) hrd hgg hgr); clear hrd hgr hgg)
    | (go_at_call 36; have K := HG.out.raw 4 4 rfl (by decide) (by rw [← HL.out]; omega); ((with_reducible refine K.mono ?_); clear K; rintro r w3 ⟨a4, c4, rfl, hsq, hgs⟩; have hcv := seq_string hsq; rw [List.drop_zero] at hcv; have hrub := HM.out; generalize strOfNums (b.take 4) = T at hcv hrub; have HG3 := Lib.hid hgs; clear hgs hsq HG HM))
    | (go_at_call 37; have K := HG3.out.num 4 4 rfl (by decide) (by decide) (by decide) (by rw [← HL.out]; omega); rw [HF.out] at K; ((with_reducible refine K.mono ?_); clear K; rintro r w4 ⟨rfl, hgs⟩; have HG4 := Lib.hid hgs; clear hgs HG3))
    | (go_at_call 37; have K := HG4.out.num 8 8 rfl (by decide) (by decide) (by decide) (by rw [← HL.out]; omega); rw [HM8.out] at K; ((with_reducible refine K.mono ?_); clear K; rintro r w5 ⟨rfl, hgs⟩; have HG5 := Lib.hid hgs; clear hgs HG4))
    | (go_at_call 38; have K := HG5.out.page HB.out (by decide) (by rw [← HL.out]; omega); rw [HM16.out] at K; ((with_reducible refine K.mono ?_); clear K; rintro r w6 ⟨rfl, hgs⟩; have HG6 := Lib.hid hgs; clear hgs HG5))
    | (go_at_call 38; have K := HG6.out.page HB.out (by decide) (by rw [← HL.out]; omega); rw [HM20.out] at K; ((with_reducible refine K.mono ?_); clear K; rintro r w7 ⟨rfl, hgs⟩; have HG7 := Lib.hid hgs; clear hgs HG6))
    | (go_at_call 38; have K := HG7.out.page HB.out (by decide) (by rw [← HL.out]; omega); rw [HM24.out] at K; ((with_reducible refine K.mono ?_); clear K; rintro r w8 ⟨rfl, hgs⟩; have HG8 := Lib.hid hgs; clear hgs HG7)))
  have HS := Lib.hid (HS7.start HG8.out #[.int .u64 (M.t : Int), .int .u32 (M.e : Int), .int .u32 (M.m : Int), .int .u32 (M.f : Int)])
  have HWB := Lib.hid (heap_alloc_new w8 (.cells #[.int .u64 (M.t : Int), .int .u32 (M.e : Int), .int .u32 (M.m : Int), .int .u32 (M.f : Int)] 29))
  have hc28 : (28 : Int) ≤ (c : Int) := by omega
  clear HG8 hcv hrub
  obtain ⟨q2, hq2⟩ : ∃ q2, q2 = w8.heap.size := ⟨_, rfl⟩
  rw [← hq2] at HS HWB ⊢
  clear hq2
  generalize w8.alloc (.cells #[.int .u64 (M.t : Int), .int .u32 (M.e : Int), .int .u32 (M.m : Int), .int .u32 (M.f : Int)] 29) = W at HS HWB ⊢
  go_region_held3 (fun _ => True) (trivial) (first
    | (go_at_call 37; have K := HS.out.num 4 4 rfl (by decide) (by decide) (by decide) (by rw [← HL.out]; omega); rw [HSUM.out] at K; ((with_reducible refine K.mono ?_); clear K; rintro r w9 ⟨rfl, h9, hg9⟩; have H9 := Lib.hid h9; clear h9 hg9))
    | (go_at_call 28; have K := of1 (w := w9) (t := 33) (q := w9.heap.size) rfl ((H9.out.gs.sq.pre 28 (by rw [← HL.out]; omega)).mono H9.out.gs.rs.bel.size) (HB.out.take 28); rw [← HY.out] at K; ((with_reducible refine K.mono ?_); clear K; rintro r wA ⟨rfl, hg⟩; have HA := Lib.hid (H9.out.far hg); clear hg H9))
    | (go_at_call 37; rw [drew_alloc]; have K := (HS.out.far (World.grownBy_alloc W.drew (.cells #[.slice ao 28 c] 33) none)).num 4 4 rfl (by decide) (by decide) (by decide) (by rw [← HL.out]; omega); rw [HSUM.out] at K; ((with_reducible refine K.mono ?_); clear K; rintro r w9 ⟨rfl, h9, hg9⟩; have HQ := Lib.hid ((hg9.block W.heap.size (lt_of_block (heap_alloc_new W.drew _)) (by intro e; injection e with e; have := HS.out.gq; have := lt_of_block HWB.out; omega)).trans (heap_alloc_new W.drew (.cells #[.slice ao 28 c] 33))); have H9 := Lib.hid h9; clear h9 hg9))
    | (go_at_call 28; have K := ofb1 (W := w9) (t := 33) (q := W.heap.size) HQ.out ((H9.out.gs.sq.pre 28 (by rw [← HL.out]; omega)).mono H9.out.gs.rs.bel.size) (HB.out.take 28); rw [← HY.out] at K; ((with_reducible refine K.mono ?_); clear K; rintro r wA ⟨rfl, hg⟩; have HA := Lib.hid (H9.out.far hg); clear hg H9)))
  all_goals
    obtain ⟨⟨z0, z1, z2, z3⟩, f0, f1, f2, f3⟩ := cells4 HA.out.hm
    go_wp2_with (go_at_call 14; have K := mright_any M wA; rw [show mtC M = #[.int .u64 (M.t : Int), .int .u32 (M.e : Int), .int .u32 (M.m : Int), .int .u32 (M.f : Int)] from rfl] at K; ((with_reducible refine K.mono ?_); clear K; rintro r wB ⟨rfl, hg⟩); rw [hr]; have HB2 := Lib.hid (HA.out.far hg); clear hg z0 z1 z2 z3 f0 f1 f2 f3; obtain ⟨⟨z0, z1, z2, z3⟩, f0, f1, f2, f3⟩ := cells4 HB2.out.gs.hq; obtain ⟨⟨y0, y1, y2, y3⟩, _⟩ := cells4 HB2.out.hm)
    exact bodyPost_ret (results_M rfl _ _ w.heap.size _ _ rfl rfl (store4 HB2.out.gs.hq _ _ _ _) rfl) rfl (gotM_no HE.out (by decide) (gof (below4 HB2.out.gs.rs.bel (Nat.le_refl _) _ _ _ _) none))

set_option maxHeartbeats 2000000 in
theorem mget_g (w : World) (ao : Option Addr) (n c : Nat) (b : List Int) (h : Seq w.heap.size w (.slice ao n c) b) (hb : Byt b) (hs1 : 512 ≤ n) (hs2 : n ≤ 4096) (hz : allZ (b.drop 32) = true) (hm : b.take 4 = RUB) (hf : fld b 4 4 = (b.length : Int))
    (hsum : fld b 28 4 = ((crcN (b.take 28) : Nat) : Int)) (hr : mright (mtOf b) = true) :
    Calls Try.prog 17 #[.slice ao n c] w fun r w' => GotM b w w' r := by
  have hn : n = b.length := by obtain ⟨_, _, hv, _⟩ := h; injection hv
  have hc0 : n ≤ c := by obtain ⟨_, c', hv, h1, _⟩ := h; cases hv; exact h1
  have hc32 : ¬ c = 32 := by omega
  have hc32i : (32 : Int) ≤ (c : Int) := by omega
  have hs1i : (512 : Int) ≤ (n : Int) := by omega
  have hs2i : (n : Int) ≤ 4096 := by omega
  have h32 : (32 : Int) ≤ (n : Int) := by omega
  have hH := h.head 32 (by omega)
  have HT := Lib.hid (show Seq w.heap.size (w.alloc (.cells #[.int .u64 0, .int .u32 0, .int .u32 0, .int .u32 0] 29)) (.slice (ao.map fun x => x.add 32) (n - 32) (c - 32)) (b.drop 32) by
    have := (h.below (w' := w.alloc (.cells #[.int .u64 0, .int .u32 0, .int .u32 0, .int .u32 0] 29)) (fun i hi => Below.heap_alloc w _ i hi)).tail (k := 32) (by omega)
    rwa [← hn] at this)
  have HH := Lib.hid (hH.below (w' := w.alloc (.cells #[.int .u64 0, .int .u32 0, .int .u32 0, .int .u32 0] 29)) (fun i hi => Below.heap_alloc w _ i hi))
  have HZ := Lib.hid hz
  have H := Lib.hid h
  have HL := Lib.hid hn
  have HB := Lib.hid hb
  have HM := Lib.hid (rub_yes hm)
  have hwn : IntKind.u64.wrap (n : Int) = (n : Int) := by rw [show IntKind.u64.wrap (n : Int) = (n : Int) % 18446744073709551616 from rfl]; omega
  have HE := Lib.hid (mget_ok (b := b) (by omega) hz hm hf hsum hr)
  rw [← hn] at hf
  have HF := Lib.hid hf
  have HP := Lib.hid (h.pre 28 (by omega))
  clear hz hn hH hm hf
  obtain ⟨Y, hY⟩ : ∃ Y, Y = crcN (b.take 28) := ⟨_, rfl⟩
  have hcl := crcN_lt (l := b.take 28) (hb.take 28)
  rw [← hY] at hsum
  rw [← hY] at hcl
  have HSUM := Lib.hid hsum
  have hwy : IntKind.u64.wrap (Y : Int) = (Y : Int) := by rw [show IntKind.u64.wrap (Y : Int) = (Y : Int) % 18446744073709551616 from rfl]; omega
  have HY := Lib.hid hY
  have g8 := fld8 hb 8
  have g16 := fld4 hb 16
  have g20 := fld4 hb 20
  have g24 := fld4 hb 24
  obtain ⟨M, hMe⟩ : ∃ M, M = mtOf b := ⟨_, rfl⟩
  have HM8 := Lib.hid (show fld b 8 8 = (M.t : Int) by rw [hMe]; simp only [mtOf]; omega)
  have HM16 := Lib.hid (show fld b 16 4 = (M.e : Int) by rw [hMe]; simp only [mtOf]; omega)
  have HM20 := Lib.hid (show fld b 20 4 = (M.m : Int) by rw [hMe]; simp only [mtOf]; omega)
  have HM24 := Lib.hid (show fld b 24 4 = (M.f : Int) by rw [hMe]; simp only [mtOf]; omega)
  have HMO := Lib.hid hMe
  rw [← hMe] at hr
  clear hY h hb hsum hMe g8 g16 g20 g24
  go_enter Try.func17, Try.ntmps17
  go_wp2_with (first
    | (go_at_call 23; refine (lsize_yes _ _ hs1i hs2i).mono ?_; rintro r w2 ⟨rfl, rfl⟩)
    | (go_at_call 34; refine (noughts_any _ _ _ _ _ _ HT.out).mono ?_; rintro r w2 ⟨rfl, rfl⟩; rw [HZ.out])
    | (go_at_call 35; refine (newR_any _ w.heap.size _ (b.take 32) HH.out (by simp) (by rw [List.length_take]; omega)).mono ?_; rintro r wr ⟨g, rfl, hgg, hrd, hgr⟩; have HG := Lib.hid (GS.start H.out HB.out (by rw [← HL.out]; exact hs2) hrd hgg hgr); clear hrd hgr hgg)
    | (go_at_call 36; have K := HG.out.raw 4 4 rfl (by decide) (by rw [← HL.out]; omega); ((with_reducible refine K.mono ?_); clear K; rintro r w3 ⟨a4, c4, rfl, hsq, hgs⟩; have hcv := seq_string hsq; rw [List.drop_zero] at hcv; have hrub := HM.out; generalize strOfNums (b.take 4) = T at hcv hrub; have HG3 := Lib.hid hgs; clear hgs hsq HG HM))
    | (go_at_call 37; have K := HG3.out.num 4 4 rfl (by decide) (by decide) (by decide) (by rw [← HL.out]; omega); rw [HF.out] at K; ((with_reducible refine K.mono ?_); clear K; rintro r w4 ⟨rfl, hgs⟩; have HG4 := Lib.hid hgs; clear hgs HG3))
    | (go_at_call 37; have K := HG4.out.num 8 8 rfl (by decide) (by decide) (by decide) (by rw [← HL.out]; omega); rw [HM8.out] at K; ((with_reducible refine K.mono ?_); clear K; rintro r w5 ⟨rfl, hgs⟩; have HG5 := Lib.hid hgs; clear hgs HG4))
    | (go_at_call 38; have K := HG5.out.page HB.out (by decide) (by rw [← HL.out]; omega); rw [HM16.out] at K; ((with_reducible refine K.mono ?_); clear K; rintro r w6 ⟨rfl, hgs⟩; have HG6 := Lib.hid hgs; clear hgs HG5))
    | (go_at_call 38; have K := HG6.out.page HB.out (by decide) (by rw [← HL.out]; omega); rw [HM20.out] at K; ((with_reducible refine K.mono ?_); clear K; rintro r w7 ⟨rfl, hgs⟩; have HG7 := Lib.hid hgs; clear hgs HG6))
    | (go_at_call 38; have K := HG7.out.page HB.out (by decide) (by rw [← HL.out]; omega); rw [HM24.out] at K; ((with_reducible refine K.mono ?_); clear K; rintro r w8 ⟨rfl, hgs⟩; have HG8 := Lib.hid hgs; clear hgs HG7)))
  have HS := Lib.hid (HS7.start HG8.out #[.int .u64 (M.t : Int), .int .u32 (M.e : Int), .int .u32 (M.m : Int), .int .u32 (M.f : Int)])
  have HWB := Lib.hid (heap_alloc_new w8 (.cells #[.int .u64 (M.t : Int), .int .u32 (M.e : Int), .int .u32 (M.m : Int), .int .u32 (M.f : Int)] 29))
  have hc28 : (28 : Int) ≤ (c : Int) := by omega
  clear HG8 hcv hrub
  obtain ⟨q2, hq2⟩ : ∃ q2, q2 = w8.heap.size := ⟨_, rfl⟩
  rw [← hq2] at HS HWB ⊢
  clear hq2
  generalize w8.alloc (.cells #[.int .u64 (M.t : Int), .int .u32 (M.e : Int), .int .u32 (M.m : Int), .int .u32 (M.f : Int)] 29) = W at HS HWB ⊢
  go_region_held3 (fun _ => True) (trivial) (first
    | (go_at_call 37; have K := HS.out.num 4 4 rfl (by decide) (by decide) (by decide) (by rw [← HL.out]; omega); rw [HSUM.out] at K; ((with_reducible refine K.mono ?_); clear K; rintro r w9 ⟨rfl, h9, hg9⟩; have H9 := Lib.hid h9; clear h9 hg9))
    | (go_at_call 28; have K := of1 (w := w9) (t := 33) (q := w9.heap.size) rfl ((H9.out.gs.sq.pre 28 (by rw [← HL.out]; omega)).mono H9.out.gs.rs.bel.size) (HB.out.take 28); rw [← HY.out] at K; ((with_reducible refine K.mono ?_); clear K; rintro r wA ⟨rfl, hg⟩; have HA := Lib.hid (H9.out.far hg); clear hg H9))
    | (go_at_call 37; rw [drew_alloc]; have K := (HS.out.far (World.grownBy_alloc W.drew (.cells #[.slice ao 28 c] 33) none)).num 4 4 rfl (by decide) (by decide) (by decide) (by rw [← HL.out]; omega); rw [HSUM.out] at K; ((with_reducible refine K.mono ?_); clear K; rintro r w9 ⟨rfl, h9, hg9⟩; have HQ := Lib.hid ((hg9.block W.heap.size (lt_of_block (heap_alloc_new W.drew _)) (by intro e; injection e with e; have := HS.out.gq; have := lt_of_block HWB.out; omega)).trans (heap_alloc_new W.drew (.cells #[.slice ao 28 c] 33))); have H9 := Lib.hid h9; clear h9 hg9))
    | (go_at_call 28; have K := ofb1 (W := w9) (t := 33) (q := W.heap.size) HQ.out ((H9.out.gs.sq.pre 28 (by rw [← HL.out]; omega)).mono H9.out.gs.rs.bel.size) (HB.out.take 28); rw [← HY.out] at K; ((with_reducible refine K.mono ?_); clear K; rintro r wA ⟨rfl, hg⟩; have HA := Lib.hid (H9.out.far hg); clear hg H9)))
  all_goals
    obtain ⟨⟨z0, z1, z2, z3⟩, f0, f1, f2, f3⟩ := cells4 HA.out.hm
    go_wp2_with (go_at_call 14; have K := mright_any M wA; rw [show mtC M = #[.int .u64 (M.t : Int), .int .u32 (M.e : Int), .int .u32 (M.m : Int), .int .u32 (M.f : Int)] from rfl] at K; ((with_reducible refine K.mono ?_); clear K; rintro r wB ⟨rfl, hg⟩); rw [hr]; have HB2 := Lib.hid (HA.out.far hg); clear hg z0 z1 z2 z3 f0 f1 f2 f3; obtain ⟨⟨z0, z1, z2, z3⟩, f0, f1, f2, f3⟩ := cells4 HB2.out.gs.hq; obtain ⟨⟨y0, y1, y2, y3⟩, _⟩ := cells4 HB2.out.hm)
    exact bodyPost_ret (results_M rfl _ _ w.heap.size _ _ rfl rfl (store4 HB2.out.gs.hq _ _ _ _) rfl) rfl ⟨by rw [mgetM_yes HE.out, HE.out, ← HMO.out]; rfl, gof (below4 HB2.out.gs.rs.bel (Nat.le_refl _) _ _ _ _) none⟩

theorem mget_any (w : World) (ao : Option Addr) (n c : Nat) (b : List Int) (h : Seq w.heap.size w (.slice ao n c) b) (hb : Byt b) :
    Calls Try.prog 17 #[.slice ao n c] w fun r w' => GotM b w w' r := by
  have hn : n = b.length := by obtain ⟨_, _, hv, _⟩ := h; injection hv
  by_cases h1 : 512 ≤ n ∧ n ≤ 4096
  · cases h2 : allZ (b.drop 32)
    · exact mget_b w ao n c b h h1.1 h1.2 h2
    · by_cases h3 : b.take 4 = RUB
      · by_cases h4 : fld b 4 4 = (b.length : Int)
        · by_cases h5 : fld b 28 4 = ((crcN (b.take 28) : Nat) : Int)
          · cases h6 : mright (mtOf b)
            · exact mget_f w ao n c b h hb h1.1 h1.2 h2 h3 h4 h5 h6
            · exact mget_g w ao n c b h hb h1.1 h1.2 h2 h3 h4 h5 h6
          · exact mget_e w ao n c b h hb h1.1 h1.2 h2 h3 h4 h5
        · exact mget_d w ao n c b h hb h1.1 h1.2 h2 h3 h4
      · exact mget_c w ao n c b h hb h1.1 h1.2 h2 h3
  · exact mget_a w ao n c b h h1

end Go.Proofs.Ytnggebohefbopaa
