/-
  Layer 7: the contract of meta's Get: pages that begin as one does. Own work.
-/
import Derived.Test.YtnnmpaenainogaaGreatPrnBD
import Derived.Deep.RegionHeld3

set_option linter.unusedVariables false
set_option linter.unusedSimpArgs false
namespace Go.Proofs.YtnnmpaenainogaaGreat
open Go.RowKit
set_option maxHeartbeats 1000000 in
theorem mget_d (w : World) (ao : Option Addr) (n c : Nat) (b : List Int) (h : Seq w.heap.size w (.slice ao n c) b) (hb : Byt b) (hs1 : 512≤n) (hs2 : n≤4096) (hz : allZ (b.drop 32) = true) (hm : b.take 4 = RUB) (hf : fld b 4 4≠(b.length : Int)) :
    Calls Tryz.prog 209 #[.slice ao n c] w fun r w' => GotM b w w' r := by
  have hn : n = b.length := by obtain ⟨_,_,hv,_⟩ := h; injection hv
  have hc0 : n≤c := by obtain ⟨_,c',hv,h1,_⟩ := h; cases hv; exact h1
  have hc32 : ¬ c = 32 := by omega
  have hc32i : (32 : Int)≤(c : Int) := by omega
  have hs1i : (512 : Int)≤(n : Int) := by omega
  have hs2i : (n : Int)≤4096 := by omega
  have h32 : (32 : Int)≤(n : Int) := by omega
  have hH := h.head 32 (by omega)
  have HT := Lib.hid (show Seq w.heap.size (w.alloc (.cells #[.int .u64 0,.int .u32 0,.int .u32 0,.int .u32 0] 44)) (.slice (ao.map fun x => x.add 32) (n - 32) (c - 32)) (b.drop 32) by
    have := (h.below (w' := w.alloc (.cells #[.int .u64 0,.int .u32 0,.int .u32 0,.int .u32 0] 44)) (fun i hi => Below.heap_alloc w _ i hi)).tail (k := 32) (by omega)
    rwa [← hn] at this)
  have HH := Lib.hid (hH.below (w' := w.alloc (.cells #[.int .u64 0,.int .u32 0,.int .u32 0,.int .u32 0] 44)) (fun i hi => Below.heap_alloc w _ i hi))
  have HZ := Lib.hid hz
  have H := Lib.hid h
  have HL := Lib.hid hn
  have HB := Lib.hid hb
  have HM := Lib.hid (rub_yes hm)
  have hwn : IntKind.u64.wrap (n : Int) = (n : Int) := by rw [show IntKind.u64.wrap (n : Int) = (n : Int) % 18446744073709551616 from rfl]; omega
  have HE := Lib.hid (mget_size (b := b) hf)
  have hF := fld4 hb 4
  rw [← hn] at hf
  clear h hz hn hH hb hm
  obtain ⟨F,hFe⟩ : ∃ F,F = fld b 4 4 := ⟨_,rfl⟩
  rw [← hFe] at hf hF
  have hfd : (F != (n : Int)) = true := by simpa using hf
  have HF := Lib.hid hFe
  clear hFe
  go_enter Tryz.func209,Tryz.ntmps209
  go_wp2_with (first
    | (go_at_call 73; refine (lsize_yes _ _ hs1i hs2i).mono ?_; rintro r w2 ⟨rfl,rfl⟩)
    | (go_at_call 110; refine (noughts_any _ _ _ _ _ _ HT.out).mono ?_; rintro r w2 ⟨rfl,rfl⟩; rw [HZ.out])
    | (go_at_call 152; refine (newR_any _ w.heap.size _ (b.take 32) HH.out (by simp) (by rw [List.length_take]; omega)).mono ?_; rintro r wr ⟨g,rfl,hgg,hrd,hgr⟩; have HG := Lib.hid (GS.start H.out HB.out (by rw [← HL.out]; exact hs2) hrd hgg hgr); clear hrd hgr hgg)
    | (go_at_call 150; have K := HG.out.raw 4 4 rfl (by decide) (by rw [← HL.out]; omega); ((with_reducible refine K.mono ?_); clear K; rintro r w3 ⟨a4,c4,rfl,hsq,hgs⟩; have hcv := seq_string hsq; rw [List.drop_zero] at hcv; have hrub := HM.out; generalize strOfNums (b.take 4) = T at hcv hrub; have HG3 := Lib.hid hgs; clear hgs hsq HG HM))
    | (go_at_call 149; have K := HG3.out.num 4 4 rfl (by decide) (by decide) (by decide) (by rw [← HL.out]; omega); rw [← HF.out] at K; ((with_reducible refine K.mono ?_); clear K; rintro r w4 ⟨rfl,hgs⟩; have HG4 := Lib.hid hgs; obtain ⟨⟨z0,z1,z2,z3⟩,f0,f1,f2,f3⟩ := cells4 hgs.hq; clear hgs HG3)))
  exact bodyPost_ret (results_M rfl _ _ w.heap.size _ _ rfl rfl (store4 HG4.out.hq _ _ _ _) rfl) rfl (gotM_no HE.out (by decide) (gof (below4 HG4.out.rs.bel (Nat.le_refl _) _ _ _ _) none))
structure HS7 (g q q2 : Nat) (w0 w : World) (v : Value) (b : List Int) (k : Nat) (C : Array Value) : Prop where
  gs : GS g q w0 w v b k
  hm : w.heap[q2]? = some (.cells C 44 (0,0))
  gq : g < q2
theorem HS7.far {g q q2 : Nat} {w0 w w' : World} {v : Value} {b : List Int} {k : Nat} {C : Array Value} (h : HS7 g q q2 w0 w v b k C) (kk : w.grownBy w' none) : HS7 g q q2 w0 w' v b k C :=
  ⟨h.gs.far kk,(kk.block q2 (lt_of_block h.hm) (by simp)).trans h.hm,h.gq⟩
theorem HS7.num {g q q2 : Nat} {w0 w : World} {v : Value} {b : List Int} {k : Nat} {C : Array Value} (h : HS7 g q q2 w0 w v b k C) (n : Nat) (m : Int) (hm : m = (n : Int)) (h1 : 1≤n) (h8 : n≤8) (hk : k + n≤32) (hl : 32≤b.length) :
    Calls Tryz.prog 149 #[.pointer (some ⟨g,0,none⟩),.int .i64 m] w fun r w' => r = .returned (.int .u64 (fld b k n))∧HS7 g q q2 w0 w' v b (k + n) C∧w.grownBy w' (some g) := by
  subst hm
  exact (h.gs.rs.num (n : Int) (by omega) (by omega) (h.gs.nx n hk hl)).mono fun r w' ⟨e,hr,hg⟩ => ⟨e,⟨h.gs.by_g hr hg,(hg.block q2 (lt_of_block h.hm) (by intro e; injection e with e; have := h.gq; omega)).trans h.hm,h.gq⟩,hg⟩
theorem HS7.start {g q : Nat} {w0 w : World} {v : Value} {b : List Int} {k : Nat} (h : GS g q w0 w v b k) (C : Array Value) : HS7 g q w.heap.size w0 (w.alloc (.cells C 44)).drew v b k C :=
  ⟨h.far (gtrans (World.grownBy_alloc _ _ _) (gdrew _)),heap_alloc_new _ _,h.rs.rd.lt⟩
set_option maxHeartbeats 2000000 in
theorem mget_e (w : World) (ao : Option Addr) (n c : Nat) (b : List Int) (h : Seq w.heap.size w (.slice ao n c) b) (hb : Byt b) (hs1 : 512≤n) (hs2 : n≤4096) (hz : allZ (b.drop 32) = true) (hm : b.take 4 = RUB) (hf : fld b 4 4 = (b.length : Int))
    (hsum : fld b 28 4≠((crcN (b.take 28) : Nat) : Int)) :
    Calls Tryz.prog 209 #[.slice ao n c] w fun r w' => GotM b w w' r := by
  have hn : n = b.length := by obtain ⟨_,_,hv,_⟩ := h; injection hv
  have hc0 : n≤c := by obtain ⟨_,c',hv,h1,_⟩ := h; cases hv; exact h1
  have hc32 : ¬ c = 32 := by omega
  have hc32i : (32 : Int)≤(c : Int) := by omega
  have hs1i : (512 : Int)≤(n : Int) := by omega
  have hs2i : (n : Int)≤4096 := by omega
  have h32 : (32 : Int)≤(n : Int) := by omega
  have hH := h.head 32 (by omega)
  have HT := Lib.hid (show Seq w.heap.size (w.alloc (.cells #[.int .u64 0,.int .u32 0,.int .u32 0,.int .u32 0] 44)) (.slice (ao.map fun x => x.add 32) (n - 32) (c - 32)) (b.drop 32) by
    have := (h.below (w' := w.alloc (.cells #[.int .u64 0,.int .u32 0,.int .u32 0,.int .u32 0] 44)) (fun i hi => Below.heap_alloc w _ i hi)).tail (k := 32) (by omega)
    rwa [← hn] at this)
  have HH := Lib.hid (hH.below (w' := w.alloc (.cells #[.int .u64 0,.int .u32 0,.int .u32 0,.int .u32 0] 44)) (fun i hi => Below.heap_alloc w _ i hi))
  have HZ := Lib.hid hz
  have H := Lib.hid h
  have HL := Lib.hid hn
  have HB := Lib.hid hb
  have HM := Lib.hid (rub_yes hm)
  have hwn : IntKind.u64.wrap (n : Int) = (n : Int) := by rw [show IntKind.u64.wrap (n : Int) = (n : Int) % 18446744073709551616 from rfl]; omega
  have HE := Lib.hid (mget_sum (b := b) (by omega) hz hm hf hsum)
  rw [← hn] at hf
  have HF := Lib.hid hf
  have HP := Lib.hid (h.pre 28 (by omega))
  clear hz hn hH hm hf
  obtain ⟨X,hX⟩ : ∃ X,X = fld b 28 4 := ⟨_,rfl⟩
  obtain ⟨Y,hY⟩ : ∃ Y,Y = crcN (b.take 28) := ⟨_,rfl⟩
  have hcl := crcN_lt (l := b.take 28) (hb.take 28)
  rw [← hX,← hY] at hsum
  rw [← hY] at hcl
  have hne : (X != (Y : Int)) = true := by simpa using hsum
  have hwy : IntKind.u64.wrap (Y : Int) = (Y : Int) := by rw [show IntKind.u64.wrap (Y : Int) = (Y : Int) % 18446744073709551616 from rfl]; omega
  have HX := Lib.hid hX
  have HY := Lib.hid hY
  have g8 := fld8 hb 8
  have g16 := fld4 hb 16
  have g20 := fld4 hb 20
  have g24 := fld4 hb 24
  obtain ⟨M,hMe⟩ : ∃ M,M = mtOf b := ⟨_,rfl⟩
  have HM8 := Lib.hid (show fld b 8 8 = (M.t : Int) by rw [hMe]; simp only [mtOf]; omega)
  have HM16 := Lib.hid (show fld b 16 4 = (M.e : Int) by rw [hMe]; simp only [mtOf]; omega)
  have HM20 := Lib.hid (show fld b 20 4 = (M.m : Int) by rw [hMe]; simp only [mtOf]; omega)
  have HM24 := Lib.hid (show fld b 24 4 = (M.f : Int) by rw [hMe]; simp only [mtOf]; omega)
  have HMO := Lib.hid hMe
  clear hX hY h hb hMe g8 g16 g20 g24
  go_enter Tryz.func209,Tryz.ntmps209
  go_wp2_with (first
    | (go_at_call 73; refine (lsize_yes _ _ hs1i hs2i).mono ?_; rintro r w2 ⟨rfl,rfl⟩)
    | (go_at_call 110; refine (noughts_any _ _ _ _ _ _ HT.out).mono ?_; rintro r w2 ⟨rfl,rfl⟩; rw [HZ.out])
    | (go_at_call 152; refine (newR_any _ w.heap.size _ (b.take 32) HH.out (by simp) (by rw [List.length_take]; omega)).mono ?_; rintro r wr ⟨g,rfl,hgg,hrd,hgr⟩; have HG := Lib.hid (GS.start H.out HB.out (by rw [← HL.out]; exact hs2) hrd hgg hgr); clear hrd hgr hgg)
    | (go_at_call 150; have K := HG.out.raw 4 4 rfl (by decide) (by rw [← HL.out]; omega); ((with_reducible refine K.mono ?_); clear K; rintro r w3 ⟨a4,c4,rfl,hsq,hgs⟩; have hcv := seq_string hsq; rw [List.drop_zero] at hcv; have hrub := HM.out; generalize strOfNums (b.take 4) = T at hcv hrub; have HG3 := Lib.hid hgs; clear hgs hsq HG HM))
    | (go_at_call 149; have K := HG3.out.num 4 4 rfl (by decide) (by decide) (by decide) (by rw [← HL.out]; omega); rw [HF.out] at K; ((with_reducible refine K.mono ?_); clear K; rintro r w4 ⟨rfl,hgs⟩; have HG4 := Lib.hid hgs; clear hgs HG3))
    | (go_at_call 149; have K := HG4.out.num 8 8 rfl (by decide) (by decide) (by decide) (by rw [← HL.out]; omega); rw [HM8.out] at K; ((with_reducible refine K.mono ?_); clear K; rintro r w5 ⟨rfl,hgs⟩; have HG5 := Lib.hid hgs; clear hgs HG4))
    | (go_at_call 239; have K := HG5.out.page HB.out (by decide) (by rw [← HL.out]; omega); rw [HM16.out] at K; ((with_reducible refine K.mono ?_); clear K; rintro r w6 ⟨rfl,hgs⟩; have HG6 := Lib.hid hgs; clear hgs HG5))
    | (go_at_call 239; have K := HG6.out.page HB.out (by decide) (by rw [← HL.out]; omega); rw [HM20.out] at K; ((with_reducible refine K.mono ?_); clear K; rintro r w7 ⟨rfl,hgs⟩; have HG7 := Lib.hid hgs; clear hgs HG6))
    | (go_at_call 239; have K := HG7.out.page HB.out (by decide) (by rw [← HL.out]; omega); rw [HM24.out] at K; ((with_reducible refine K.mono ?_); clear K; rintro r w8 ⟨rfl,hgs⟩; have HG8 := Lib.hid hgs; clear hgs HG7)))
  have HS := Lib.hid (HS7.start HG8.out #[.int .u64 (M.t : Int),.int .u32 (M.e : Int),.int .u32 (M.m : Int),.int .u32 (M.f : Int)])
  have HWB := Lib.hid (heap_alloc_new w8 (.cells #[.int .u64 (M.t : Int),.int .u32 (M.e : Int),.int .u32 (M.m : Int),.int .u32 (M.f : Int)] 44))
  have hc28 : (28 : Int)≤(c : Int) := by omega
  clear HG8 hcv hrub
  obtain ⟨q2,hq2⟩ : ∃ q2,q2 = w8.heap.size := ⟨_,rfl⟩
  rw [← hq2] at HS HWB ⊢
  clear hq2
  generalize w8.alloc (.cells #[.int .u64 (M.t : Int),.int .u32 (M.e : Int),.int .u32 (M.m : Int),.int .u32 (M.f : Int)] 44) = W at HS HWB ⊢
  go_region_held3 (fun _ => True) (trivial) (first
    | (go_at_call 149; have K := HS.out.num 4 4 rfl (by decide) (by decide) (by decide) (by rw [← HL.out]; omega); rw [← HX.out] at K; ((with_reducible refine K.mono ?_); clear K; rintro r w9 ⟨rfl,h9,hg9⟩; have H9 := Lib.hid h9; clear h9 hg9))
    | (go_at_call 78; have K := of1 (w := w9) (t := 32) (q := w9.heap.size) rfl ((H9.out.gs.sq.pre 28 (by rw [← HL.out]; omega)).mono H9.out.gs.rs.bel.size) (HB.out.take 28); rw [← HY.out] at K; ((with_reducible refine K.mono ?_); clear K; rintro r wA ⟨rfl,hg⟩; have HA := Lib.hid (H9.out.far hg); clear hg H9))
    | (go_at_call 149; rw [drew_alloc]; have K := (HS.out.far (World.grownBy_alloc W.drew (.cells #[.slice ao 28 c] 32) none)).num 4 4 rfl (by decide) (by decide) (by decide) (by rw [← HL.out]; omega); rw [← HX.out] at K; ((with_reducible refine K.mono ?_); clear K; rintro r w9 ⟨rfl,h9,hg9⟩; have HQ := Lib.hid ((hg9.block W.heap.size (lt_of_block (heap_alloc_new W.drew _)) (by intro e; injection e with e; have := HS.out.gq; have := lt_of_block HWB.out; omega)).trans (heap_alloc_new W.drew (.cells #[.slice ao 28 c] 32))); have H9 := Lib.hid h9; clear h9 hg9))
    | (go_at_call 78; have K := ofb1 (W := w9) (t := 32) (q := W.heap.size) HQ.out ((H9.out.gs.sq.pre 28 (by rw [← HL.out]; omega)).mono H9.out.gs.rs.bel.size) (HB.out.take 28); rw [← HY.out] at K; ((with_reducible refine K.mono ?_); clear K; rintro r wA ⟨rfl,hg⟩; have HA := Lib.hid (H9.out.far hg); clear hg H9)))
  all_goals
    obtain ⟨⟨z0,z1,z2,z3⟩,f0,f1,f2,f3⟩ := cells4 HA.out.gs.hq
    go_wp2
    exact bodyPost_ret (results_M rfl _ _ w.heap.size _ _ rfl rfl (store4 HA.out.gs.hq _ _ _ _) rfl) rfl (gotM_no HE.out (by decide) (gof (below4 HA.out.gs.rs.bel (Nat.le_refl _) _ _ _ _) none))
set_option maxHeartbeats 2000000 in
theorem mget_f (w : World) (ao : Option Addr) (n c : Nat) (b : List Int) (h : Seq w.heap.size w (.slice ao n c) b) (hb : Byt b) (hs1 : 512≤n) (hs2 : n≤4096) (hz : allZ (b.drop 32) = true) (hm : b.take 4 = RUB) (hf : fld b 4 4 = (b.length : Int))
    (hsum : fld b 28 4 = ((crcN (b.take 28) : Nat) : Int)) (hr : mright (mtOf b) = false) :
    Calls Tryz.prog 209 #[.slice ao n c] w fun r w' => GotM b w w' r := by
  have hn : n = b.length := by obtain ⟨_,_,hv,_⟩ := h; injection hv
  have hc0 : n≤c := by obtain ⟨_,c',hv,h1,_⟩ := h; cases hv; exact h1
  have hc32 : ¬ c = 32 := by omega
  have hc32i : (32 : Int)≤(c : Int) := by omega
  have hs1i : (512 : Int)≤(n : Int) := by omega
  have hs2i : (n : Int)≤4096 := by omega
  have h32 : (32 : Int)≤(n : Int) := by omega
  have hH := h.head 32 (by omega)
  have HT := Lib.hid (show Seq w.heap.size (w.alloc (.cells #[.int .u64 0,.int .u32 0,.int .u32 0,.int .u32 0] 44)) (.slice (ao.map fun x => x.add 32) (n - 32) (c - 32)) (b.drop 32) by
    have := (h.below (w' := w.alloc (.cells #[.int .u64 0,.int .u32 0,.int .u32 0,.int .u32 0] 44)) (fun i hi => Below.heap_alloc w _ i hi)).tail (k := 32) (by omega)
    rwa [← hn] at this)
  have HH := Lib.hid (hH.below (w' := w.alloc (.cells #[.int .u64 0,.int .u32 0,.int .u32 0,.int .u32 0] 44)) (fun i hi => Below.heap_alloc w _ i hi))
  have HZ := Lib.hid hz
  have H := Lib.hid h
  have HL := Lib.hid hn
  have HB := Lib.hid hb
  have HM := Lib.hid (rub_yes hm)
  have hwn : IntKind.u64.wrap (n : Int) = (n : Int) := by rw [show IntKind.u64.wrap (n : Int) = (n : Int) % 18446744073709551616 from rfl]; omega
  have HE := Lib.hid (mget_wrong (b := b) (by omega) hz hm hf hsum hr)
  rw [← hn] at hf
  have HF := Lib.hid hf
  have HP := Lib.hid (h.pre 28 (by omega))
  clear hz hn hH hm hf
  obtain ⟨Y,hY⟩ : ∃ Y,Y = crcN (b.take 28) := ⟨_,rfl⟩
  have hcl := crcN_lt (l := b.take 28) (hb.take 28)
  rw [← hY] at hsum
  rw [← hY] at hcl
  have HSUM := Lib.hid hsum
  have hwy : IntKind.u64.wrap (Y : Int) = (Y : Int) := by rw [show IntKind.u64.wrap (Y : Int) = (Y : Int) % 18446744073709551616 from rfl]; omega
  have HY := Lib.hid hY
  have g8 := fld8 hb 8
  have g16 := fld4 hb 16
  have g20 := fld4 hb 20
  have g24 := fld4 hb 24
  obtain ⟨M,hMe⟩ : ∃ M,M = mtOf b := ⟨_,rfl⟩
  have HM8 := Lib.hid (show fld b 8 8 = (M.t : Int) by rw [hMe]; simp only [mtOf]; omega)
  have HM16 := Lib.hid (show fld b 16 4 = (M.e : Int) by rw [hMe]; simp only [mtOf]; omega)
  have HM20 := Lib.hid (show fld b 20 4 = (M.m : Int) by rw [hMe]; simp only [mtOf]; omega)
  have HM24 := Lib.hid (show fld b 24 4 = (M.f : Int) by rw [hMe]; simp only [mtOf]; omega)
  have HMO := Lib.hid hMe
  rw [← hMe] at hr
  clear hY h hb hsum hMe g8 g16 g20 g24
  go_enter Tryz.func209,Tryz.ntmps209
  go_wp2_with (first
    | (go_at_call 73; refine (lsize_yes _ _ hs1i hs2i).mono ?_; rintro r w2 ⟨rfl,rfl⟩)
    | (go_at_call 110; refine (noughts_any _ _ _ _ _ _ HT.out).mono ?_; rintro r w2 ⟨rfl,rfl⟩; rw [HZ.out])
    | (go_at_call 152; refine (newR_any _ w.heap.size _ (b.take 32) HH.out (by simp) (by rw [List.length_take]; omega)).mono ?_; rintro r wr ⟨g,rfl,hgg,hrd,hgr⟩; have HG := Lib.hid (GS.start H.out HB.out (by rw [← HL.out]; exact hs2) hrd hgg hgr); clear hrd hgr hgg)
    | (go_at_call 150; have K := HG.out.raw 4 4 rfl (by decide) (by rw [← HL.out]; omega); ((with_reducible refine K.mono ?_); clear K; rintro r w3 ⟨a4,c4,rfl,hsq,hgs⟩; have hcv := seq_string hsq; rw [List.drop_zero] at hcv; have hrub := HM.out; generalize strOfNums (b.take 4) = T at hcv hrub; have HG3 := Lib.hid hgs; clear hgs hsq HG HM))
    | (go_at_call 149; have K := HG3.out.num 4 4 rfl (by decide) (by decide) (by decide) (by rw [← HL.out]; omega); rw [HF.out] at K; ((with_reducible refine K.mono ?_); clear K; rintro r w4 ⟨rfl,hgs⟩; have HG4 := Lib.hid hgs; clear hgs HG3))
    | (go_at_call 149; have K := HG4.out.num 8 8 rfl (by decide) (by decide) (by decide) (by rw [← HL.out]; omega); rw [HM8.out] at K; ((with_reducible refine K.mono ?_); clear K; rintro r w5 ⟨rfl,hgs⟩; have HG5 := Lib.hid hgs; clear hgs HG4))
    | (go_at_call 239; have K := HG5.out.page HB.out (by decide) (by rw [← HL.out]; omega); rw [HM16.out] at K; ((with_reducible refine K.mono ?_); clear K; rintro r w6 ⟨rfl,hgs⟩; have HG6 := Lib.hid hgs; clear hgs HG5))
    | (go_at_call 239; have K := HG6.out.page HB.out (by decide) (by rw [← HL.out]; omega); rw [HM20.out] at K; ((with_reducible refine K.mono ?_); clear K; rintro r w7 ⟨rfl,hgs⟩; have HG7 := Lib.hid hgs; clear hgs HG6))
    | (go_at_call 239; have K := HG7.out.page HB.out (by decide) (by rw [← HL.out]; omega); rw [HM24.out] at K; ((with_reducible refine K.mono ?_); clear K; rintro r w8 ⟨rfl,hgs⟩; have HG8 := Lib.hid hgs; clear hgs HG7)))
  have HS := Lib.hid (HS7.start HG8.out #[.int .u64 (M.t : Int),.int .u32 (M.e : Int),.int .u32 (M.m : Int),.int .u32 (M.f : Int)])
  have HWB := Lib.hid (heap_alloc_new w8 (.cells #[.int .u64 (M.t : Int),.int .u32 (M.e : Int),.int .u32 (M.m : Int),.int .u32 (M.f : Int)] 44))
  have hc28 : (28 : Int)≤(c : Int) := by omega
  clear HG8 hcv hrub
  obtain ⟨q2,hq2⟩ : ∃ q2,q2 = w8.heap.size := ⟨_,rfl⟩
  rw [← hq2] at HS HWB ⊢
  clear hq2
  generalize w8.alloc (.cells #[.int .u64 (M.t : Int),.int .u32 (M.e : Int),.int .u32 (M.m : Int),.int .u32 (M.f : Int)] 44) = W at HS HWB ⊢
  go_region_held3 (fun _ => True) (trivial) (first
    | (go_at_call 149; have K := HS.out.num 4 4 rfl (by decide) (by decide) (by decide) (by rw [← HL.out]; omega); rw [HSUM.out] at K; ((with_reducible refine K.mono ?_); clear K; rintro r w9 ⟨rfl,h9,hg9⟩; have H9 := Lib.hid h9; clear h9 hg9))
    | (go_at_call 78; have K := of1 (w := w9) (t := 32) (q := w9.heap.size) rfl ((H9.out.gs.sq.pre 28 (by rw [← HL.out]; omega)).mono H9.out.gs.rs.bel.size) (HB.out.take 28); rw [← HY.out] at K; ((with_reducible refine K.mono ?_); clear K; rintro r wA ⟨rfl,hg⟩; have HA := Lib.hid (H9.out.far hg); clear hg H9))
    | (go_at_call 149; rw [drew_alloc]; have K := (HS.out.far (World.grownBy_alloc W.drew (.cells #[.slice ao 28 c] 32) none)).num 4 4 rfl (by decide) (by decide) (by decide) (by rw [← HL.out]; omega); rw [HSUM.out] at K; ((with_reducible refine K.mono ?_); clear K; rintro r w9 ⟨rfl,h9,hg9⟩; have HQ := Lib.hid ((hg9.block W.heap.size (lt_of_block (heap_alloc_new W.drew _)) (by intro e; injection e with e; have := HS.out.gq; have := lt_of_block HWB.out; omega)).trans (heap_alloc_new W.drew (.cells #[.slice ao 28 c] 32))); have H9 := Lib.hid h9; clear h9 hg9))
    | (go_at_call 78; have K := ofb1 (W := w9) (t := 32) (q := W.heap.size) HQ.out ((H9.out.gs.sq.pre 28 (by rw [← HL.out]; omega)).mono H9.out.gs.rs.bel.size) (HB.out.take 28); rw [← HY.out] at K; ((with_reducible refine K.mono ?_); clear K; rintro r wA ⟨rfl,hg⟩; have HA := Lib.hid (H9.out.far hg); clear hg H9)))
  all_goals
    obtain ⟨⟨z0,z1,z2,z3⟩,f0,f1,f2,f3⟩ := cells4 HA.out.hm
    go_wp2_with (go_at_call 35; have K := mright_any M wA; rw [show mtC M = #[.int .u64 (M.t : Int),.int .u32 (M.e : Int),.int .u32 (M.m : Int),.int .u32 (M.f : Int)] from rfl] at K; ((with_reducible refine K.mono ?_); clear K; rintro r wB ⟨rfl,hg⟩); rw [hr]; have HB2 := Lib.hid (HA.out.far hg); clear hg z0 z1 z2 z3 f0 f1 f2 f3; obtain ⟨⟨z0,z1,z2,z3⟩,f0,f1,f2,f3⟩ := cells4 HB2.out.gs.hq; obtain ⟨⟨y0,y1,y2,y3⟩,_⟩ := cells4 HB2.out.hm)
    exact bodyPost_ret (results_M rfl _ _ w.heap.size _ _ rfl rfl (store4 HB2.out.gs.hq _ _ _ _) rfl) rfl (gotM_no HE.out (by decide) (gof (below4 HB2.out.gs.rs.bel (Nat.le_refl _) _ _ _ _) none))
set_option maxHeartbeats 2000000 in
theorem mget_g (w : World) (ao : Option Addr) (n c : Nat) (b : List Int) (h : Seq w.heap.size w (.slice ao n c) b) (hb : Byt b) (hs1 : 512≤n) (hs2 : n≤4096) (hz : allZ (b.drop 32) = true) (hm : b.take 4 = RUB) (hf : fld b 4 4 = (b.length : Int))
    (hsum : fld b 28 4 = ((crcN (b.take 28) : Nat) : Int)) (hr : mright (mtOf b) = true) :
    Calls Tryz.prog 209 #[.slice ao n c] w fun r w' => GotM b w w' r := by
  have hn : n = b.length := by obtain ⟨_,_,hv,_⟩ := h; injection hv
  have hc0 : n≤c := by obtain ⟨_,c',hv,h1,_⟩ := h; cases hv; exact h1
  have hc32 : ¬ c = 32 := by omega
  have hc32i : (32 : Int)≤(c : Int) := by omega
  have hs1i : (512 : Int)≤(n : Int) := by omega
  have hs2i : (n : Int)≤4096 := by omega
  have h32 : (32 : Int)≤(n : Int) := by omega
  have hH := h.head 32 (by omega)
  have HT := Lib.hid (show Seq w.heap.size (w.alloc (.cells #[.int .u64 0,.int .u32 0,.int .u32 0,.int .u32 0] 44)) (.slice (ao.map fun x => x.add 32) (n - 32) (c - 32)) (b.drop 32) by
    have := (h.below (w' := w.alloc (.cells #[.int .u64 0,.int .u32 0,.int .u32 0,.int .u32 0] 44)) (fun i hi => Below.heap_alloc w _ i hi)).tail (k := 32) (by omega)
    rwa [← hn] at this)
  have HH := Lib.hid (hH.below (w' := w.alloc (.cells #[.int .u64 0,.int .u32 0,.int .u32 0,.int .u32 0] 44)) (fun i hi => Below.heap_alloc w _ i hi))
  have HZ := Lib.hid hz
  have H := Lib.hid h
  have HL := Lib.hid hn
  have HB := Lib.hid hb
  have HM := Lib.hid (rub_yes hm)
  have hwn : IntKind.u64.wrap (n : Int) = (n : Int) := by rw [show IntKind.u64.wrap (n : Int) = (n : Int) % 18446744073709551616 from rfl]; omega
  have HE := Lib.hid (mget_ok (b := b) (by omega) hz hm hf hsum hr)
  rw [← hn] at hf
  have HF := Lib.hid hf
  have HP := Lib.hid (h.pre 28 (by omega))
  clear hz hn hH hm hf
  obtain ⟨Y,hY⟩ : ∃ Y,Y = crcN (b.take 28) := ⟨_,rfl⟩
  have hcl := crcN_lt (l := b.take 28) (hb.take 28)
  rw [← hY] at hsum
  rw [← hY] at hcl
  have HSUM := Lib.hid hsum
  have hwy : IntKind.u64.wrap (Y : Int) = (Y : Int) := by rw [show IntKind.u64.wrap (Y : Int) = (Y : Int) % 18446744073709551616 from rfl]; omega
  have HY := Lib.hid hY
  have g8 := fld8 hb 8
  have g16 := fld4 hb 16
  have g20 := fld4 hb 20
  have g24 := fld4 hb 24
  obtain ⟨M,hMe⟩ : ∃ M,M = mtOf b := ⟨_,rfl⟩
  have HM8 := Lib.hid (show fld b 8 8 = (M.t : Int) by rw [hMe]; simp only [mtOf]; omega)
  have HM16 := Lib.hid (show fld b 16 4 = (M.e : Int) by rw [hMe]; simp only [mtOf]; omega)
  have HM20 := Lib.hid (show fld b 20 4 = (M.m : Int) by rw [hMe]; simp only [mtOf]; omega)
  have HM24 := Lib.hid (show fld b 24 4 = (M.f : Int) by rw [hMe]; simp only [mtOf]; omega)
  have HMO := Lib.hid hMe
  rw [← hMe] at hr
  clear hY h hb hsum hMe g8 g16 g20 g24
  go_enter Tryz.func209,Tryz.ntmps209
  go_wp2_with (first
    | (go_at_call 73; refine (lsize_yes _ _ hs1i hs2i).mono ?_; rintro r w2 ⟨rfl,rfl⟩)
    | (go_at_call 110; refine (noughts_any _ _ _ _ _ _ HT.out).mono ?_; rintro r w2 ⟨rfl,rfl⟩; rw [HZ.out])
    | (go_at_call 152; refine (newR_any _ w.heap.size _ (b.take 32) HH.out (by simp) (by rw [List.length_take]; omega)).mono ?_; rintro r wr ⟨g,rfl,hgg,hrd,hgr⟩; have HG := Lib.hid (GS.start H.out HB.out (by rw [← HL.out]; exact hs2) hrd hgg hgr); clear hrd hgr hgg)
    | (go_at_call 150; have K := HG.out.raw 4 4 rfl (by decide) (by rw [← HL.out]; omega); ((with_reducible refine K.mono ?_); clear K; rintro r w3 ⟨a4,c4,rfl,hsq,hgs⟩; have hcv := seq_string hsq; rw [List.drop_zero] at hcv; have hrub := HM.out; generalize strOfNums (b.take 4) = T at hcv hrub; have HG3 := Lib.hid hgs; clear hgs hsq HG HM))
    | (go_at_call 149; have K := HG3.out.num 4 4 rfl (by decide) (by decide) (by decide) (by rw [← HL.out]; omega); rw [HF.out] at K; ((with_reducible refine K.mono ?_); clear K; rintro r w4 ⟨rfl,hgs⟩; have HG4 := Lib.hid hgs; clear hgs HG3))
    | (go_at_call 149; have K := HG4.out.num 8 8 rfl (by decide) (by decide) (by decide) (by rw [← HL.out]; omega); rw [HM8.out] at K; ((with_reducible refine K.mono ?_); clear K; rintro r w5 ⟨rfl,hgs⟩; have HG5 := Lib.hid hgs; clear hgs HG4))
    | (go_at_call 239; have K := HG5.out.page HB.out (by decide) (by rw [← HL.out]; omega); rw [HM16.out] at K; ((with_reducible refine K.mono ?_); clear K; rintro r w6 ⟨rfl,hgs⟩; have HG6 := Lib.hid hgs; clear hgs HG5))
    | (go_at_call 239; have K := HG6.out.page HB.out (by decide) (by rw [← HL.out]; omega); rw [HM20.out] at K; ((with_reducible refine K.mono ?_); clear K; rintro r w7 ⟨rfl,hgs⟩; have HG7 := Lib.hid hgs; clear hgs HG6))
    | (go_at_call 239; have K := HG7.out.page HB.out (by decide) (by rw [← HL.out]; omega); rw [HM24.out] at K; ((with_reducible refine K.mono ?_); clear K; rintro r w8 ⟨rfl,hgs⟩; have HG8 := Lib.hid hgs; clear hgs HG7)))
  have HS := Lib.hid (HS7.start HG8.out #[.int .u64 (M.t : Int),.int .u32 (M.e : Int),.int .u32 (M.m : Int),.int .u32 (M.f : Int)])
  have HWB := Lib.hid (heap_alloc_new w8 (.cells #[.int .u64 (M.t : Int),.int .u32 (M.e : Int),.int .u32 (M.m : Int),.int .u32 (M.f : Int)] 44))
  have hc28 : (28 : Int)≤(c : Int) := by omega
  clear HG8 hcv hrub
  obtain ⟨q2,hq2⟩ : ∃ q2,q2 = w8.heap.size := ⟨_,rfl⟩
  rw [← hq2] at HS HWB ⊢
  clear hq2
  generalize w8.alloc (.cells #[.int .u64 (M.t : Int),.int .u32 (M.e : Int),.int .u32 (M.m : Int),.int .u32 (M.f : Int)] 44) = W at HS HWB ⊢
  go_region_held3 (fun _ => True) (trivial) (first
    | (go_at_call 149; have K := HS.out.num 4 4 rfl (by decide) (by decide) (by decide) (by rw [← HL.out]; omega); rw [HSUM.out] at K; ((with_reducible refine K.mono ?_); clear K; rintro r w9 ⟨rfl,h9,hg9⟩; have H9 := Lib.hid h9; clear h9 hg9))
    | (go_at_call 78; have K := of1 (w := w9) (t := 32) (q := w9.heap.size) rfl ((H9.out.gs.sq.pre 28 (by rw [← HL.out]; omega)).mono H9.out.gs.rs.bel.size) (HB.out.take 28); rw [← HY.out] at K; ((with_reducible refine K.mono ?_); clear K; rintro r wA ⟨rfl,hg⟩; have HA := Lib.hid (H9.out.far hg); clear hg H9))
    | (go_at_call 149; rw [drew_alloc]; have K := (HS.out.far (World.grownBy_alloc W.drew (.cells #[.slice ao 28 c] 32) none)).num 4 4 rfl (by decide) (by decide) (by decide) (by rw [← HL.out]; omega); rw [HSUM.out] at K; ((with_reducible refine K.mono ?_); clear K; rintro r w9 ⟨rfl,h9,hg9⟩; have HQ := Lib.hid ((hg9.block W.heap.size (lt_of_block (heap_alloc_new W.drew _)) (by intro e; injection e with e; have := HS.out.gq; have := lt_of_block HWB.out; omega)).trans (heap_alloc_new W.drew (.cells #[.slice ao 28 c] 32))); have H9 := Lib.hid h9; clear h9 hg9))
    | (go_at_call 78; have K := ofb1 (W := w9) (t := 32) (q := W.heap.size) HQ.out ((H9.out.gs.sq.pre 28 (by rw [← HL.out]; omega)).mono H9.out.gs.rs.bel.size) (HB.out.take 28); rw [← HY.out] at K; ((with_reducible refine K.mono ?_); clear K; rintro r wA ⟨rfl,hg⟩; have HA := Lib.hid (H9.out.far hg); clear hg H9)))
  all_goals
    obtain ⟨⟨z0,z1,z2,z3⟩,f0,f1,f2,f3⟩ := cells4 HA.out.hm
    go_wp2_with (go_at_call 35; have K := mright_any M wA; rw [show mtC M = #[.int .u64 (M.t : Int),.int .u32 (M.e : Int),.int .u32 (M.m : Int),.int .u32 (M.f : Int)] from rfl] at K; ((with_reducible refine K.mono ?_); clear K; rintro r wB ⟨rfl,hg⟩); rw [hr]; have HB2 := Lib.hid (HA.out.far hg); clear hg z0 z1 z2 z3 f0 f1 f2 f3; obtain ⟨⟨z0,z1,z2,z3⟩,f0,f1,f2,f3⟩ := cells4 HB2.out.gs.hq; obtain ⟨⟨y0,y1,y2,y3⟩,_⟩ := cells4 HB2.out.hm)
    exact bodyPost_ret (results_M rfl _ _ w.heap.size _ _ rfl rfl (store4 HB2.out.gs.hq _ _ _ _) rfl) rfl ⟨by rw [mgetM_yes HE.out,HE.out,← HMO.out]; rfl,gof (below4 HB2.out.gs.rs.bel (Nat.le_refl _) _ _ _ _) none⟩
theorem mget_any (w : World) (ao : Option Addr) (n c : Nat) (b : List Int) (h : Seq w.heap.size w (.slice ao n c) b) (hb : Byt b) :
    Calls Tryz.prog 209 #[.slice ao n c] w fun r w' => GotM b w w' r := by
  have hn : n = b.length := by obtain ⟨_,_,hv,_⟩ := h; injection hv
  by_cases h1 : 512≤n∧n≤4096
  · cases h2 : allZ (b.drop 32)
    · exact mget_b w ao n c b h h1.1 h1.2 h2
    · by_cases h3 : b.take 4 = RUB
      · by_cases h4 : fld b 4 4 = (b.length : Int)
        · by_cases h5 : fld b 28 4 = ((crcN (b.take 28) : Nat) : Int)
          · cases h6 : mright (mtOf b)
            · exact mget_f w ao n c b h hb h1.1 h1.2 h2 h3 h4 h5 h6
            · exact mget_g w ao n c b h hb h1.1 h1.2 h2 h3 h4 h5 h6
          · exact mget_e w ao n c b h hb h1.1 h1.2 h2 h3 h4 h5
        · exact mget_d w ao n c b h hb h1.1 h1.2 h2 h3 h4
      · exact mget_c w ao n c b h hb h1.1 h1.2 h2 h3
  · exact mget_a w ao n c b h h1
end Go.Proofs.YtnnmpaenainogaaGreat

namespace Go.Proofs.YtnnmpaenainogaaGreat
open Go.RowKit
theorem mget_as {W : World} {ao : Option Addr} {n c : Nat} {b : List Int} (h : Seq W.heap.size W (.slice ao n c) b) (hb : Byt b) {X : Mt} (hX : X = mgetM b) {E : Int} (hE : E = mgetE b) :
    Calls Tryz.prog 209 #[.slice ao n c] W fun r w' => r = .returned (.tuple #[.agg #[.int .u64 (X.t : Int),.int .u32 (X.e : Int),.int .u32 (X.m : Int),.int .u32 (X.f : Int)],.int .i64 E])∧W.grownBy w' none := by
  subst hX hE
  exact mget_any W ao n c b h hb
theorem other4 {W : World} {q i : Nat} {x : Option Obj} (h : W.heap[i]? = x) (hi : i≠q) (a b c d : Value) : ((((W.setCell ⟨q,0,none⟩ a).setCell ⟨q,1,none⟩ b).setCell ⟨q,2,none⟩ c).setCell ⟨q,3,none⟩ d).heap[i]? = x :=
  ((Below.heap_setCell _ _ _ _ (by simpa using hi)).trans ((Below.heap_setCell _ _ _ _ (by simpa using hi)).trans ((Below.heap_setCell _ _ _ _ (by simpa using hi)).trans (Below.heap_setCell _ _ _ _ (by simpa using hi))))).trans h
structure CS7 (q : Nat) (w0 w : World) (va vb : Value) (a b : List Int) (N : Mt) : Prop where
  hq : w.heap[q]? = some (.cells zC 44 (0,0))
  hn : w.heap[q + 1]? = some (.cells (mtC N) 44 (0,0))
  bel : Below w0.heap.size w0 w
  q0 : w0.heap.size≤q
  sa : Seq w0.heap.size w va a
  sb : Seq w0.heap.size w vb b
theorem CS7.far {q : Nat} {w0 w w' : World} {va vb : Value} {a b : List Int} {N : Mt} (h : CS7 q w0 w va vb a b N) (k : w.grownBy w' none) : CS7 q w0 w' va vb a b N :=
  ⟨(k.block q (lt_of_block h.hq) (by simp)).trans h.hq,(k.block (q + 1) (lt_of_block h.hn) (by simp)).trans h.hn,h.bel.trans ((gbelow k).mono h.bel.size),h.q0,
    h.sa.below (fun i hi => k.block i (by have := h.bel.size; omega) (by simp)),h.sb.below (fun i hi => k.block i (by have := h.bel.size; omega) (by simp))⟩
theorem CS7.put {q : Nat} {w0 w : World} {va vb : Value} {a b : List Int} {N : Mt} (h : CS7 q w0 w va vb a b N) (X : Mt) :
    CS7 q w0 ((((w.setCell ⟨q + 1,0,none⟩ (.int .u64 (X.t : Int))).setCell ⟨q + 1,1,none⟩ (.int .u32 (X.e : Int))).setCell ⟨q + 1,2,none⟩ (.int .u32 (X.m : Int))).setCell ⟨q + 1,3,none⟩ (.int .u32 (X.f : Int))) va vb a b X := by
  have hg := grown4 w (q + 1) (.int .u64 (X.t : Int)) (.int .u32 (X.e : Int)) (.int .u32 (X.m : Int)) (.int .u32 (X.f : Int))
  have kk : ∀ i,i < w0.heap.size→_ := fun i hi => hg.block i (by have := h.bel.size; omega) (by intro e; injection e with e; have := h.q0; omega)
  exact ⟨other4 h.hq (by omega) _ _ _ _,store4 h.hn _ _ _ _,below4 h.bel (by have := h.q0; omega) _ _ _ _,h.q0,h.sa.below kk,h.sb.below kk⟩
theorem CS7.start {w : World} {va vb : Value} {a b : List Int} (ha : Seq w.heap.size w va a) (hb : Seq w.heap.size w vb b) :
    CS7 w.heap.size w ((w.alloc (.cells zC 44)).alloc (.cells zC 44)) va vb a b mt0 := by
  have hg := two_grown w (.cells zC 44) (.cells zC 44)
  exact ⟨two_lit0 _ _ _,two_lit1 _ _ _,gbelow hg,Nat.le_refl _,ha.below (fun i hi => hg.block i hi (by simp)),hb.below (fun i hi => hg.block i hi (by simp))⟩
def nextM (k : Nat) (l : List Int) (N : Mt) : Mt := if isOf k l = true∧N.t < (mgetM l).t then mgetM l else N
def pkM (a b : List Int) : Nat→Mt
  | 0 => mt0
  | 1 => nextM 0 a mt0
  | _ => nextM 1 b (nextM 0 a mt0)
theorem nextM_first (a : List Int) : nextM 0 a mt0 = firstM a := by
  unfold nextM firstM
  by_cases h : isOf 0 a = true
  · rw [if_pos ⟨h,(isOf_t h).2.2⟩,if_pos h]
  · rw [if_neg (fun k => h k.1),if_neg h]
theorem pkM_2 (a b : List Int) : pkM a b 2 = chM a b := by
  show nextM 1 b (nextM 0 a mt0) = _
  rw [nextM_first]; rfl
theorem next_e {k : Nat} {l : List Int} {N : Mt} (h : mgetE l≠0) : nextM k l N = N := by
  unfold nextM isOf; rw [if_neg (by simp [h])]
theorem next_s {k : Nat} {l : List Int} {N : Mt} (h : (mgetM l).t % 2≠k) : nextM k l N = N := by
  unfold nextM isOf; rw [if_neg (by simp [h])]
theorem next_t {k : Nat} {l : List Int} {N : Mt} (h : ¬ N.t < (mgetM l).t) : nextM k l N = N := by
  unfold nextM; rw [if_neg (fun k => h k.2)]
theorem next_y {k : Nat} {l : List Int} {N : Mt} (h1 : mgetE l = 0) (h2 : (mgetM l).t % 2 = k) (h3 : N.t < (mgetM l).t) : nextM k l N = mgetM l := by
  unfold nextM isOf; rw [if_pos ⟨by simp [h1,h2],h3⟩]
def ChoseM (a b : List Int) (w w' : World) (r : Ending) : Prop := r = .returned (.tuple #[.agg (mtC (chM a b)),.int .i64 (chE a b)])∧w.grownBy w' none
set_option maxHeartbeats 4000000 in
theorem choose_any (w : World) (a0 : Option Addr) (n0 c0 : Nat) (a : List Int) (a1 : Option Addr) (n1 c1 : Nat) (b : List Int) (ha : Seq w.heap.size w (.slice a0 n0 c0) a) (hb : Seq w.heap.size w (.slice a1 n1 c1) b) (hba : Byt a) (hbb : Byt b) :
    Calls Tryz.prog 165 #[.slice a0 n0 c0,.slice a1 n1 c1] w fun r w' => ChoseM a b w w' r := by
  have i0 : ∀ w : World,(Instr.index 212 (.agg #[.slice a0 n0 c0,.slice a1 n1 c1]) (.int .i64 0)).run Tryz.prog w = .ok (.slice a0 n0 c0) w := fun _ => by kernel_rfl
  have i1 : ∀ w : World,(Instr.index 212 (.agg #[.slice a0 n0 c0,.slice a1 n1 c1]) (.int .i64 1)).run Tryz.prog w = .ok (.slice a1 n1 c1) w := fun _ => by kernel_rfl
  have HS := Lib.hid (CS7.start ha hb)
  have HBA := Lib.hid hba
  have HBB := Lib.hid hbb
  clear ha hb hba hbb
  go_enter Tryz.func165,Tryz.ntmps165
  go_wp2
  go_loopw [14] (fun i wr => ∃ k : Nat,k≤2∧i = .int .i64 k∧Hid (CS7 w.heap.size w wr (.slice a0 n0 c0) (.slice a1 n1 c1) a b (pkM a b k))) (fun i _ => 2 - (intOf i).toNat)
  case atStart => exact ⟨0,by omega,rfl,HS⟩
  case round =>
    obtain ⟨k,hk,rfl,HR⟩ := hrel
    clear HS
    by_cases hlt : k < 2
    · rcases (by omega : k = 0∨k = 1) with rfl | rfl
      · obtain ⟨X,hX⟩ : ∃ X,X = mgetM a := ⟨_,rfl⟩
        obtain ⟨E,hE⟩ : ∃ E,E = mgetE a := ⟨_,rfl⟩
        obtain ⟨N,hN⟩ : ∃ N,N = pkM a b 0 := ⟨_,rfl⟩
        rw [← hN] at HR
        have HXo := Lib.hid (show MtOk X by rw [hX]; exact mgetM_ok HBA.out)
        have HX := Lib.hid hX
        have HE := Lib.hid hE
        have HN := Lib.hid (show pkM a b 1 = nextM 0 a N by rw [hN]; rfl)
        clear hN hX hE
        by_cases he : E = 0
        · subst he
          by_cases hs : X.t % 2 = 0
          · by_cases ht : N.t < X.t
            · have hti : (N.t : Int) < (X.t : Int) := by omega
              have htd : decide ((N.t : Int) < (X.t : Int)) = true := by simpa using ht
              have HNX := Lib.hid (show pkM a b 1 = X by rw [HN.out,next_y HE.out.symm (by rw [← HX.out]; exact hs) (by rw [← HX.out]; exact ht),HX.out])
              go_wp2_with (first
            | (go_at_call 209; have K := mget_as (HR.out.sa.mono HR.out.bel.size) HBA.out HX.out HE.out; ((with_reducible refine K.mono ?_); clear K; rintro r w1 ⟨rfl,hg⟩); have HC := Lib.hid ((HR.out.far hg).far (World.grownBy_alloc w1 (.cells #[.int .u64 (X.t : Int),.int .u32 (X.e : Int),.int .u32 (X.m : Int),.int .u32 (X.f : Int)] 44) none)); obtain ⟨⟨y0,y1,y2,y3⟩,f0,f1,f2,f3⟩ := cells4 HC.out.hn; clear hg)
            | (go_at_call 32; have K := mslot_any X.t HXo.out.t (w1.alloc (.cells #[.int .u64 (X.t : Int),.int .u32 (X.e : Int),.int .u32 (X.m : Int),.int .u32 (X.f : Int)] 44)); rw [hs] at K; ((with_reducible refine K.mono ?_); clear K; rintro r w2 ⟨rfl,rfl⟩)))
              go_roundw
              case rel => exact ⟨1,by omega,by go_num,Lib.hid (by rw [HNX.out]; exact HC.out.put X)⟩
              case measure => simp [intOf]
            · have hti : ¬ (N.t : Int) < (X.t : Int) := by omega
              have htd : decide ((N.t : Int) < (X.t : Int)) = false := by simpa using ht
              have HNX := Lib.hid (show pkM a b 1 = N by rw [HN.out,next_t (by rw [← HX.out]; exact ht)])
              go_wp2_with (first
            | (go_at_call 209; have K := mget_as (HR.out.sa.mono HR.out.bel.size) HBA.out HX.out HE.out; ((with_reducible refine K.mono ?_); clear K; rintro r w1 ⟨rfl,hg⟩); have HC := Lib.hid ((HR.out.far hg).far (World.grownBy_alloc w1 (.cells #[.int .u64 (X.t : Int),.int .u32 (X.e : Int),.int .u32 (X.m : Int),.int .u32 (X.f : Int)] 44) none)); obtain ⟨⟨y0,y1,y2,y3⟩,f0,f1,f2,f3⟩ := cells4 HC.out.hn; clear hg)
            | (go_at_call 32; have K := mslot_any X.t HXo.out.t (w1.alloc (.cells #[.int .u64 (X.t : Int),.int .u32 (X.e : Int),.int .u32 (X.m : Int),.int .u32 (X.f : Int)] 44)); rw [hs] at K; ((with_reducible refine K.mono ?_); clear K; rintro r w2 ⟨rfl,rfl⟩)))
              go_roundw
              case rel => exact ⟨1,by omega,by go_num,Lib.hid (by rw [HNX.out]; exact HC.out)⟩
              case measure => simp [intOf]
          · have hs2 : X.t % 2 = 1 := by omega
            have HNX := Lib.hid (show pkM a b 1 = N by rw [HN.out,next_s (by rw [← HX.out]; exact hs)])
            go_wp2_with (first
            | (go_at_call 209; have K := mget_as (HR.out.sa.mono HR.out.bel.size) HBA.out HX.out HE.out; ((with_reducible refine K.mono ?_); clear K; rintro r w1 ⟨rfl,hg⟩); have HC := Lib.hid ((HR.out.far hg).far (World.grownBy_alloc w1 (.cells #[.int .u64 (X.t : Int),.int .u32 (X.e : Int),.int .u32 (X.m : Int),.int .u32 (X.f : Int)] 44) none)); obtain ⟨⟨y0,y1,y2,y3⟩,f0,f1,f2,f3⟩ := cells4 HC.out.hn; clear hg)
            | (go_at_call 32; have K := mslot_any X.t HXo.out.t (w1.alloc (.cells #[.int .u64 (X.t : Int),.int .u32 (X.e : Int),.int .u32 (X.m : Int),.int .u32 (X.f : Int)] 44)); rw [hs2] at K; ((with_reducible refine K.mono ?_); clear K; rintro r w2 ⟨rfl,rfl⟩)))
            go_roundw
            case rel => exact ⟨1,by omega,by go_num,Lib.hid (by rw [HNX.out]; exact HC.out)⟩
            case measure => simp [intOf]
        · have hed : (E == 0) = false := by simpa using he
          have HNX := Lib.hid (show pkM a b 1 = N by rw [HN.out,next_e (by rw [← HE.out]; exact he)])
          go_wp2_with (first
            | (go_at_call 209; have K := mget_as (HR.out.sa.mono HR.out.bel.size) HBA.out HX.out HE.out; ((with_reducible refine K.mono ?_); clear K; rintro r w1 ⟨rfl,hg⟩); have HC := Lib.hid ((HR.out.far hg).far (World.grownBy_alloc w1 (.cells #[.int .u64 (X.t : Int),.int .u32 (X.e : Int),.int .u32 (X.m : Int),.int .u32 (X.f : Int)] 44) none)); obtain ⟨⟨y0,y1,y2,y3⟩,f0,f1,f2,f3⟩ := cells4 HC.out.hn; clear hg)
            | (go_at_call 32; have K := mslot_any X.t HXo.out.t (w1.alloc (.cells #[.int .u64 (X.t : Int),.int .u32 (X.e : Int),.int .u32 (X.m : Int),.int .u32 (X.f : Int)] 44)); ((with_reducible refine K.mono ?_); clear K; rintro r w2 ⟨rfl,rfl⟩)))
          go_roundw
          case rel => exact ⟨1,by omega,by go_num,Lib.hid (by rw [HNX.out]; exact HC.out)⟩
          case measure => simp [intOf]
      · obtain ⟨X,hX⟩ : ∃ X,X = mgetM b := ⟨_,rfl⟩
        obtain ⟨E,hE⟩ : ∃ E,E = mgetE b := ⟨_,rfl⟩
        obtain ⟨N,hN⟩ : ∃ N,N = pkM a b 1 := ⟨_,rfl⟩
        rw [← hN] at HR
        have HXo := Lib.hid (show MtOk X by rw [hX]; exact mgetM_ok HBB.out)
        have HX := Lib.hid hX
        have HE := Lib.hid hE
        have HN := Lib.hid (show pkM a b 2 = nextM 1 b N by rw [hN]; rfl)
        clear hN hX hE
        by_cases he : E = 0
        · subst he
          by_cases hs : X.t % 2 = 1
          · by_cases ht : N.t < X.t
            · have hti : (N.t : Int) < (X.t : Int) := by omega
              have htd : decide ((N.t : Int) < (X.t : Int)) = true := by simpa using ht
              have HNX := Lib.hid (show pkM a b 2 = X by rw [HN.out,next_y HE.out.symm (by rw [← HX.out]; exact hs) (by rw [← HX.out]; exact ht),HX.out])
              go_wp2_with (first
            | (go_at_call 209; have K := mget_as (HR.out.sb.mono HR.out.bel.size) HBB.out HX.out HE.out; ((with_reducible refine K.mono ?_); clear K; rintro r w1 ⟨rfl,hg⟩); have HC := Lib.hid ((HR.out.far hg).far (World.grownBy_alloc w1 (.cells #[.int .u64 (X.t : Int),.int .u32 (X.e : Int),.int .u32 (X.m : Int),.int .u32 (X.f : Int)] 44) none)); obtain ⟨⟨y0,y1,y2,y3⟩,f0,f1,f2,f3⟩ := cells4 HC.out.hn; clear hg)
            | (go_at_call 32; have K := mslot_any X.t HXo.out.t (w1.alloc (.cells #[.int .u64 (X.t : Int),.int .u32 (X.e : Int),.int .u32 (X.m : Int),.int .u32 (X.f : Int)] 44)); rw [hs] at K; ((with_reducible refine K.mono ?_); clear K; rintro r w2 ⟨rfl,rfl⟩)))
              go_roundw
              case rel => exact ⟨2,by omega,by go_num,Lib.hid (by rw [HNX.out]; exact HC.out.put X)⟩
              case measure => simp [intOf]
            · have hti : ¬ (N.t : Int) < (X.t : Int) := by omega
              have htd : decide ((N.t : Int) < (X.t : Int)) = false := by simpa using ht
              have HNX := Lib.hid (show pkM a b 2 = N by rw [HN.out,next_t (by rw [← HX.out]; exact ht)])
              go_wp2_with (first
            | (go_at_call 209; have K := mget_as (HR.out.sb.mono HR.out.bel.size) HBB.out HX.out HE.out; ((with_reducible refine K.mono ?_); clear K; rintro r w1 ⟨rfl,hg⟩); have HC := Lib.hid ((HR.out.far hg).far (World.grownBy_alloc w1 (.cells #[.int .u64 (X.t : Int),.int .u32 (X.e : Int),.int .u32 (X.m : Int),.int .u32 (X.f : Int)] 44) none)); obtain ⟨⟨y0,y1,y2,y3⟩,f0,f1,f2,f3⟩ := cells4 HC.out.hn; clear hg)
            | (go_at_call 32; have K := mslot_any X.t HXo.out.t (w1.alloc (.cells #[.int .u64 (X.t : Int),.int .u32 (X.e : Int),.int .u32 (X.m : Int),.int .u32 (X.f : Int)] 44)); rw [hs] at K; ((with_reducible refine K.mono ?_); clear K; rintro r w2 ⟨rfl,rfl⟩)))
              go_roundw
              case rel => exact ⟨2,by omega,by go_num,Lib.hid (by rw [HNX.out]; exact HC.out)⟩
              case measure => simp [intOf]
          · have hs2 : X.t % 2 = 0 := by omega
            have HNX := Lib.hid (show pkM a b 2 = N by rw [HN.out,next_s (by rw [← HX.out]; exact hs)])
            go_wp2_with (first
            | (go_at_call 209; have K := mget_as (HR.out.sb.mono HR.out.bel.size) HBB.out HX.out HE.out; ((with_reducible refine K.mono ?_); clear K; rintro r w1 ⟨rfl,hg⟩); have HC := Lib.hid ((HR.out.far hg).far (World.grownBy_alloc w1 (.cells #[.int .u64 (X.t : Int),.int .u32 (X.e : Int),.int .u32 (X.m : Int),.int .u32 (X.f : Int)] 44) none)); obtain ⟨⟨y0,y1,y2,y3⟩,f0,f1,f2,f3⟩ := cells4 HC.out.hn; clear hg)
            | (go_at_call 32; have K := mslot_any X.t HXo.out.t (w1.alloc (.cells #[.int .u64 (X.t : Int),.int .u32 (X.e : Int),.int .u32 (X.m : Int),.int .u32 (X.f : Int)] 44)); rw [hs2] at K; ((with_reducible refine K.mono ?_); clear K; rintro r w2 ⟨rfl,rfl⟩)))
            go_roundw
            case rel => exact ⟨2,by omega,by go_num,Lib.hid (by rw [HNX.out]; exact HC.out)⟩
            case measure => simp [intOf]
        · have hed : (E == 0) = false := by simpa using he
          have HNX := Lib.hid (show pkM a b 2 = N by rw [HN.out,next_e (by rw [← HE.out]; exact he)])
          go_wp2_with (first
            | (go_at_call 209; have K := mget_as (HR.out.sb.mono HR.out.bel.size) HBB.out HX.out HE.out; ((with_reducible refine K.mono ?_); clear K; rintro r w1 ⟨rfl,hg⟩); have HC := Lib.hid ((HR.out.far hg).far (World.grownBy_alloc w1 (.cells #[.int .u64 (X.t : Int),.int .u32 (X.e : Int),.int .u32 (X.m : Int),.int .u32 (X.f : Int)] 44) none)); obtain ⟨⟨y0,y1,y2,y3⟩,f0,f1,f2,f3⟩ := cells4 HC.out.hn; clear hg)
            | (go_at_call 32; have K := mslot_any X.t HXo.out.t (w1.alloc (.cells #[.int .u64 (X.t : Int),.int .u32 (X.e : Int),.int .u32 (X.m : Int),.int .u32 (X.f : Int)] 44)); ((with_reducible refine K.mono ?_); clear K; rintro r w2 ⟨rfl,rfl⟩)))
          go_roundw
          case rel => exact ⟨2,by omega,by go_num,Lib.hid (by rw [HNX.out]; exact HC.out)⟩
          case measure => simp [intOf]
    · obtain rfl : k = 2 := by omega
      rw [pkM_2] at HR
      obtain ⟨X,hX⟩ : ∃ X,X = chM a b := ⟨_,rfl⟩
      rw [← hX] at HR
      obtain ⟨⟨x0,x1,x2,x3⟩,_⟩ := cells4 HR.out.hq
      obtain ⟨⟨_,_,_,_⟩,e0,e1,e2,e3⟩ := cells4 HR.out.hq
      obtain ⟨⟨y0,y1,y2,y3⟩,_⟩ := cells4 HR.out.hn
      by_cases h1 : X.t < 1
      · have hd : decide ((X.t : Int) < 1) = true := by simp; omega
        have hXz : X = mt0 := by rw [hX]; exact (chM_0 (by rw [← hX]; exact h1)).1
        have HE := Lib.hid (show chE a b = 24 by unfold chE; rw [← hX,if_pos h1])
        have HX := Lib.hid (show chM a b = mt0 by rw [← hX,hXz])
        have h1i : (X.t : Int) < 1 := by omega
        clear hX hXz
        go_wp2
        exact bodyPost_ret (results_M rfl _ _ w.heap.size _ _ rfl rfl (store4 HR.out.hq _ _ _ _) rfl) rfl ⟨by rw [HE.out,HX.out]; rfl,gof (below4 HR.out.bel (Nat.le_refl _) _ _ _ _) none⟩
      · have hd : decide ((X.t : Int) < 1) = false := by simp; omega
        have HE := Lib.hid (show chE a b = 0 by unfold chE; rw [← hX,if_neg h1])
        have HX := Lib.hid hX
        have h1i : ¬ (X.t : Int) < 1 := by omega
        clear hX
        go_wp2
        exact bodyPost_ret (results_M rfl _ _ w.heap.size _ _ rfl rfl (store4 HR.out.hq _ _ _ _) rfl) rfl ⟨by rw [HE.out,← HX.out]; rfl,gof (below4 HR.out.bel (Nat.le_refl _) _ _ _ _) none⟩
end Go.Proofs.YtnnmpaenainogaaGreat
