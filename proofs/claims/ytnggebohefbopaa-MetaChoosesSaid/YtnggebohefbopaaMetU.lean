/-
  Layer 7: the document's Choose. Own work.
-/
import Derived.Test.YtnggebohefbopaaMetT
import Derived.Test.YtnggebohefbopaaMetF
namespace Go.Proofs.Ytnggebohefbopaa
open Go.RowKit

theorem kget_as {W : World} {b : List Int} (hb : Byt b) (hl : b.length ≤ 140737488355328) {X : Mt} (hX : X = mgetM b) {E : Int} (hE : E = mgetE b) :
    Calls Try.prog 19 #[.string (strOfNums b)] W fun r w' => r = .returned (.tuple #[.agg #[.int .u64 (X.t : Int), .int .u32 (X.e : Int), .int .u32 (X.m : Int), .int .u32 (X.f : Int)], .int .i64 E]) ∧ W.grownBy w' none := by
  subst hX hE
  exact kget_any W b hb hl

theorem first_yes {a : List Int} (h : isOf 0 a = true) : firstM a = mgetM a := by unfold firstM; rw [if_pos h]
theorem first_no {a : List Int} (h : isOf 0 a = false) : firstM a = mt0 := by unfold firstM; rw [if_neg (by simp [h])]
theorem ch_a {a b : List Int} (h1 : isOf 0 a = true) (h2 : isOf 1 b = false ∨ (mgetM b).t < (mgetM a).t) : chM a b = mgetM a ∧ chE a b = 0 := by
  have e : chM a b = mgetM a := by
    unfold chM
    rw [if_neg, first_yes h1]
    rintro ⟨k1, k2⟩
    rw [first_yes h1] at k2
    rcases h2 with h2 | h2
    · rw [h2] at k1; cases k1
    · omega
  refine ⟨e, ?_⟩
  unfold chE
  rw [e, if_neg (by have := (isOf_t h1).2.2; omega)]
theorem ch_b {a b : List Int} (h2 : isOf 1 b = true) (h1 : isOf 0 a = false ∨ (mgetM a).t < (mgetM b).t) : chM a b = mgetM b ∧ chE a b = 0 := by
  have e : chM a b = mgetM b := by
    unfold chM
    rw [if_pos]
    refine ⟨h2, ?_⟩
    cases h : isOf 0 a
    · rw [first_no h]; exact (isOf_t h2).2.2
    · rw [first_yes h]
      rcases h1 with h1 | h1
      · rw [h] at h1; cases h1
      · exact h1
  refine ⟨e, ?_⟩
  unfold chE
  rw [e, if_neg (by have := (isOf_t h2).2.2; omega)]
theorem ch_no {a b : List Int} (h1 : isOf 0 a = false) (h2 : isOf 1 b = false) : chM a b = mt0 ∧ chE a b = 24 := by
  have e : chM a b = mt0 := by
    unfold chM
    rw [if_neg (by simp [h2]), first_no h1]
  exact ⟨e, by unfold chE; rw [e, if_pos (by decide)]⟩
theorem is_no {s : Nat} {l : List Int} (h : mgetE l ≠ 0 ∨ (mgetM l).t % 2 ≠ s) : isOf s l = false := by
  unfold isOf
  rcases h with h | h <;> simp [h]
theorem is_yes {s : Nat} {l : List Int} (h1 : mgetE l = 0) (h2 : (mgetM l).t % 2 = s) : isOf s l = true := by
  unfold isOf; simp [h1, h2]

set_option maxHeartbeats 2000000 in
theorem kch_nn (w : World) (a b : List Int) (ha : Byt a) (hb : Byt b) (hla : a.length ≤ 140737488355328) (hlb : b.length ≤ 140737488355328) (he : mgetE a ≠ 0) (hf : mgetE b ≠ 0) :
    Calls Try.prog 22 #[.string (strOfNums a), .string (strOfNums b)] w fun r w' => ChoseM a b w w' r := by
  have HC := Lib.hid (ch_no (a := a) (b := b) (is_no (.inl he)) (is_no (.inl hf)))
  obtain ⟨X, hX⟩ : ∃ X, X = mgetM a := ⟨_, rfl⟩
  obtain ⟨E, hE⟩ : ∃ E, E = mgetE a := ⟨_, rfl⟩
  obtain ⟨Y, hY⟩ : ∃ X, X = mgetM b := ⟨_, rfl⟩
  obtain ⟨F, hF⟩ : ∃ E, E = mgetE b := ⟨_, rfl⟩
  obtain ⟨SA, hSA⟩ : ∃ S, S = strOfNums a := ⟨_, rfl⟩
  obtain ⟨SB, hSB⟩ : ∃ S, S = strOfNums b := ⟨_, rfl⟩
  rw [← hE] at he
  rw [← hF] at hf
  rw [← hSA, ← hSB]
  have hed : (E == 0) = false := by simpa using he
  have hfd : (F == 0) = false := by simpa using hf
  have HX := Lib.hid hX
  have HE := Lib.hid hE
  have HY := Lib.hid hY
  have HF := Lib.hid hF
  have HSA := Lib.hid hSA
  have HSB := Lib.hid hSB
  have HBA := Lib.hid ha
  have HBB := Lib.hid hb
  have HLA := Lib.hid hla
  have HLB := Lib.hid hlb
  clear hX hE hY hF hSA hSB ha hb hla hlb
  go_enter Try.func22, Try.ntmps22
  go_wp2_with (first
    | (go_at_call 19; have K := kget_as (W := w.alloc (.cells #[.int .u64 0, .int .u32 0, .int .u32 0, .int .u32 0] 30)) HBA.out HLA.out HX.out HE.out; rw [← HSA.out] at K; ((with_reducible refine K.mono ?_); clear K; rintro r w1 ⟨rfl, hg⟩); have H1 := Lib.hid ((KS7.start w).far (gtrans hg (World.grownBy_alloc w1 (.cells #[.int .u64 (X.t : Int), .int .u32 (X.e : Int), .int .u32 (X.m : Int), .int .u32 (X.f : Int)] 30) none))); have HX1 := Lib.hid (heap_alloc_new w1 (.cells #[.int .u64 (X.t : Int), .int .u32 (X.e : Int), .int .u32 (X.m : Int), .int .u32 (X.f : Int)] 30)); clear hg)
    | (go_at_call 19; have K := kget_as (W := w1.alloc (.cells #[.int .u64 (X.t : Int), .int .u32 (X.e : Int), .int .u32 (X.m : Int), .int .u32 (X.f : Int)] 30)) HBB.out HLB.out HY.out HF.out; rw [← HSB.out] at K; ((with_reducible refine K.mono ?_); clear K; rintro r w2 ⟨rfl, hg⟩); have hg2 := gtrans hg (World.grownBy_alloc w2 (.cells #[.int .u64 (Y.t : Int), .int .u32 (Y.e : Int), .int .u32 (Y.m : Int), .int .u32 (Y.f : Int)] 30) none); have H2 := Lib.hid (H1.out.far hg2); have HX2 := Lib.hid ((hg2.block _ (lt_of_block HX1.out) (by simp)).trans HX1.out); have HY2 := Lib.hid (heap_alloc_new w2 (.cells #[.int .u64 (Y.t : Int), .int .u32 (Y.e : Int), .int .u32 (Y.m : Int), .int .u32 (Y.f : Int)] 30)); obtain ⟨⟨z0, z1, z2, z3⟩, f0, f1, f2, f3⟩ := cells4 H2.out.hq; obtain ⟨⟨x0, x1, x2, x3⟩, _⟩ := cells4 HX2.out; obtain ⟨⟨y0, y1, y2, y3⟩, _⟩ := cells4 HY2.out; clear hg hg2 HX1 H1))
  exact bodyPost_ret (results_K rfl _ _ w.heap.size _ _ rfl rfl (store4 H2.out.hq _ _ _ _) rfl) rfl ⟨by rw [HC.out.1, HC.out.2]; rfl, H2.out.fin _ _ _ _⟩

set_option maxHeartbeats 2000000 in
theorem kch_ne (w : World) (a b : List Int) (ha : Byt a) (hb : Byt b) (hla : a.length ≤ 140737488355328) (hlb : b.length ≤ 140737488355328) (he : mgetE a ≠ 0) (hf : mgetE b = 0) (ht : (mgetM b).t % 2 = 0) :
    Calls Try.prog 22 #[.string (strOfNums a), .string (strOfNums b)] w fun r w' => ChoseM a b w w' r := by
  have HC := Lib.hid (ch_no (a := a) (b := b) (is_no (.inl he)) (is_no (.inr (by omega))))
  obtain ⟨X, hX⟩ : ∃ X, X = mgetM a := ⟨_, rfl⟩
  obtain ⟨E, hE⟩ : ∃ E, E = mgetE a := ⟨_, rfl⟩
  obtain ⟨Y, hY⟩ : ∃ X, X = mgetM b := ⟨_, rfl⟩
  obtain ⟨F, hF⟩ : ∃ E, E = mgetE b := ⟨_, rfl⟩
  obtain ⟨SA, hSA⟩ : ∃ S, S = strOfNums a := ⟨_, rfl⟩
  obtain ⟨SB, hSB⟩ : ∃ S, S = strOfNums b := ⟨_, rfl⟩
  rw [← hE] at he
  rw [← hF] at hf
  rw [← hSA, ← hSB]
  have hed : (E == 0) = false := by simpa using he
  subst hf
  rw [← hY] at ht
  have hti : (Y.t : Int) % 2 = 0 := by omega
  have HX := Lib.hid hX
  have HE := Lib.hid hE
  have HY := Lib.hid hY
  have HF := Lib.hid hF
  have HSA := Lib.hid hSA
  have HSB := Lib.hid hSB
  have HBA := Lib.hid ha
  have HBB := Lib.hid hb
  have HLA := Lib.hid hla
  have HLB := Lib.hid hlb
  clear hX hE hY hF hSA hSB ha hb hla hlb
  go_enter Try.func22, Try.ntmps22
  go_wp2_with (first
    | (go_at_call 19; have K := kget_as (W := w.alloc (.cells #[.int .u64 0, .int .u32 0, .int .u32 0, .int .u32 0] 30)) HBA.out HLA.out HX.out HE.out; rw [← HSA.out] at K; ((with_reducible refine K.mono ?_); clear K; rintro r w1 ⟨rfl, hg⟩); have H1 := Lib.hid ((KS7.start w).far (gtrans hg (World.grownBy_alloc w1 (.cells #[.int .u64 (X.t : Int), .int .u32 (X.e : Int), .int .u32 (X.m : Int), .int .u32 (X.f : Int)] 30) none))); have HX1 := Lib.hid (heap_alloc_new w1 (.cells #[.int .u64 (X.t : Int), .int .u32 (X.e : Int), .int .u32 (X.m : Int), .int .u32 (X.f : Int)] 30)); clear hg)
    | (go_at_call 19; have K := kget_as (W := w1.alloc (.cells #[.int .u64 (X.t : Int), .int .u32 (X.e : Int), .int .u32 (X.m : Int), .int .u32 (X.f : Int)] 30)) HBB.out HLB.out HY.out HF.out; rw [← HSB.out] at K; ((with_reducible refine K.mono ?_); clear K; rintro r w2 ⟨rfl, hg⟩); have hg2 := gtrans hg (World.grownBy_alloc w2 (.cells #[.int .u64 (Y.t : Int), .int .u32 (Y.e : Int), .int .u32 (Y.m : Int), .int .u32 (Y.f : Int)] 30) none); have H2 := Lib.hid (H1.out.far hg2); have HX2 := Lib.hid ((hg2.block _ (lt_of_block HX1.out) (by simp)).trans HX1.out); have HY2 := Lib.hid (heap_alloc_new w2 (.cells #[.int .u64 (Y.t : Int), .int .u32 (Y.e : Int), .int .u32 (Y.m : Int), .int .u32 (Y.f : Int)] 30)); obtain ⟨⟨z0, z1, z2, z3⟩, f0, f1, f2, f3⟩ := cells4 H2.out.hq; obtain ⟨⟨x0, x1, x2, x3⟩, _⟩ := cells4 HX2.out; obtain ⟨⟨y0, y1, y2, y3⟩, _⟩ := cells4 HY2.out; clear hg hg2 HX1 H1))
  exact bodyPost_ret (results_K rfl _ _ w.heap.size _ _ rfl rfl (store4 H2.out.hq _ _ _ _) rfl) rfl ⟨by rw [HC.out.1, HC.out.2]; rfl, H2.out.fin _ _ _ _⟩

set_option maxHeartbeats 2000000 in
theorem kch_nt (w : World) (a b : List Int) (ha : Byt a) (hb : Byt b) (hla : a.length ≤ 140737488355328) (hlb : b.length ≤ 140737488355328) (he : mgetE a ≠ 0) (hf : mgetE b = 0) (ht : (mgetM b).t % 2 = 1) :
    Calls Try.prog 22 #[.string (strOfNums a), .string (strOfNums b)] w fun r w' => ChoseM a b w w' r := by
  have HC := Lib.hid (ch_b (a := a) (b := b) (is_yes hf ht) (.inl (is_no (.inl he))))
  obtain ⟨X, hX⟩ : ∃ X, X = mgetM a := ⟨_, rfl⟩
  obtain ⟨E, hE⟩ : ∃ E, E = mgetE a := ⟨_, rfl⟩
  obtain ⟨Y, hY⟩ : ∃ X, X = mgetM b := ⟨_, rfl⟩
  obtain ⟨F, hF⟩ : ∃ E, E = mgetE b := ⟨_, rfl⟩
  obtain ⟨SA, hSA⟩ : ∃ S, S = strOfNums a := ⟨_, rfl⟩
  obtain ⟨SB, hSB⟩ : ∃ S, S = strOfNums b := ⟨_, rfl⟩
  rw [← hE] at he
  rw [← hF] at hf
  rw [← hSA, ← hSB]
  have hed : (E == 0) = false := by simpa using he
  subst hf
  rw [← hY] at ht
  have hti : (Y.t : Int) % 2 = 1 := by omega
  have HX := Lib.hid hX
  have HE := Lib.hid hE
  have HY := Lib.hid hY
  have HF := Lib.hid hF
  have HSA := Lib.hid hSA
  have HSB := Lib.hid hSB
  have HBA := Lib.hid ha
  have HBB := Lib.hid hb
  have HLA := Lib.hid hla
  have HLB := Lib.hid hlb
  clear hX hE hY hF hSA hSB ha hb hla hlb
  go_enter Try.func22, Try.ntmps22
  go_wp2_with (first
    | (go_at_call 19; have K := kget_as (W := w.alloc (.cells #[.int .u64 0, .int .u32 0, .int .u32 0, .int .u32 0] 30)) HBA.out HLA.out HX.out HE.out; rw [← HSA.out] at K; ((with_reducible refine K.mono ?_); clear K; rintro r w1 ⟨rfl, hg⟩); have H1 := Lib.hid ((KS7.start w).far (gtrans hg (World.grownBy_alloc w1 (.cells #[.int .u64 (X.t : Int), .int .u32 (X.e : Int), .int .u32 (X.m : Int), .int .u32 (X.f : Int)] 30) none))); have HX1 := Lib.hid (heap_alloc_new w1 (.cells #[.int .u64 (X.t : Int), .int .u32 (X.e : Int), .int .u32 (X.m : Int), .int .u32 (X.f : Int)] 30)); clear hg)
    | (go_at_call 19; have K := kget_as (W := w1.alloc (.cells #[.int .u64 (X.t : Int), .int .u32 (X.e : Int), .int .u32 (X.m : Int), .int .u32 (X.f : Int)] 30)) HBB.out HLB.out HY.out HF.out; rw [← HSB.out] at K; ((with_reducible refine K.mono ?_); clear K; rintro r w2 ⟨rfl, hg⟩); have hg2 := gtrans hg (World.grownBy_alloc w2 (.cells #[.int .u64 (Y.t : Int), .int .u32 (Y.e : Int), .int .u32 (Y.m : Int), .int .u32 (Y.f : Int)] 30) none); have H2 := Lib.hid (H1.out.far hg2); have HX2 := Lib.hid ((hg2.block _ (lt_of_block HX1.out) (by simp)).trans HX1.out); have HY2 := Lib.hid (heap_alloc_new w2 (.cells #[.int .u64 (Y.t : Int), .int .u32 (Y.e : Int), .int .u32 (Y.m : Int), .int .u32 (Y.f : Int)] 30)); obtain ⟨⟨z0, z1, z2, z3⟩, f0, f1, f2, f3⟩ := cells4 H2.out.hq; obtain ⟨⟨x0, x1, x2, x3⟩, _⟩ := cells4 HX2.out; obtain ⟨⟨y0, y1, y2, y3⟩, _⟩ := cells4 HY2.out; clear hg hg2 HX1 H1))
  exact bodyPost_ret (results_K rfl _ _ w.heap.size _ _ rfl rfl (store4 H2.out.hq _ _ _ _) rfl) rfl ⟨by rw [HC.out.1, HC.out.2, ← HY.out]; rfl, H2.out.fin _ _ _ _⟩

set_option maxHeartbeats 2000000 in
theorem kch_on (w : World) (a b : List Int) (ha : Byt a) (hb : Byt b) (hla : a.length ≤ 140737488355328) (hlb : b.length ≤ 140737488355328) (he : mgetE a = 0) (hs : (mgetM a).t % 2 = 1) (hf : mgetE b ≠ 0) :
    Calls Try.prog 22 #[.string (strOfNums a), .string (strOfNums b)] w fun r w' => ChoseM a b w w' r := by
  have HC := Lib.hid (ch_no (a := a) (b := b) (is_no (.inr (by omega))) (is_no (.inl hf)))
  obtain ⟨X, hX⟩ : ∃ X, X = mgetM a := ⟨_, rfl⟩
  obtain ⟨E, hE⟩ : ∃ E, E = mgetE a := ⟨_, rfl⟩
  obtain ⟨Y, hY⟩ : ∃ X, X = mgetM b := ⟨_, rfl⟩
  obtain ⟨F, hF⟩ : ∃ E, E = mgetE b := ⟨_, rfl⟩
  obtain ⟨SA, hSA⟩ : ∃ S, S = strOfNums a := ⟨_, rfl⟩
  obtain ⟨SB, hSB⟩ : ∃ S, S = strOfNums b := ⟨_, rfl⟩
  rw [← hE] at he
  rw [← hF] at hf
  rw [← hSA, ← hSB]
  subst he
  rw [← hX] at hs
  have hsi : (X.t : Int) % 2 = 1 := by omega
  have hfd : (F == 0) = false := by simpa using hf
  have HX := Lib.hid hX
  have HE := Lib.hid hE
  have HY := Lib.hid hY
  have HF := Lib.hid hF
  have HSA := Lib.hid hSA
  have HSB := Lib.hid hSB
  have HBA := Lib.hid ha
  have HBB := Lib.hid hb
  have HLA := Lib.hid hla
  have HLB := Lib.hid hlb
  clear hX hE hY hF hSA hSB ha hb hla hlb
  go_enter Try.func22, Try.ntmps22
  go_wp2_with (first
    | (go_at_call 19; have K := kget_as (W := w.alloc (.cells #[.int .u64 0, .int .u32 0, .int .u32 0, .int .u32 0] 30)) HBA.out HLA.out HX.out HE.out; rw [← HSA.out] at K; ((with_reducible refine K.mono ?_); clear K; rintro r w1 ⟨rfl, hg⟩); have H1 := Lib.hid ((KS7.start w).far (gtrans hg (World.grownBy_alloc w1 (.cells #[.int .u64 (X.t : Int), .int .u32 (X.e : Int), .int .u32 (X.m : Int), .int .u32 (X.f : Int)] 30) none))); have HX1 := Lib.hid (heap_alloc_new w1 (.cells #[.int .u64 (X.t : Int), .int .u32 (X.e : Int), .int .u32 (X.m : Int), .int .u32 (X.f : Int)] 30)); clear hg)
    | (go_at_call 19; have K := kget_as (W := w1.alloc (.cells #[.int .u64 (X.t : Int), .int .u32 (X.e : Int), .int .u32 (X.m : Int), .int .u32 (X.f : Int)] 30)) HBB.out HLB.out HY.out HF.out; rw [← HSB.out] at K; ((with_reducible refine K.mono ?_); clear K; rintro r w2 ⟨rfl, hg⟩); have hg2 := gtrans hg (World.grownBy_alloc w2 (.cells #[.int .u64 (Y.t : Int), .int .u32 (Y.e : Int), .int .u32 (Y.m : Int), .int .u32 (Y.f : Int)] 30) none); have H2 := Lib.hid (H1.out.far hg2); have HX2 := Lib.hid ((hg2.block _ (lt_of_block HX1.out) (by simp)).trans HX1.out); have HY2 := Lib.hid (heap_alloc_new w2 (.cells #[.int .u64 (Y.t : Int), .int .u32 (Y.e : Int), .int .u32 (Y.m : Int), .int .u32 (Y.f : Int)] 30)); obtain ⟨⟨z0, z1, z2, z3⟩, f0, f1, f2, f3⟩ := cells4 H2.out.hq; obtain ⟨⟨x0, x1, x2, x3⟩, _⟩ := cells4 HX2.out; obtain ⟨⟨y0, y1, y2, y3⟩, _⟩ := cells4 HY2.out; clear hg hg2 HX1 H1))
  exact bodyPost_ret (results_K rfl _ _ w.heap.size _ _ rfl rfl (store4 H2.out.hq _ _ _ _) rfl) rfl ⟨by rw [HC.out.1, HC.out.2]; rfl, H2.out.fin _ _ _ _⟩

set_option maxHeartbeats 2000000 in
theorem kch_oe (w : World) (a b : List Int) (ha : Byt a) (hb : Byt b) (hla : a.length ≤ 140737488355328) (hlb : b.length ≤ 140737488355328) (he : mgetE a = 0) (hs : (mgetM a).t % 2 = 1) (hf : mgetE b = 0) (ht : (mgetM b).t % 2 = 0) :
    Calls Try.prog 22 #[.string (strOfNums a), .string (strOfNums b)] w fun r w' => ChoseM a b w w' r := by
  have HC := Lib.hid (ch_no (a := a) (b := b) (is_no (.inr (by omega))) (is_no (.inr (by omega))))
  obtain ⟨X, hX⟩ : ∃ X, X = mgetM a := ⟨_, rfl⟩
  obtain ⟨E, hE⟩ : ∃ E, E = mgetE a := ⟨_, rfl⟩
  obtain ⟨Y, hY⟩ : ∃ X, X = mgetM b := ⟨_, rfl⟩
  obtain ⟨F, hF⟩ : ∃ E, E = mgetE b := ⟨_, rfl⟩
  obtain ⟨SA, hSA⟩ : ∃ S, S = strOfNums a := ⟨_, rfl⟩
  obtain ⟨SB, hSB⟩ : ∃ S, S = strOfNums b := ⟨_, rfl⟩
  rw [← hE] at he
  rw [← hF] at hf
  rw [← hSA, ← hSB]
  subst he
  rw [← hX] at hs
  have hsi : (X.t : Int) % 2 = 1 := by omega
  subst hf
  rw [← hY] at ht
  have hti : (Y.t : Int) % 2 = 0 := by omega
  have HX := Lib.hid hX
  have HE := Lib.hid hE
  have HY := Lib.hid hY
  have HF := Lib.hid hF
  have HSA := Lib.hid hSA
  have HSB := Lib.hid hSB
  have HBA := Lib.hid ha
  have HBB := Lib.hid hb
  have HLA := Lib.hid hla
  have HLB := Lib.hid hlb
  clear hX hE hY hF hSA hSB ha hb hla hlb
  go_enter Try.func22, Try.ntmps22
  go_wp2_with (first
    | (go_at_call 19; have K := kget_as (W := w.alloc (.cells #[.int .u64 0, .int .u32 0, .int .u32 0, .int .u32 0] 30)) HBA.out HLA.out HX.out HE.out; rw [← HSA.out] at K; ((with_reducible refine K.mono ?_); clear K; rintro r w1 ⟨rfl, hg⟩); have H1 := Lib.hid ((KS7.start w).far (gtrans hg (World.grownBy_alloc w1 (.cells #[.int .u64 (X.t : Int), .int .u32 (X.e : Int), .int .u32 (X.m : Int), .int .u32 (X.f : Int)] 30) none))); have HX1 := Lib.hid (heap_alloc_new w1 (.cells #[.int .u64 (X.t : Int), .int .u32 (X.e : Int), .int .u32 (X.m : Int), .int .u32 (X.f : Int)] 30)); clear hg)
    | (go_at_call 19; have K := kget_as (W := w1.alloc (.cells #[.int .u64 (X.t : Int), .int .u32 (X.e : Int), .int .u32 (X.m : Int), .int .u32 (X.f : Int)] 30)) HBB.out HLB.out HY.out HF.out; rw [← HSB.out] at K; ((with_reducible refine K.mono ?_); clear K; rintro r w2 ⟨rfl, hg⟩); have hg2 := gtrans hg (World.grownBy_alloc w2 (.cells #[.int .u64 (Y.t : Int), .int .u32 (Y.e : Int), .int .u32 (Y.m : Int), .int .u32 (Y.f : Int)] 30) none); have H2 := Lib.hid (H1.out.far hg2); have HX2 := Lib.hid ((hg2.block _ (lt_of_block HX1.out) (by simp)).trans HX1.out); have HY2 := Lib.hid (heap_alloc_new w2 (.cells #[.int .u64 (Y.t : Int), .int .u32 (Y.e : Int), .int .u32 (Y.m : Int), .int .u32 (Y.f : Int)] 30)); obtain ⟨⟨z0, z1, z2, z3⟩, f0, f1, f2, f3⟩ := cells4 H2.out.hq; obtain ⟨⟨x0, x1, x2, x3⟩, _⟩ := cells4 HX2.out; obtain ⟨⟨y0, y1, y2, y3⟩, _⟩ := cells4 HY2.out; clear hg hg2 HX1 H1))
  exact bodyPost_ret (results_K rfl _ _ w.heap.size _ _ rfl rfl (store4 H2.out.hq _ _ _ _) rfl) rfl ⟨by rw [HC.out.1, HC.out.2]; rfl, H2.out.fin _ _ _ _⟩

set_option maxHeartbeats 2000000 in
theorem kch_ot (w : World) (a b : List Int) (ha : Byt a) (hb : Byt b) (hla : a.length ≤ 140737488355328) (hlb : b.length ≤ 140737488355328) (he : mgetE a = 0) (hs : (mgetM a).t % 2 = 1) (hf : mgetE b = 0) (ht : (mgetM b).t % 2 = 1) :
    Calls Try.prog 22 #[.string (strOfNums a), .string (strOfNums b)] w fun r w' => ChoseM a b w w' r := by
  have HC := Lib.hid (ch_b (a := a) (b := b) (is_yes hf ht) (.inl (is_no (.inr (by omega)))))
  obtain ⟨X, hX⟩ : ∃ X, X = mgetM a := ⟨_, rfl⟩
  obtain ⟨E, hE⟩ : ∃ E, E = mgetE a := ⟨_, rfl⟩
  obtain ⟨Y, hY⟩ : ∃ X, X = mgetM b := ⟨_, rfl⟩
  obtain ⟨F, hF⟩ : ∃ E, E = mgetE b := ⟨_, rfl⟩
  obtain ⟨SA, hSA⟩ : ∃ S, S = strOfNums a := ⟨_, rfl⟩
  obtain ⟨SB, hSB⟩ : ∃ S, S = strOfNums b := ⟨_, rfl⟩
  rw [← hE] at he
  rw [← hF] at hf
  rw [← hSA, ← hSB]
  subst he
  rw [← hX] at hs
  have hsi : (X.t : Int) % 2 = 1 := by omega
  subst hf
  rw [← hY] at ht
  have hti : (Y.t : Int) % 2 = 1 := by omega
  have HX := Lib.hid hX
  have HE := Lib.hid hE
  have HY := Lib.hid hY
  have HF := Lib.hid hF
  have HSA := Lib.hid hSA
  have HSB := Lib.hid hSB
  have HBA := Lib.hid ha
  have HBB := Lib.hid hb
  have HLA := Lib.hid hla
  have HLB := Lib.hid hlb
  clear hX hE hY hF hSA hSB ha hb hla hlb
  go_enter Try.func22, Try.ntmps22
  go_wp2_with (first
    | (go_at_call 19; have K := kget_as (W := w.alloc (.cells #[.int .u64 0, .int .u32 0, .int .u32 0, .int .u32 0] 30)) HBA.out HLA.out HX.out HE.out; rw [← HSA.out] at K; ((with_reducible refine K.mono ?_); clear K; rintro r w1 ⟨rfl, hg⟩); have H1 := Lib.hid ((KS7.start w).far (gtrans hg (World.grownBy_alloc w1 (.cells #[.int .u64 (X.t : Int), .int .u32 (X.e : Int), .int .u32 (X.m : Int), .int .u32 (X.f : Int)] 30) none))); have HX1 := Lib.hid (heap_alloc_new w1 (.cells #[.int .u64 (X.t : Int), .int .u32 (X.e : Int), .int .u32 (X.m : Int), .int .u32 (X.f : Int)] 30)); clear hg)
    | (go_at_call 19; have K := kget_as (W := w1.alloc (.cells #[.int .u64 (X.t : Int), .int .u32 (X.e : Int), .int .u32 (X.m : Int), .int .u32 (X.f : Int)] 30)) HBB.out HLB.out HY.out HF.out; rw [← HSB.out] at K; ((with_reducible refine K.mono ?_); clear K; rintro r w2 ⟨rfl, hg⟩); have hg2 := gtrans hg (World.grownBy_alloc w2 (.cells #[.int .u64 (Y.t : Int), .int .u32 (Y.e : Int), .int .u32 (Y.m : Int), .int .u32 (Y.f : Int)] 30) none); have H2 := Lib.hid (H1.out.far hg2); have HX2 := Lib.hid ((hg2.block _ (lt_of_block HX1.out) (by simp)).trans HX1.out); have HY2 := Lib.hid (heap_alloc_new w2 (.cells #[.int .u64 (Y.t : Int), .int .u32 (Y.e : Int), .int .u32 (Y.m : Int), .int .u32 (Y.f : Int)] 30)); obtain ⟨⟨z0, z1, z2, z3⟩, f0, f1, f2, f3⟩ := cells4 H2.out.hq; obtain ⟨⟨x0, x1, x2, x3⟩, _⟩ := cells4 HX2.out; obtain ⟨⟨y0, y1, y2, y3⟩, _⟩ := cells4 HY2.out; clear hg hg2 HX1 H1))
  exact bodyPost_ret (results_K rfl _ _ w.heap.size _ _ rfl rfl (store4 H2.out.hq _ _ _ _) rfl) rfl ⟨by rw [HC.out.1, HC.out.2, ← HY.out]; rfl, H2.out.fin _ _ _ _⟩

set_option maxHeartbeats 2000000 in
theorem kch_yn (w : World) (a b : List Int) (ha : Byt a) (hb : Byt b) (hla : a.length ≤ 140737488355328) (hlb : b.length ≤ 140737488355328) (he : mgetE a = 0) (hs : (mgetM a).t % 2 = 0) (hf : mgetE b ≠ 0) :
    Calls Try.prog 22 #[.string (strOfNums a), .string (strOfNums b)] w fun r w' => ChoseM a b w w' r := by
  have HC := Lib.hid (ch_a (a := a) (b := b) (is_yes he hs) (.inl (is_no (.inl hf))))
  obtain ⟨X, hX⟩ : ∃ X, X = mgetM a := ⟨_, rfl⟩
  obtain ⟨E, hE⟩ : ∃ E, E = mgetE a := ⟨_, rfl⟩
  obtain ⟨Y, hY⟩ : ∃ X, X = mgetM b := ⟨_, rfl⟩
  obtain ⟨F, hF⟩ : ∃ E, E = mgetE b := ⟨_, rfl⟩
  obtain ⟨SA, hSA⟩ : ∃ S, S = strOfNums a := ⟨_, rfl⟩
  obtain ⟨SB, hSB⟩ : ∃ S, S = strOfNums b := ⟨_, rfl⟩
  rw [← hE] at he
  rw [← hF] at hf
  rw [← hSA, ← hSB]
  subst he
  rw [← hX] at hs
  have hsi : (X.t : Int) % 2 = 0 := by omega
  have hfd : (F == 0) = false := by simpa using hf
  have HX := Lib.hid hX
  have HE := Lib.hid hE
  have HY := Lib.hid hY
  have HF := Lib.hid hF
  have HSA := Lib.hid hSA
  have HSB := Lib.hid hSB
  have HBA := Lib.hid ha
  have HBB := Lib.hid hb
  have HLA := Lib.hid hla
  have HLB := Lib.hid hlb
  clear hX hE hY hF hSA hSB ha hb hla hlb
  go_enter Try.func22, Try.ntmps22
  go_wp2_with (first
    | (go_at_call 19; have K := kget_as (W := w.alloc (.cells #[.int .u64 0, .int .u32 0, .int .u32 0, .int .u32 0] 30)) HBA.out HLA.out HX.out HE.out; rw [← HSA.out] at K; ((with_reducible refine K.mono ?_); clear K; rintro r w1 ⟨rfl, hg⟩); have H1 := Lib.hid ((KS7.start w).far (gtrans hg (World.grownBy_alloc w1 (.cells #[.int .u64 (X.t : Int), .int .u32 (X.e : Int), .int .u32 (X.m : Int), .int .u32 (X.f : Int)] 30) none))); have HX1 := Lib.hid (heap_alloc_new w1 (.cells #[.int .u64 (X.t : Int), .int .u32 (X.e : Int), .int .u32 (X.m : Int), .int .u32 (X.f : Int)] 30)); clear hg)
    | (go_at_call 19; have K := kget_as (W := w1.alloc (.cells #[.int .u64 (X.t : Int), .int .u32 (X.e : Int), .int .u32 (X.m : Int), .int .u32 (X.f : Int)] 30)) HBB.out HLB.out HY.out HF.out; rw [← HSB.out] at K; ((with_reducible refine K.mono ?_); clear K; rintro r w2 ⟨rfl, hg⟩); have hg2 := gtrans hg (World.grownBy_alloc w2 (.cells #[.int .u64 (Y.t : Int), .int .u32 (Y.e : Int), .int .u32 (Y.m : Int), .int .u32 (Y.f : Int)] 30) none); have H2 := Lib.hid (H1.out.far hg2); have HX2 := Lib.hid ((hg2.block _ (lt_of_block HX1.out) (by simp)).trans HX1.out); have HY2 := Lib.hid (heap_alloc_new w2 (.cells #[.int .u64 (Y.t : Int), .int .u32 (Y.e : Int), .int .u32 (Y.m : Int), .int .u32 (Y.f : Int)] 30)); obtain ⟨⟨z0, z1, z2, z3⟩, f0, f1, f2, f3⟩ := cells4 H2.out.hq; obtain ⟨⟨x0, x1, x2, x3⟩, _⟩ := cells4 HX2.out; obtain ⟨⟨y0, y1, y2, y3⟩, _⟩ := cells4 HY2.out; clear hg hg2 HX1 H1))
  exact bodyPost_ret (results_K rfl _ _ w.heap.size _ _ rfl rfl (store4 H2.out.hq _ _ _ _) rfl) rfl ⟨by rw [HC.out.1, HC.out.2, ← HX.out]; rfl, H2.out.fin _ _ _ _⟩

set_option maxHeartbeats 2000000 in
theorem kch_ye (w : World) (a b : List Int) (ha : Byt a) (hb : Byt b) (hla : a.length ≤ 140737488355328) (hlb : b.length ≤ 140737488355328) (he : mgetE a = 0) (hs : (mgetM a).t % 2 = 0) (hf : mgetE b = 0) (ht : (mgetM b).t % 2 = 0) :
    Calls Try.prog 22 #[.string (strOfNums a), .string (strOfNums b)] w fun r w' => ChoseM a b w w' r := by
  have HC := Lib.hid (ch_a (a := a) (b := b) (is_yes he hs) (.inl (is_no (.inr (by omega)))))
  obtain ⟨X, hX⟩ : ∃ X, X = mgetM a := ⟨_, rfl⟩
  obtain ⟨E, hE⟩ : ∃ E, E = mgetE a := ⟨_, rfl⟩
  obtain ⟨Y, hY⟩ : ∃ X, X = mgetM b := ⟨_, rfl⟩
  obtain ⟨F, hF⟩ : ∃ E, E = mgetE b := ⟨_, rfl⟩
  obtain ⟨SA, hSA⟩ : ∃ S, S = strOfNums a := ⟨_, rfl⟩
  obtain ⟨SB, hSB⟩ : ∃ S, S = strOfNums b := ⟨_, rfl⟩
  rw [← hE] at he
  rw [← hF] at hf
  rw [← hSA, ← hSB]
  subst he
  rw [← hX] at hs
  have hsi : (X.t : Int) % 2 = 0 := by omega
  subst hf
  rw [← hY] at ht
  have hti : (Y.t : Int) % 2 = 0 := by omega
  have HX := Lib.hid hX
  have HE := Lib.hid hE
  have HY := Lib.hid hY
  have HF := Lib.hid hF
  have HSA := Lib.hid hSA
  have HSB := Lib.hid hSB
  have HBA := Lib.hid ha
  have HBB := Lib.hid hb
  have HLA := Lib.hid hla
  have HLB := Lib.hid hlb
  clear hX hE hY hF hSA hSB ha hb hla hlb
  go_enter Try.func22, Try.ntmps22
  go_wp2_with (first
    | (go_at_call 19; have K := kget_as (W := w.alloc (.cells #[.int .u64 0, .int .u32 0, .int .u32 0, .int .u32 0] 30)) HBA.out HLA.out HX.out HE.out; rw [← HSA.out] at K; ((with_reducible refine K.mono ?_); clear K; rintro r w1 ⟨rfl, hg⟩); have H1 := Lib.hid ((KS7.start w).far (gtrans hg (World.grownBy_alloc w1 (.cells #[.int .u64 (X.t : Int), .int .u32 (X.e : Int), .int .u32 (X.m : Int), .int .u32 (X.f : Int)] 30) none))); have HX1 := Lib.hid (heap_alloc_new w1 (.cells #[.int .u64 (X.t : Int), .int .u32 (X.e : Int), .int .u32 (X.m : Int), .int .u32 (X.f : Int)] 30)); clear hg)
    | (go_at_call 19; have K := kget_as (W := w1.alloc (.cells #[.int .u64 (X.t : Int), .int .u32 (X.e : Int), .int .u32 (X.m : Int), .int .u32 (X.f : Int)] 30)) HBB.out HLB.out HY.out HF.out; rw [← HSB.out] at K; ((with_reducible refine K.mono ?_); clear K; rintro r w2 ⟨rfl, hg⟩); have hg2 := gtrans hg (World.grownBy_alloc w2 (.cells #[.int .u64 (Y.t : Int), .int .u32 (Y.e : Int), .int .u32 (Y.m : Int), .int .u32 (Y.f : Int)] 30) none); have H2 := Lib.hid (H1.out.far hg2); have HX2 := Lib.hid ((hg2.block _ (lt_of_block HX1.out) (by simp)).trans HX1.out); have HY2 := Lib.hid (heap_alloc_new w2 (.cells #[.int .u64 (Y.t : Int), .int .u32 (Y.e : Int), .int .u32 (Y.m : Int), .int .u32 (Y.f : Int)] 30)); obtain ⟨⟨z0, z1, z2, z3⟩, f0, f1, f2, f3⟩ := cells4 H2.out.hq; obtain ⟨⟨x0, x1, x2, x3⟩, _⟩ := cells4 HX2.out; obtain ⟨⟨y0, y1, y2, y3⟩, _⟩ := cells4 HY2.out; clear hg hg2 HX1 H1))
  exact bodyPost_ret (results_K rfl _ _ w.heap.size _ _ rfl rfl (store4 H2.out.hq _ _ _ _) rfl) rfl ⟨by rw [HC.out.1, HC.out.2, ← HX.out]; rfl, H2.out.fin _ _ _ _⟩

set_option maxHeartbeats 2000000 in
theorem kch_yty (w : World) (a b : List Int) (ha : Byt a) (hb : Byt b) (hla : a.length ≤ 140737488355328) (hlb : b.length ≤ 140737488355328) (he : mgetE a = 0) (hs : (mgetM a).t % 2 = 0) (hf : mgetE b = 0) (ht : (mgetM b).t % 2 = 1) (hc : (mgetM b).t < (mgetM a).t) :
    Calls Try.prog 22 #[.string (strOfNums a), .string (strOfNums b)] w fun r w' => ChoseM a b w w' r := by
  have HC := Lib.hid (ch_a (a := a) (b := b) (is_yes he hs) (.inr hc))
  obtain ⟨X, hX⟩ : ∃ X, X = mgetM a := ⟨_, rfl⟩
  obtain ⟨E, hE⟩ : ∃ E, E = mgetE a := ⟨_, rfl⟩
  obtain ⟨Y, hY⟩ : ∃ X, X = mgetM b := ⟨_, rfl⟩
  obtain ⟨F, hF⟩ : ∃ E, E = mgetE b := ⟨_, rfl⟩
  obtain ⟨SA, hSA⟩ : ∃ S, S = strOfNums a := ⟨_, rfl⟩
  obtain ⟨SB, hSB⟩ : ∃ S, S = strOfNums b := ⟨_, rfl⟩
  rw [← hE] at he
  rw [← hF] at hf
  rw [← hSA, ← hSB]
  subst he
  rw [← hX] at hs
  have hsi : (X.t : Int) % 2 = 0 := by omega
  subst hf
  rw [← hY] at ht
  have hti : (Y.t : Int) % 2 = 1 := by omega
  rw [← hX, ← hY] at hc
  have hci : (Y.t : Int) < (X.t : Int) := by omega
  have hcd : decide ((Y.t : Int) < (X.t : Int)) = true := by simpa using hci
  have HX := Lib.hid hX
  have HE := Lib.hid hE
  have HY := Lib.hid hY
  have HF := Lib.hid hF
  have HSA := Lib.hid hSA
  have HSB := Lib.hid hSB
  have HBA := Lib.hid ha
  have HBB := Lib.hid hb
  have HLA := Lib.hid hla
  have HLB := Lib.hid hlb
  clear hX hE hY hF hSA hSB ha hb hla hlb
  go_enter Try.func22, Try.ntmps22
  go_wp2_with (first
    | (go_at_call 19; have K := kget_as (W := w.alloc (.cells #[.int .u64 0, .int .u32 0, .int .u32 0, .int .u32 0] 30)) HBA.out HLA.out HX.out HE.out; rw [← HSA.out] at K; ((with_reducible refine K.mono ?_); clear K; rintro r w1 ⟨rfl, hg⟩); have H1 := Lib.hid ((KS7.start w).far (gtrans hg (World.grownBy_alloc w1 (.cells #[.int .u64 (X.t : Int), .int .u32 (X.e : Int), .int .u32 (X.m : Int), .int .u32 (X.f : Int)] 30) none))); have HX1 := Lib.hid (heap_alloc_new w1 (.cells #[.int .u64 (X.t : Int), .int .u32 (X.e : Int), .int .u32 (X.m : Int), .int .u32 (X.f : Int)] 30)); clear hg)
    | (go_at_call 19; have K := kget_as (W := w1.alloc (.cells #[.int .u64 (X.t : Int), .int .u32 (X.e : Int), .int .u32 (X.m : Int), .int .u32 (X.f : Int)] 30)) HBB.out HLB.out HY.out HF.out; rw [← HSB.out] at K; ((with_reducible refine K.mono ?_); clear K; rintro r w2 ⟨rfl, hg⟩); have hg2 := gtrans hg (World.grownBy_alloc w2 (.cells #[.int .u64 (Y.t : Int), .int .u32 (Y.e : Int), .int .u32 (Y.m : Int), .int .u32 (Y.f : Int)] 30) none); have H2 := Lib.hid (H1.out.far hg2); have HX2 := Lib.hid ((hg2.block _ (lt_of_block HX1.out) (by simp)).trans HX1.out); have HY2 := Lib.hid (heap_alloc_new w2 (.cells #[.int .u64 (Y.t : Int), .int .u32 (Y.e : Int), .int .u32 (Y.m : Int), .int .u32 (Y.f : Int)] 30)); obtain ⟨⟨z0, z1, z2, z3⟩, f0, f1, f2, f3⟩ := cells4 H2.out.hq; obtain ⟨⟨x0, x1, x2, x3⟩, _⟩ := cells4 HX2.out; obtain ⟨⟨y0, y1, y2, y3⟩, _⟩ := cells4 HY2.out; clear hg hg2 HX1 H1))
  exact bodyPost_ret (results_K rfl _ _ w.heap.size _ _ rfl rfl (store4 H2.out.hq _ _ _ _) rfl) rfl ⟨by rw [HC.out.1, HC.out.2, ← HX.out]; rfl, H2.out.fin _ _ _ _⟩

set_option maxHeartbeats 2000000 in
theorem kch_ytn (w : World) (a b : List Int) (ha : Byt a) (hb : Byt b) (hla : a.length ≤ 140737488355328) (hlb : b.length ≤ 140737488355328) (he : mgetE a = 0) (hs : (mgetM a).t % 2 = 0) (hf : mgetE b = 0) (ht : (mgetM b).t % 2 = 1) (hc : (mgetM a).t < (mgetM b).t) :
    Calls Try.prog 22 #[.string (strOfNums a), .string (strOfNums b)] w fun r w' => ChoseM a b w w' r := by
  have HC := Lib.hid (ch_b (a := a) (b := b) (is_yes hf ht) (.inr hc))
  obtain ⟨X, hX⟩ : ∃ X, X = mgetM a := ⟨_, rfl⟩
  obtain ⟨E, hE⟩ : ∃ E, E = mgetE a := ⟨_, rfl⟩
  obtain ⟨Y, hY⟩ : ∃ X, X = mgetM b := ⟨_, rfl⟩
  obtain ⟨F, hF⟩ : ∃ E, E = mgetE b := ⟨_, rfl⟩
  obtain ⟨SA, hSA⟩ : ∃ S, S = strOfNums a := ⟨_, rfl⟩
  obtain ⟨SB, hSB⟩ : ∃ S, S = strOfNums b := ⟨_, rfl⟩
  rw [← hE] at he
  rw [← hF] at hf
  rw [← hSA, ← hSB]
  subst he
  rw [← hX] at hs
  have hsi : (X.t : Int) % 2 = 0 := by omega
  subst hf
  rw [← hY] at ht
  have hti : (Y.t : Int) % 2 = 1 := by omega
  rw [← hX, ← hY] at hc
  have hci : ¬ (Y.t : Int) < (X.t : Int) := by omega
  have hcd : decide ((Y.t : Int) < (X.t : Int)) = false := by simpa using hci
  have HX := Lib.hid hX
  have HE := Lib.hid hE
  have HY := Lib.hid hY
  have HF := Lib.hid hF
  have HSA := Lib.hid hSA
  have HSB := Lib.hid hSB
  have HBA := Lib.hid ha
  have HBB := Lib.hid hb
  have HLA := Lib.hid hla
  have HLB := Lib.hid hlb
  clear hX hE hY hF hSA hSB ha hb hla hlb
  go_enter Try.func22, Try.ntmps22
  go_wp2_with (first
    | (go_at_call 19; have K := kget_as (W := w.alloc (.cells #[.int .u64 0, .int .u32 0, .int .u32 0, .int .u32 0] 30)) HBA.out HLA.out HX.out HE.out; rw [← HSA.out] at K; ((with_reducible refine K.mono ?_); clear K; rintro r w1 ⟨rfl, hg⟩); have H1 := Lib.hid ((KS7.start w).far (gtrans hg (World.grownBy_alloc w1 (.cells #[.int .u64 (X.t : Int), .int .u32 (X.e : Int), .int .u32 (X.m : Int), .int .u32 (X.f : Int)] 30) none))); have HX1 := Lib.hid (heap_alloc_new w1 (.cells #[.int .u64 (X.t : Int), .int .u32 (X.e : Int), .int .u32 (X.m : Int), .int .u32 (X.f : Int)] 30)); clear hg)
    | (go_at_call 19; have K := kget_as (W := w1.alloc (.cells #[.int .u64 (X.t : Int), .int .u32 (X.e : Int), .int .u32 (X.m : Int), .int .u32 (X.f : Int)] 30)) HBB.out HLB.out HY.out HF.out; rw [← HSB.out] at K; ((with_reducible refine K.mono ?_); clear K; rintro r w2 ⟨rfl, hg⟩); have hg2 := gtrans hg (World.grownBy_alloc w2 (.cells #[.int .u64 (Y.t : Int), .int .u32 (Y.e : Int), .int .u32 (Y.m : Int), .int .u32 (Y.f : Int)] 30) none); have H2 := Lib.hid (H1.out.far hg2); have HX2 := Lib.hid ((hg2.block _ (lt_of_block HX1.out) (by simp)).trans HX1.out); have HY2 := Lib.hid (heap_alloc_new w2 (.cells #[.int .u64 (Y.t : Int), .int .u32 (Y.e : Int), .int .u32 (Y.m : Int), .int .u32 (Y.f : Int)] 30)); obtain ⟨⟨z0, z1, z2, z3⟩, f0, f1, f2, f3⟩ := cells4 H2.out.hq; obtain ⟨⟨x0, x1, x2, x3⟩, _⟩ := cells4 HX2.out; obtain ⟨⟨y0, y1, y2, y3⟩, _⟩ := cells4 HY2.out; clear hg hg2 HX1 H1))
  exact bodyPost_ret (results_K rfl _ _ w.heap.size _ _ rfl rfl (store4 H2.out.hq _ _ _ _) rfl) rfl ⟨by rw [HC.out.1, HC.out.2, ← HY.out]; rfl, H2.out.fin _ _ _ _⟩

theorem kchoose_any (w : World) (a b : List Int) (ha : Byt a) (hb : Byt b) (hla : a.length ≤ 140737488355328) (hlb : b.length ≤ 140737488355328) :
    Calls Try.prog 22 #[.string (strOfNums a), .string (strOfNums b)] w fun r w' => ChoseM a b w w' r := by
  by_cases he : mgetE a = 0
  · by_cases hf : mgetE b = 0
    · rcases (by omega : (mgetM a).t % 2 = 0 ∨ (mgetM a).t % 2 = 1) with hs | hs
      · rcases (by omega : (mgetM b).t % 2 = 0 ∨ (mgetM b).t % 2 = 1) with ht | ht
        · exact kch_ye w a b ha hb hla hlb he hs hf ht
        · rcases (by omega : (mgetM b).t < (mgetM a).t ∨ (mgetM a).t < (mgetM b).t) with hc | hc
          · exact kch_yty w a b ha hb hla hlb he hs hf ht hc
          · exact kch_ytn w a b ha hb hla hlb he hs hf ht hc
      · rcases (by omega : (mgetM b).t % 2 = 0 ∨ (mgetM b).t % 2 = 1) with ht | ht
        · exact kch_oe w a b ha hb hla hlb he hs hf ht
        · exact kch_ot w a b ha hb hla hlb he hs hf ht
    · rcases (by omega : (mgetM a).t % 2 = 0 ∨ (mgetM a).t % 2 = 1) with hs | hs
      · exact kch_yn w a b ha hb hla hlb he hs hf
      · exact kch_on w a b ha hb hla hlb he hs hf
  · by_cases hf : mgetE b = 0
    · rcases (by omega : (mgetM b).t % 2 = 0 ∨ (mgetM b).t % 2 = 1) with ht | ht
      · exact kch_ne w a b ha hb hla hlb he hf ht
      · exact kch_nt w a b ha hb hla hlb he hf ht
    · exact kch_nn w a b ha hb hla hlb he hf

end Go.Proofs.Ytnggebohefbopaa
