/-
  'MetaSector' returns true for every input: all of a meta stands in the first 128 bytes of its page: a write of that sector alone tells it whole. No condition. Own work; the frame is the guide's.
-/
import Derived.Test.YtnggebohefbopaaMetY
import Derived.OwnWalk
import Derived.ProofKit
import Derived.OpenShut
import Derived.ShutString
import Derived.ChangeOld
namespace Go.Proofs.Ytnggebohefbopaa
open Go.RowKit

theorem page_128 (M : Mt) (S k : Nat) (h : 128 ≤ k) : (mpage M S).getD k 0 = 0 := by
  have := congrArg (fun l => l.getD (k - 128) 0) (page_drop128 M S)
  rw [getD_drop, show 128 + (k - 128) = k by omega] at this
  rw [this, List.getD_eq_getElem?_getD, List.getElem?_replicate]
  split <;> rfl

set_option maxRecDepth 30000 in
set_option maxHeartbeats 4000000 in
theorem sector_bad1 (w : World) (M N : Mt) (size : Int) (hM : ¬ (mright M = true ∧ 512 ≤ size ∧ size ≤ 4096)) (hN : MtOk N) :
    Calls Try.prog 7 #[.agg (mtC M), .agg (mtC N), .int .i64 size] w fun r w' => r = .returned (.bool true) ∧ Below w.heap.size w w' := by
  have hmc : mtC M = #[.int .u64 (M.t : Int), .int .u32 (M.e : Int), .int .u32 (M.m : Int), .int .u32 (M.f : Int)] := rfl
  have hmn : mtC N = #[.int .u64 (N.t : Int), .int .u32 (N.e : Int), .int .u32 (N.m : Int), .int .u32 (N.f : Int)] := rfl
  have HM := Lib.hid hM
  have HNo := Lib.hid hN
  clear hM hN
  go_enter Try.func7, Try.ntmps7
  go_wp2_with (first
    | (go_at_call 10; have K := awake7_any ((w.alloc (.cells #[.int .u64 (M.t : Int), .int .u32 (M.e : Int), .int .u32 (M.m : Int), .int .u32 (M.f : Int)] 25)).alloc (.cells #[.int .u64 (N.t : Int), .int .u32 (N.e : Int), .int .u32 (N.m : Int), .int .u32 (N.f : Int)] 25)); ((with_reducible refine K.mono ?_); clear K; rintro r wA ⟨rfl, hgA⟩); have GA := Lib.hid (gtrans (two_grown w (.cells #[.int .u64 (M.t : Int), .int .u32 (M.e : Int), .int .u32 (M.m : Int), .int .u32 (M.f : Int)] 25) (.cells #[.int .u64 (N.t : Int), .int .u32 (N.e : Int), .int .u32 (N.m : Int), .int .u32 (N.f : Int)] 25)) hgA); have BX := Lib.hid (two_later0 hgA); have BY := Lib.hid (two_later1 hgA); obtain ⟨x0, x1, x2, x3⟩ := mt_cells BX.out; clear hgA)
    | (go_at_call 11; have K := of7_any wA M; rw [hmc] at K; ((with_reducible refine K.mono ?_); clear K; rintro r w2 ⟨rfl, hg⟩); have hg2 := gtrans hg (two_grown w2 (.cells #[.int .u64 (M.t : Int), .int .u32 (M.e : Int), .int .u32 (M.m : Int), .int .u32 (M.f : Int)] 29) (.cells #[.int .u64 (M.t : Int), .int .u32 (M.e : Int), .int .u32 (M.m : Int), .int .u32 (M.f : Int)] 30)); have G2 := Lib.hid (gtrans GA.out hg2); have G02 := Lib.hid (Nat.le_trans GA.out.size hg.size); have M2 := Lib.hid (two_lit0 w2 (.cells #[.int .u64 (M.t : Int), .int .u32 (M.e : Int), .int .u32 (M.m : Int), .int .u32 (M.f : Int)] 29) (.cells #[.int .u64 (M.t : Int), .int .u32 (M.e : Int), .int .u32 (M.m : Int), .int .u32 (M.f : Int)] 30)); have BY2 := Lib.hid ((hg2.block _ (lt_of_block BY.out) (by simp)).trans BY.out); clear hg hg2 x0 x1 x2 x3; obtain ⟨y0, y1, y2, y3⟩ := mt_cells BY2.out)
    | (go_at_call 11; have K := of7_any ((w2.alloc (.cells #[.int .u64 (M.t : Int), .int .u32 (M.e : Int), .int .u32 (M.m : Int), .int .u32 (M.f : Int)] 29)).alloc (.cells #[.int .u64 (M.t : Int), .int .u32 (M.e : Int), .int .u32 (M.m : Int), .int .u32 (M.f : Int)] 30)) N; rw [hmn] at K; ((with_reducible refine K.mono ?_); clear K; rintro r w3 ⟨rfl, hg⟩); have hg3 := gtrans hg (two_grown w3 (.cells #[.int .u64 (N.t : Int), .int .u32 (N.e : Int), .int .u32 (N.m : Int), .int .u32 (N.f : Int)] 29) (.cells #[.int .u64 (N.t : Int), .int .u32 (N.e : Int), .int .u32 (N.m : Int), .int .u32 (N.f : Int)] 30)); have G3 := Lib.hid (gtrans G2.out hg3); have G23 := Lib.hid hg.size; have N3 := Lib.hid (two_lit0 w3 (.cells #[.int .u64 (N.t : Int), .int .u32 (N.e : Int), .int .u32 (N.m : Int), .int .u32 (N.f : Int)] 29) (.cells #[.int .u64 (N.t : Int), .int .u32 (N.e : Int), .int .u32 (N.m : Int), .int .u32 (N.f : Int)] 30)); have M3 := Lib.hid ((hg3.block _ (lt_of_block M2.out) (by simp)).trans M2.out); clear hg hg3 y0 y1 y2 y3; obtain ⟨m0, m1, m2, m3⟩ := mt_cells M3.out)
    | (go_at_call 12; have K := mput_no ((w3.alloc (.cells #[.int .u64 (N.t : Int), .int .u32 (N.e : Int), .int .u32 (N.m : Int), .int .u32 (N.f : Int)] 29)).alloc (.cells #[.int .u64 (N.t : Int), .int .u32 (N.e : Int), .int .u32 (N.m : Int), .int .u32 (N.f : Int)] 30)) M size HM.out; rw [hmc] at K; ((with_reducible refine K.mono ?_); clear K; rintro r w4 ⟨rfl, hg⟩); have G4 := Lib.hid (gtrans G3.out hg); have N4 := Lib.hid ((hg.block _ (lt_of_block N3.out) (by simp)).trans N3.out); clear hg m0 m1 m2 m3; obtain ⟨n0, n1, n2, n3⟩ := mt_cells N4.out)
    | (go_at_call 12; have K := mput_any w4 N HNo.out size; rw [hmn] at K; ((with_reducible refine K.mono ?_); clear K; rintro r w5 ⟨a1, n1', c1, e1, rfl, hg⟩); have G5 := Lib.hid (gtrans G4.out hg); clear hg))
  go_ret
  exact ⟨rfl, gbelow G5.out⟩

set_option maxRecDepth 30000 in
set_option maxHeartbeats 4000000 in
theorem sector_bad2 (w : World) (M N : Mt) (S : Nat) (hM : Good M S) (hN : ¬ (mright N = true ∧ 512 ≤ (S : Int) ∧ (S : Int) ≤ 4096)) :
    Calls Try.prog 7 #[.agg (mtC M), .agg (mtC N), .int .i64 (S : Int)] w fun r w' => r = .returned (.bool true) ∧ Below w.heap.size w w' := by
  have hmc : mtC M = #[.int .u64 (M.t : Int), .int .u32 (M.e : Int), .int .u32 (M.m : Int), .int .u32 (M.f : Int)] := rfl
  have hmn : mtC N = #[.int .u64 (N.t : Int), .int .u32 (N.e : Int), .int .u32 (N.m : Int), .int .u32 (N.f : Int)] := rfl
  have HPM := Lib.hid (fun W => mput_ok W M hM.ok hM.right S hM.lo hM.hi)
  rw [hmc] at HPM
  have HLM := Lib.hid hM.len
  have HN := Lib.hid hN
  clear hM hN
  go_enter Try.func7, Try.ntmps7
  go_wp2_with (first
    | (go_at_call 10; have K := awake7_any ((w.alloc (.cells #[.int .u64 (M.t : Int), .int .u32 (M.e : Int), .int .u32 (M.m : Int), .int .u32 (M.f : Int)] 25)).alloc (.cells #[.int .u64 (N.t : Int), .int .u32 (N.e : Int), .int .u32 (N.m : Int), .int .u32 (N.f : Int)] 25)); ((with_reducible refine K.mono ?_); clear K; rintro r wA ⟨rfl, hgA⟩); have GA := Lib.hid (gtrans (two_grown w (.cells #[.int .u64 (M.t : Int), .int .u32 (M.e : Int), .int .u32 (M.m : Int), .int .u32 (M.f : Int)] 25) (.cells #[.int .u64 (N.t : Int), .int .u32 (N.e : Int), .int .u32 (N.m : Int), .int .u32 (N.f : Int)] 25)) hgA); have BX := Lib.hid (two_later0 hgA); have BY := Lib.hid (two_later1 hgA); obtain ⟨x0, x1, x2, x3⟩ := mt_cells BX.out; clear hgA)
    | (go_at_call 11; have K := of7_any wA M; rw [hmc] at K; ((with_reducible refine K.mono ?_); clear K; rintro r w2 ⟨rfl, hg⟩); have hg2 := gtrans hg (two_grown w2 (.cells #[.int .u64 (M.t : Int), .int .u32 (M.e : Int), .int .u32 (M.m : Int), .int .u32 (M.f : Int)] 29) (.cells #[.int .u64 (M.t : Int), .int .u32 (M.e : Int), .int .u32 (M.m : Int), .int .u32 (M.f : Int)] 30)); have G2 := Lib.hid (gtrans GA.out hg2); have G02 := Lib.hid (Nat.le_trans GA.out.size hg.size); have M2 := Lib.hid (two_lit0 w2 (.cells #[.int .u64 (M.t : Int), .int .u32 (M.e : Int), .int .u32 (M.m : Int), .int .u32 (M.f : Int)] 29) (.cells #[.int .u64 (M.t : Int), .int .u32 (M.e : Int), .int .u32 (M.m : Int), .int .u32 (M.f : Int)] 30)); have BY2 := Lib.hid ((hg2.block _ (lt_of_block BY.out) (by simp)).trans BY.out); clear hg hg2 x0 x1 x2 x3; obtain ⟨y0, y1, y2, y3⟩ := mt_cells BY2.out)
    | (go_at_call 11; have K := of7_any ((w2.alloc (.cells #[.int .u64 (M.t : Int), .int .u32 (M.e : Int), .int .u32 (M.m : Int), .int .u32 (M.f : Int)] 29)).alloc (.cells #[.int .u64 (M.t : Int), .int .u32 (M.e : Int), .int .u32 (M.m : Int), .int .u32 (M.f : Int)] 30)) N; rw [hmn] at K; ((with_reducible refine K.mono ?_); clear K; rintro r w3 ⟨rfl, hg⟩); have hg3 := gtrans hg (two_grown w3 (.cells #[.int .u64 (N.t : Int), .int .u32 (N.e : Int), .int .u32 (N.m : Int), .int .u32 (N.f : Int)] 29) (.cells #[.int .u64 (N.t : Int), .int .u32 (N.e : Int), .int .u32 (N.m : Int), .int .u32 (N.f : Int)] 30)); have G3 := Lib.hid (gtrans G2.out hg3); have G23 := Lib.hid hg.size; have N3 := Lib.hid (two_lit0 w3 (.cells #[.int .u64 (N.t : Int), .int .u32 (N.e : Int), .int .u32 (N.m : Int), .int .u32 (N.f : Int)] 29) (.cells #[.int .u64 (N.t : Int), .int .u32 (N.e : Int), .int .u32 (N.m : Int), .int .u32 (N.f : Int)] 30)); have M3 := Lib.hid ((hg3.block _ (lt_of_block M2.out) (by simp)).trans M2.out); clear hg hg3 y0 y1 y2 y3; obtain ⟨m0, m1, m2, m3⟩ := mt_cells M3.out)
    | (go_at_call 12; have K := HPM.out ((w3.alloc (.cells #[.int .u64 (N.t : Int), .int .u32 (N.e : Int), .int .u32 (N.m : Int), .int .u32 (N.f : Int)] 29)).alloc (.cells #[.int .u64 (N.t : Int), .int .u32 (N.e : Int), .int .u32 (N.m : Int), .int .u32 (N.f : Int)] 30)); ((with_reducible refine K.mono ?_); clear K; rintro r w4 ⟨a0, c0, rfl, ho, hg⟩); have SA4 := Lib.hid (Seq.owned1 HLM.out ho); have OA4 := Lib.hid ho; have G4 := Lib.hid (gtrans G3.out hg); have M4 := Lib.hid ((hg.block _ (lt_of_block M3.out) (by simp)).trans M3.out); have N4 := Lib.hid ((hg.block _ (lt_of_block N3.out) (by simp)).trans N3.out); clear hg ho m0 m1 m2 m3; obtain ⟨n0, n1, n2, n3⟩ := mt_cells N4.out)
    | (go_at_call 12; have K := mput_no w4 N (S : Int) HN.out; rw [hmn] at K; ((with_reducible refine K.mono ?_); clear K; rintro r w5 ⟨rfl, hg⟩); have G5 := Lib.hid (gtrans G4.out hg); clear hg))
  go_ret
  exact ⟨rfl, gbelow G5.out⟩

set_option maxRecDepth 30000 in
set_option maxHeartbeats 4000000 in
theorem sector_yes (w : World) (M N : Mt) (S : Nat) (hM : Good M S) (hN : Good N S) :
    Calls Try.prog 7 #[.agg (mtC M), .agg (mtC N), .int .i64 (S : Int)] w fun r w' => r = .returned (.bool true) ∧ Below w.heap.size w w' := by
  have hmc : mtC M = #[.int .u64 (M.t : Int), .int .u32 (M.e : Int), .int .u32 (M.m : Int), .int .u32 (M.f : Int)] := rfl
  have hmn : mtC N = #[.int .u64 (N.t : Int), .int .u32 (N.e : Int), .int .u32 (N.m : Int), .int .u32 (N.f : Int)] := rfl
  have HPM := Lib.hid (fun W => mput_ok W M hM.ok hM.right S hM.lo hM.hi)
  rw [hmc] at HPM
  have HLM := Lib.hid hM.len
  have HPN := Lib.hid (fun W => mput_ok W N hN.ok hN.right S hN.lo hN.hi)
  rw [hmn] at HPN
  have HLN := Lib.hid hN.len
  obtain ⟨i0, hi, hz0, hz1, hz2⟩ := info_parts infoU8
  have h1 := hM.lo
  have h2 := hM.hi
  have hS := page_sector M N S
  have h128 := page_128 M S
  have HGet := hM.get
  have HBM := Lib.hid (mpage_byt M S)
  generalize mpage M S = pM at *
  generalize mpage N S = pN at *
  have HS := Lib.hid hS
  have H128 := Lib.hid h128
  have HG := Lib.hid HGet
  clear hM hN hS h128 HGet
  go_enter Try.func7, Try.ntmps7
  go_wp2_with (first
    | (go_at_call 10; have K := awake7_any ((w.alloc (.cells #[.int .u64 (M.t : Int), .int .u32 (M.e : Int), .int .u32 (M.m : Int), .int .u32 (M.f : Int)] 25)).alloc (.cells #[.int .u64 (N.t : Int), .int .u32 (N.e : Int), .int .u32 (N.m : Int), .int .u32 (N.f : Int)] 25)); ((with_reducible refine K.mono ?_); clear K; rintro r wA ⟨rfl, hgA⟩); have GA := Lib.hid (gtrans (two_grown w (.cells #[.int .u64 (M.t : Int), .int .u32 (M.e : Int), .int .u32 (M.m : Int), .int .u32 (M.f : Int)] 25) (.cells #[.int .u64 (N.t : Int), .int .u32 (N.e : Int), .int .u32 (N.m : Int), .int .u32 (N.f : Int)] 25)) hgA); have BX := Lib.hid (two_later0 hgA); have BY := Lib.hid (two_later1 hgA); obtain ⟨x0, x1, x2, x3⟩ := mt_cells BX.out; clear hgA)
    | (go_at_call 11; have K := of7_any wA M; rw [hmc] at K; ((with_reducible refine K.mono ?_); clear K; rintro r w2 ⟨rfl, hg⟩); have hg2 := gtrans hg (two_grown w2 (.cells #[.int .u64 (M.t : Int), .int .u32 (M.e : Int), .int .u32 (M.m : Int), .int .u32 (M.f : Int)] 29) (.cells #[.int .u64 (M.t : Int), .int .u32 (M.e : Int), .int .u32 (M.m : Int), .int .u32 (M.f : Int)] 30)); have G2 := Lib.hid (gtrans GA.out hg2); have G02 := Lib.hid (Nat.le_trans GA.out.size hg.size); have M2 := Lib.hid (two_lit0 w2 (.cells #[.int .u64 (M.t : Int), .int .u32 (M.e : Int), .int .u32 (M.m : Int), .int .u32 (M.f : Int)] 29) (.cells #[.int .u64 (M.t : Int), .int .u32 (M.e : Int), .int .u32 (M.m : Int), .int .u32 (M.f : Int)] 30)); have BY2 := Lib.hid ((hg2.block _ (lt_of_block BY.out) (by simp)).trans BY.out); clear hg hg2 x0 x1 x2 x3; obtain ⟨y0, y1, y2, y3⟩ := mt_cells BY2.out)
    | (go_at_call 11; have K := of7_any ((w2.alloc (.cells #[.int .u64 (M.t : Int), .int .u32 (M.e : Int), .int .u32 (M.m : Int), .int .u32 (M.f : Int)] 29)).alloc (.cells #[.int .u64 (M.t : Int), .int .u32 (M.e : Int), .int .u32 (M.m : Int), .int .u32 (M.f : Int)] 30)) N; rw [hmn] at K; ((with_reducible refine K.mono ?_); clear K; rintro r w3 ⟨rfl, hg⟩); have hg3 := gtrans hg (two_grown w3 (.cells #[.int .u64 (N.t : Int), .int .u32 (N.e : Int), .int .u32 (N.m : Int), .int .u32 (N.f : Int)] 29) (.cells #[.int .u64 (N.t : Int), .int .u32 (N.e : Int), .int .u32 (N.m : Int), .int .u32 (N.f : Int)] 30)); have G3 := Lib.hid (gtrans G2.out hg3); have G23 := Lib.hid hg.size; have N3 := Lib.hid (two_lit0 w3 (.cells #[.int .u64 (N.t : Int), .int .u32 (N.e : Int), .int .u32 (N.m : Int), .int .u32 (N.f : Int)] 29) (.cells #[.int .u64 (N.t : Int), .int .u32 (N.e : Int), .int .u32 (N.m : Int), .int .u32 (N.f : Int)] 30)); have M3 := Lib.hid ((hg3.block _ (lt_of_block M2.out) (by simp)).trans M2.out); clear hg hg3 y0 y1 y2 y3; obtain ⟨m0, m1, m2, m3⟩ := mt_cells M3.out)
    | (go_at_call 12; have K := HPM.out ((w3.alloc (.cells #[.int .u64 (N.t : Int), .int .u32 (N.e : Int), .int .u32 (N.m : Int), .int .u32 (N.f : Int)] 29)).alloc (.cells #[.int .u64 (N.t : Int), .int .u32 (N.e : Int), .int .u32 (N.m : Int), .int .u32 (N.f : Int)] 30)); ((with_reducible refine K.mono ?_); clear K; rintro r w4 ⟨a0, c0, rfl, ho, hg⟩); have SA4 := Lib.hid (Seq.owned1 HLM.out ho); have OA4 := Lib.hid ho; have G4 := Lib.hid (gtrans G3.out hg); have M4 := Lib.hid ((hg.block _ (lt_of_block M3.out) (by simp)).trans M3.out); have N4 := Lib.hid ((hg.block _ (lt_of_block N3.out) (by simp)).trans N3.out); clear hg ho m0 m1 m2 m3; obtain ⟨n0, n1, n2, n3⟩ := mt_cells N4.out)
    | (go_at_call 12; have K := HPN.out w4; ((with_reducible refine K.mono ?_); clear K; rintro r w5 ⟨a1, c1, rfl, ho, hg⟩); have SB5 := Lib.hid (Seq.owned1 HLN.out ho); have OB5 := Lib.hid ho; have OA5 := Lib.hid (own_grown OA4.out hg); have SA5 := Lib.hid (SA4.out.grown hg); have G5 := Lib.hid (gtrans G4.out hg); have M5 := Lib.hid ((hg.block _ (lt_of_block M4.out) (by simp)).trans M4.out); have N5 := Lib.hid ((hg.block _ (lt_of_block N4.out) (by simp)).trans N4.out); have D5 := Lib.hid (show w2.heap.size < w3.heap.size from Nat.lt_of_lt_of_le (lt_of_block M2.out) G23.out); clear hg ho n0 n1 n2 n3; obtain ⟨⟨m0, m1, m2, m3⟩, mf0, mf1, mf2, mf3⟩ := cells4 M5.out; obtain ⟨⟨n0, n1, n2, n3⟩, nf0, nf1, nf2, nf3⟩ := cells4 N5.out; have hne23 : ¬ w2.heap.size = w3.heap.size := (by have := D5.out; omega); have hne32 : ¬ w3.heap.size = w2.heap.size := (by have := D5.out; omega)))
  obtain ⟨ba, ca, hva, hba, hqa⟩ := own_at OA5.out (by omega)
  obtain ⟨bb, cb, hvb, hbb, hqb⟩ := own_at OB5.out (by omega)
  injection hva with e1 e2 e3
  injection hvb with e4 e5 e6
  subst e1 e3 e4 e6
  have hca := SA5.out.cap
  have hcb := SB5.out.cap
  have hcai : (128 : Int) ≤ (c0 : Int) := by omega
  have hcbi : (128 : Int) ≤ (c1 : Int) := by omega
  have hSi : (128 : Int) ≤ (S : Int) := by omega
  have hcne : ¬ c1 = 128 := by omega
  have HQA := Lib.hid hqa
  have HQB := Lib.hid hqb
  have HKA := Lib.hid (show ∀ j u, ((pM.take 128).map (Value.int .u8))[j]? = some u → w5.cell? ⟨ba, j, none⟩ = some u from fun j u hu => by
    have hj : j < 128 ∧ j < S := by have := (List.getElem?_eq_some_iff.1 hu).1; simp [HLM.out] at this; omega
    rw [HQA.out j hj.2]
    rw [List.getElem?_map, List.getElem?_take_of_lt hj.1] at hu
    rw [List.getD_eq_getElem?_getD]
    cases hpj : pM[j]? with
    | none => rw [hpj] at hu; simp at hu
    | some x => rw [hpj] at hu; simpa using hu)
  have HKB := Lib.hid (show ∀ j u, ((pN.drop 128).map (Value.int .u8))[j]? = some u → w5.cell? ⟨bb, 128 + j, none⟩ = some u from fun j u hu => by
    have hj : 128 + j < S := by have := (List.getElem?_eq_some_iff.1 hu).1; simp [HLN.out] at this; omega
    rw [HQB.out (128 + j) hj]
    rw [List.getElem?_map, List.getElem?_drop] at hu
    rw [List.getD_eq_getElem?_getD]
    cases hpj : pN[128 + j]? with
    | none => rw [hpj] at hu; simp at hu
    | some x => rw [hpj] at hu; simpa using hu)
  clear hqa hqb mf0 mf1 mf2 mf3 nf0 nf1 nf2 nf3 hne23 hne32 n0 n1 n2 n3 m0 m1 m2 m3
  go_loop [16] (fun i => ∃ k : Nat, 128 ≤ k ∧ k ≤ S ∧ i = .int .i64 k) (fun i => S - (intOf i).toNat)
  case atStart => exact ⟨128, Nat.le_refl _, by omega, rfl⟩
  case round =>
    obtain ⟨k, hk0, hk, rfl⟩ := hrel
    by_cases hlt : k < S
    · have hck := HQA.out k hlt
      rw [H128.out k hk0] at hck
      have hki : (k : Int) < (S : Int) := by omega
      go_wp2
      go_round
      case rel => exact ⟨k + 1, by omega, by omega, by go_num⟩
      case measure => simp [intOf]; omega
    · obtain rfl : k = S := by omega
      go_wp2_with (first
        | (at_builtin; refine wpList_append_own _ rfl _ _ 33 rfl w5.heap.size 5 i0 (.int .u8 0) 1 1 Try.underlying33 hi hz0 hz1 hz2 rfl (by decide) _ _ _ rfl (World.ownsRow_nil w5 w5.heap.size _ _) ⟨ba, 0, none⟩ 128 c0 ((pM.take 128).map (Value.int .u8)) rfl (by simp [HLM.out]; omega) ?c1 bcell1 ?c3 ?c4 ?c5 ?_))
      case c1 => exact fun j u hu => HKA.out j u (by simpa using hu)
      case c3 => unfold maxLen; omega
      intro v' w6 hown hg6 _
      have hown : w6.ownsRow w5.heap.size 5 1 v' 128 ((pM.take 128).map (Value.int .u8)) := by simpa using hown
      have hg6 : w5.grownBy w6 none := hg6
      obtain ⟨b6, c6, rfl, hb6, _⟩ := own_at hown (by decide)
      have HO6 := Lib.hid hown
      have HKB6 := Lib.hid (show ∀ j u, ((pN.drop 128).map (Value.int .u8))[j]? = some u → w6.cell? ⟨bb, 128 + j, none⟩ = some u from fun j u hu => hg6.cell (HKB.out j u hu) (by simp))
      have G6 := Lib.hid (gtrans G5.out hg6)
      have M6 := Lib.hid ((hg6.block _ (lt_of_block M5.out) (by simp)).trans M5.out)
      have h56 := hg6.size
      have H56 := Lib.hid hg6
      clear hown hg6
      go_wp2_with (first
        | (at_builtin; refine wpList_append_own _ rfl _ _ 33 rfl w5.heap.size 5 i0 (.int .u8 0) 1 1 Try.underlying33 hi hz0 hz1 hz2 rfl (by decide) _ _ _ rfl HO6.out ⟨bb, 128, none⟩ (k - 128) (c1 - 128) ((pN.drop 128).map (Value.int .u8)) rfl (by simp [HLN.out]) ?d1 bcell1 ?d3 ?d4 ?d5 ?_))
      case d1 => exact fun j u hu => (by rw [Addr.add_lit]; exact HKB6.out j u (by simpa using hu))
      case d3 => unfold maxLen; omega
      case d4 => omega
      case d5 => exact h56
      intro v' w7 hown hg7 _
      have hb6b := (HO6.out.lt b6 rfl).1
      have hown : w7.ownsRow w5.heap.size 5 1 v' k (pM.map (Value.int .u8)) := by
        have e : (pM.map (Value.int .u8)).take 128 ++ (pN.map (Value.int .u8)).drop 128 = pM.map (Value.int .u8) := by rw [← List.map_take, ← List.map_drop, ← List.map_append, HS.out]
        rw [e] at hown
        exact hown
      have hg57 : w5.grownBy w7 none := gnew H56.out hg7 hb6b
      obtain ⟨b7, c7, rfl, hb7, _⟩ := own_at hown (by omega)
      have HS7 := Lib.hid (Seq.owned1 HLM.out hown)
      have G7 := Lib.hid (gtrans G5.out hg57)
      have M7 := Lib.hid ((hg57.block _ (lt_of_block M5.out) (by simp)).trans M5.out)
      clear hown hg57 hg7
      go_wp2_with (first
        | (go_at_call 17; have K := mget_as HS7.out HBM.out HG.out.2.symm HG.out.1.symm; ((with_reducible refine K.mono ?_); clear K; rintro r w8 ⟨rfl, hg⟩); have hg8 := gtrans hg (World.grownBy_alloc w8 (.cells #[.int .u64 (M.t : Int), .int .u32 (M.e : Int), .int .u32 (M.m : Int), .int .u32 (M.f : Int)] 29) none); have G8 := Lib.hid (gtrans G7.out hg8); have M8 := Lib.hid ((hg8.block _ (lt_of_block M7.out) (by simp)).trans M7.out); have K8 := Lib.hid (heap_alloc_new w8 (.cells #[.int .u64 (M.t : Int), .int .u32 (M.e : Int), .int .u32 (M.m : Int), .int .u32 (M.f : Int)] 29)); obtain ⟨⟨m0, m1, m2, m3⟩, _⟩ := cells4 M8.out; obtain ⟨⟨k0, k1, k2, k3⟩, _⟩ := cells4 K8.out; clear hg hg8))
      go_ret
      exact ⟨rfl, gbelow G8.out⟩

theorem sector_any (w : World) (M N : Mt) (size : Int) (hM : MtOk M) (hN : MtOk N) (_z0 : -9223372036854775808 ≤ size) (_z1 : size ≤ 9223372036854775807) :
    Calls Try.prog 7 #[.agg (mtC M), .agg (mtC N), .int .i64 size] w fun r w' => r = .returned (.bool true) ∧ Below w.heap.size w w' := by
  rcases gput_or w M hM size with h | ⟨S, rfl, hG⟩
  · exact sector_bad1 w M N size h hN
  · rcases gput_or w N hN (S : Int) with h | ⟨S', e, hG'⟩
    · exact sector_bad2 w M N S hG h
    · obtain rfl : S' = S := by omega
      exact sector_yes w M N S' hG hG'

open Go.ChangeShapes Go.WideShapes Go.ChangeAt
set_option linter.unusedVariables false
set_option maxRecDepth 100000 in
theorem sector_lifted (os : Os) (started : os.Started) (H : Type) (enc : TypeId × Value → H) :
    ReturnsInHanded {} Try.checked os 7 .any (Rows.metaSectorSpec.pre6 enc Try.prog Try.f7 Rows.metaSectorRow.domain false) (Rows.metaSectorSpec.post enc Try.prog Try.f7 false true false false) := by
  refine returnsInHanded_of_change (C := Try.checked) ownKnob0 started (by kernel_rfl) Try.func7
    (ChangeSpec.witness6 (enc := enc) (C := Try.checked) false ⟨#[], #[.agg #[.int .u64 0, .int .u32 0, .int .u32 0, .int .u32 0], .agg #[.int .u64 0, .int .u32 0, .int .u32 0, .int .u32 0], .int .i64 0], []⟩ 8 (by kernel_rfl) (by kernel_rfl) (by kernel_rfl) (by kernel_rfl)) ?_
  intro W base args ds gs before hval0 hW hcnd _
  have hval : ∀ (j : Nat) t v, Try.f7.params[j]? = some t → args[j]? = some v → Value.okWide Try.prog W .any base t v := hval0
  have hW' := hW
  obtain ⟨p, q, hA0, hV, rfl, hfz, hnd⟩ := hW
  have hA : DataW.TrodAll enc Try.prog W 0 (fun _ => true) true Try.f7.params.toList args.toList ds p := hA0
  rw [Try.params7] at hA hval
  obtain ⟨v0, vs0, d0, ds0, p0, q0, hargs, rfl, rfl, h0, r0⟩ := trodAll_cons hA
  obtain ⟨v1, vs1, d1, ds1, p1, q1, rfl, rfl, rfl, h1, r1⟩ := trodAll_cons r0
  obtain ⟨v2, vs2, d2, ds2, p2, q2, rfl, rfl, rfl, h2, r2⟩ := trodAll_cons r1
  obtain ⟨rfl, rfl, rfl⟩ := trodAll_nil r2
  obtain rfl : args = #[v0, v1, v2] := by cases args; simp_all
  obtain ⟨rfl, rfl⟩ := trodVars_none hV
  have lt0 : ∀ x ∈ p0, x.block < W.heap.size := by obtain ⟨m, hm⟩ := h0; exact DataW.trod_lt m _ _ _ hm
  obtain ⟨M0, w0, rfl⟩ := open_raw7 (hval 0 25 v0 rfl rfl) h0
  have lt1 : ∀ x ∈ p1, x.block < W.heap.size := by obtain ⟨m, hm⟩ := h1; exact DataW.trod_lt m _ _ _ hm
  obtain ⟨M1, w1, rfl⟩ := open_raw7 (hval 1 25 v1 rfl rfl) h1
  obtain ⟨a2, rfl, rfl, rfl, w2⟩ := open_int Try.underlying3 (hval 2 3 v2 rfl rfl) h2
  have b2 := bounds_i64 w2
  clear hA0 hval0
  refine (sector_any W M0 M1 a2 w0 w1 b2.1 b2.2).mono fun e W' ⟨he, bel⟩ => ?_
  subst he
  exact ⟨_, rfl, _, _, _, [], _, [], hW', trodAll_mk1 (shut_bool Try.underlying4 _), (trodAll_cons_mk (Below.trod laidOut0 (by kernel_rfl) (of_decide_eq_true (by kernel_rfl)) h0 bel lt0) (trodAll_cons_mk (Below.trod laidOut0 (by kernel_rfl) (of_decide_eq_true (by kernel_rfl)) h1 bel lt1) (trodAll_cons_mk (shut_int Try.underlying3 w2) trodAll_mk0))), rfl, bel.frame _, fun h => by cases h⟩

/-- MetaSector, for every input. -/
theorem metaSector_holds : Rows.MetaSectorSaid :=
  OpenClaim.holds_of_wide 7 Try.f7 rfl rfl rfl rfl rfl rfl rfl ⟨rfl, rfl, rfl, rfl, rfl⟩ rfl rfl rfl rfl rfl (by kernel_rfl) Try.func7 (by kernel_rfl)
    (of_decide_eq_true (by kernel_rfl)) (by unfold Func.isWrapper; first | (rw [if_pos (by decide +kernel)]; kernel_rfl) | (rw [if_neg (by decide +kernel)]; exact ⟨rfl, rfl⟩))
    (fun os started H enc _ => sector_lifted os started H enc)
#print axioms metaSector_holds

end Go.Proofs.Ytnggebohefbopaa
