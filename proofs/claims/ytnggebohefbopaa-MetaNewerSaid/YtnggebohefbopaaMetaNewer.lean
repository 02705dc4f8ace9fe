/-
  'MetaNewer' returns true for every input: of two pages that are right, each in its place, the one of the later change is chosen; in the other's place none is. No condition. Own work; the frame is the guide's.
-/
import Derived.Test.YtnggebohefbopaaMetY
import Derived.OwnWalk
import Derived.ProofKit
import Derived.OpenShut
import Derived.ShutString
import Derived.ChangeOld
namespace Go.Proofs.Ytnggebohefbopaa
open Go.RowKit

set_option maxRecDepth 30000 in
set_option maxHeartbeats 4000000 in
theorem newer_bad1 (w : World) (M N : Mt) (size : Int) (hM : ¬ (mright M = true ∧ 512 ≤ size ∧ size ≤ 4096)) (hN : MtOk N) :
    Calls Try.prog 8 #[.agg (mtC M), .agg (mtC N), .int .i64 size] w fun r w' => r = .returned (.bool true) ∧ Below w.heap.size w w' := by
  have hmc : mtC M = #[.int .u64 (M.t : Int), .int .u32 (M.e : Int), .int .u32 (M.m : Int), .int .u32 (M.f : Int)] := rfl
  have hmn : mtC N = #[.int .u64 (N.t : Int), .int .u32 (N.e : Int), .int .u32 (N.m : Int), .int .u32 (N.f : Int)] := rfl
  have HM := Lib.hid hM
  have HNo := Lib.hid hN
  clear hM hN
  go_enter Try.func8, Try.ntmps8
  go_wp2_with (first
    | (go_at_call 10; have K := awake7_any ((w.alloc (.cells #[.int .u64 (M.t : Int), .int .u32 (M.e : Int), .int .u32 (M.m : Int), .int .u32 (M.f : Int)] 25)).alloc (.cells #[.int .u64 (N.t : Int), .int .u32 (N.e : Int), .int .u32 (N.m : Int), .int .u32 (N.f : Int)] 25)); ((with_reducible refine K.mono ?_); clear K; rintro r wA ⟨rfl, hgA⟩); have GA := Lib.hid (gtrans (two_grown w (.cells #[.int .u64 (M.t : Int), .int .u32 (M.e : Int), .int .u32 (M.m : Int), .int .u32 (M.f : Int)] 25) (.cells #[.int .u64 (N.t : Int), .int .u32 (N.e : Int), .int .u32 (N.m : Int), .int .u32 (N.f : Int)] 25)) hgA); have BX := Lib.hid (two_later0 hgA); have BY := Lib.hid (two_later1 hgA); obtain ⟨x0, x1, x2, x3⟩ := mt_cells BX.out; clear hgA)
    | (go_at_call 11; have K := of7_any wA M; rw [hmc] at K; ((with_reducible refine K.mono ?_); clear K; rintro r w2 ⟨rfl, hg⟩); have hg2 := gtrans hg (two_grown w2 (.cells #[.int .u64 (M.t : Int), .int .u32 (M.e : Int), .int .u32 (M.m : Int), .int .u32 (M.f : Int)] 29) (.cells #[.int .u64 (M.t : Int), .int .u32 (M.e : Int), .int .u32 (M.m : Int), .int .u32 (M.f : Int)] 30)); have G2 := Lib.hid (gtrans GA.out hg2); have G02 := Lib.hid (Nat.le_trans GA.out.size hg.size); have M2 := Lib.hid (two_lit0 w2 (.cells #[.int .u64 (M.t : Int), .int .u32 (M.e : Int), .int .u32 (M.m : Int), .int .u32 (M.f : Int)] 29) (.cells #[.int .u64 (M.t : Int), .int .u32 (M.e : Int), .int .u32 (M.m : Int), .int .u32 (M.f : Int)] 30)); have BY2 := Lib.hid ((hg2.block _ (lt_of_block BY.out) (by simp)).trans BY.out); clear hg hg2 x0 x1 x2 x3; obtain ⟨y0, y1, y2, y3⟩ := mt_cells BY2.out)
    | (go_at_call 11; have K := of7_any ((w2.alloc (.cells #[.int .u64 (M.t : Int), .int .u32 (M.e : Int), .int .u32 (M.m : Int), .int .u32 (M.f : Int)] 29)).alloc (.cells #[.int .u64 (M.t : Int), .int .u32 (M.e : Int), .int .u32 (M.m : Int), .int .u32 (M.f : Int)] 30)) N; rw [hmn] at K; ((with_reducible refine K.mono ?_); clear K; rintro r w3 ⟨rfl, hg⟩); have hg3 := gtrans hg (two_grown w3 (.cells #[.int .u64 (N.t : Int), .int .u32 (N.e : Int), .int .u32 (N.m : Int), .int .u32 (N.f : Int)] 29) (.cells #[.int .u64 (N.t : Int), .int .u32 (N.e : Int), .int .u32 (N.m : Int), .int .u32 (N.f : Int)] 30)); have G3 := Lib.hid (gtrans G2.out hg3); have G23 := Lib.hid hg.size; have N3 := Lib.hid (two_lit0 w3 (.cells #[.int .u64 (N.t : Int), .int .u32 (N.e : Int), .int .u32 (N.m : Int), .int .u32 (N.f : Int)] 29) (.cells #[.int .u64 (N.t : Int), .int .u32 (N.e : Int), .int .u32 (N.m : Int), .int .u32 (N.f : Int)] 30)); have M3 := Lib.hid ((hg3.block _ (lt_of_block M2.out) (by simp)).trans M2.out); clear hg hg3 y0 y1 y2 y3; obtain ⟨m0, m1, m2, m3⟩ := mt_cells M3.out)
    | (go_at_call 12; have K := mput_no ((w3.alloc (.cells #[.int .u64 (N.t : Int), .int .u32 (N.e : Int), .int .u32 (N.m : Int), .int .u32 (N.f : Int)] 29)).alloc (.cells #[.int .u64 (N.t : Int), .int .u32 (N.e : Int), .int .u32 (N.m : Int), .int .u32 (N.f : Int)] 30)) M size HM.out; rw [hmc] at K; ((with_reducible refine K.mono ?_); clear K; rintro r w4 ⟨rfl, hg⟩); have G4 := Lib.hid (gtrans G3.out hg); have N4 := Lib.hid ((hg.block _ (lt_of_block N3.out) (by simp)).trans N3.out); clear hg m0 m1 m2 m3; obtain ⟨n0, n1, n2, n3⟩ := mt_cells N4.out)
    | (go_at_call 12; have K := mput_any w4 N HNo.out size; rw [hmn] at K; ((with_reducible refine K.mono ?_); clear K; rintro r w5 ⟨a1, n1', c1, e1, rfl, hg⟩); have G5 := Lib.hid (gtrans G4.out hg); clear hg))
  go_ret
  exact ⟨rfl, gbelow G5.out⟩

set_option maxRecDepth 30000 in
set_option maxHeartbeats 4000000 in
theorem newer_bad2 (w : World) (M N : Mt) (S : Nat) (hM : Good M S) (hN : ¬ (mright N = true ∧ 512 ≤ (S : Int) ∧ (S : Int) ≤ 4096)) :
    Calls Try.prog 8 #[.agg (mtC M), .agg (mtC N), .int .i64 (S : Int)] w fun r w' => r = .returned (.bool true) ∧ Below w.heap.size w w' := by
  have hmc : mtC M = #[.int .u64 (M.t : Int), .int .u32 (M.e : Int), .int .u32 (M.m : Int), .int .u32 (M.f : Int)] := rfl
  have hmn : mtC N = #[.int .u64 (N.t : Int), .int .u32 (N.e : Int), .int .u32 (N.m : Int), .int .u32 (N.f : Int)] := rfl
  have HPM := Lib.hid (fun W => mput_ok W M hM.ok hM.right S hM.lo hM.hi)
  rw [hmc] at HPM
  have HLM := Lib.hid hM.len
  have HN := Lib.hid hN
  clear hM hN
  go_enter Try.func8, Try.ntmps8
  go_wp2_with (first
    | (go_at_call 10; have K := awake7_any ((w.alloc (.cells #[.int .u64 (M.t : Int), .int .u32 (M.e : Int), .int .u32 (M.m : Int), .int .u32 (M.f : Int)] 25)).alloc (.cells #[.int .u64 (N.t : Int), .int .u32 (N.e : Int), .int .u32 (N.m : Int), .int .u32 (N.f : Int)] 25)); ((with_reducible refine K.mono ?_); clear K; rintro r wA ⟨rfl, hgA⟩); have GA := Lib.hid (gtrans (two_grown w (.cells #[.int .u64 (M.t : Int), .int .u32 (M.e : Int), .int .u32 (M.m : Int), .int .u32 (M.f : Int)] 25) (.cells #[.int .u64 (N.t : Int), .int .u32 (N.e : Int), .int .u32 (N.m : Int), .int .u32 (N.f : Int)] 25)) hgA); have BX := Lib.hid (two_later0 hgA); have BY := Lib.hid (two_later1 hgA); obtain ⟨x0, x1, x2, x3⟩ := mt_cells BX.out; clear hgA)
    | (go_at_call 11; have K := of7_any wA M; rw [hmc] at K; ((with_reducible refine K.mono ?_); clear K; rintro r w2 ⟨rfl, hg⟩); have hg2 := gtrans hg (two_grown w2 (.cells #[.int .u64 (M.t : Int), .int .u32 (M.e : Int), .int .u32 (M.m : Int), .int .u32 (M.f : Int)] 29) (.cells #[.int .u64 (M.t : Int), .int .u32 (M.e : Int), .int .u32 (M.m : Int), .int .u32 (M.f : Int)] 30)); have G2 := Lib.hid (gtrans GA.out hg2); have G02 := Lib.hid (Nat.le_trans GA.out.size hg.size); have M2 := Lib.hid (two_lit0 w2 (.cells #[.int .u64 (M.t : Int), .int .u32 (M.e : Int), .int .u32 (M.m : Int), .int .u32 (M.f : Int)] 29) (.cells #[.int .u64 (M.t : Int), .int .u32 (M.e : Int), .int .u32 (M.m : Int), .int .u32 (M.f : Int)] 30)); have BY2 := Lib.hid ((hg2.block _ (lt_of_block BY.out) (by simp)).trans BY.out); clear hg hg2 x0 x1 x2 x3; obtain ⟨y0, y1, y2, y3⟩ := mt_cells BY2.out)
    | (go_at_call 11; have K := of7_any ((w2.alloc (.cells #[.int .u64 (M.t : Int), .int .u32 (M.e : Int), .int .u32 (M.m : Int), .int .u32 (M.f : Int)] 29)).alloc (.cells #[.int .u64 (M.t : Int), .int .u32 (M.e : Int), .int .u32 (M.m : Int), .int .u32 (M.f : Int)] 30)) N; rw [hmn] at K; ((with_reducible refine K.mono ?_); clear K; rintro r w3 ⟨rfl, hg⟩); have hg3 := gtrans hg (two_grown w3 (.cells #[.int .u64 (N.t : Int), .int .u32 (N.e : Int), .int .u32 (N.m : Int), .int .u32 (N.f : Int)] 29) (.cells #[.int .u64 (N.t : Int), .int .u32 (N.e : Int), .int .u32 (N.m : Int), .int .u32 (N.f : Int)] 30)); have G3 := Lib.hid (gtrans G2.out hg3); have G23 := Lib.hid hg.size; have N3 := Lib.hid (two_lit0 w3 (.cells #[.int .u64 (N.t : Int), .int .u32 (N.e : Int), .int .u32 (N.m : Int), .int .u32 (N.f : Int)] 29) (.cells #[.int .u64 (N.t : Int), .int .u32 (N.e : Int), .int .u32 (N.m : Int), .int .u32 (N.f : Int)] 30)); have M3 := Lib.hid ((hg3.block _ (lt_of_block M2.out) (by simp)).trans M2.out); clear hg hg3 y0 y1 y2 y3; obtain ⟨m0, m1, m2, m3⟩ := mt_cells M3.out)
    | (go_at_call 12; have K := HPM.out ((w3.alloc (.cells #[.int .u64 (N.t : Int), .int .u32 (N.e : Int), .int .u32 (N.m : Int), .int .u32 (N.f : Int)] 29)).alloc (.cells #[.int .u64 (N.t : Int), .int .u32 (N.e : Int), .int .u32 (N.m : Int), .int .u32 (N.f : Int)] 30)); ((with_reducible refine K.mono ?_); clear K; rintro r w4 ⟨a0, c0, rfl, ho, hg⟩); have SA4 := Lib.hid (Seq.owned1 HLM.out ho); have OA4 := Lib.hid ho; have G4 := Lib.hid (gtrans G3.out hg); have M4 := Lib.hid ((hg.block _ (lt_of_block M3.out) (by simp)).trans M3.out); have N4 := Lib.hid ((hg.block _ (lt_of_block N3.out) (by simp)).trans N3.out); clear hg ho m0 m1 m2 m3; obtain ⟨n0, n1, n2, n3⟩ := mt_cells N4.out)
    | (go_at_call 12; have K := mput_no w4 N (S : Int) HN.out; rw [hmn] at K; ((with_reducible refine K.mono ?_); clear K; rintro r w5 ⟨rfl, hg⟩); have G5 := Lib.hid (gtrans G4.out hg); clear hg))
  go_ret
  exact ⟨rfl, gbelow G5.out⟩

set_option maxRecDepth 30000 in
set_option maxHeartbeats 4000000 in
theorem newer_same (w : World) (M N : Mt) (S : Nat) (hM : Good M S) (hN : Good N S) (hs : M.t % 2 = N.t % 2) :
    Calls Try.prog 8 #[.agg (mtC M), .agg (mtC N), .int .i64 (S : Int)] w fun r w' => r = .returned (.bool true) ∧ Below w.heap.size w w' := by
  have hmc : mtC M = #[.int .u64 (M.t : Int), .int .u32 (M.e : Int), .int .u32 (M.m : Int), .int .u32 (M.f : Int)] := rfl
  have hmn : mtC N = #[.int .u64 (N.t : Int), .int .u32 (N.e : Int), .int .u32 (N.m : Int), .int .u32 (N.f : Int)] := rfl
  have HPM := Lib.hid (fun W => mput_ok W M hM.ok hM.right S hM.lo hM.hi)
  rw [hmc] at HPM
  have HLM := Lib.hid hM.len
  have HPN := Lib.hid (fun W => mput_ok W N hN.ok hN.right S hN.lo hN.hi)
  rw [hmn] at HPN
  have HLN := Lib.hid hN.len
  have hsI : (M.t : Int) % 2 = (N.t : Int) % 2 := by omega
  clear hM hN hs
  go_enter Try.func8, Try.ntmps8
  go_wp2_with (first
    | (go_at_call 10; have K := awake7_any ((w.alloc (.cells #[.int .u64 (M.t : Int), .int .u32 (M.e : Int), .int .u32 (M.m : Int), .int .u32 (M.f : Int)] 25)).alloc (.cells #[.int .u64 (N.t : Int), .int .u32 (N.e : Int), .int .u32 (N.m : Int), .int .u32 (N.f : Int)] 25)); ((with_reducible refine K.mono ?_); clear K; rintro r wA ⟨rfl, hgA⟩); have GA := Lib.hid (gtrans (two_grown w (.cells #[.int .u64 (M.t : Int), .int .u32 (M.e : Int), .int .u32 (M.m : Int), .int .u32 (M.f : Int)] 25) (.cells #[.int .u64 (N.t : Int), .int .u32 (N.e : Int), .int .u32 (N.m : Int), .int .u32 (N.f : Int)] 25)) hgA); have BX := Lib.hid (two_later0 hgA); have BY := Lib.hid (two_later1 hgA); obtain ⟨x0, x1, x2, x3⟩ := mt_cells BX.out; clear hgA)
    | (go_at_call 11; have K := of7_any wA M; rw [hmc] at K; ((with_reducible refine K.mono ?_); clear K; rintro r w2 ⟨rfl, hg⟩); have hg2 := gtrans hg (two_grown w2 (.cells #[.int .u64 (M.t : Int), .int .u32 (M.e : Int), .int .u32 (M.m : Int), .int .u32 (M.f : Int)] 29) (.cells #[.int .u64 (M.t : Int), .int .u32 (M.e : Int), .int .u32 (M.m : Int), .int .u32 (M.f : Int)] 30)); have G2 := Lib.hid (gtrans GA.out hg2); have G02 := Lib.hid (Nat.le_trans GA.out.size hg.size); have M2 := Lib.hid (two_lit0 w2 (.cells #[.int .u64 (M.t : Int), .int .u32 (M.e : Int), .int .u32 (M.m : Int), .int .u32 (M.f : Int)] 29) (.cells #[.int .u64 (M.t : Int), .int .u32 (M.e : Int), .int .u32 (M.m : Int), .int .u32 (M.f : Int)] 30)); have BY2 := Lib.hid ((hg2.block _ (lt_of_block BY.out) (by simp)).trans BY.out); clear hg hg2 x0 x1 x2 x3; obtain ⟨y0, y1, y2, y3⟩ := mt_cells BY2.out)
    | (go_at_call 11; have K := of7_any ((w2.alloc (.cells #[.int .u64 (M.t : Int), .int .u32 (M.e : Int), .int .u32 (M.m : Int), .int .u32 (M.f : Int)] 29)).alloc (.cells #[.int .u64 (M.t : Int), .int .u32 (M.e : Int), .int .u32 (M.m : Int), .int .u32 (M.f : Int)] 30)) N; rw [hmn] at K; ((with_reducible refine K.mono ?_); clear K; rintro r w3 ⟨rfl, hg⟩); have hg3 := gtrans hg (two_grown w3 (.cells #[.int .u64 (N.t : Int), .int .u32 (N.e : Int), .int .u32 (N.m : Int), .int .u32 (N.f : Int)] 29) (.cells #[.int .u64 (N.t : Int), .int .u32 (N.e : Int), .int .u32 (N.m : Int), .int .u32 (N.f : Int)] 30)); have G3 := Lib.hid (gtrans G2.out hg3); have G23 := Lib.hid hg.size; have N3 := Lib.hid (two_lit0 w3 (.cells #[.int .u64 (N.t : Int), .int .u32 (N.e : Int), .int .u32 (N.m : Int), .int .u32 (N.f : Int)] 29) (.cells #[.int .u64 (N.t : Int), .int .u32 (N.e : Int), .int .u32 (N.m : Int), .int .u32 (N.f : Int)] 30)); have M3 := Lib.hid ((hg3.block _ (lt_of_block M2.out) (by simp)).trans M2.out); clear hg hg3 y0 y1 y2 y3; obtain ⟨m0, m1, m2, m3⟩ := mt_cells M3.out)
    | (go_at_call 12; have K := HPM.out ((w3.alloc (.cells #[.int .u64 (N.t : Int), .int .u32 (N.e : Int), .int .u32 (N.m : Int), .int .u32 (N.f : Int)] 29)).alloc (.cells #[.int .u64 (N.t : Int), .int .u32 (N.e : Int), .int .u32 (N.m : Int), .int .u32 (N.f : Int)] 30)); ((with_reducible refine K.mono ?_); clear K; rintro r w4 ⟨a0, c0, rfl, ho, hg⟩); have SA4 := Lib.hid (Seq.owned1 HLM.out ho); have OA4 := Lib.hid ho; have G4 := Lib.hid (gtrans G3.out hg); have M4 := Lib.hid ((hg.block _ (lt_of_block M3.out) (by simp)).trans M3.out); have N4 := Lib.hid ((hg.block _ (lt_of_block N3.out) (by simp)).trans N3.out); clear hg ho m0 m1 m2 m3; obtain ⟨n0, n1, n2, n3⟩ := mt_cells N4.out)
    | (go_at_call 12; have K := HPN.out w4; ((with_reducible refine K.mono ?_); clear K; rintro r w5 ⟨a1, c1, rfl, ho, hg⟩); have SB5 := Lib.hid (Seq.owned1 HLN.out ho); have OB5 := Lib.hid ho; have OA5 := Lib.hid (own_grown OA4.out hg); have SA5 := Lib.hid (SA4.out.grown hg); have G5 := Lib.hid (gtrans G4.out hg); have M5 := Lib.hid ((hg.block _ (lt_of_block M4.out) (by simp)).trans M4.out); have N5 := Lib.hid ((hg.block _ (lt_of_block N4.out) (by simp)).trans N4.out); have D5 := Lib.hid (show w2.heap.size < w3.heap.size from Nat.lt_of_lt_of_le (lt_of_block M2.out) G23.out); clear hg ho n0 n1 n2 n3; obtain ⟨⟨m0, m1, m2, m3⟩, mf0, mf1, mf2, mf3⟩ := cells4 M5.out; obtain ⟨⟨n0, n1, n2, n3⟩, nf0, nf1, nf2, nf3⟩ := cells4 N5.out; have hne23 : ¬ w2.heap.size = w3.heap.size := (by have := D5.out; omega); have hne32 : ¬ w3.heap.size = w2.heap.size := (by have := D5.out; omega)))
  go_ret
  exact ⟨rfl, gbelow G5.out⟩

set_option maxRecDepth 30000 in
set_option maxHeartbeats 4000000 in
theorem newer_e1 (w : World) (M N : Mt) (S : Nat) (hM : Good M S) (hN : Good N S) (h0 : M.t % 2 = 0) (h1 : N.t % 2 = 1) (hlt : M.t < N.t) :
    Calls Try.prog 8 #[.agg (mtC M), .agg (mtC N), .int .i64 (S : Int)] w fun r w' => r = .returned (.bool true) ∧ Below w.heap.size w w' := by
  have hmc : mtC M = #[.int .u64 (M.t : Int), .int .u32 (M.e : Int), .int .u32 (M.m : Int), .int .u32 (M.f : Int)] := rfl
  have hmn : mtC N = #[.int .u64 (N.t : Int), .int .u32 (N.e : Int), .int .u32 (N.m : Int), .int .u32 (N.f : Int)] := rfl
  have HPM := Lib.hid (fun W => mput_ok W M hM.ok hM.right S hM.lo hM.hi)
  rw [hmc] at HPM
  have HLM := Lib.hid hM.len
  have HPN := Lib.hid (fun W => mput_ok W N hN.ok hN.right S hN.lo hN.hi)
  rw [hmn] at HPN
  have HLN := Lib.hid hN.len
  have HC1 := Lib.hid (ch_lt hM hN h0 h1 hlt)
  have HC2 := Lib.hid (ch_wrong hM hN h0 h1)
  have HBM := Lib.hid (mpage_byt M S)
  have HBN := Lib.hid (mpage_byt N S)
  have hMi : (M.t : Int) % 2 = 0 := by omega
  have hNi : (N.t : Int) % 2 = 1 := by omega
  have hti : (M.t : Int) < (N.t : Int) := by omega
  have htd : decide ((M.t : Int) < (N.t : Int)) = true := by simpa using hti
  clear hM hN h0 h1 hlt
  generalize mpage M S = pM at *
  generalize mpage N S = pN at *
  go_enter Try.func8, Try.ntmps8
  go_wp2_with (first
    | (go_at_call 10; have K := awake7_any ((w.alloc (.cells #[.int .u64 (M.t : Int), .int .u32 (M.e : Int), .int .u32 (M.m : Int), .int .u32 (M.f : Int)] 25)).alloc (.cells #[.int .u64 (N.t : Int), .int .u32 (N.e : Int), .int .u32 (N.m : Int), .int .u32 (N.f : Int)] 25)); ((with_reducible refine K.mono ?_); clear K; rintro r wA ⟨rfl, hgA⟩); have GA := Lib.hid (gtrans (two_grown w (.cells #[.int .u64 (M.t : Int), .int .u32 (M.e : Int), .int .u32 (M.m : Int), .int .u32 (M.f : Int)] 25) (.cells #[.int .u64 (N.t : Int), .int .u32 (N.e : Int), .int .u32 (N.m : Int), .int .u32 (N.f : Int)] 25)) hgA); have BX := Lib.hid (two_later0 hgA); have BY := Lib.hid (two_later1 hgA); obtain ⟨x0, x1, x2, x3⟩ := mt_cells BX.out; clear hgA)
    | (go_at_call 11; have K := of7_any wA M; rw [hmc] at K; ((with_reducible refine K.mono ?_); clear K; rintro r w2 ⟨rfl, hg⟩); have hg2 := gtrans hg (two_grown w2 (.cells #[.int .u64 (M.t : Int), .int .u32 (M.e : Int), .int .u32 (M.m : Int), .int .u32 (M.f : Int)] 29) (.cells #[.int .u64 (M.t : Int), .int .u32 (M.e : Int), .int .u32 (M.m : Int), .int .u32 (M.f : Int)] 30)); have G2 := Lib.hid (gtrans GA.out hg2); have G02 := Lib.hid (Nat.le_trans GA.out.size hg.size); have M2 := Lib.hid (two_lit0 w2 (.cells #[.int .u64 (M.t : Int), .int .u32 (M.e : Int), .int .u32 (M.m : Int), .int .u32 (M.f : Int)] 29) (.cells #[.int .u64 (M.t : Int), .int .u32 (M.e : Int), .int .u32 (M.m : Int), .int .u32 (M.f : Int)] 30)); have BY2 := Lib.hid ((hg2.block _ (lt_of_block BY.out) (by simp)).trans BY.out); clear hg hg2 x0 x1 x2 x3; obtain ⟨y0, y1, y2, y3⟩ := mt_cells BY2.out)
    | (go_at_call 11; have K := of7_any ((w2.alloc (.cells #[.int .u64 (M.t : Int), .int .u32 (M.e : Int), .int .u32 (M.m : Int), .int .u32 (M.f : Int)] 29)).alloc (.cells #[.int .u64 (M.t : Int), .int .u32 (M.e : Int), .int .u32 (M.m : Int), .int .u32 (M.f : Int)] 30)) N; rw [hmn] at K; ((with_reducible refine K.mono ?_); clear K; rintro r w3 ⟨rfl, hg⟩); have hg3 := gtrans hg (two_grown w3 (.cells #[.int .u64 (N.t : Int), .int .u32 (N.e : Int), .int .u32 (N.m : Int), .int .u32 (N.f : Int)] 29) (.cells #[.int .u64 (N.t : Int), .int .u32 (N.e : Int), .int .u32 (N.m : Int), .int .u32 (N.f : Int)] 30)); have G3 := Lib.hid (gtrans G2.out hg3); have G23 := Lib.hid hg.size; have N3 := Lib.hid (two_lit0 w3 (.cells #[.int .u64 (N.t : Int), .int .u32 (N.e : Int), .int .u32 (N.m : Int), .int .u32 (N.f : Int)] 29) (.cells #[.int .u64 (N.t : Int), .int .u32 (N.e : Int), .int .u32 (N.m : Int), .int .u32 (N.f : Int)] 30)); have M3 := Lib.hid ((hg3.block _ (lt_of_block M2.out) (by simp)).trans M2.out); clear hg hg3 y0 y1 y2 y3; obtain ⟨m0, m1, m2, m3⟩ := mt_cells M3.out)
    | (go_at_call 12; have K := HPM.out ((w3.alloc (.cells #[.int .u64 (N.t : Int), .int .u32 (N.e : Int), .int .u32 (N.m : Int), .int .u32 (N.f : Int)] 29)).alloc (.cells #[.int .u64 (N.t : Int), .int .u32 (N.e : Int), .int .u32 (N.m : Int), .int .u32 (N.f : Int)] 30)); ((with_reducible refine K.mono ?_); clear K; rintro r w4 ⟨a0, c0, rfl, ho, hg⟩); have SA4 := Lib.hid (Seq.owned1 HLM.out ho); have OA4 := Lib.hid ho; have G4 := Lib.hid (gtrans G3.out hg); have M4 := Lib.hid ((hg.block _ (lt_of_block M3.out) (by simp)).trans M3.out); have N4 := Lib.hid ((hg.block _ (lt_of_block N3.out) (by simp)).trans N3.out); clear hg ho m0 m1 m2 m3; obtain ⟨n0, n1, n2, n3⟩ := mt_cells N4.out)
    | (go_at_call 12; have K := HPN.out w4; ((with_reducible refine K.mono ?_); clear K; rintro r w5 ⟨a1, c1, rfl, ho, hg⟩); have SB5 := Lib.hid (Seq.owned1 HLN.out ho); have OB5 := Lib.hid ho; have OA5 := Lib.hid (own_grown OA4.out hg); have SA5 := Lib.hid (SA4.out.grown hg); have G5 := Lib.hid (gtrans G4.out hg); have M5 := Lib.hid ((hg.block _ (lt_of_block M4.out) (by simp)).trans M4.out); have N5 := Lib.hid ((hg.block _ (lt_of_block N4.out) (by simp)).trans N4.out); have D5 := Lib.hid (show w2.heap.size < w3.heap.size from Nat.lt_of_lt_of_le (lt_of_block M2.out) G23.out); clear hg ho n0 n1 n2 n3; obtain ⟨⟨m0, m1, m2, m3⟩, mf0, mf1, mf2, mf3⟩ := cells4 M5.out; obtain ⟨⟨n0, n1, n2, n3⟩, nf0, nf1, nf2, nf3⟩ := cells4 N5.out; have hne23 : ¬ w2.heap.size = w3.heap.size := (by have := D5.out; omega); have hne32 : ¬ w3.heap.size = w2.heap.size := (by have := D5.out; omega)))
  have SA6 := SA5
  have SB6 := SB5
  have M6 := M5
  have N6 := N5
  have B6 := Lib.hid (gbelow G5.out)
  clear m0 m1 m2 m3 n0 n1 n2 n3 mf0 mf1 mf2 mf3 nf0 nf1 nf2 nf3 hne23 hne32
  go_wp2_with (first
    | (go_at_call 21; have K := choose_as (W := w5) SA6.out SB6.out HBM.out HBN.out HC1.out; ((with_reducible refine K.mono ?_); clear K; rintro r w6 ⟨rfl, hg⟩); have hg6 := gtrans hg (World.grownBy_alloc w6 (.cells #[.int .u64 (N.t : Int), .int .u32 (N.e : Int), .int .u32 (N.m : Int), .int .u32 (N.f : Int)] 29) none); have SA7 := Lib.hid (SA6.out.grown hg6); have SB7 := Lib.hid (SB6.out.grown hg6); have M7 := Lib.hid ((hg6.block _ (lt_of_block M6.out) (by simp)).trans M6.out); have N7 := Lib.hid ((hg6.block _ (lt_of_block N6.out) (by simp)).trans N6.out); have Q7 := Lib.hid (heap_alloc_new w6 (.cells #[.int .u64 (N.t : Int), .int .u32 (N.e : Int), .int .u32 (N.m : Int), .int .u32 (N.f : Int)] 29)); have hg6' := hg6; clear hg hg6)
    | (go_at_call 21; have K : Calls Try.prog 21 #[.slice a1 S c1, .slice a0 S c0] (w6.alloc (.cells #[.int .u64 (N.t : Int), .int .u32 (N.e : Int), .int .u32 (N.m : Int), .int .u32 (N.f : Int)] 29)) (fun r w' => r = .returned (.tuple #[.agg #[.int .u64 0, .int .u32 0, .int .u32 0, .int .u32 0], .int .i64 24]) ∧ (w6.alloc (.cells #[.int .u64 (N.t : Int), .int .u32 (N.e : Int), .int .u32 (N.m : Int), .int .u32 (N.f : Int)] 29)).grownBy w' none) := choose_as (W := w6.alloc (.cells #[.int .u64 (N.t : Int), .int .u32 (N.e : Int), .int .u32 (N.m : Int), .int .u32 (N.f : Int)] 29)) SB7.out SA7.out HBN.out HBM.out (X := mt0) HC2.out; ((with_reducible refine K.mono ?_); clear K; rintro r w8 ⟨rfl, hg⟩); have h68 : w6.heap.size < w8.heap.size := Nat.lt_of_lt_of_le (lt_of_block Q7.out) hg.size; have h68a : ¬ w6.heap.size = w8.heap.size + 1 := (by omega); have h68b : ¬ w8.heap.size + 1 = w6.heap.size := (by omega); have hg8 := gtrans hg (World.grownBy_alloc w8 (.cells #[.int .u64 0, .int .u32 0, .int .u32 0, .int .u32 0] 29) none); have hg9 := gtrans hg8 (World.grownBy_alloc _ (.cells #[.int .u64 (M.t : Int), .int .u32 (M.e : Int), .int .u32 (M.m : Int), .int .u32 (M.f : Int)] 29) none); have hgW := gtrans hg8 (World.grownBy_alloc _ (.cells #[.int .u64 (N.t : Int), .int .u32 (N.e : Int), .int .u32 (N.m : Int), .int .u32 (N.f : Int)] 29) none); have G8 := Lib.hid (B6.out.trans ((gbelow (gtrans hg6' hgW)).mono B6.out.size)); have QW := Lib.hid ((hgW.block _ (lt_of_block Q7.out) (by simp)).trans Q7.out); have M8 := Lib.hid ((hg8.block _ (lt_of_block M7.out) (by simp)).trans M7.out); have M9 := Lib.hid ((hg9.block _ (lt_of_block M7.out) (by simp)).trans M7.out); have N9 := Lib.hid ((hg9.block _ (lt_of_block N7.out) (by simp)).trans N7.out); have Q9 := Lib.hid ((hg9.block _ (lt_of_block Q7.out) (by simp)).trans Q7.out); have V9 := Lib.hid (heap_alloc_new (w8.alloc (.cells #[.int .u64 0, .int .u32 0, .int .u32 0, .int .u32 0] 29)) (.cells #[.int .u64 (M.t : Int), .int .u32 (M.e : Int), .int .u32 (M.m : Int), .int .u32 (M.f : Int)] 29)); obtain ⟨⟨k0, k1, k2, k3⟩, _⟩ := cells4 M8.out; obtain ⟨⟨m0, m1, m2, m3⟩, _⟩ := cells4 M9.out; obtain ⟨⟨n0, n1, n2, n3⟩, _⟩ := cells4 N9.out; obtain ⟨⟨q0, q1, q2, q3⟩, _⟩ := cells4 QW.out; clear hg hg8))
  go_ret
  exact ⟨rfl, G8.out⟩

set_option maxRecDepth 30000 in
set_option maxHeartbeats 4000000 in
theorem newer_e2 (w : World) (M N : Mt) (S : Nat) (hM : Good M S) (hN : Good N S) (h0 : M.t % 2 = 0) (h1 : N.t % 2 = 1) (hlt : ¬ M.t < N.t) :
    Calls Try.prog 8 #[.agg (mtC M), .agg (mtC N), .int .i64 (S : Int)] w fun r w' => r = .returned (.bool true) ∧ Below w.heap.size w w' := by
  have hmc : mtC M = #[.int .u64 (M.t : Int), .int .u32 (M.e : Int), .int .u32 (M.m : Int), .int .u32 (M.f : Int)] := rfl
  have hmn : mtC N = #[.int .u64 (N.t : Int), .int .u32 (N.e : Int), .int .u32 (N.m : Int), .int .u32 (N.f : Int)] := rfl
  have HPM := Lib.hid (fun W => mput_ok W M hM.ok hM.right S hM.lo hM.hi)
  rw [hmc] at HPM
  have HLM := Lib.hid hM.len
  have HPN := Lib.hid (fun W => mput_ok W N hN.ok hN.right S hN.lo hN.hi)
  rw [hmn] at HPN
  have HLN := Lib.hid hN.len
  have HC1 := Lib.hid (ch_ge hM hN h0 h1 hlt)
  have HC2 := Lib.hid (ch_wrong hM hN h0 h1)
  have HBM := Lib.hid (mpage_byt M S)
  have HBN := Lib.hid (mpage_byt N S)
  have hMi : (M.t : Int) % 2 = 0 := by omega
  have hNi : (N.t : Int) % 2 = 1 := by omega
  have hti : ¬ (M.t : Int) < (N.t : Int) := by omega
  have htd : decide ((M.t : Int) < (N.t : Int)) = false := by simpa using hti
  clear hM hN h0 h1 hlt
  generalize mpage M S = pM at *
  generalize mpage N S = pN at *
  go_enter Try.func8, Try.ntmps8
  go_wp2_with (first
    | (go_at_call 10; have K := awake7_any ((w.alloc (.cells #[.int .u64 (M.t : Int), .int .u32 (M.e : Int), .int .u32 (M.m : Int), .int .u32 (M.f : Int)] 25)).alloc (.cells #[.int .u64 (N.t : Int), .int .u32 (N.e : Int), .int .u32 (N.m : Int), .int .u32 (N.f : Int)] 25)); ((with_reducible refine K.mono ?_); clear K; rintro r wA ⟨rfl, hgA⟩); have GA := Lib.hid (gtrans (two_grown w (.cells #[.int .u64 (M.t : Int), .int .u32 (M.e : Int), .int .u32 (M.m : Int), .int .u32 (M.f : Int)] 25) (.cells #[.int .u64 (N.t : Int), .int .u32 (N.e : Int), .int .u32 (N.m : Int), .int .u32 (N.f : Int)] 25)) hgA); have BX := Lib.hid (two_later0 hgA); have BY := Lib.hid (two_later1 hgA); obtain ⟨x0, x1, x2, x3⟩ := mt_cells BX.out; clear hgA)
    | (go_at_call 11; have K := of7_any wA M; rw [hmc] at K; ((with_reducible refine K.mono ?_); clear K; rintro r w2 ⟨rfl, hg⟩); have hg2 := gtrans hg (two_grown w2 (.cells #[.int .u64 (M.t : Int), .int .u32 (M.e : Int), .int .u32 (M.m : Int), .int .u32 (M.f : Int)] 29) (.cells #[.int .u64 (M.t : Int), .int .u32 (M.e : Int), .int .u32 (M.m : Int), .int .u32 (M.f : Int)] 30)); have G2 := Lib.hid (gtrans GA.out hg2); have G02 := Lib.hid (Nat.le_trans GA.out.size hg.size); have M2 := Lib.hid (two_lit0 w2 (.cells #[.int .u64 (M.t : Int), .int .u32 (M.e : Int), .int .u32 (M.m : Int), .int .u32 (M.f : Int)] 29) (.cells #[.int .u64 (M.t : Int), .int .u32 (M.e : Int), .int .u32 (M.m : Int), .int .u32 (M.f : Int)] 30)); have BY2 := Lib.hid ((hg2.block _ (lt_of_block BY.out) (by simp)).trans BY.out); clear hg hg2 x0 x1 x2 x3; obtain ⟨y0, y1, y2, y3⟩ := mt_cells BY2.out)
    | (go_at_call 11; have K := of7_any ((w2.alloc (.cells #[.int .u64 (M.t : Int), .int .u32 (M.e : Int), .int .u32 (M.m : Int), .int .u32 (M.f : Int)] 29)).alloc (.cells #[.int .u64 (M.t : Int), .int .u32 (M.e : Int), .int .u32 (M.m : Int), .int .u32 (M.f : Int)] 30)) N; rw [hmn] at K; ((with_reducible refine K.mono ?_); clear K; rintro r w3 ⟨rfl, hg⟩); have hg3 := gtrans hg (two_grown w3 (.cells #[.int .u64 (N.t : Int), .int .u32 (N.e : Int), .int .u32 (N.m : Int), .int .u32 (N.f : Int)] 29) (.cells #[.int .u64 (N.t : Int), .int .u32 (N.e : Int), .int .u32 (N.m : Int), .int .u32 (N.f : Int)] 30)); have G3 := Lib.hid (gtrans G2.out hg3); have G23 := Lib.hid hg.size; have N3 := Lib.hid (two_lit0 w3 (.cells #[.int .u64 (N.t : Int), .int .u32 (N.e : Int), .int .u32 (N.m : Int), .int .u32 (N.f : Int)] 29) (.cells #[.int .u64 (N.t : Int), .int .u32 (N.e : Int), .int .u32 (N.m : Int), .int .u32 (N.f : Int)] 30)); have M3 := Lib.hid ((hg3.block _ (lt_of_block M2.out) (by simp)).trans M2.out); clear hg hg3 y0 y1 y2 y3; obtain ⟨m0, m1, m2, m3⟩ := mt_cells M3.out)
    | (go_at_call 12; have K := HPM.out ((w3.alloc (.cells #[.int .u64 (N.t : Int), .int .u32 (N.e : Int), .int .u32 (N.m : Int), .int .u32 (N.f : Int)] 29)).alloc (.cells #[.int .u64 (N.t : Int), .int .u32 (N.e : Int), .int .u32 (N.m : Int), .int .u32 (N.f : Int)] 30)); ((with_reducible refine K.mono ?_); clear K; rintro r w4 ⟨a0, c0, rfl, ho, hg⟩); have SA4 := Lib.hid (Seq.owned1 HLM.out ho); have OA4 := Lib.hid ho; have G4 := Lib.hid (gtrans G3.out hg); have M4 := Lib.hid ((hg.block _ (lt_of_block M3.out) (by simp)).trans M3.out); have N4 := Lib.hid ((hg.block _ (lt_of_block N3.out) (by simp)).trans N3.out); clear hg ho m0 m1 m2 m3; obtain ⟨n0, n1, n2, n3⟩ := mt_cells N4.out)
    | (go_at_call 12; have K := HPN.out w4; ((with_reducible refine K.mono ?_); clear K; rintro r w5 ⟨a1, c1, rfl, ho, hg⟩); have SB5 := Lib.hid (Seq.owned1 HLN.out ho); have OB5 := Lib.hid ho; have OA5 := Lib.hid (own_grown OA4.out hg); have SA5 := Lib.hid (SA4.out.grown hg); have G5 := Lib.hid (gtrans G4.out hg); have M5 := Lib.hid ((hg.block _ (lt_of_block M4.out) (by simp)).trans M4.out); have N5 := Lib.hid ((hg.block _ (lt_of_block N4.out) (by simp)).trans N4.out); have D5 := Lib.hid (show w2.heap.size < w3.heap.size from Nat.lt_of_lt_of_le (lt_of_block M2.out) G23.out); clear hg ho n0 n1 n2 n3; obtain ⟨⟨m0, m1, m2, m3⟩, mf0, mf1, mf2, mf3⟩ := cells4 M5.out; obtain ⟨⟨n0, n1, n2, n3⟩, nf0, nf1, nf2, nf3⟩ := cells4 N5.out; have hne23 : ¬ w2.heap.size = w3.heap.size := (by have := D5.out; omega); have hne32 : ¬ w3.heap.size = w2.heap.size := (by have := D5.out; omega)))
  have SA6 := SA5
  have SB6 := SB5
  have M6 := M5
  have N6 := N5
  have B6 := Lib.hid (gbelow G5.out)
  clear m0 m1 m2 m3 n0 n1 n2 n3 mf0 mf1 mf2 mf3 nf0 nf1 nf2 nf3 hne23 hne32
  go_wp2_with (first
    | (go_at_call 21; have K := choose_as (W := w5) SA6.out SB6.out HBM.out HBN.out HC1.out; ((with_reducible refine K.mono ?_); clear K; rintro r w6 ⟨rfl, hg⟩); have hg6 := gtrans hg (World.grownBy_alloc w6 (.cells #[.int .u64 (M.t : Int), .int .u32 (M.e : Int), .int .u32 (M.m : Int), .int .u32 (M.f : Int)] 29) none); have SA7 := Lib.hid (SA6.out.grown hg6); have SB7 := Lib.hid (SB6.out.grown hg6); have M7 := Lib.hid ((hg6.block _ (lt_of_block M6.out) (by simp)).trans M6.out); have N7 := Lib.hid ((hg6.block _ (lt_of_block N6.out) (by simp)).trans N6.out); have Q7 := Lib.hid (heap_alloc_new w6 (.cells #[.int .u64 (M.t : Int), .int .u32 (M.e : Int), .int .u32 (M.m : Int), .int .u32 (M.f : Int)] 29)); have hg6' := hg6; clear hg hg6)
    | (go_at_call 21; have K : Calls Try.prog 21 #[.slice a1 S c1, .slice a0 S c0] (w6.alloc (.cells #[.int .u64 (M.t : Int), .int .u32 (M.e : Int), .int .u32 (M.m : Int), .int .u32 (M.f : Int)] 29)) (fun r w' => r = .returned (.tuple #[.agg #[.int .u64 0, .int .u32 0, .int .u32 0, .int .u32 0], .int .i64 24]) ∧ (w6.alloc (.cells #[.int .u64 (M.t : Int), .int .u32 (M.e : Int), .int .u32 (M.m : Int), .int .u32 (M.f : Int)] 29)).grownBy w' none) := choose_as (W := w6.alloc (.cells #[.int .u64 (M.t : Int), .int .u32 (M.e : Int), .int .u32 (M.m : Int), .int .u32 (M.f : Int)] 29)) SB7.out SA7.out HBN.out HBM.out (X := mt0) HC2.out; ((with_reducible refine K.mono ?_); clear K; rintro r w8 ⟨rfl, hg⟩); have h68 : w6.heap.size < w8.heap.size := Nat.lt_of_lt_of_le (lt_of_block Q7.out) hg.size; have h68a : ¬ w6.heap.size = w8.heap.size + 1 := (by omega); have h68b : ¬ w8.heap.size + 1 = w6.heap.size := (by omega); have hg8 := gtrans hg (World.grownBy_alloc w8 (.cells #[.int .u64 0, .int .u32 0, .int .u32 0, .int .u32 0] 29) none); have hg9 := gtrans hg8 (World.grownBy_alloc _ (.cells #[.int .u64 (M.t : Int), .int .u32 (M.e : Int), .int .u32 (M.m : Int), .int .u32 (M.f : Int)] 29) none); have hgW := gtrans hg8 (World.grownBy_alloc _ (.cells #[.int .u64 (M.t : Int), .int .u32 (M.e : Int), .int .u32 (M.m : Int), .int .u32 (M.f : Int)] 29) none); have G8 := Lib.hid (B6.out.trans ((gbelow (gtrans hg6' hgW)).mono B6.out.size)); have QW := Lib.hid ((hgW.block _ (lt_of_block Q7.out) (by simp)).trans Q7.out); have M8 := Lib.hid ((hg8.block _ (lt_of_block M7.out) (by simp)).trans M7.out); have M9 := Lib.hid ((hg9.block _ (lt_of_block M7.out) (by simp)).trans M7.out); have N9 := Lib.hid ((hg9.block _ (lt_of_block N7.out) (by simp)).trans N7.out); have Q9 := Lib.hid ((hg9.block _ (lt_of_block Q7.out) (by simp)).trans Q7.out); have V9 := Lib.hid (heap_alloc_new (w8.alloc (.cells #[.int .u64 0, .int .u32 0, .int .u32 0, .int .u32 0] 29)) (.cells #[.int .u64 (M.t : Int), .int .u32 (M.e : Int), .int .u32 (M.m : Int), .int .u32 (M.f : Int)] 29)); obtain ⟨⟨k0, k1, k2, k3⟩, _⟩ := cells4 M8.out; obtain ⟨⟨m0, m1, m2, m3⟩, _⟩ := cells4 M9.out; obtain ⟨⟨n0, n1, n2, n3⟩, _⟩ := cells4 N9.out; obtain ⟨⟨q0, q1, q2, q3⟩, _⟩ := cells4 QW.out; clear hg hg8))
  go_ret
  exact ⟨rfl, G8.out⟩

set_option maxRecDepth 30000 in
set_option maxHeartbeats 4000000 in
theorem newer_o1 (w : World) (M N : Mt) (S : Nat) (hM : Good M S) (hN : Good N S) (h0 : N.t % 2 = 0) (h1 : M.t % 2 = 1) (hlt : N.t < M.t) :
    Calls Try.prog 8 #[.agg (mtC M), .agg (mtC N), .int .i64 (S : Int)] w fun r w' => r = .returned (.bool true) ∧ Below w.heap.size w w' := by
  have hmc : mtC M = #[.int .u64 (M.t : Int), .int .u32 (M.e : Int), .int .u32 (M.m : Int), .int .u32 (M.f : Int)] := rfl
  have hmn : mtC N = #[.int .u64 (N.t : Int), .int .u32 (N.e : Int), .int .u32 (N.m : Int), .int .u32 (N.f : Int)] := rfl
  have HPM := Lib.hid (fun W => mput_ok W M hM.ok hM.right S hM.lo hM.hi)
  rw [hmc] at HPM
  have HLM := Lib.hid hM.len
  have HPN := Lib.hid (fun W => mput_ok W N hN.ok hN.right S hN.lo hN.hi)
  rw [hmn] at HPN
  have HLN := Lib.hid hN.len
  have HC1 := Lib.hid (ch_lt hN hM h0 h1 hlt)
  have HC2 := Lib.hid (ch_wrong hN hM h0 h1)
  have HBM := Lib.hid (mpage_byt M S)
  have HBN := Lib.hid (mpage_byt N S)
  have hMi : (M.t : Int) % 2 = 1 := by omega
  have hNi : (N.t : Int) % 2 = 0 := by omega
  have hti : (N.t : Int) < (M.t : Int) := by omega
  have htd : decide ((N.t : Int) < (M.t : Int)) = true := by simpa using hti
  clear hM hN h0 h1 hlt
  generalize mpage M S = pM at *
  generalize mpage N S = pN at *
  go_enter Try.func8, Try.ntmps8
  go_wp2_with (first
    | (go_at_call 10; have K := awake7_any ((w.alloc (.cells #[.int .u64 (M.t : Int), .int .u32 (M.e : Int), .int .u32 (M.m : Int), .int .u32 (M.f : Int)] 25)).alloc (.cells #[.int .u64 (N.t : Int), .int .u32 (N.e : Int), .int .u32 (N.m : Int), .int .u32 (N.f : Int)] 25)); ((with_reducible refine K.mono ?_); clear K; rintro r wA ⟨rfl, hgA⟩); have GA := Lib.hid (gtrans (two_grown w (.cells #[.int .u64 (M.t : Int), .int .u32 (M.e : Int), .int .u32 (M.m : Int), .int .u32 (M.f : Int)] 25) (.cells #[.int .u64 (N.t : Int), .int .u32 (N.e : Int), .int .u32 (N.m : Int), .int .u32 (N.f : Int)] 25)) hgA); have BX := Lib.hid (two_later0 hgA); have BY := Lib.hid (two_later1 hgA); obtain ⟨x0, x1, x2, x3⟩ := mt_cells BX.out; clear hgA)
    | (go_at_call 11; have K := of7_any wA M; rw [hmc] at K; ((with_reducible refine K.mono ?_); clear K; rintro r w2 ⟨rfl, hg⟩); have hg2 := gtrans hg (two_grown w2 (.cells #[.int .u64 (M.t : Int), .int .u32 (M.e : Int), .int .u32 (M.m : Int), .int .u32 (M.f : Int)] 29) (.cells #[.int .u64 (M.t : Int), .int .u32 (M.e : Int), .int .u32 (M.m : Int), .int .u32 (M.f : Int)] 30)); have G2 := Lib.hid (gtrans GA.out hg2); have G02 := Lib.hid (Nat.le_trans GA.out.size hg.size); have M2 := Lib.hid (two_lit0 w2 (.cells #[.int .u64 (M.t : Int), .int .u32 (M.e : Int), .int .u32 (M.m : Int), .int .u32 (M.f : Int)] 29) (.cells #[.int .u64 (M.t : Int), .int .u32 (M.e : Int), .int .u32 (M.m : Int), .int .u32 (M.f : Int)] 30)); have BY2 := Lib.hid ((hg2.block _ (lt_of_block BY.out) (by simp)).trans BY.out); clear hg hg2 x0 x1 x2 x3; obtain ⟨y0, y1, y2, y3⟩ := mt_cells BY2.out)
    | (go_at_call 11; have K := of7_any ((w2.alloc (.cells #[.int .u64 (M.t : Int), .int .u32 (M.e : Int), .int .u32 (M.m : Int), .int .u32 (M.f : Int)] 29)).alloc (.cells #[.int .u64 (M.t : Int), .int .u32 (M.e : Int), .int .u32 (M.m : Int), .int .u32 (M.f : Int)] 30)) N; rw [hmn] at K; ((with_reducible refine K.mono ?_); clear K; rintro r w3 ⟨rfl, hg⟩); have hg3 := gtrans hg (two_grown w3 (.cells #[.int .u64 (N.t : Int), .int .u32 (N.e : Int), .int .u32 (N.m : Int), .int .u32 (N.f : Int)] 29) (.cells #[.int .u64 (N.t : Int), .int .u32 (N.e : Int), .int .u32 (N.m : Int), .int .u32 (N.f : Int)] 30)); have G3 := Lib.hid (gtrans G2.out hg3); have G23 := Lib.hid hg.size; have N3 := Lib.hid (two_lit0 w3 (.cells #[.int .u64 (N.t : Int), .int .u32 (N.e : Int), .int .u32 (N.m : Int), .int .u32 (N.f : Int)] 29) (.cells #[.int .u64 (N.t : Int), .int .u32 (N.e : Int), .int .u32 (N.m : Int), .int .u32 (N.f : Int)] 30)); have M3 := Lib.hid ((hg3.block _ (lt_of_block M2.out) (by simp)).trans M2.out); clear hg hg3 y0 y1 y2 y3; obtain ⟨m0, m1, m2, m3⟩ := mt_cells M3.out)
    | (go_at_call 12; have K := HPM.out ((w3.alloc (.cells #[.int .u64 (N.t : Int), .int .u32 (N.e : Int), .int .u32 (N.m : Int), .int .u32 (N.f : Int)] 29)).alloc (.cells #[.int .u64 (N.t : Int), .int .u32 (N.e : Int), .int .u32 (N.m : Int), .int .u32 (N.f : Int)] 30)); ((with_reducible refine K.mono ?_); clear K; rintro r w4 ⟨a0, c0, rfl, ho, hg⟩); have SA4 := Lib.hid (Seq.owned1 HLM.out ho); have OA4 := Lib.hid ho; have G4 := Lib.hid (gtrans G3.out hg); have M4 := Lib.hid ((hg.block _ (lt_of_block M3.out) (by simp)).trans M3.out); have N4 := Lib.hid ((hg.block _ (lt_of_block N3.out) (by simp)).trans N3.out); clear hg ho m0 m1 m2 m3; obtain ⟨n0, n1, n2, n3⟩ := mt_cells N4.out)
    | (go_at_call 12; have K := HPN.out w4; ((with_reducible refine K.mono ?_); clear K; rintro r w5 ⟨a1, c1, rfl, ho, hg⟩); have SB5 := Lib.hid (Seq.owned1 HLN.out ho); have OB5 := Lib.hid ho; have OA5 := Lib.hid (own_grown OA4.out hg); have SA5 := Lib.hid (SA4.out.grown hg); have G5 := Lib.hid (gtrans G4.out hg); have M5 := Lib.hid ((hg.block _ (lt_of_block M4.out) (by simp)).trans M4.out); have N5 := Lib.hid ((hg.block _ (lt_of_block N4.out) (by simp)).trans N4.out); have D5 := Lib.hid (show w2.heap.size < w3.heap.size from Nat.lt_of_lt_of_le (lt_of_block M2.out) G23.out); clear hg ho n0 n1 n2 n3; obtain ⟨⟨m0, m1, m2, m3⟩, mf0, mf1, mf2, mf3⟩ := cells4 M5.out; obtain ⟨⟨n0, n1, n2, n3⟩, nf0, nf1, nf2, nf3⟩ := cells4 N5.out; have hne23 : ¬ w2.heap.size = w3.heap.size := (by have := D5.out; omega); have hne32 : ¬ w3.heap.size = w2.heap.size := (by have := D5.out; omega)))
  have M6 := Lib.hid (other4 (store4 M5.out (.int .u64 (N.t : Int)) (.int .u32 (N.e : Int)) (.int .u32 (N.m : Int)) (.int .u32 (N.f : Int))) (show w2.heap.size ≠ w3.heap.size by have := D5.out; omega) (.int .u64 (M.t : Int)) (.int .u32 (M.e : Int)) (.int .u32 (M.m : Int)) (.int .u32 (M.f : Int)))
  have N6 := Lib.hid (store4 (other4 N5.out (show w3.heap.size ≠ w2.heap.size by have := D5.out; omega) (.int .u64 (N.t : Int)) (.int .u32 (N.e : Int)) (.int .u32 (N.m : Int)) (.int .u32 (N.f : Int))) (.int .u64 (M.t : Int)) (.int .u32 (M.e : Int)) (.int .u32 (M.m : Int)) (.int .u32 (M.f : Int)))
  have SA6 := Lib.hid (Seq.owned1 HLM.out (own_set4 (own_set4 OA5.out (lt_of_block M3.out) (.int .u64 (N.t : Int)) (.int .u32 (N.e : Int)) (.int .u32 (N.m : Int)) (.int .u32 (N.f : Int))) (lt_of_block N3.out) (.int .u64 (M.t : Int)) (.int .u32 (M.e : Int)) (.int .u32 (M.m : Int)) (.int .u32 (M.f : Int))))
  have SB6 := Lib.hid (Seq.owned1 HLN.out (own_set4 (own_set4 OB5.out (lt_of_block M4.out) (.int .u64 (N.t : Int)) (.int .u32 (N.e : Int)) (.int .u32 (N.m : Int)) (.int .u32 (N.f : Int))) (lt_of_block N4.out) (.int .u64 (M.t : Int)) (.int .u32 (M.e : Int)) (.int .u32 (M.m : Int)) (.int .u32 (M.f : Int))))
  have B6 := Lib.hid (below4 (below4 (gbelow G5.out) G02.out (.int .u64 (N.t : Int)) (.int .u32 (N.e : Int)) (.int .u32 (N.m : Int)) (.int .u32 (N.f : Int))) (Nat.le_trans G02.out (Nat.le_of_lt D5.out)) (.int .u64 (M.t : Int)) (.int .u32 (M.e : Int)) (.int .u32 (M.m : Int)) (.int .u32 (M.f : Int)))
  clear m0 m1 m2 m3 n0 n1 n2 n3 mf0 mf1 mf2 mf3 nf0 nf1 nf2 nf3 hne23 hne32
  generalize ((((((((w5.setCell ⟨w2.heap.size, 0, none⟩ (.int .u64 (N.t : Int))).setCell ⟨w2.heap.size, 1, none⟩ (.int .u32 (N.e : Int))).setCell ⟨w2.heap.size, 2, none⟩ (.int .u32 (N.m : Int))).setCell ⟨w2.heap.size, 3, none⟩ (.int .u32 (N.f : Int))).setCell ⟨w3.heap.size, 0, none⟩ (.int .u64 (M.t : Int))).setCell ⟨w3.heap.size, 1, none⟩ (.int .u32 (M.e : Int))).setCell ⟨w3.heap.size, 2, none⟩ (.int .u32 (M.m : Int))).setCell ⟨w3.heap.size, 3, none⟩ (.int .u32 (M.f : Int))) = WC at *
  go_wp2_with (first
    | (go_at_call 21; have K := choose_as (W := WC) SB6.out SA6.out HBN.out HBM.out HC1.out; ((with_reducible refine K.mono ?_); clear K; rintro r w6 ⟨rfl, hg⟩); have hg6 := gtrans hg (World.grownBy_alloc w6 (.cells #[.int .u64 (M.t : Int), .int .u32 (M.e : Int), .int .u32 (M.m : Int), .int .u32 (M.f : Int)] 29) none); have SA7 := Lib.hid (SA6.out.grown hg6); have SB7 := Lib.hid (SB6.out.grown hg6); have M7 := Lib.hid ((hg6.block _ (lt_of_block M6.out) (by simp)).trans M6.out); have N7 := Lib.hid ((hg6.block _ (lt_of_block N6.out) (by simp)).trans N6.out); have Q7 := Lib.hid (heap_alloc_new w6 (.cells #[.int .u64 (M.t : Int), .int .u32 (M.e : Int), .int .u32 (M.m : Int), .int .u32 (M.f : Int)] 29)); have hg6' := hg6; clear hg hg6)
    | (go_at_call 21; have K : Calls Try.prog 21 #[.slice a0 S c0, .slice a1 S c1] (w6.alloc (.cells #[.int .u64 (M.t : Int), .int .u32 (M.e : Int), .int .u32 (M.m : Int), .int .u32 (M.f : Int)] 29)) (fun r w' => r = .returned (.tuple #[.agg #[.int .u64 0, .int .u32 0, .int .u32 0, .int .u32 0], .int .i64 24]) ∧ (w6.alloc (.cells #[.int .u64 (M.t : Int), .int .u32 (M.e : Int), .int .u32 (M.m : Int), .int .u32 (M.f : Int)] 29)).grownBy w' none) := choose_as (W := w6.alloc (.cells #[.int .u64 (M.t : Int), .int .u32 (M.e : Int), .int .u32 (M.m : Int), .int .u32 (M.f : Int)] 29)) SA7.out SB7.out HBM.out HBN.out (X := mt0) HC2.out; ((with_reducible refine K.mono ?_); clear K; rintro r w8 ⟨rfl, hg⟩); have h68 : w6.heap.size < w8.heap.size := Nat.lt_of_lt_of_le (lt_of_block Q7.out) hg.size; have h68a : ¬ w6.heap.size = w8.heap.size + 1 := (by omega); have h68b : ¬ w8.heap.size + 1 = w6.heap.size := (by omega); have hg8 := gtrans hg (World.grownBy_alloc w8 (.cells #[.int .u64 0, .int .u32 0, .int .u32 0, .int .u32 0] 29) none); have hg9 := gtrans hg8 (World.grownBy_alloc _ (.cells #[.int .u64 (N.t : Int), .int .u32 (N.e : Int), .int .u32 (N.m : Int), .int .u32 (N.f : Int)] 29) none); have hgW := gtrans hg8 (World.grownBy_alloc _ (.cells #[.int .u64 (M.t : Int), .int .u32 (M.e : Int), .int .u32 (M.m : Int), .int .u32 (M.f : Int)] 29) none); have G8 := Lib.hid (B6.out.trans ((gbelow (gtrans hg6' hgW)).mono B6.out.size)); have QW := Lib.hid ((hgW.block _ (lt_of_block Q7.out) (by simp)).trans Q7.out); have M8 := Lib.hid ((hg8.block _ (lt_of_block M7.out) (by simp)).trans M7.out); have M9 := Lib.hid ((hg9.block _ (lt_of_block M7.out) (by simp)).trans M7.out); have N9 := Lib.hid ((hg9.block _ (lt_of_block N7.out) (by simp)).trans N7.out); have Q9 := Lib.hid ((hg9.block _ (lt_of_block Q7.out) (by simp)).trans Q7.out); have V9 := Lib.hid (heap_alloc_new (w8.alloc (.cells #[.int .u64 0, .int .u32 0, .int .u32 0, .int .u32 0] 29)) (.cells #[.int .u64 (N.t : Int), .int .u32 (N.e : Int), .int .u32 (N.m : Int), .int .u32 (N.f : Int)] 29)); obtain ⟨⟨k0, k1, k2, k3⟩, _⟩ := cells4 M8.out; obtain ⟨⟨m0, m1, m2, m3⟩, _⟩ := cells4 M9.out; obtain ⟨⟨n0, n1, n2, n3⟩, _⟩ := cells4 N9.out; obtain ⟨⟨q0, q1, q2, q3⟩, _⟩ := cells4 QW.out; clear hg hg8))
  go_ret
  exact ⟨rfl, G8.out⟩

set_option maxRecDepth 30000 in
set_option maxHeartbeats 4000000 in
theorem newer_o2 (w : World) (M N : Mt) (S : Nat) (hM : Good M S) (hN : Good N S) (h0 : N.t % 2 = 0) (h1 : M.t % 2 = 1) (hlt : ¬ N.t < M.t) :
    Calls Try.prog 8 #[.agg (mtC M), .agg (mtC N), .int .i64 (S : Int)] w fun r w' => r = .returned (.bool true) ∧ Below w.heap.size w w' := by
  have hmc : mtC M = #[.int .u64 (M.t : Int), .int .u32 (M.e : Int), .int .u32 (M.m : Int), .int .u32 (M.f : Int)] := rfl
  have hmn : mtC N = #[.int .u64 (N.t : Int), .int .u32 (N.e : Int), .int .u32 (N.m : Int), .int .u32 (N.f : Int)] := rfl
  have HPM := Lib.hid (fun W => mput_ok W M hM.ok hM.right S hM.lo hM.hi)
  rw [hmc] at HPM
  have HLM := Lib.hid hM.len
  have HPN := Lib.hid (fun W => mput_ok W N hN.ok hN.right S hN.lo hN.hi)
  rw [hmn] at HPN
  have HLN := Lib.hid hN.len
  have HC1 := Lib.hid (ch_ge hN hM h0 h1 hlt)
  have HC2 := Lib.hid (ch_wrong hN hM h0 h1)
  have HBM := Lib.hid (mpage_byt M S)
  have HBN := Lib.hid (mpage_byt N S)
  have hMi : (M.t : Int) % 2 = 1 := by omega
  have hNi : (N.t : Int) % 2 = 0 := by omega
  have hti : ¬ (N.t : Int) < (M.t : Int) := by omega
  have htd : decide ((N.t : Int) < (M.t : Int)) = false := by simpa using hti
  clear hM hN h0 h1 hlt
  generalize mpage M S = pM at *
  generalize mpage N S = pN at *
  go_enter Try.func8, Try.ntmps8
  go_wp2_with (first
    | (go_at_call 10; have K := awake7_any ((w.alloc (.cells #[.int .u64 (M.t : Int), .int .u32 (M.e : Int), .int .u32 (M.m : Int), .int .u32 (M.f : Int)] 25)).alloc (.cells #[.int .u64 (N.t : Int), .int .u32 (N.e : Int), .int .u32 (N.m : Int), .int .u32 (N.f : Int)] 25)); ((with_reducible refine K.mono ?_); clear K; rintro r wA ⟨rfl, hgA⟩); have GA := Lib.hid (gtrans (two_grown w (.cells #[.int .u64 (M.t : Int), .int .u32 (M.e : Int), .int .u32 (M.m : Int), .int .u32 (M.f : Int)] 25) (.cells #[.int .u64 (N.t : Int), .int .u32 (N.e : Int), .int .u32 (N.m : Int), .int .u32 (N.f : Int)] 25)) hgA); have BX := Lib.hid (two_later0 hgA); have BY := Lib.hid (two_later1 hgA); obtain ⟨x0, x1, x2, x3⟩ := mt_cells BX.out; clear hgA)
    | (go_at_call 11; have K := of7_any wA M; rw [hmc] at K; ((with_reducible refine K.mono ?_); clear K; rintro r w2 ⟨rfl, hg⟩); have hg2 := gtrans hg (two_grown w2 (.cells #[.int .u64 (M.t : Int), .int .u32 (M.e : Int), .int .u32 (M.m : Int), .int .u32 (M.f : Int)] 29) (.cells #[.int .u64 (M.t : Int), .int .u32 (M.e : Int), .int .u32 (M.m : Int), .int .u32 (M.f : Int)] 30)); have G2 := Lib.hid (gtrans GA.out hg2); have G02 := Lib.hid (Nat.le_trans GA.out.size hg.size); have M2 := Lib.hid (two_lit0 w2 (.cells #[.int .u64 (M.t : Int), .int .u32 (M.e : Int), .int .u32 (M.m : Int), .int .u32 (M.f : Int)] 29) (.cells #[.int .u64 (M.t : Int), .int .u32 (M.e : Int), .int .u32 (M.m : Int), .int .u32 (M.f : Int)] 30)); have BY2 := Lib.hid ((hg2.block _ (lt_of_block BY.out) (by simp)).trans BY.out); clear hg hg2 x0 x1 x2 x3; obtain ⟨y0, y1, y2, y3⟩ := mt_cells BY2.out)
    | (go_at_call 11; have K := of7_any ((w2.alloc (.cells #[.int .u64 (M.t : Int), .int .u32 (M.e : Int), .int .u32 (M.m : Int), .int .u32 (M.f : Int)] 29)).alloc (.cells #[.int .u64 (M.t : Int), .int .u32 (M.e : Int), .int .u32 (M.m : Int), .int .u32 (M.f : Int)] 30)) N; rw [hmn] at K; ((with_reducible refine K.mono ?_); clear K; rintro r w3 ⟨rfl, hg⟩); have hg3 := gtrans hg (two_grown w3 (.cells #[.int .u64 (N.t : Int), .int .u32 (N.e : Int), .int .u32 (N.m : Int), .int .u32 (N.f : Int)] 29) (.cells #[.int .u64 (N.t : Int), .int .u32 (N.e : Int), .int .u32 (N.m : Int), .int .u32 (N.f : Int)] 30)); have G3 := Lib.hid (gtrans G2.out hg3); have G23 := Lib.hid hg.size; have N3 := Lib.hid (two_lit0 w3 (.cells #[.int .u64 (N.t : Int), .int .u32 (N.e : Int), .int .u32 (N.m : Int), .int .u32 (N.f : Int)] 29) (.cells #[.int .u64 (N.t : Int), .int .u32 (N.e : Int), .int .u32 (N.m : Int), .int .u32 (N.f : Int)] 30)); have M3 := Lib.hid ((hg3.block _ (lt_of_block M2.out) (by simp)).trans M2.out); clear hg hg3 y0 y1 y2 y3; obtain ⟨m0, m1, m2, m3⟩ := mt_cells M3.out)
    | (go_at_call 12; have K := HPM.out ((w3.alloc (.cells #[.int .u64 (N.t : Int), .int .u32 (N.e : Int), .int .u32 (N.m : Int), .int .u32 (N.f : Int)] 29)).alloc (.cells #[.int .u64 (N.t : Int), .int .u32 (N.e : Int), .int .u32 (N.m : Int), .int .u32 (N.f : Int)] 30)); ((with_reducible refine K.mono ?_); clear K; rintro r w4 ⟨a0, c0, rfl, ho, hg⟩); have SA4 := Lib.hid (Seq.owned1 HLM.out ho); have OA4 := Lib.hid ho; have G4 := Lib.hid (gtrans G3.out hg); have M4 := Lib.hid ((hg.block _ (lt_of_block M3.out) (by simp)).trans M3.out); have N4 := Lib.hid ((hg.block _ (lt_of_block N3.out) (by simp)).trans N3.out); clear hg ho m0 m1 m2 m3; obtain ⟨n0, n1, n2, n3⟩ := mt_cells N4.out)
    | (go_at_call 12; have K := HPN.out w4; ((with_reducible refine K.mono ?_); clear K; rintro r w5 ⟨a1, c1, rfl, ho, hg⟩); have SB5 := Lib.hid (Seq.owned1 HLN.out ho); have OB5 := Lib.hid ho; have OA5 := Lib.hid (own_grown OA4.out hg); have SA5 := Lib.hid (SA4.out.grown hg); have G5 := Lib.hid (gtrans G4.out hg); have M5 := Lib.hid ((hg.block _ (lt_of_block M4.out) (by simp)).trans M4.out); have N5 := Lib.hid ((hg.block _ (lt_of_block N4.out) (by simp)).trans N4.out); have D5 := Lib.hid (show w2.heap.size < w3.heap.size from Nat.lt_of_lt_of_le (lt_of_block M2.out) G23.out); clear hg ho n0 n1 n2 n3; obtain ⟨⟨m0, m1, m2, m3⟩, mf0, mf1, mf2, mf3⟩ := cells4 M5.out; obtain ⟨⟨n0, n1, n2, n3⟩, nf0, nf1, nf2, nf3⟩ := cells4 N5.out; have hne23 : ¬ w2.heap.size = w3.heap.size := (by have := D5.out; omega); have hne32 : ¬ w3.heap.size = w2.heap.size := (by have := D5.out; omega)))
  have M6 := Lib.hid (other4 (store4 M5.out (.int .u64 (N.t : Int)) (.int .u32 (N.e : Int)) (.int .u32 (N.m : Int)) (.int .u32 (N.f : Int))) (show w2.heap.size ≠ w3.heap.size by have := D5.out; omega) (.int .u64 (M.t : Int)) (.int .u32 (M.e : Int)) (.int .u32 (M.m : Int)) (.int .u32 (M.f : Int)))
  have N6 := Lib.hid (store4 (other4 N5.out (show w3.heap.size ≠ w2.heap.size by have := D5.out; omega) (.int .u64 (N.t : Int)) (.int .u32 (N.e : Int)) (.int .u32 (N.m : Int)) (.int .u32 (N.f : Int))) (.int .u64 (M.t : Int)) (.int .u32 (M.e : Int)) (.int .u32 (M.m : Int)) (.int .u32 (M.f : Int)))
  have SA6 := Lib.hid (Seq.owned1 HLM.out (own_set4 (own_set4 OA5.out (lt_of_block M3.out) (.int .u64 (N.t : Int)) (.int .u32 (N.e : Int)) (.int .u32 (N.m : Int)) (.int .u32 (N.f : Int))) (lt_of_block N3.out) (.int .u64 (M.t : Int)) (.int .u32 (M.e : Int)) (.int .u32 (M.m : Int)) (.int .u32 (M.f : Int))))
  have SB6 := Lib.hid (Seq.owned1 HLN.out (own_set4 (own_set4 OB5.out (lt_of_block M4.out) (.int .u64 (N.t : Int)) (.int .u32 (N.e : Int)) (.int .u32 (N.m : Int)) (.int .u32 (N.f : Int))) (lt_of_block N4.out) (.int .u64 (M.t : Int)) (.int .u32 (M.e : Int)) (.int .u32 (M.m : Int)) (.int .u32 (M.f : Int))))
  have B6 := Lib.hid (below4 (below4 (gbelow G5.out) G02.out (.int .u64 (N.t : Int)) (.int .u32 (N.e : Int)) (.int .u32 (N.m : Int)) (.int .u32 (N.f : Int))) (Nat.le_trans G02.out (Nat.le_of_lt D5.out)) (.int .u64 (M.t : Int)) (.int .u32 (M.e : Int)) (.int .u32 (M.m : Int)) (.int .u32 (M.f : Int)))
  clear m0 m1 m2 m3 n0 n1 n2 n3 mf0 mf1 mf2 mf3 nf0 nf1 nf2 nf3 hne23 hne32
  generalize ((((((((w5.setCell ⟨w2.heap.size, 0, none⟩ (.int .u64 (N.t : Int))).setCell ⟨w2.heap.size, 1, none⟩ (.int .u32 (N.e : Int))).setCell ⟨w2.heap.size, 2, none⟩ (.int .u32 (N.m : Int))).setCell ⟨w2.heap.size, 3, none⟩ (.int .u32 (N.f : Int))).setCell ⟨w3.heap.size, 0, none⟩ (.int .u64 (M.t : Int))).setCell ⟨w3.heap.size, 1, none⟩ (.int .u32 (M.e : Int))).setCell ⟨w3.heap.size, 2, none⟩ (.int .u32 (M.m : Int))).setCell ⟨w3.heap.size, 3, none⟩ (.int .u32 (M.f : Int))) = WC at *
  go_wp2_with (first
    | (go_at_call 21; have K := choose_as (W := WC) SB6.out SA6.out HBN.out HBM.out HC1.out; ((with_reducible refine K.mono ?_); clear K; rintro r w6 ⟨rfl, hg⟩); have hg6 := gtrans hg (World.grownBy_alloc w6 (.cells #[.int .u64 (N.t : Int), .int .u32 (N.e : Int), .int .u32 (N.m : Int), .int .u32 (N.f : Int)] 29) none); have SA7 := Lib.hid (SA6.out.grown hg6); have SB7 := Lib.hid (SB6.out.grown hg6); have M7 := Lib.hid ((hg6.block _ (lt_of_block M6.out) (by simp)).trans M6.out); have N7 := Lib.hid ((hg6.block _ (lt_of_block N6.out) (by simp)).trans N6.out); have Q7 := Lib.hid (heap_alloc_new w6 (.cells #[.int .u64 (N.t : Int), .int .u32 (N.e : Int), .int .u32 (N.m : Int), .int .u32 (N.f : Int)] 29)); have hg6' := hg6; clear hg hg6)
    | (go_at_call 21; have K : Calls Try.prog 21 #[.slice a0 S c0, .slice a1 S c1] (w6.alloc (.cells #[.int .u64 (N.t : Int), .int .u32 (N.e : Int), .int .u32 (N.m : Int), .int .u32 (N.f : Int)] 29)) (fun r w' => r = .returned (.tuple #[.agg #[.int .u64 0, .int .u32 0, .int .u32 0, .int .u32 0], .int .i64 24]) ∧ (w6.alloc (.cells #[.int .u64 (N.t : Int), .int .u32 (N.e : Int), .int .u32 (N.m : Int), .int .u32 (N.f : Int)] 29)).grownBy w' none) := choose_as (W := w6.alloc (.cells #[.int .u64 (N.t : Int), .int .u32 (N.e : Int), .int .u32 (N.m : Int), .int .u32 (N.f : Int)] 29)) SA7.out SB7.out HBM.out HBN.out (X := mt0) HC2.out; ((with_reducible refine K.mono ?_); clear K; rintro r w8 ⟨rfl, hg⟩); have h68 : w6.heap.size < w8.heap.size := Nat.lt_of_lt_of_le (lt_of_block Q7.out) hg.size; have h68a : ¬ w6.heap.size = w8.heap.size + 1 := (by omega); have h68b : ¬ w8.heap.size + 1 = w6.heap.size := (by omega); have hg8 := gtrans hg (World.grownBy_alloc w8 (.cells #[.int .u64 0, .int .u32 0, .int .u32 0, .int .u32 0] 29) none); have hg9 := gtrans hg8 (World.grownBy_alloc _ (.cells #[.int .u64 (N.t : Int), .int .u32 (N.e : Int), .int .u32 (N.m : Int), .int .u32 (N.f : Int)] 29) none); have hgW := gtrans hg8 (World.grownBy_alloc _ (.cells #[.int .u64 (N.t : Int), .int .u32 (N.e : Int), .int .u32 (N.m : Int), .int .u32 (N.f : Int)] 29) none); have G8 := Lib.hid (B6.out.trans ((gbelow (gtrans hg6' hgW)).mono B6.out.size)); have QW := Lib.hid ((hgW.block _ (lt_of_block Q7.out) (by simp)).trans Q7.out); have M8 := Lib.hid ((hg8.block _ (lt_of_block M7.out) (by simp)).trans M7.out); have M9 := Lib.hid ((hg9.block _ (lt_of_block M7.out) (by simp)).trans M7.out); have N9 := Lib.hid ((hg9.block _ (lt_of_block N7.out) (by simp)).trans N7.out); have Q9 := Lib.hid ((hg9.block _ (lt_of_block Q7.out) (by simp)).trans Q7.out); have V9 := Lib.hid (heap_alloc_new (w8.alloc (.cells #[.int .u64 0, .int .u32 0, .int .u32 0, .int .u32 0] 29)) (.cells #[.int .u64 (N.t : Int), .int .u32 (N.e : Int), .int .u32 (N.m : Int), .int .u32 (N.f : Int)] 29)); obtain ⟨⟨k0, k1, k2, k3⟩, _⟩ := cells4 M8.out; obtain ⟨⟨m0, m1, m2, m3⟩, _⟩ := cells4 M9.out; obtain ⟨⟨n0, n1, n2, n3⟩, _⟩ := cells4 N9.out; obtain ⟨⟨q0, q1, q2, q3⟩, _⟩ := cells4 QW.out; clear hg hg8))
  go_ret
  exact ⟨rfl, G8.out⟩

theorem newer_any (w : World) (M N : Mt) (size : Int) (hM : MtOk M) (hN : MtOk N) (_z0 : -9223372036854775808 ≤ size) (_z1 : size ≤ 9223372036854775807) :
    Calls Try.prog 8 #[.agg (mtC M), .agg (mtC N), .int .i64 size] w fun r w' => r = .returned (.bool true) ∧ Below w.heap.size w w' := by
  rcases gput_or w M hM size with h | ⟨S, rfl, hG⟩
  · exact newer_bad1 w M N size h hN
  · rcases gput_or w N hN (S : Int) with h | ⟨S', e, hG'⟩
    · exact newer_bad2 w M N S hG h
    · obtain rfl : S' = S := by omega
      rcases (by omega : M.t % 2 = N.t % 2 ∨ (M.t % 2 = 0 ∧ N.t % 2 = 1) ∨ (M.t % 2 = 1 ∧ N.t % 2 = 0)) with hs | ⟨h0, h1⟩ | ⟨h1, h0⟩
      · exact newer_same w M N S' hG hG' hs
      · by_cases hl : M.t < N.t
        · exact newer_e1 w M N S' hG hG' h0 h1 hl
        · exact newer_e2 w M N S' hG hG' h0 h1 hl
      · by_cases hl : N.t < M.t
        · exact newer_o1 w M N S' hG hG' h0 h1 hl
        · exact newer_o2 w M N S' hG hG' h0 h1 hl

open Go.ChangeShapes Go.WideShapes Go.ChangeAt
set_option linter.unusedVariables false
set_option maxRecDepth 100000 in
theorem newer_lifted (os : Os) (started : os.Started) (H : Type) (enc : TypeId × Value → H) :
    ReturnsInHanded {} Try.checked os 8 .any (Rows.metaNewerSpec.pre6 enc Try.prog Try.f8 Rows.metaNewerRow.domain false) (Rows.metaNewerSpec.post enc Try.prog Try.f8 false true false false) := by
  refine returnsInHanded_of_change (C := Try.checked) ownKnob0 started (by kernel_rfl) Try.func8
    (ChangeSpec.witness6 (enc := enc) (C := Try.checked) false ⟨#[], #[.agg #[.int .u64 0, .int .u32 0, .int .u32 0, .int .u32 0], .agg #[.int .u64 0, .int .u32 0, .int .u32 0, .int .u32 0], .int .i64 0], []⟩ 8 (by kernel_rfl) (by kernel_rfl) (by kernel_rfl) (by kernel_rfl)) ?_
  intro W base args ds gs before hval0 hW hcnd _
  have hval : ∀ (j : Nat) t v, Try.f8.params[j]? = some t → args[j]? = some v → Value.okWide Try.prog W .any base t v := hval0
  have hW' := hW
  obtain ⟨p, q, hA0, hV, rfl, hfz, hnd⟩ := hW
  have hA : DataW.TrodAll enc Try.prog W 0 (fun _ => true) true Try.f8.params.toList args.toList ds p := hA0
  rw [Try.params8] at hA hval
  obtain ⟨v0, vs0, d0, ds0, p0, q0, hargs, rfl, rfl, h0, r0⟩ := trodAll_cons hA
  obtain ⟨v1, vs1, d1, ds1, p1, q1, rfl, rfl, rfl, h1, r1⟩ := trodAll_cons r0
  obtain ⟨v2, vs2, d2, ds2, p2, q2, rfl, rfl, rfl, h2, r2⟩ := trodAll_cons r1
  obtain ⟨rfl, rfl, rfl⟩ := trodAll_nil r2
  obtain rfl : args = #[v0, v1, v2] := by cases args; simp_all
  obtain ⟨rfl, rfl⟩ := trodVars_none hV
  have lt0 : ∀ x ∈ p0, x.block < W.heap.size := by obtain ⟨m, hm⟩ := h0; exact DataW.trod_lt m _ _ _ hm
  obtain ⟨M0, w0, rfl⟩ := open_raw7 (hval 0 25 v0 rfl rfl) h0
  have lt1 : ∀ x ∈ p1, x.block < W.heap.size := by obtain ⟨m, hm⟩ := h1; exact DataW.trod_lt m _ _ _ hm
  obtain ⟨M1, w1, rfl⟩ := open_raw7 (hval 1 25 v1 rfl rfl) h1
  obtain ⟨a2, rfl, rfl, rfl, w2⟩ := open_int Try.underlying3 (hval 2 3 v2 rfl rfl) h2
  have b2 := bounds_i64 w2
  clear hA0 hval0
  refine (newer_any W M0 M1 a2 w0 w1 b2.1 b2.2).mono fun e W' ⟨he, bel⟩ => ?_
  subst he
  exact ⟨_, rfl, _, _, _, [], _, [], hW', trodAll_mk1 (shut_bool Try.underlying4 _), (trodAll_cons_mk (Below.trod laidOut0 (by kernel_rfl) (of_decide_eq_true (by kernel_rfl)) h0 bel lt0) (trodAll_cons_mk (Below.trod laidOut0 (by kernel_rfl) (of_decide_eq_true (by kernel_rfl)) h1 bel lt1) (trodAll_cons_mk (shut_int Try.underlying3 w2) trodAll_mk0))), rfl, bel.frame _, fun h => by cases h⟩

/-- MetaNewer, for every input. -/
theorem metaNewer_holds : Rows.MetaNewerSaid :=
  OpenClaim.holds_of_wide 8 Try.f8 rfl rfl rfl rfl rfl rfl rfl ⟨rfl, rfl, rfl, rfl, rfl⟩ rfl rfl rfl rfl rfl (by kernel_rfl) Try.func8 (by kernel_rfl)
    (of_decide_eq_true (by kernel_rfl)) (by unfold Func.isWrapper; first | (rw [if_pos (by decide +kernel)]; kernel_rfl) | (rw [if_neg (by decide +kernel)]; exact ⟨rfl, rfl⟩))
    (fun os started H enc _ => newer_lifted os started H enc)
#print axioms metaNewer_holds

end Go.Proofs.Ytnggebohefbopaa
