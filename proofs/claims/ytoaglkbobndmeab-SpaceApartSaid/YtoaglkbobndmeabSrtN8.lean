/-
  slices.pdqsortOrdered at pages: the two parts. Own work; printed by tools/sort/mkpdq2.py.
-/
import Derived.Test.YtoaglkbobndmeabSrtM
namespace Go.Proofs.Ytoaglkbobndmeab
open Go.RowKit Go.Maps

set_option maxRecDepth 1000000 in
set_option maxHeartbeats 8000000 in
theorem pdq8_any (w0 w : World) (blk cap a b A B n l : Nat) (d dk : Array Nat) (h : RowAt w0 blk cap w dk) (hq : QInv a b A B d dk) (hn : n = d.size) (hsz : n ≤ 100000) (hl : (B : Int) - (A : Int) = (l : Int)) (lm2 pv M : Nat) (hpv1 : A ≤ pv) (hpv2 : pv < B) (nd : d.toList.Nodup) (h12 : ¬ l ≤ 12) (hlm2 : lm2 ≤ 1000) (hM : B - A ≤ M)
    (IH : ∀ (w : World) (a b lim : Nat) (d : Array Nat), b - a < M → RowAt w0 blk cap w d → a ≤ b → b ≤ d.size → d.size ≤ 100000 → d.toList.Nodup → Sort.Below ltN a b d → lim ≤ 1000 →
      Calls Try.prog 40 #[.slice (some ⟨blk, 0, none⟩) d.size cap, .int .i64 (a : Int), .int .i64 (b : Int), .int .i64 (lim : Int)] w fun r w' => PdqR w0 blk cap d a b r w')
    (u8 u9 u14 u15 u16 u17 u18 u94 u95 u96 u97 u98 u99 u100 u101 u102 u103 u104 u105 u106 u107 u108 u109 u110 u111 u112 u113 u114 u115 u116 u117 u118 u119 u120 u121 u122 u123 u124 u125 u126 u127 u128 u129 u130 u131 u132 u133 v4 v5 v6 v7 v12 v13 v19 v20 v21 v22 v23 v24 v25 v26 v27 v28 v29 v30 v31 v32 v33 v34 v35 v36 v37 v38 v39 v40 v41 v42 v43 v44 v45 v46 v47 v48 v49 v50 v51 v52 v53 v54 v55 v56 v57 v58 v59 v60 v61 v62 v63 v64 v65 v66 v67 v68 v69 v70 v71 v72 v73 v74 v75 v76 v77 v78 v79 v80 v81 v82 v83 v84 v85 v86 v87 v88 v89 v90 v91 v92 v93 : Value) (Kc : Act → World → Prop) (Qc : Exit → Act → World → Prop)
    (hK : ∀ (x14 x15 x16 x17 x18 x94 x95 x96 x97 x98 x99 x100 x101 x102 x103 x104 x105 x106 x107 x108 x109 x110 x111 x112 x113 x114 x115 x116 x117 x118 x119 x120 x121 x122 x123 x124 x125 x126 x127 x128 x129 x130 x131 x132 x133 : Value) (A' B' : Nat) (wb' wp' : Bool) (dk5 : Array Nat) (w5 : World), B' - A' < B - A → A' ≤ B' → RowAt w0 blk cap w5 dk5 → QInv a b A' B' d dk5 → Qc .normal ⟨#[.slice (some ⟨blk, 0, none⟩) n cap, .int .i64 (A' : Int), .int .i64 (B' : Int), .int .i64 (lm2 : Int), v4, v5, v6, v7, .bool wb', .bool wp', .int .i64 (l : Int), .int .i64 (pv : Int), v12, v13, x14, x15, x16, x17, x18, v19, v20, v21, v22, v23, v24, v25, v26, v27, v28, v29, v30, v31, v32, v33, v34, v35, v36, v37, v38, v39, v40, v41, v42, v43, v44, v45, v46, v47, v48, v49, v50, v51, v52, v53, v54, v55, v56, v57, v58, v59, v60, v61, v62, v63, v64, v65, v66, v67, v68, v69, v70, v71, v72, v73, v74, v75, v76, v77, v78, v79, v80, v81, v82, v83, v84, v85, v86, v87, v88, v89, v90, v91, v92, v93, x94, x95, x96, x97, x98, x99, x100, x101, x102, x103, x104, x105, x106, x107, x108, x109, x110, x111, x112, x113, x114, x115, x116, x117, x118, x119, x120, x121, x122, x123, x124, x125, x126, x127, x128, x129, x130, x131, x132, x133], []⟩ w5) :
    Code.wp Try.prog pdqS8 Qc ⟨#[.slice (some ⟨blk, 0, none⟩) n cap, .int .i64 (A : Int), .int .i64 (B : Int), .int .i64 (lm2 : Int), v4, v5, v6, v7, u8, u9, .int .i64 (l : Int), .int .i64 (pv : Int), v12, v13, u14, u15, u16, u17, u18, v19, v20, v21, v22, v23, v24, v25, v26, v27, v28, v29, v30, v31, v32, v33, v34, v35, v36, v37, v38, v39, v40, v41, v42, v43, v44, v45, v46, v47, v48, v49, v50, v51, v52, v53, v54, v55, v56, v57, v58, v59, v60, v61, v62, v63, v64, v65, v66, v67, v68, v69, v70, v71, v72, v73, v74, v75, v76, v77, v78, v79, v80, v81, v82, v83, v84, v85, v86, v87, v88, v89, v90, v91, v92, v93, u94, u95, u96, u97, u98, u99, u100, u101, u102, u103, u104, u105, u106, u107, u108, u109, u110, u111, u112, u113, u114, u115, u116, u117, u118, u119, u120, u121, u122, u123, u124, u125, u126, u127, u128, u129, u130, u131, u132, u133], []⟩ w := by
  conv => arg 2; whnf
  have HK := Lib.hid hK
  have HR := Lib.hid h
  have HQ := Lib.hid hq
  have HN := Lib.hid hn
  have hAB := hq.AB
  have hBn : B ≤ n := by have := hq.bk; rw [hq.size, ← hn] at this; exact this
  have hn5 : (n : Int) ≤ 100000 := by omega
  have hA5 : (A : Int) ≤ 100000 := by omega
  have hB5 : (B : Int) ≤ 100000 := by omega
  have hl5 : (l : Int) ≤ 100000 := by omega
  clear hK h hq hn
  have ND := Lib.hid nd
  have HI := Lib.hid IH
  clear nd IH
  go_wp2_with fail
  have K := partition_any w0 w blk cap A B pv dk HR.out HQ.out.bk (by rw [HQ.out.size, ← HN.out]; exact hsz) (by omega) hpv1 hpv2
  rw [show (dk).size = n from HQ.out.size.trans HN.out.symm] at K
  (with_reducible refine K.mono ?_)
  clear K
  rintro r w5 ⟨m, pt, dk4, rfl, hr4, hp4, hm1, hm2, hlt4, hge4⟩
  have HR4 := Lib.hid hr4
  have HQ4 := Lib.hid (HQ.out.turn hp4)
  have HLT4 := Lib.hid hlt4
  have HGE4 := Lib.hid hge4
  obtain ⟨lf, hlf⟩ : ∃ lf : Nat, (m : Int) - (A : Int) = (lf : Int) := ⟨m - A, by omega⟩
  obtain ⟨rt, hrt⟩ : ∃ rt : Nat, (B : Int) - (m : Int) = (rt : Int) := ⟨B - m, by omega⟩
  have hm5 : (m : Int) ≤ 100000 := by omega
  clear hr4 hp4 hlt4 hge4
  have HM1 := Lib.hid (show (m : Int) + 1 = ((m + 1 : Nat) : Int) by omega)
  by_cases hlr : lf < rt
  · have hlri : (lf : Int) < (rt : Int) := by omega
    go_wp2_with (first
      | (go_at_call 40; have K := HI.out w5 A m lm2 dk4 (by omega) HR4.out (by omega) (by have := HQ4.out.bk; omega) (by rw [HQ4.out.size, ← HN.out]; exact hsz) (nodup_perm HQ4.out.perm HQ4.out.bd ND.out) (below_left HQ4.out hm2) (by omega); rw [show dk4.size = n from HQ4.out.size.trans HN.out.symm] at K; (with_reducible refine K.mono ?_); clear K; rintro r w6 ⟨rfl, dk5, hr5, hp5, hs5⟩; have HR5 := Lib.hid hr5; have HQ5 := Lib.hid (HQ4.out.left hm1 hm2 HLT4.out HGE4.out hp5 hs5); clear hr5 hp5 hs5))
    rw [HM1.out]
    exact HK.out _ _ _ _ _ _ _ _ _ _ _ _ _ _ _ _ _ _ _ _ _ _ _ _ _ _ _ _ _ _ _ _ _ _ _ _ _ _ _ _ _ _ _ _ _ (m + 1) B _ _ dk5 w6 (by omega) (by omega) HR5.out HQ5.out
  · have hlri : ¬ (lf : Int) < (rt : Int) := by omega
    go_wp2_with (first
      | (go_at_call 40; have K := HI.out w5 (m + 1) B lm2 dk4 (by omega) HR4.out (by omega) HQ4.out.bk (by rw [HQ4.out.size, ← HN.out]; exact hsz) (nodup_perm HQ4.out.perm HQ4.out.bd ND.out) (below_right HGE4.out) (by omega); rw [show dk4.size = n from HQ4.out.size.trans HN.out.symm, ← HM1.out] at K; (with_reducible refine K.mono ?_); clear K; rintro r w6 ⟨rfl, dk5, hr5, hp5, hs5⟩; have HR5 := Lib.hid hr5; have HQ5 := Lib.hid (HQ4.out.right hm1 hm2 HLT4.out HGE4.out hp5 hs5); clear hr5 hp5 hs5))
    exact HK.out _ _ _ _ _ _ _ _ _ _ _ _ _ _ _ _ _ _ _ _ _ _ _ _ _ _ _ _ _ _ _ _ _ _ _ _ _ _ _ _ _ _ _ _ _ A m _ _ dk5 w6 (by omega) (by omega) HR5.out HQ5.out

end Go.Proofs.Ytoaglkbobndmeab
