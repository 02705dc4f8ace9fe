/-
  The document's Right, in parts: was a page seen. Own work.
-/
import Derived.Test.YtoaglkbobndmeabSpcDB
import Derived.Deep.CutBlock
import Derived.Deep.OwnRows

namespace Go.Proofs.Ytoaglkbobndmeab
open Go.RowKit

noncomputable def grBody : Code := (Try.f11.body).getD .skip
noncomputable def grPages : Code := (blk 2 grBody).getD .skip
noncomputable def grSeen : Code := (blk 4 grBody).getD .skip
theorem noneIn_congr {ps s s' : List Nat} (h : ∀ x, x ∈ s ↔ x ∈ s') : noneIn ps s = noneIn ps s' := by
  unfold noneIn
  congr 1
  funext p
  simp only [h p]
theorem okRecs_congr (stop : Nat) : ∀ (l : List Rc) (last : Option Nat) (s s' : List Nat), (∀ x, x ∈ s ↔ x ∈ s') → okRecs stop last s l = okRecs stop last s' l
  | [], _, _, _, _ => rfl
  | r :: l, last, s, s', h => by
    unfold okRecs
    rw [noneIn_congr h, okRecs_congr stop l (some r.1) (insAll r.2 s) (insAll r.2 s') (fun x => by rw [mem_insAll, mem_insAll, h x])]
def okLast (o : Option Nat) (t : Nat) : Bool := match o with | none => true | some u => decide (u < t)
theorem okRecs_step {stop k : Nat} {l : List Rc} {r : Rc} (hr : l[k]? = some r) : okRecs stop (lastOf l k) (allOf (l.take k)) (l.drop k) =
    (okLast (lastOf l k) r.1 && okPages r.2 stop && noneIn r.2 (allOf (l.take k)) && okRecs stop (lastOf l (k + 1)) (allOf (l.take (k + 1))) (l.drop (k + 1))) := by
  obtain ⟨hk, he⟩ := List.getElem?_eq_some_iff.1 hr
  rw [List.drop_eq_getElem_cons hk, he, okRecs_cons]
  show (okLast (lastOf l k) r.1 && _ && _ && _) = _
  congr 1
  rw [show lastOf l (k + 1) = some r.1 by simp [lastOf, hr]]
  refine okRecs_congr stop _ _ _ _ fun x => ?_
  rw [mem_insAll, take_snoc hr, allOf_snoc, List.mem_append]
  exact Or.comm
theorem srt_adj : ∀ {l : List Nat}, (∀ q, 0 < q → ∀ a b, l[q - 1]? = some a → l[q]? = some b → a < b) → Srt l
  | [], _ => List.Pairwise.nil
  | [x], _ => by simp [Srt]
  | x :: y :: l, h => by
    have ih : Srt (y :: l) := srt_adj fun q hq a b ha hb => h (q + 1) (by omega) a b (by
      rw [show q + 1 - 1 = (q - 1) + 1 by omega]
      simpa using ha) (by simpa using hb)
    have hxy := h 1 (by decide) x y rfl rfl
    refine List.pairwise_cons.2 ⟨fun z hz => ?_, ih⟩
    exact Nat.lt_of_lt_of_le hxy (srt_head ih hz)
/-- The first pages are so as a record's must be. -/
structure PgOk (stop : Nat) (S ps : List Nat) (j : Nat) : Prop where
  each : ∀ q x, q < j → ps[q]? = some x → 2 ≤ x ∧ x < stop ∧ x ∉ S
  adj : ∀ q, 0 < q → q < j → ∀ a b, ps[q - 1]? = some a → ps[q]? = some b → a < b
theorem PgOk.zero (stop : Nat) (S ps : List Nat) : PgOk stop S ps 0 := ⟨fun q x h => absurd h (Nat.not_lt_zero _), fun q h0 h => absurd h (Nat.not_lt_zero _)⟩
theorem PgOk.more {stop j p : Nat} {S ps : List Nat} (h : PgOk stop S ps j) (hp : ps[j]? = some p) (h1 : 2 ≤ p) (h2 : p < stop) (h3 : p ∉ S) (h4 : 0 < j → ∀ a, ps[j - 1]? = some a → a < p) : PgOk stop S ps (j + 1) := by
  refine ⟨fun q x hq hx => ?_, fun q h0 hq a b ha hb => ?_⟩
  · rcases Nat.lt_or_eq_of_le (Nat.le_of_lt_succ hq) with e | e
    · exact h.each q x e hx
    · subst e; rw [hp] at hx; cases hx; exact ⟨h1, h2, h3⟩
  · rcases Nat.lt_or_eq_of_le (Nat.le_of_lt_succ hq) with e | e
    · exact h.adj q h0 e a b ha hb
    · subst e; rw [hp] at hb; cases hb; exact h4 h0 a ha
theorem PgOk.done {stop : Nat} {S ps : List Nat} (h : PgOk stop S ps ps.length) (hne : ps ≠ []) : (okPages ps stop && noneIn ps S) = true := by
  rw [Bool.and_eq_true]
  refine ⟨okPages_iff.2 ⟨srt_adj fun q h0 a b ha hb => h.adj q h0 (List.getElem?_eq_some_iff.1 hb).1 a b ha hb, fun x hx => ?_, hne⟩, ?_⟩
  · obtain ⟨q, hq⟩ := List.mem_iff_getElem?.1 hx
    have := h.each q x (List.getElem?_eq_some_iff.1 hq).1 hq
    exact ⟨this.1, this.2.1⟩
  · unfold noneIn
    rw [List.all_eq_true]
    intro x hx
    obtain ⟨q, hq⟩ := List.mem_iff_getElem?.1 hx
    simpa using (h.each q x (List.getElem?_eq_some_iff.1 hq).1 hq).2.2
theorem pg_bad {stop j p : Nat} {S ps : List Nat} (hp : ps[j]? = some p) (h : p < 2 ∨ stop ≤ p ∨ p ∈ S ∨ (0 < j ∧ ∃ a, ps[j - 1]? = some a ∧ p ≤ a)) : (okPages ps stop && noneIn ps S) = false := by
  cases hb : (okPages ps stop && noneIn ps S) with
  | false => rfl
  | true =>
    exfalso
    rw [Bool.and_eq_true, okPages_iff] at hb
    obtain ⟨⟨hs, hr, _⟩, hno⟩ := hb
    have hm := List.mem_of_getElem? hp
    rcases h with e | e | e | ⟨h0, a, ha, e⟩
    · have := (hr p hm).1; omega
    · have := (hr p hm).2; omega
    · unfold noneIn at hno
      rw [List.all_eq_true] at hno
      have := hno p hm
      simp [e] at this
    · obtain ⟨h1, e1⟩ := List.getElem?_eq_some_iff.1 ha
      obtain ⟨h2, e2⟩ := List.getElem?_eq_some_iff.1 hp
      have := List.pairwise_iff_getElem.1 hs (j - 1) j h1 h2 (by omega)
      omega
set_option maxRecDepth 1000000 in
set_option maxHeartbeats 8000000 in
theorem gseen_any (w : World) (base sn sc p : Nat) (sa : Option Addr) (S : List Nat) (hs : NRow 22 encP base w (.slice sa sn sc) S) (hl : sn ≤ 100000)
    (u4 u84 u85 u86 u87 u88 u89 u90 u91 u92 u93 u94 u95 v0 v1 v2 v3 v6 v7 v10 v11 v12 v13 v14 v15 v16 v17 v18 v19 v20 v21 v22 v23 v24 v25 v26 v27 v28 v29 v30 v31 v32 v33 v34 v35 v36 v37 v38 v39 v40 v41 v42 v43 v44 v45 v46 v47 v48 v49 v50 v51 v52 v53 v54 v55 v56 v57 v58 v59 v60 v61 v62 v63 v64 v65 v66 v67 v68 v69 v70 v71 v72 v73 v74 v75 v76 v77 v78 v79 v80 v81 v82 v83 v96 v97 v98 v99 v100 v101 v102 : Value) (Kc : Act → World → Prop) (Qc : Exit → Act → World → Prop)
    (hR : p ∈ S → ∀ (tm : Array Value), tm.getD 4 undef = .bool false → Qc .ret ⟨tm, []⟩ w)
    (hK : ∀ (x4 x9 x84 x85 x86 x87 x88 x89 x90 x91 x92 x93 x94 x95 : Value), p ∉ S → Qc .normal ⟨#[v0, v1, v2, v3, x4, .slice sa sn sc, v6, v7, .int .u32 (p : Int), x9, v10, v11, v12, v13, v14, v15, v16, v17, v18, v19, v20, v21, v22, v23, v24, v25, v26, v27, v28, v29, v30, v31, v32, v33, v34, v35, v36, v37, v38, v39, v40, v41, v42, v43, v44, v45, v46, v47, v48, v49, v50, v51, v52, v53, v54, v55, v56, v57, v58, v59, v60, v61, v62, v63, v64, v65, v66, v67, v68, v69, v70, v71, v72, v73, v74, v75, v76, v77, v78, v79, v80, v81, v82, v83, x84, x85, x86, x87, x88, x89, x90, x91, x92, x93, x94, x95, v96, v97, v98, v99, v100, v101, v102], []⟩ w) :
    Code.wp Try.prog grSeen Qc ⟨#[v0, v1, v2, v3, u4, .slice sa sn sc, v6, v7, .int .u32 (p : Int), .int .i64 0, v10, v11, v12, v13, v14, v15, v16, v17, v18, v19, v20, v21, v22, v23, v24, v25, v26, v27, v28, v29, v30, v31, v32, v33, v34, v35, v36, v37, v38, v39, v40, v41, v42, v43, v44, v45, v46, v47, v48, v49, v50, v51, v52, v53, v54, v55, v56, v57, v58, v59, v60, v61, v62, v63, v64, v65, v66, v67, v68, v69, v70, v71, v72, v73, v74, v75, v76, v77, v78, v79, v80, v81, v82, v83, u84, u85, u86, u87, u88, u89, u90, u91, u92, u93, u94, u95, v96, v97, v98, v99, v100, v101, v102], []⟩ w := by
  conv => arg 2; whnf
  have HK := Lib.hid hK
  clear hK
  have HX := Lib.hid hR
  have HS := Lib.hid hs
  have HN := Lib.hid hs.len
  clear hR hs
  go_wp2
  go_loopw [9] (fun i wr => ∃ k : Nat, k ≤ sn ∧ i = .int .i64 (k : Int) ∧ Hid (∀ q, q < k → S[q]? ≠ some p) ∧ w = wr) (fun i _ => sn - (intOf i).toNat)
  case atStart => exact ⟨0, Nat.zero_le _, rfl, Lib.hid (fun q hq => absurd hq (Nat.not_lt_zero _)), rfl⟩
  case round =>
    obtain ⟨k, hk, rfl, HP, rfl⟩ := hrel
    by_cases hkn : k < sn
    · have hki : (k : Int) < (sn : Int) := by omega
      obtain ⟨x, hx⟩ : ∃ x, S[k]? = some x := ⟨S[k]'(by rw [← HN.out]; exact hkn), List.getElem?_eq_getElem _⟩
      obtain ⟨g, rfl, -, e0⟩ := HS.out.at hx
      have HXX := Lib.hid hx
      clear hx
      by_cases hxp : x = p
      · have HIN := Lib.hid (show p ∈ S by rw [← hxp]; exact List.mem_of_getElem? HXX.out)
        have hxpi : (x : Int) = (p : Int) := by omega
        clear hxp
        go_wp2
        exact HX.out HIN.out _ rfl
      · have hxpi : ¬ (x : Int) = (p : Int) := by omega
        have HNX := Lib.hid hxp
        clear hxp
        go_wp2
        go_roundw
        case rel => exact ⟨k + 1, by omega, by go_num, Lib.hid (fun q hq => by
          rcases Nat.lt_or_eq_of_le (Nat.le_of_lt_succ hq) with e | e
          · exact HP.out q e
          · rw [e, HXX.out]; intro h; injection h with h; exact HNX.out h), trivial⟩
        case measure => simp [intOf]; omega
    · have hki : ¬ (k : Int) < (sn : Int) := by omega
      have HNO := Lib.hid (show p ∉ S by
        intro h
        obtain ⟨q, hq⟩ := List.mem_iff_getElem?.1 h
        exact HP.out q (by have := (List.getElem?_eq_some_iff.1 hq).1; rw [← HN.out] at this; omega) hq)
      go_wp2
      exact HK.out _ _ _ _ _ _ _ _ _ _ _ _ _ _ HNO.out

end Go.Proofs.Ytoaglkbobndmeab

namespace Go.Proofs.Ytoaglkbobndmeab
open Go.RowKit

set_option maxRecDepth 1000000 in
set_option maxHeartbeats 8000000 in
theorem gpages_any (w : World) (R : Nat → Prop) (base n c sn sc stop k : Nat) (ao sa : Option Addr) (l : List Rc) (r : Rc) (S : List Nat) (h : RSq R w (.slice ao n c) l) (hr : l[k]? = some r) (hs : NRow 22 encP base w (.slice sa sn sc) S) (hl : sn ≤ 100000) (hst : stop ≤ 100000) (hm : r.2.length ≤ 1000) (hne : r.2 ≠ []) (hk9 : k < n)
    (u4 u8 u9 u41 u42 u43 u44 u45 u46 u47 u48 u49 u50 u51 u52 u53 u54 u55 u56 u57 u58 u59 u60 u61 u62 u63 u64 u65 u66 u67 u68 u69 u70 u71 u72 u73 u74 u75 u76 u77 u78 u79 u80 u81 u82 u83 u84 u85 u86 u87 u88 u89 u90 u91 u92 u93 u94 u95 v2 v3 v10 v11 v12 v13 v14 v15 v16 v17 v18 v19 v20 v21 v22 v23 v24 v25 v26 v27 v28 v29 v30 v31 v32 v33 v34 v35 v36 v37 v38 v39 v40 v96 v97 v98 v99 v100 v101 v102 : Value) (Kc : Act → World → Prop) (Qc : Exit → Act → World → Prop)
    (hR : (okPages r.2 stop && noneIn r.2 S) = false → ∀ (tm : Array Value), tm.getD 4 undef = .bool false → Qc .ret ⟨tm, []⟩ w)
    (hK : ∀ (x4 x7 x8 x9 x41 x42 x43 x44 x45 x46 x47 x48 x49 x50 x51 x52 x53 x54 x55 x56 x57 x58 x59 x60 x61 x62 x63 x64 x65 x66 x67 x68 x69 x70 x71 x72 x73 x74 x75 x76 x77 x78 x79 x80 x81 x82 x83 x84 x85 x86 x87 x88 x89 x90 x91 x92 x93 x94 x95 : Value), (okPages r.2 stop && noneIn r.2 S) = true → Kc ⟨#[.slice ao n c, .int .i64 (stop : Int), v2, v3, x4, .slice sa sn sc, .int .i64 (k : Int), x7, x8, x9, v10, v11, v12, v13, v14, v15, v16, v17, v18, v19, v20, v21, v22, v23, v24, v25, v26, v27, v28, v29, v30, v31, v32, v33, v34, v35, v36, v37, v38, v39, v40, x41, x42, x43, x44, x45, x46, x47, x48, x49, x50, x51, x52, x53, x54, x55, x56, x57, x58, x59, x60, x61, x62, x63, x64, x65, x66, x67, x68, x69, x70, x71, x72, x73, x74, x75, x76, x77, x78, x79, x80, x81, x82, x83, x84, x85, x86, x87, x88, x89, x90, x91, x92, x93, x94, x95, v96, v97, v98, v99, v100, v101, v102], []⟩ w) :
    Code.wp Try.prog grPages (Exit.then Kc Qc) ⟨#[.slice ao n c, .int .i64 (stop : Int), v2, v3, u4, .slice sa sn sc, .int .i64 (k : Int), .int .i64 0, u8, u9, v10, v11, v12, v13, v14, v15, v16, v17, v18, v19, v20, v21, v22, v23, v24, v25, v26, v27, v28, v29, v30, v31, v32, v33, v34, v35, v36, v37, v38, v39, v40, u41, u42, u43, u44, u45, u46, u47, u48, u49, u50, u51, u52, u53, u54, u55, u56, u57, u58, u59, u60, u61, u62, u63, u64, u65, u66, u67, u68, u69, u70, u71, u72, u73, u74, u75, u76, u77, u78, u79, u80, u81, u82, u83, u84, u85, u86, u87, u88, u89, u90, u91, u92, u93, u94, u95, v96, v97, v98, v99, v100, v101, v102], []⟩ w := by
  conv => arg 2; whnf
  have HK := Lib.hid hK
  clear hK
  have HX := Lib.hid hR
  have HS := Lib.hid hs
  have hki9 : (k : Int) < (n : Int) := by omega
  obtain ⟨b1, o1, rfl, _, -, _, a1, q1, c1, hp⟩ := h.at k r hr
  obtain ⟨m, hm2⟩ : ∃ m, m = r.2.length := ⟨_, rfl⟩
  rw [← hm2] at c1 hm
  have HM := Lib.hid hm2
  have HP := Lib.hid hp
  have HNE := Lib.hid hne
  have hst5 : (stop : Int) ≤ 100000 := by omega
  clear hR hs h hr hp hm2 hne
  go_wp2
  go_loopw [7] (fun i wr => ∃ q : Nat, q ≤ m ∧ i = .int .i64 (q : Int) ∧ Hid (PgOk stop S r.2 q) ∧ w = wr) (fun i _ => m - (intOf i).toNat)
  case atStart => exact ⟨0, Nat.zero_le _, rfl, Lib.hid (PgOk.zero _ _ _), rfl⟩
  case round =>
    obtain ⟨q, hq, rfl, HOKP, rfl⟩ := hrel
    by_cases hqm : q < m
    · have hqi : (q : Int) < (m : Int) := by omega
      have hql : q < r.2.length := by rw [← HM.out]; exact hqm
      have hpq := HP.out
      rw [← HM.out] at hpq
      obtain ⟨b2, o2, rfl, _, cp⟩ := hpq.at q hql
      obtain ⟨p, hpv⟩ : ∃ p, p = r.2.getD q 0 := ⟨_, rfl⟩
      rw [← hpv] at cp
      have hpg : r.2[q]? = some p := by rw [hpv, List.getD_eq_getElem?_getD, List.getElem?_eq_getElem hql]; rfl
      have hp32 := hpq.u32 p (List.mem_of_getElem? hpg)
      have HPG := Lib.hid hpg
      have HPQ := Lib.hid hpq
      clear hpv hpg hpq hql
      by_cases h2 : p < 2
      · have h2i : (p : Int) < 2 := by omega
        go_wp2
        exact HX.out (pg_bad HPG.out (.inl h2)) _ rfl
      · have h2i : ¬ (p : Int) < 2 := by omega
        by_cases hsp : stop ≤ p
        · have hspi : (stop : Int) ≤ (p : Int) := by omega
          go_wp2
          exact HX.out (pg_bad HPG.out (.inr (.inl hsp))) _ rfl
        · have hspi : ¬ (stop : Int) ≤ (p : Int) := by omega
          rcases Nat.eq_zero_or_pos q with h0 | h0
          · have h0i : ¬ (0 : Int) < (q : Int) := by omega
            have HQ0 := Lib.hid h0
            clear h0
            go_upto_block 4 with fail
            refine gseen_any w base sn sc p sa S HS.out hl _ _ _ _ _ _ _ _ _ _ _ _ _ _ _ _ _ _ _ _ _ _ _ _ _ _ _ _ _ _ _ _ _ _ _ _ _ _ _ _ _ _ _ _ _ _ _ _ _ _ _ _ _ _ _ _ _ _ _ _ _ _ _ _ _ _ _ _ _ _ _ _ _ _ _ _ _ _ _ _ _ _ _ _ _ _ _ _ _ _ _ _ _ _ _ _ _ _ _ _ (fun _ _ => True) _ (fun hin tm htm => HX.out (pg_bad HPG.out (.inr (.inr (.inl hin)))) tm htm) (fun x4 x9 x84 x85 x86 x87 x88 x89 x90 x91 x92 x93 x94 x95 hno => ?_)
            have HNO := Lib.hid hno
            clear hno
            (try simp only [Exit.inBlock, Exit.then])
            go_wp2
            go_roundw
            case rel => exact ⟨q + 1, by omega, by go_num, Lib.hid (HOKP.out.more HPG.out (by omega) (by omega) HNO.out (fun h => absurd h (by rw [HQ0.out]; decide))), trivial⟩
            case measure => simp [intOf]; omega
          · have h0i : (0 : Int) < (q : Int) := by omega
            have hq1 : q - 1 < r.2.length := by rw [← HM.out]; omega
            obtain ⟨b3, o3, he, _, ca⟩ := HPQ.out.at (q - 1) hq1
            cases he
            obtain ⟨a, hav⟩ : ∃ a, a = r.2.getD (q - 1) 0 := ⟨_, rfl⟩
            rw [← hav] at ca
            have hag : r.2[q - 1]? = some a := by rw [hav, List.getD_eq_getElem?_getD, List.getElem?_eq_getElem hq1]; rfl
            have HAG := Lib.hid hag
            obtain ⟨q2, hq2⟩ : ∃ q2, q = q2 + 1 := ⟨q - 1, by omega⟩
            have hqw : IntKind.i64.wrap ((q : Int) - 1) = (q2 : Int) := by rw [show (q : Int) - 1 = (q2 : Int) by omega]; exact IntWalk.i64_in _ ⟨by omega, by omega⟩
            have hqs : (q : Int) - 1 = (q2 : Int) := by omega
            have hq2m : (q2 : Int) < (m : Int) := by omega
            rw [show q - 1 = q2 by omega] at ca
            have HQ2 := Lib.hid hq2
            clear hav hag hq1 hq2
            by_cases hap : p ≤ a
            · have hapi : (p : Int) ≤ (a : Int) := by omega
              go_wp2
              exact HX.out (pg_bad HPG.out (.inr (.inr (.inr ⟨h0, a, HAG.out, hap⟩)))) _ rfl
            · have hapi : ¬ (p : Int) ≤ (a : Int) := by omega
              go_upto_block 4 with fail
              refine gseen_any w base sn sc p sa S HS.out hl _ _ _ _ _ _ _ _ _ _ _ _ _ _ _ _ _ _ _ _ _ _ _ _ _ _ _ _ _ _ _ _ _ _ _ _ _ _ _ _ _ _ _ _ _ _ _ _ _ _ _ _ _ _ _ _ _ _ _ _ _ _ _ _ _ _ _ _ _ _ _ _ _ _ _ _ _ _ _ _ _ _ _ _ _ _ _ _ _ _ _ _ _ _ _ _ _ _ _ _ (fun _ _ => True) _ (fun hin tm htm => HX.out (pg_bad HPG.out (.inr (.inr (.inl hin)))) tm htm) (fun x4 x9 x84 x85 x86 x87 x88 x89 x90 x91 x92 x93 x94 x95 hno => ?_)
              have HNO := Lib.hid hno
              clear hno
              (try simp only [Exit.inBlock, Exit.then])
              go_wp2
              go_roundw
              case rel => exact ⟨q + 1, by omega, by go_num, Lib.hid (HOKP.out.more HPG.out (by omega) (by omega) HNO.out (fun _ a2 ha2 => by rw [HAG.out] at ha2; cases ha2; omega)), trivial⟩
              case measure => simp [intOf]; omega
    · have hqi : ¬ (q : Int) < (m : Int) := by omega
      have HDN := Lib.hid (show (okPages r.2 stop && noneIn r.2 S) = true from PgOk.done (by have := HOKP.out; rw [show q = r.2.length by rw [← HM.out]; omega] at this; exact this) HNE.out)
      go_wp2
      exact HK.out _ _ _ _ _ _ _ _ _ _ _ _ _ _ _ _ _ _ _ _ _ _ _ _ _ _ _ _ _ _ _ _ _ _ _ _ _ _ _ _ _ _ _ _ _ _ _ _ _ _ _ _ _ _ _ _ _ _ _ HDN.out

end Go.Proofs.Ytoaglkbobndmeab

namespace Go.Proofs.Ytoaglkbobndmeab
open Go.RowKit

set_option maxRecDepth 1000000 in
set_option maxHeartbeats 8000000 in
theorem rright_any (w : World) (R : Nat → Prop) (ao : Option Addr) (n c : Nat) (l : List Rc) (stop : Nat) (h : RSq R w (.slice ao n c) l) (hn10 : n ≤ 10) (h30 : ∀ r ∈ l, r.2.length ≤ 30) (hst : stop ≤ 100000) :
    Calls Try.prog 11 #[.slice ao n c, .int .i64 (stop : Int)] w fun r w' => r = .returned (.bool (right l stop)) ∧ w.grownBy w' none := by
  obtain ⟨i0, hi0, hz0, hz1, hz2⟩ := info_parts infoU32
  have hlen := h.len.1
  have H := Lib.hid h
  have H30 := Lib.hid h30
  have HN := Lib.hid hlen
  obtain ⟨g0, hg0⟩ : ∃ b, b = right l stop := ⟨_, rfl⟩
  have HG0 := Lib.hid hg0
  rw [← hg0]
  clear h h30 hlen hg0
  go_enter Try.func11, Try.ntmps11
  go_wp2
  go_loopw [5, 6] (fun sv i wr => ∃ k : Nat, k ≤ n ∧ i = .int .i64 (k : Int) ∧ NRow 22 encP w.heap.size wr sv (allOf (l.take k)) ∧ w.grownBy wr none ∧ Hid ((allOf (l.take k)).length ≤ 30 * k) ∧ Hid (right l stop = okRecs stop (lastOf l k) (allOf (l.take k)) (l.drop k))) (fun _ i _ => n - (intOf i).toNat)
  case atStart => exact ⟨0, Nat.zero_le _, rfl, World.ownsRow_nil _ _ _ _, grefl _ _, Lib.hid (by simp [allOf]), Lib.hid rfl⟩
  case round =>
    obtain ⟨k, hk, rfl, hs, hg, HLN, HE⟩ := hrel
    have HG := Lib.hid hg
    have HS := Lib.hid hs
    obtain ⟨sn, hsn⟩ : ∃ x, x = (allOf (l.take k)).length := ⟨_, rfl⟩
    obtain ⟨sa, sc, hsv⟩ := hs.shape
    rw [← hsn] at hsv
    subst hsv
    have hsn3 : sn ≤ 300 := by have := HLN.out; rw [← hsn] at this; omega
    have HSN := Lib.hid hsn
    clear hs hsn
    by_cases hkn : k < n
    · have hki : (k : Int) < (n : Int) := by omega
      obtain ⟨r, hr⟩ : ∃ r, l[k]? = some r := ⟨l[k]'(by rw [← HN.out]; exact hkn), List.getElem?_eq_getElem _⟩
      have HR := Lib.hid hr
      have HM := Lib.hid (show r.2.length ≤ 1000 from Nat.le_trans (H30.out r (List.mem_of_getElem? hr)) (by decide))
      have HM3 := Lib.hid (H30.out r (List.mem_of_getElem? hr))
      have HST := Lib.hid (okRecs_step (stop := stop) hr)
      obtain ⟨b1, o1, rfl, _, c0, hT64, a1, q1, c1, hp⟩ := (H.out.grown hg).at k r hr
      obtain ⟨m, hm⟩ : ∃ m, m = r.2.length := ⟨_, rfl⟩
      have hm3 : m ≤ 30 := by rw [hm]; exact HM3.out
      have HMM := Lib.hid hm
      rw [← hm] at c1
      clear hr hp hm hg
      by_cases hm0 : m = 0
      · have hm0i : (m : Int) = 0 := by omega
        have HF := Lib.hid (show g0 = false by
          rw [HG0.out, HE.out, HST.out]
          have : okPages r.2 stop = false := by
            cases hb : okPages r.2 stop with
            | false => rfl
            | true => exact absurd (List.eq_nil_of_length_eq_zero (by rw [← HMM.out]; exact hm0)) (okPages_iff.1 hb).2.2
          rw [this]; simp)
        subst hm0
        go_wp2_with fail
        go_quiet (fail)
        have HG2 := Lib.hid (gtrans HG.out (gdrewN wr nq))
        clear c0 c1
        generalize wr.drewN nq = W2 at HG2 ⊢
        go_wp2
        go_ret
        exact ⟨by rw [HF.out]; rfl, HG2.out⟩
      · have hm0i : ¬ (m : Int) = 0 := by omega
        have hm0b : ((m : Int) == 0) = false := by simpa using hm0i
        have HNE := Lib.hid (show r.2 ≠ [] from fun e => hm0 (by rw [HMM.out, e]; rfl))
        clear hm0
        rcases Nat.eq_zero_or_pos k with h0 | h0
        · have h0i : ¬ (0 : Int) < (k : Int) := by omega
          have HLAST := Lib.hid (show okLast (lastOf l k) r.1 = true by rw [show lastOf l k = none by simp [lastOf, h0]]; rfl)
          subst h0
          go_wp2_with fail
          go_quiet (fail)
          have HG2 := Lib.hid (gtrans HG.out (gdrewN wr nq))
          have HS2 := Lib.hid (HS.out.grown (gdrewN wr nq))
          have HL2 := Lib.hid (H.out.grown HG2.out)
          clear c0 c1
          generalize wr.drewN nq = W2 at HG2 HS2 HL2 ⊢
          go_upto_block 2 with fail
          refine gpages_any W2 R w.heap.size n c sn sc stop 0 _ sa l r (allOf (l.take 0)) HL2.out HR.out HS2.out (by omega) (by omega) HM.out HNE.out hkn _ _ _ _ _ _ _ _ _ _ _ _ _ _ _ _ _ _ _ _ _ _ _ _ _ _ _ _ _ _ _ _ _ _ _ _ _ _ _ _ _ _ _ _ _ _ _ _ _ _ _ _ _ _ _ _ _ _ _ _ _ _ _ _ _ _ _ _ _ _ _ _ _ _ _ _ _ _ _ _ _ _ _ _ _ _ _ _ _ _ _ _ _ _ _ _ _ _ _ _ ?hr1 (fun x4 x7 x8 x9 x41 x42 x43 x44 x45 x46 x47 x48 x49 x50 x51 x52 x53 x54 x55 x56 x57 x58 x59 x60 x61 x62 x63 x64 x65 x66 x67 x68 x69 x70 x71 x72 x73 x74 x75 x76 x77 x78 x79 x80 x81 x82 x83 x84 x85 x86 x87 x88 x89 x90 x91 x92 x93 x94 x95 hok => ?_)
          case hr1 =>
            intro hb tm htm
            have HF := Lib.hid (show g0 = false by
              rw [HG0.out, HE.out, HST.out]
              simp only [Bool.and_eq_false_iff] at hb ⊢
              rcases hb with e | e
              · exact .inl (.inl (.inr e))
              · exact .inl (.inr e))
            simp +zetaDelta only [Exit.inBlock, Exit.then]
            refine bodyPost_ret (results_tmp rfl _ _ _) rfl ?_
            exact ⟨by rw [htm, HF.out], HG2.out⟩
          obtain ⟨hok1, hok2⟩ := Bool.and_eq_true_iff.1 hok
          have HE2 := Lib.hid (show right l stop = okRecs stop (lastOf l (0 + 1)) (allOf (l.take (0 + 1))) (l.drop (0 + 1)) by rw [HE.out, HST.out, HLAST.out, hok1, hok2]; rfl)
          obtain ⟨b3, o3, he3, _, -, _, a3, q3, c3, hp3⟩ := HL2.out.at 0 r HR.out
          cases he3
          rw [← HMM.out] at c3
          have hp3' := hp3
          rw [← HMM.out] at hp3'
          obtain ⟨b4, o4, rfl, _, -⟩ := hp3'.at 0 (by rw [← HMM.out]; omega)
          have HC := Lib.hid (show ∀ j u, (r.2.map encP)[j]? = some u → W2.cell? ((⟨b4, o4, none⟩ : Addr).add j) = some u from fun j u hu => by
            have hj : j < r.2.length := by have := (List.getElem?_eq_some_iff.1 hu).1; simpa using this
            obtain ⟨b5, o5, he5, _, cp⟩ := hp3'.at j hj
            cases he5
            rw [List.getElem?_map] at hu
            obtain ⟨x, hx, rfl⟩ := Option.map_eq_some_iff.1 hu
            rw [List.getD_eq_getElem?_getD, hx] at cp
            rw [Addr.add_lit]
            exact cp)
          have HTK := Lib.hid (take_snoc HR.out)
          have hSz := HG2.out.size
          clear hok hok1 hok2 hp3 hp3'
          go_wp2_with (first
            | (at_builtin; refine wpList_append_own _ rfl _ _ 45 rfl w.heap.size 22 i0 (.int .u32 0) 1 4 Try.underlying45 hi0 hz0 hz1 hz2 rfl (by decide) (.slice sa sn sc) sn ((allOf (l.take 0)).map encP) rfl (show W2.ownsRow w.heap.size 22 1 (.slice sa sn sc) sn ((allOf (l.take 0)).map encP) by have := HS2.out; unfold NRow at this; rw [← HSN.out] at this; exact this) ⟨b4, o4, none⟩ m q3 (r.2.map encP) rfl (by rw [List.length_map, Nat.mul_one]; exact HMM.out.symm) HC.out (onecell encP (fun _ => rfl)) (by unfold maxLen; omega) (by omega) hSz ?_; intro v5 w5 hown hg5 _; have HO5 := Lib.hid (show NRow 22 encP w.heap.size w5 v5 (allOf (l.take (0 + 1))) by rw [HTK.out, allOf_snoc]; unfold NRow; rw [List.length_append, ← HSN.out, ← HMM.out, List.map_append]; exact hown); have HG5 := Lib.hid (NRow.grew HG2.out HS2.out (Nat.le_refl _) hg5); clear hown hg5)
            | go_in)
          go_roundw
          case rel => exact ⟨1, by omega, rfl, HO5.out, HG5.out, Lib.hid (by rw [HTK.out, allOf_snoc, List.length_append]; have := HLN.out; have := HM3.out; omega), HE2⟩
          case measure => simp [intOf]; omega
        · have h0i : (0 : Int) < (k : Int) := by omega
          have h0b : decide ((0 : Int) < (k : Int)) = true := decide_eq_true h0i
          obtain ⟨rp, hrp⟩ : ∃ r, l[k - 1]? = some r := ⟨l[k - 1]'(by rw [← HN.out]; omega), List.getElem?_eq_getElem _⟩
          obtain ⟨bp, op, hep, _, cp0, hTp, _⟩ := (H.out.grown HG.out).at (k - 1) rp hrp
          cases hep
          obtain ⟨k2, hk2⟩ : ∃ k2, k = k2 + 1 := ⟨k - 1, by omega⟩
          have hkw : IntKind.i64.wrap ((k : Int) - 1) = (k2 : Int) := by rw [show (k : Int) - 1 = (k2 : Int) by omega]; exact IntWalk.i64_in _ ⟨by omega, by omega⟩
          have hks : (k : Int) - 1 = (k2 : Int) := by omega
          have hk2n : (k2 : Int) < (n : Int) := by omega
          rw [show k - 1 = k2 by omega] at cp0
          have HLO := Lib.hid (show lastOf l k = some rp.1 by simp [lastOf, hrp]; omega)
          have HK2 := Lib.hid hk2
          clear hrp hk2
          by_cases hT : r.1 ≤ rp.1
          · have hTi : (r.1 : Int) ≤ (rp.1 : Int) := by omega
            have HF := Lib.hid (show g0 = false by
              rw [HG0.out, HE.out, HST.out, HLO.out]
              have : okLast (some rp.1) r.1 = false := by simpa [okLast] using hT
              simp [this])
            go_wp2_with fail
            go_quiet (fail)
            have HG2 := Lib.hid (gtrans HG.out (gdrewN wr nq))
            clear c0 c1 cp0
            generalize wr.drewN nq = W2 at HG2 ⊢
            go_wp2
            go_ret
            exact ⟨by rw [HF.out]; rfl, HG2.out⟩
          · have hTi : ¬ (r.1 : Int) ≤ (rp.1 : Int) := by omega
            have HLAST := Lib.hid (show okLast (lastOf l k) r.1 = true by rw [HLO.out]; simpa [okLast] using hT)
            go_wp2_with fail
            go_quiet (fail)
            have HG2 := Lib.hid (gtrans HG.out (gdrewN wr nq))
            have HS2 := Lib.hid (HS.out.grown (gdrewN wr nq))
            have HL2 := Lib.hid (H.out.grown HG2.out)
            clear c0 c1 cp0
            generalize wr.drewN nq = W2 at HG2 HS2 HL2 ⊢
            go_upto_block 2 with fail
            refine gpages_any W2 R w.heap.size n c sn sc stop k _ sa l r (allOf (l.take k)) HL2.out HR.out HS2.out (by omega) (by omega) HM.out HNE.out hkn _ _ _ _ _ _ _ _ _ _ _ _ _ _ _ _ _ _ _ _ _ _ _ _ _ _ _ _ _ _ _ _ _ _ _ _ _ _ _ _ _ _ _ _ _ _ _ _ _ _ _ _ _ _ _ _ _ _ _ _ _ _ _ _ _ _ _ _ _ _ _ _ _ _ _ _ _ _ _ _ _ _ _ _ _ _ _ _ _ _ _ _ _ _ _ _ _ _ _ _ ?hr2 (fun x4 x7 x8 x9 x41 x42 x43 x44 x45 x46 x47 x48 x49 x50 x51 x52 x53 x54 x55 x56 x57 x58 x59 x60 x61 x62 x63 x64 x65 x66 x67 x68 x69 x70 x71 x72 x73 x74 x75 x76 x77 x78 x79 x80 x81 x82 x83 x84 x85 x86 x87 x88 x89 x90 x91 x92 x93 x94 x95 hok => ?_)
            case hr2 =>
              intro hb tm htm
              have HF := Lib.hid (show g0 = false by
                rw [HG0.out, HE.out, HST.out]
                simp only [Bool.and_eq_false_iff] at hb ⊢
                rcases hb with e | e
                · exact .inl (.inl (.inr e))
                · exact .inl (.inr e))
              simp +zetaDelta only [Exit.inBlock, Exit.then]
              refine bodyPost_ret (results_tmp rfl _ _ _) rfl ?_
              exact ⟨by rw [htm, HF.out], HG2.out⟩
            obtain ⟨hok1, hok2⟩ := Bool.and_eq_true_iff.1 hok
            have HE2 := Lib.hid (show right l stop = okRecs stop (lastOf l (k + 1)) (allOf (l.take (k + 1))) (l.drop (k + 1)) by rw [HE.out, HST.out, HLAST.out, hok1, hok2]; rfl)
            obtain ⟨b3, o3, he3, _, -, _, a3, q3, c3, hp3⟩ := HL2.out.at k r HR.out
            cases he3
            rw [← HMM.out] at c3
            have hp3' := hp3
            rw [← HMM.out] at hp3'
            obtain ⟨b4, o4, rfl, _, -⟩ := hp3'.at 0 (by rw [← HMM.out]; omega)
            have HC := Lib.hid (show ∀ j u, (r.2.map encP)[j]? = some u → W2.cell? ((⟨b4, o4, none⟩ : Addr).add j) = some u from fun j u hu => by
              have hj : j < r.2.length := by have := (List.getElem?_eq_some_iff.1 hu).1; simpa using this
              obtain ⟨b5, o5, he5, _, cp⟩ := hp3'.at j hj
              cases he5
              rw [List.getElem?_map] at hu
              obtain ⟨x, hx, rfl⟩ := Option.map_eq_some_iff.1 hu
              rw [List.getD_eq_getElem?_getD, hx] at cp
              rw [Addr.add_lit]
              exact cp)
            have HTK := Lib.hid (take_snoc HR.out)
            have hSz := HG2.out.size
            clear hok hok1 hok2 hp3 hp3'
            go_wp2_with (first
              | (at_builtin; refine wpList_append_own _ rfl _ _ 45 rfl w.heap.size 22 i0 (.int .u32 0) 1 4 Try.underlying45 hi0 hz0 hz1 hz2 rfl (by decide) (.slice sa sn sc) sn ((allOf (l.take k)).map encP) rfl (show W2.ownsRow w.heap.size 22 1 (.slice sa sn sc) sn ((allOf (l.take k)).map encP) by have := HS2.out; unfold NRow at this; rw [← HSN.out] at this; exact this) ⟨b4, o4, none⟩ m q3 (r.2.map encP) rfl (by rw [List.length_map, Nat.mul_one]; exact HMM.out.symm) HC.out (onecell encP (fun _ => rfl)) (by unfold maxLen; omega) (by omega) hSz ?_; intro v5 w5 hown hg5 _; have HO5 := Lib.hid (show NRow 22 encP w.heap.size w5 v5 (allOf (l.take (k + 1))) by rw [HTK.out, allOf_snoc]; unfold NRow; rw [List.length_append, ← HSN.out, ← HMM.out, List.map_append]; exact hown); have HG5 := Lib.hid (NRow.grew HG2.out HS2.out (Nat.le_refl _) hg5); clear hown hg5)
              | go_in)
            go_roundw
            case rel => exact ⟨k + 1, by omega, by go_num, HO5.out, HG5.out, Lib.hid (by rw [HTK.out, allOf_snoc, List.length_append]; have := HLN.out; have := HM3.out; omega), HE2⟩
            case measure => simp [intOf]; omega
    · have hki : ¬ (k : Int) < (n : Int) := by omega
      have HT := Lib.hid (show g0 = true by rw [HG0.out, HE.out, show k = l.length by rw [← HN.out]; omega, List.drop_length]; rfl)
      go_wp2
      go_ret
      exact ⟨by rw [HT.out]; rfl, hg⟩

end Go.Proofs.Ytoaglkbobndmeab

namespace Go.Proofs.Ytoaglkbobndmeab
open Go.RowKit

noncomputable def rnBody : Code := (Try.f9.body).getD .skip
noncomputable def rnPages : Code := (blk 2 rnBody).getD .skip
noncomputable def rnAll : Code := (blk 0 rnBody).getD .skip
abbrev mapR (V : Nat → Nat) (n : Nat) : List Nat := (List.range n).map V
theorem mapR_at {V : Nat → Nat} {n p : Nat} (h : p < n) : (mapR V n)[p]? = some (V p) := by simp [mapR, h]
theorem mapR_set {V : Nat → Nat} {n p x : Nat} : (mapR V n).set p x = mapR (upd V p x) n := by
  apply List.ext_getElem?
  intro j
  rw [List.getElem?_set]
  by_cases hj : j < n
  · rw [mapR_at hj]
    by_cases e : p = j
    · subst e; simp [mapR, hj, upd_same]
    · rw [if_neg e, mapR_at hj, upd_other V x (fun h => e h.symm)]
  · rw [List.getElem?_eq_none (by simp [mapR]; omega), List.getElem?_eq_none (by simp [mapR]; omega)]
    simp [mapR]; omega
theorem mapR_len (V : Nat → Nat) (n : Nat) : (mapR V n).length = n := by simp [mapR]
/-- The changes of the pages. -/
def fillU (t : Nat) (T : Nat → Nat) (ps : List Nat) : Nat → Nat := ps.foldl (fun T p => upd T p t) T
def fillX (T : Nat → Nat) (rs : List Rc) : Nat → Nat := rs.foldl (fun T r => fillU r.1 T r.2) T
theorem fillU_snoc (t : Nat) (T : Nat → Nat) (ps : List Nat) (p : Nat) : fillU t T (ps ++ [p]) = upd (fillU t T ps) p t := by simp [fillU, List.foldl_append]
theorem fillX_snoc (T : Nat → Nat) (rs : List Rc) (r : Rc) : fillX T (rs ++ [r]) = fillU r.1 (fillX T rs) r.2 := by simp [fillX, List.foldl_append]
structure NAt (w0 : World) (q0 q1 gw gt en : Nat) (lim : Int) (V T : Nat → Nat) (w : World) : Prop where
  res : w.heap[q0]? = some (.cells (bx none 0 0 none 0 0 0) 40 (0, 0))
  box : w.heap[q1]? = some (.cells (bx (some ⟨gw, 0, none⟩) en en (some ⟨gt, 0, none⟩) en en lim) 40 (0, 0))
  wh : IRow w0.heap.size w (.slice (some ⟨gw, 0, none⟩) en en) (mapR V en)
  tx : URow w0.heap.size w (.slice (some ⟨gt, 0, none⟩) en en) (mapR T en)
  gr : w0.grownBy w none
  ne : q0 ≠ gw ∧ q0 ≠ gt ∧ q1 ≠ gw ∧ q1 ≠ gt ∧ gw ≠ gt ∧ w0.heap.size ≤ gw ∧ w0.heap.size ≤ gt
theorem NAt.drew {w0 w : World} {q0 q1 gw gt en : Nat} {lim : Int} {V T : Nat → Nat} (h : NAt w0 q0 q1 gw gt en lim V T w) : NAt w0 q0 q1 gw gt en lim V T w.drew :=
  ⟨h.res, h.box, h.wh.grown (gdrew w), h.tx.grown (gdrew w), gtrans h.gr (gdrew w), h.ne⟩
theorem NAt.putW {w0 w : World} {q0 q1 gw gt en : Nat} {lim : Int} {V T : Nat → Nat} (h : NAt w0 q0 q1 gw gt en lim V T w) (p x : Nat) : NAt w0 q0 q1 gw gt en lim (upd V p x) T (w.setCell ⟨gw, p, none⟩ (encI x)) := by
  obtain ⟨n1, n2, n3, n4, n5, n6, n7⟩ := h.ne
  have hs := gset w ⟨gw, p, none⟩ (encI x)
  refine ⟨set_far _ h.res n1, set_far _ h.box n3, ?_, h.tx.far hs (.inr (by simp [Value.ownBlock]; omega)), gnew h.gr hs n6, h.ne⟩
  have := h.wh.stored p x
  rw [mapR_set] at this
  exact this
theorem NAt.putT {w0 w : World} {q0 q1 gw gt en : Nat} {lim : Int} {V T : Nat → Nat} (h : NAt w0 q0 q1 gw gt en lim V T w) (p x : Nat) : NAt w0 q0 q1 gw gt en lim V (upd T p x) (w.setCell ⟨gt, p, none⟩ (encU x)) := by
  obtain ⟨n1, n2, n3, n4, n5, n6, n7⟩ := h.ne
  have hs := gset w ⟨gt, p, none⟩ (encU x)
  refine ⟨set_far _ h.res n2, set_far _ h.box n4, h.wh.far hs (.inr (by simp [Value.ownBlock]; omega)), ?_, gnew h.gr hs n7, h.ne⟩
  have := h.tx.stored p x
  rw [mapR_set] at this
  exact this
theorem NAt.atW {w0 w : World} {q0 q1 gw gt en : Nat} {lim : Int} {V T : Nat → Nat} (h : NAt w0 q0 q1 gw gt en lim V T w) {p : Nat} (hp : p < en) : w.cell? ⟨gw, p, none⟩ = some (encI (V p)) ∧ w.frozen? ⟨gw, p, none⟩ = false := by
  obtain ⟨g, e, _, hc⟩ := h.wh.at (mapR_at hp)
  cases e
  exact ⟨hc, h.wh.free p⟩
theorem NAt.atT {w0 w : World} {q0 q1 gw gt en : Nat} {lim : Int} {V T : Nat → Nat} (h : NAt w0 q0 q1 gw gt en lim V T w) {p : Nat} (hp : p < en) : w.cell? ⟨gt, p, none⟩ = some (encU (T p)) ∧ w.frozen? ⟨gt, p, none⟩ = false := by
  obtain ⟨g, e, _, hc⟩ := h.tx.at (mapR_at hp)
  cases e
  exact ⟨hc, h.tx.free p⟩
set_option maxRecDepth 1000000 in
set_option maxHeartbeats 8000000 in
theorem rnpages_any (w0 w : World) (q0 q1 gw gt en ln lc k old : Nat) (lo : Option Addr) (lim : Int) (V T : Nat → Nat) (l : List Rc) (r : Rc) (h : NAt w0 q0 q1 gw gt en lim V T w) (hl : RSq (fun _ => True) w0 (.slice lo ln lc) l) (hr : l[k]? = some r) (hkn : k < ln) (hm9 : r.2.length ≤ 1000) (hen : en ≤ 100000) (hps : ∀ p ∈ r.2, p < en)
    (u14 u45 u46 u47 u48 u49 u50 u51 u52 u53 u54 u55 u56 u57 u58 u59 u60 u61 u62 u63 u64 u65 u66 u67 u68 u69 u70 u71 u72 u73 u74 u75 u76 u77 u78 u79 u80 u81 u82 u83 u84 u85 u86 v0 v1 v4 v5 v6 v7 v8 v9 v10 v15 v16 v17 v18 v19 v20 v21 v22 v23 v24 v25 v26 v27 v28 v29 v30 v31 v32 v33 v34 v35 v36 v37 v38 v39 v40 v41 v42 v43 v44 v87 : Value) (Kc : Act → World → Prop) (Qc : Exit → Act → World → Prop)
    (hK : ∀ (x13 x14 x45 x46 x47 x48 x49 x50 x51 x52 x53 x54 x55 x56 x57 x58 x59 x60 x61 x62 x63 x64 x65 x66 x67 x68 x69 x70 x71 x72 x73 x74 x75 x76 x77 x78 x79 x80 x81 x82 x83 x84 x85 x86 : Value) (w5 : World), NAt w0 q0 q1 gw gt en lim (fillP old r.1 V r.2) (fillU r.1 T r.2) w5 → Qc .normal ⟨#[v0, v1, .slice lo ln lc, .int .u64 (old : Int), v4, v5, v6, v7, v8, v9, v10, .pointer (some ⟨q1, 0, none⟩), .int .i64 (k : Int), x13, x14, v15, v16, v17, v18, v19, v20, v21, v22, v23, v24, v25, v26, v27, v28, v29, v30, v31, v32, v33, v34, v35, v36, v37, v38, v39, v40, v41, v42, v43, v44, x45, x46, x47, x48, x49, x50, x51, x52, x53, x54, x55, x56, x57, x58, x59, x60, x61, x62, x63, x64, x65, x66, x67, x68, x69, x70, x71, x72, x73, x74, x75, x76, x77, x78, x79, x80, x81, x82, x83, x84, x85, x86, v87], []⟩ w5) :
    Code.wp Try.prog rnPages Qc ⟨#[v0, v1, .slice lo ln lc, .int .u64 (old : Int), v4, v5, v6, v7, v8, v9, v10, .pointer (some ⟨q1, 0, none⟩), .int .i64 (k : Int), .int .i64 0, u14, v15, v16, v17, v18, v19, v20, v21, v22, v23, v24, v25, v26, v27, v28, v29, v30, v31, v32, v33, v34, v35, v36, v37, v38, v39, v40, v41, v42, v43, v44, u45, u46, u47, u48, u49, u50, u51, u52, u53, u54, u55, u56, u57, u58, u59, u60, u61, u62, u63, u64, u65, u66, u67, u68, u69, u70, u71, u72, u73, u74, u75, u76, u77, u78, u79, u80, u81, u82, u83, u84, u85, u86, v87], []⟩ w := by
  conv => arg 2; whnf
  have HK := Lib.hid hK
  clear hK
  have H := Lib.hid h
  have HL := Lib.hid hl
  have HR := Lib.hid hr
  have HPS := Lib.hid hps
  have hki : (k : Int) < (ln : Int) := by omega
  have hen5 : (en : Int) ≤ 100000 := by omega
  obtain ⟨m, hm⟩ : ∃ m, m = r.2.length := ⟨_, rfl⟩
  rw [← hm] at hm9
  have HM := Lib.hid hm
  clear h hl hr hps hm
  go_wp2
  go_loopw [13] (fun i wr => ∃ (j : Nat) (V2 T2 : Nat → Nat), j ≤ m ∧ i = .int .i64 (j : Int) ∧ NAt w0 q0 q1 gw gt en lim V2 T2 wr ∧ Hid (V2 = fillP old r.1 V (r.2.take j) ∧ T2 = fillU r.1 T (r.2.take j))) (fun i _ => m - (intOf i).toNat)
  case atStart => exact ⟨0, V, T, Nat.zero_le _, rfl, H.out, Lib.hid ⟨rfl, rfl⟩⟩
  case round =>
    obtain ⟨j, V2, T2, hj, rfl, h2, HV⟩ := hrel
    have H2 := Lib.hid h2
    obtain ⟨b1, o1, hlo, _, c0, hT64, a1, q2, c1, hp1⟩ := (HL.out.grown h2.gr).at k r HR.out
    subst hlo
    rw [← HM.out] at c1 hp1
    obtain ⟨k0, k1, k2, -⟩ := cells3 h2.box
    by_cases hjm : j < m
    · have hji : (j : Int) < (m : Int) := by omega
      have hjl : j < r.2.length := by rw [← HM.out]; exact hjm
      obtain ⟨b2, o2, ha1, _, cp⟩ := hp1.at j hjl
      subst ha1
      obtain ⟨p, hpv⟩ : ∃ p, p = r.2.getD j 0 := ⟨_, rfl⟩
      rw [← hpv] at cp
      have hpg : r.2[j]? = some p := by rw [hpv, List.getD_eq_getElem?_getD, List.getElem?_eq_getElem hjl]; rfl
      have hpe := HPS.out p (List.mem_of_getElem? hpg)
      have hpei : (p : Int) < (en : Int) := by omega
      have HTK := Lib.hid (take_snoc hpg)
      obtain ⟨ct, ft⟩ := h2.atT hpe
      clear h2 hp1 hpv hpg hjl
      go_upto_region 14 with fail
      go_region
      have H3 := Lib.hid (H2.out.putT p r.1).drew
      clear ct ft c0 c1 cp k0 k1 k2 H2
      generalize (wr.setCell ⟨gt, p, none⟩ (.int .u64 (r.1 : Int))).drew = W3 at H3 ⊢
      obtain ⟨k0, k1, k2, -⟩ := cells3 H3.out.box
      obtain ⟨cw, fw⟩ := H3.out.atW hpe
      go_upto_region 16 with fail
      have H4 := Lib.hid (H3.out.putW p 2)
      clear cw fw k0 k1 k2 H3
      generalize W3.setCell ⟨gw, p, none⟩ (.int .i64 2) = W4 at H4 ⊢
      obtain ⟨b5, o5, hlo, _, c0, _⟩ := (HL.out.grown H4.out.gr).at k r HR.out
      cases hlo
      obtain ⟨k0, k1, k2, -⟩ := cells3 H4.out.box
      obtain ⟨cw, fw⟩ := H4.out.atW hpe
      by_cases hTo : r.1 ≤ old
      · have hToi : (r.1 : Int) ≤ (old : Int) := by omega
        have H5 := Lib.hid (H4.out.putW p 1)
        go_wp2
        go_roundw
        case rel => exact ⟨j + 1, _, _, by omega, by go_num, H5.out, Lib.hid ⟨by rw [upd_twice, HTK.out, fillP_snoc, if_pos hTo, HV.out.1], by rw [HTK.out, fillU_snoc, HV.out.2]⟩⟩
        case measure => simp [intOf]; omega
      · have hToi : ¬ (r.1 : Int) ≤ (old : Int) := by omega
        go_wp2
        go_roundw
        case rel => exact ⟨j + 1, _, _, by omega, by go_num, H4.out, Lib.hid ⟨by rw [HTK.out, fillP_snoc, if_neg hTo, HV.out.1], by rw [HTK.out, fillU_snoc, HV.out.2]⟩⟩
        case measure => simp [intOf]; omega
    · have hji : ¬ (j : Int) < (m : Int) := by omega
      have HJ := Lib.hid (show r.2.take j = r.2 by rw [show j = r.2.length by rw [← HM.out]; omega, List.take_length])
      clear h2 hp1
      go_wp2
      exact HK.out _ _ _ _ _ _ _ _ _ _ _ _ _ _ _ _ _ _ _ _ _ _ _ _ _ _ _ _ _ _ _ _ _ _ _ _ _ _ _ _ _ _ _ _ wr (by have h := H2.out; rw [HV.out.1, HV.out.2, HJ.out] at h; exact h)

end Go.Proofs.Ytoaglkbobndmeab

namespace Go.Proofs.Ytoaglkbobndmeab
open Go.RowKit

set_option maxRecDepth 1000000 in
set_option maxHeartbeats 8000000 in
theorem rnall_any (w0 w : World) (q0 q1 gw gt en ln lc old : Nat) (lo : Option Addr) (lim : Int) (l : List Rc) (h : NAt w0 q0 q1 gw gt en lim (fun _ => 0) (fun _ => 0) w) (hl : RSq (fun _ => True) w0 (.slice lo ln lc) l) (hln : ln ≤ 100) (hm9 : ∀ r ∈ l, r.2.length ≤ 1000) (hen : en ≤ 100000) (hps : ∀ r ∈ l, ∀ p ∈ r.2, p < en)
    (u13 u14 u39 u40 u41 u42 u43 u44 u45 u46 u47 u48 u49 u50 u51 u52 u53 u54 u55 u56 u57 u58 u59 u60 u61 u62 u63 u64 u65 u66 u67 u68 u69 u70 u71 u72 u73 u74 u75 u76 u77 u78 u79 u80 u81 u82 u83 u84 u85 u86 v0 v1 v4 v5 v6 v7 v8 v9 v10 v15 v16 v17 v18 v19 v20 v21 v22 v23 v24 v25 v26 v27 v28 v29 v30 v31 v32 v33 v34 v35 v36 v37 v38 v87 : Value) (Kc : Act → World → Prop) (Qc : Exit → Act → World → Prop)
    (hK : ∀ (x12 x13 x14 x39 x40 x41 x42 x43 x44 x45 x46 x47 x48 x49 x50 x51 x52 x53 x54 x55 x56 x57 x58 x59 x60 x61 x62 x63 x64 x65 x66 x67 x68 x69 x70 x71 x72 x73 x74 x75 x76 x77 x78 x79 x80 x81 x82 x83 x84 x85 x86 : Value) (w5 : World), NAt w0 q0 q1 gw gt en lim (fillR old (fun _ => 0) l) (fillX (fun _ => 0) l) w5 → Kc ⟨#[v0, v1, .slice lo ln lc, .int .u64 (old : Int), v4, v5, v6, v7, v8, v9, v10, .pointer (some ⟨q1, 0, none⟩), x12, x13, x14, v15, v16, v17, v18, v19, v20, v21, v22, v23, v24, v25, v26, v27, v28, v29, v30, v31, v32, v33, v34, v35, v36, v37, v38, x39, x40, x41, x42, x43, x44, x45, x46, x47, x48, x49, x50, x51, x52, x53, x54, x55, x56, x57, x58, x59, x60, x61, x62, x63, x64, x65, x66, x67, x68, x69, x70, x71, x72, x73, x74, x75, x76, x77, x78, x79, x80, x81, x82, x83, x84, x85, x86, v87], []⟩ w5) :
    Code.wp Try.prog rnAll (Exit.then Kc Qc) ⟨#[v0, v1, .slice lo ln lc, .int .u64 (old : Int), v4, v5, v6, v7, v8, v9, v10, .pointer (some ⟨q1, 0, none⟩), .int .i64 0, u13, u14, v15, v16, v17, v18, v19, v20, v21, v22, v23, v24, v25, v26, v27, v28, v29, v30, v31, v32, v33, v34, v35, v36, v37, v38, u39, u40, u41, u42, u43, u44, u45, u46, u47, u48, u49, u50, u51, u52, u53, u54, u55, u56, u57, u58, u59, u60, u61, u62, u63, u64, u65, u66, u67, u68, u69, u70, u71, u72, u73, u74, u75, u76, u77, u78, u79, u80, u81, u82, u83, u84, u85, u86, v87], []⟩ w := by
  conv => arg 2; whnf
  have HK := Lib.hid hK
  clear hK
  have H := Lib.hid h
  have HL := Lib.hid hl
  have HN := Lib.hid hl.len.1
  have HM9 := Lib.hid hm9
  have HPS := Lib.hid hps
  clear h hl hm9 hps
  go_wp2
  go_loopw [12] (fun i wr => ∃ (k : Nat) (V2 T2 : Nat → Nat), k ≤ ln ∧ i = .int .i64 (k : Int) ∧ NAt w0 q0 q1 gw gt en lim V2 T2 wr ∧ Hid (V2 = fillR old (fun _ => 0) (l.take k) ∧ T2 = fillX (fun _ => 0) (l.take k))) (fun i _ => ln - (intOf i).toNat)
  case atStart => exact ⟨0, _, _, Nat.zero_le _, rfl, H.out, Lib.hid ⟨rfl, rfl⟩⟩
  case round =>
    obtain ⟨k, V2, T2, hk, rfl, h2, HV⟩ := hrel
    have H2 := Lib.hid h2
    clear h2
    by_cases hkn : k < ln
    · have hki : (k : Int) < (ln : Int) := by omega
      obtain ⟨r, hr⟩ : ∃ r, l[k]? = some r := ⟨l[k]'(by rw [← HN.out]; exact hkn), List.getElem?_eq_getElem _⟩
      have hmem := List.mem_of_getElem? hr
      have HR := Lib.hid hr
      have HTK := Lib.hid (take_snoc hr)
      have HM1 := Lib.hid (HM9.out r hmem)
      have HP1 := Lib.hid (HPS.out r hmem)
      clear hr hmem
      go_upto_block 2 with fail
      refine rnpages_any w0 wr q0 q1 gw gt en ln lc k old lo lim V2 T2 l r H2.out HL.out HR.out hkn HM1.out hen HP1.out _ _ _ _ _ _ _ _ _ _ _ _ _ _ _ _ _ _ _ _ _ _ _ _ _ _ _ _ _ _ _ _ _ _ _ _ _ _ _ _ _ _ _ _ _ _ _ _ _ _ _ _ _ _ _ _ _ _ _ _ _ _ _ _ _ _ _ _ _ _ _ _ _ _ _ _ _ _ _ _ _ _ _ (fun _ _ => True) _ (fun x13 x14 x45 x46 x47 x48 x49 x50 x51 x52 x53 x54 x55 x56 x57 x58 x59 x60 x61 x62 x63 x64 x65 x66 x67 x68 x69 x70 x71 x72 x73 x74 x75 x76 x77 x78 x79 x80 x81 x82 x83 x84 x85 x86 w5 h5 => ?_)
      have H5 := Lib.hid h5
      clear h5
      (try simp only [Exit.inBlock, Exit.then])
      go_wp2
      go_roundw
      case rel => exact ⟨k + 1, _, _, by omega, by go_num, H5.out, Lib.hid ⟨by rw [HTK.out, fillR_snoc, HV.out.1], by rw [HTK.out, fillX_snoc, HV.out.2]⟩⟩
      case measure => simp [intOf]; omega
    · have hki : ¬ (k : Int) < (ln : Int) := by omega
      have HJ := Lib.hid (show l.take k = l by rw [show k = l.length by rw [← HN.out]; omega, List.take_length])
      go_wp2
      exact HK.out _ _ _ _ _ _ _ _ _ _ _ _ _ _ _ _ _ _ _ _ _ _ _ _ _ _ _ _ _ _ _ _ _ _ _ _ _ _ _ _ _ _ _ _ _ _ _ _ _ _ _ wr (by have h := H2.out; rw [HV.out.1, HV.out.2, HJ.out] at h; exact h)

end Go.Proofs.Ytoaglkbobndmeab

namespace Go.Proofs.Ytoaglkbobndmeab
open Go.RowKit

/-- What the document's New leaves. -/
def RNew8 (w : World) (lim : Nat) (wh tx : List Nat) (r : Ending) (w' : World) : Prop :=
  ∃ wv tv, r = .returned (.tuple #[.agg #[wv, tv, .int .i64 (lim : Int)], .int .i64 0]) ∧ IRow w.heap.size w' wv wh ∧ URow w.heap.size w' tv tx ∧ w.grownBy w' none

set_option maxRecDepth 100000 in
set_option maxHeartbeats 4000000 in
theorem rnew8_bad (w : World) (lo : Option Addr) (ln lc en lim old : Nat) (l : List Rc) (hl : RSq (fun _ => True) w (.slice lo ln lc) l) (hln : ln ≤ 10) (h30 : ∀ r ∈ l, r.2.length ≤ 30) (hen : en ≤ 100000) (hbad : en < 2 ∨ lim < en ∨ 65536 < lim ∨ right l en = false) :
    Calls Try.prog 9 #[.int .i64 (en : Int), .int .i64 (lim : Int), .slice lo ln lc, .int .u64 (old : Int)] w fun r w' => r = .returned (.tuple #[.agg (bx none 0 0 none 0 0 0), .int .i64 1]) ∧ w.grownBy w' none := by
  have hg := World.grownBy_alloc w (.cells (bx none 0 0 none 0 0 0) 40) none
  have HB0 := Lib.hid (heap_alloc_new w (.cells (bx none 0 0 none 0 0 0) 40))
  have HG := Lib.hid hg
  have HL := Lib.hid (hl.grown hg)
  have H30 := Lib.hid h30
  have HBD := Lib.hid hbad
  clear hg hl h30 hbad
  go_enter Try.func9, Try.ntmps9
  go_upto_region 1 with fail
  generalize w.alloc (.cells (bx none 0 0 none 0 0 0) 40) = W at HB0 HG HL ⊢
  by_cases h1 : en < 2
  · have h1i : (en : Int) < 2 := by omega
    obtain ⟨d0, d1, d2, f0, f1, f2⟩ := cells3 HB0.out
    go_wp2
    refine bodyPost_ret (results_S8d rfl _ _ w.heap.size _ _ rfl rfl (store3 HB0.out _ _ _) rfl) rfl ?_
    exact ⟨rfl, gnew HG.out (gset3 W w.heap.size (.slice none 0 0) (.slice none 0 0) (.int .i64 0)) (Nat.le_refl _)⟩
  · have h1i : ¬ (en : Int) < 2 := by omega
    by_cases h2 : lim < en
    · have h2i : (lim : Int) < (en : Int) := by omega
      obtain ⟨d0, d1, d2, f0, f1, f2⟩ := cells3 HB0.out
      go_wp2
      refine bodyPost_ret (results_S8d rfl _ _ w.heap.size _ _ rfl rfl (store3 HB0.out _ _ _) rfl) rfl ?_
      exact ⟨rfl, gnew HG.out (gset3 W w.heap.size (.slice none 0 0) (.slice none 0 0) (.int .i64 0)) (Nat.le_refl _)⟩
    · have h2i : ¬ (lim : Int) < (en : Int) := by omega
      by_cases h3 : 65536 < lim
      · have h3i : (65536 : Int) < (lim : Int) := by omega
        obtain ⟨d0, d1, d2, f0, f1, f2⟩ := cells3 HB0.out
        go_wp2
        refine bodyPost_ret (results_S8d rfl _ _ w.heap.size _ _ rfl rfl (store3 HB0.out _ _ _) rfl) rfl ?_
        exact ⟨rfl, gnew HG.out (gset3 W w.heap.size (.slice none 0 0) (.slice none 0 0) (.int .i64 0)) (Nat.le_refl _)⟩
      · have h3i : ¬ (65536 : Int) < (lim : Int) := by omega
        have HF := Lib.hid (show right l en = false by
          rcases HBD.out with e | e | e | e
          · omega
          · omega
          · omega
          · exact e)
        go_wp2_with (first
          | (go_at_call 11; (with_reducible refine (rright_any W _ lo ln lc l en HL.out hln H30.out hen).mono ?_); rw [HF.out]; rintro r w3 ⟨rfl, hg3⟩; have HQ0 := Lib.hid ((hg3.block _ (lt_of_block HB0.out) (by simp)).trans HB0.out); obtain ⟨d0, d1, d2, f0, f1, f2⟩ := cells3 HQ0.out; have HG3 := Lib.hid (gtrans HG.out hg3); clear hg3)
          | go_in)
        refine bodyPost_ret (results_S8d rfl _ _ w.heap.size _ _ rfl rfl (store3 HQ0.out _ _ _) rfl) rfl ?_
        exact ⟨rfl, gnew HG3.out (gset3 w3 w.heap.size (.slice none 0 0) (.slice none 0 0) (.int .i64 0)) (Nat.le_refl _)⟩

theorem madeRow {t : TypeId} {e : Nat → Value} {base n q : Nat} {w : World} {c : Nat × Nat} (h : w.heap[q]? = some (.cells (madeCells #[e 0] n) t c)) (hc : c = (0, 0)) (hb : base ≤ q) (hn : n ≤ maxLen) : NRow t e base w (.slice (some ⟨q, 0, none⟩) n n) (mapR (fun _ => 0) n) := by
  subst hc
  have hl : (mapR (fun _ => 0) n) = List.replicate n 0 := by
    apply List.ext_getElem?
    intro j
    by_cases hj : j < n
    · rw [mapR_at hj]; simp [hj]
    · rw [List.getElem?_eq_none (by simp [mapR]; omega), List.getElem?_eq_none (by simp; omega)]
  rw [hl]
  unfold NRow
  rw [List.length_replicate]
  refine ⟨by simp, .inr ⟨q, n, _, rfl, hb, h, Nat.le_refl _, hn, by simp [madeCells], ?_⟩⟩
  rw [toList_madeCells_one]
  simp

theorem three_lit (w : World) (a b c : Obj) : ((((w.alloc a).alloc b).alloc c).drew).heap[w.heap.size]? = some a ∧ ((((w.alloc a).alloc b).alloc c).drew).heap[w.heap.size + 1]? = some b ∧ ((((w.alloc a).alloc b).alloc c).drew).heap[w.heap.size + 1 + 1]? = some c ∧ w.grownBy ((((w.alloc a).alloc b).alloc c).drew) none := by
  refine ⟨?_, ?_, ?_, gtrans (gtrans (two_grown w a b) (World.grownBy_alloc _ c none)) (gdrew _)⟩
  · exact (Below.heap_alloc _ c _ (lt_of_block (two_lit0 w a b))).trans (two_lit0 w a b)
  · exact (Below.heap_alloc _ c _ (lt_of_block (two_lit1 w a b))).trans (two_lit1 w a b)
  · have h := heap_alloc_new ((w.alloc a).alloc b) c
    rw [show ((w.alloc a).alloc b).heap.size = w.heap.size + 1 + 1 by simp] at h
    exact h
theorem NAt.make {w w3 W : World} {q1 gw gt en : Nat} {lim : Int} (hg3 : w.grownBy w3 none) (hq0 : w3.heap[w.heap.size]? = some (.cells (bx none 0 0 none 0 0 0) 40 (0, 0))) (g : w3.grownBy W none)
    (hbox : W.heap[q1]? = some (.cells (bx (some ⟨gw, 0, none⟩) en en (some ⟨gt, 0, none⟩) en en lim) 40 (0, 0))) (hgw : W.heap[gw]? = some (.cells (madeCells #[Value.int .i64 0] en) 3 (0, 0))) (hgt : W.heap[gt]? = some (.cells (madeCells #[Value.int .u64 0] en) 24 (0, 0)))
    (hen : en ≤ 100000) (h1 : w3.heap.size ≤ q1 ∧ w3.heap.size ≤ gw ∧ w3.heap.size ≤ gt ∧ q1 ≠ gw ∧ q1 ≠ gt ∧ gw ≠ gt) : NAt w w.heap.size q1 gw gt en lim (fun _ => 0) (fun _ => 0) W := by
  have hs := lt_of_block hq0
  have hm : en ≤ maxLen := by unfold maxLen; omega
  exact ⟨(g.block _ hs (by simp)).trans hq0, hbox, madeRow (e := encI) hgw rfl (by omega) hm, madeRow (e := encU) hgt rfl (by omega) hm, gtrans hg3 g, by omega⟩

set_option maxRecDepth 1000000 in
set_option maxHeartbeats 8000000 in
theorem rnew8_good (w : World) (lo : Option Addr) (ln lc en lim old : Nat) (l : List Rc) (hl : RSq (fun _ => True) w (.slice lo ln lc) l) (hln : ln ≤ 10) (h30 : ∀ r ∈ l, r.2.length ≤ 30) (hen : en ≤ 100000) (h2 : 2 ≤ en) (hlim : en ≤ lim) (hlim2 : lim ≤ 65536) (hok : right l en = true) :
    Calls Try.prog 9 #[.int .i64 (en : Int), .int .i64 (lim : Int), .slice lo ln lc, .int .u64 (old : Int)] w fun r w' => RNew8 w lim (mapR (fillR old (fun _ => 0) l) en) (mapR (fillX (fun _ => 0) l) en) r w' := by
  have hg := World.grownBy_alloc w (.cells (bx none 0 0 none 0 0 0) 40) none
  have HB0 := Lib.hid (heap_alloc_new w (.cells (bx none 0 0 none 0 0 0) 40))
  have HG := Lib.hid hg
  have HL := Lib.hid (hl.grown hg)
  have H30 := Lib.hid h30
  have HOK := Lib.hid hok
  have HPS := Lib.hid (fun r hr p hp => ((right_iff.1 hok).each r hr).2.1 p hp)
  have HL0 := Lib.hid hl
  have h1i : ¬ (en : Int) < 2 := by omega
  have h2i : ¬ (lim : Int) < (en : Int) := by omega
  have h3i : ¬ (65536 : Int) < (lim : Int) := by omega
  have heni : ¬ (en : Int) < 0 := by omega
  clear hg hl h30 hok
  go_enter Try.func9, Try.ntmps9
  go_upto_region 1 with fail
  generalize w.alloc (.cells (bx none 0 0 none 0 0 0) 40) = W at HB0 HG HL ⊢
  go_upto_region 6 with (first
    | (go_at_call 11; (with_reducible refine (rright_any W _ lo ln lc l en HL.out hln H30.out hen).mono ?_); rw [HOK.out]; rintro r w3 ⟨rfl, hg3⟩; have HQ0 := Lib.hid ((hg3.block _ (lt_of_block HB0.out) (by simp)).trans HB0.out); have HG3 := Lib.hid (gtrans HG.out hg3); clear hg3)
    | go_in)
  have hmI := fun w => run_make_row' (P := Try.prog) 37 3 (.int .i64 0) 8 Try.underlying37 infoInt rfl .i64 .i64 en (by omega) (by omega) w
  have hmU := fun w => run_make_row' (P := Try.prog) 38 24 (.int .u64 0) 8 Try.underlying38 infoU64 rfl .i64 .i64 en (by omega) (by omega) w
  have hs3 := lt_of_block HQ0.out
  go_cut [11] from 33 (fun pv wx => ∃ q1 gw gt : Nat, pv = .pointer (some ⟨q1, 0, none⟩) ∧ NAt w w.heap.size q1 gw gt en (lim : Int) (fun _ => 0) (fun _ => 0) wx)
  case first =>
    go_region
    all_goals
      go_wp2
      go_meet
      case rel =>
        obtain ⟨a1, a2, a3, a4⟩ := three_lit w3 _ _ _
        exact ⟨_, _, _, rfl, NAt.make HG3.out HQ0.out a4 (by assumption) (by assumption) (by assumption) hen (by omega)⟩
  case rest =>
    obtain ⟨q1, gw, gt, rfl, hna⟩ := hcut
    have HNA := Lib.hid hna
    clear hna hmI hmU
    go_upto_block 0 with fail
    refine rnall_any w wc w.heap.size q1 gw gt en ln lc old lo (lim : Int) l HNA.out HL0.out (by omega) (fun r hr => Nat.le_trans (H30.out r hr) (by decide)) hen (fun r hr p hp => (HPS.out r hr p hp).2) _ _ _ _ _ _ _ _ _ _ _ _ _ _ _ _ _ _ _ _ _ _ _ _ _ _ _ _ _ _ _ _ _ _ _ _ _ _ _ _ _ _ _ _ _ _ _ _ _ _ _ _ _ _ _ _ _ _ _ _ _ _ _ _ _ _ _ _ _ _ _ _ _ _ _ _ _ _ _ _ _ _ _ _ _ _ (fun x12 x13 x14 x39 x40 x41 x42 x43 x44 x45 x46 x47 x48 x49 x50 x51 x52 x53 x54 x55 x56 x57 x58 x59 x60 x61 x62 x63 x64 x65 x66 x67 x68 x69 x70 x71 x72 x73 x74 x75 x76 x77 x78 x79 x80 x81 x82 x83 x84 x85 x86 w5 h5 => ?_)
    have H5 := Lib.hid h5
    clear h5
    obtain ⟨k0, k1, k2, -⟩ := cells3 H5.out.box
    obtain ⟨d0, d1, d2, f0, f1, f2⟩ := cells3 H5.out.res
    go_wp2
    have hs := gset3 w5 w.heap.size (.slice (some ⟨gw, 0, none⟩) en en) (.slice (some ⟨gt, 0, none⟩) en en) (.int .i64 (lim : Int))
    refine bodyPost_ret (results_S8d rfl _ _ w.heap.size _ _ rfl rfl (store3 H5.out.res _ _ _) rfl) rfl ?_
    obtain ⟨n1, n2, n3, n4, n5, n6, n7⟩ := H5.out.ne
    exact ⟨_, _, rfl, H5.out.wh.far hs (.inr (by simp [Value.ownBlock]; omega)), H5.out.tx.far hs (.inr (by simp [Value.ownBlock]; omega)), gnew H5.out.gr hs (Nat.le_refl _)⟩

end Go.Proofs.Ytoaglkbobndmeab
