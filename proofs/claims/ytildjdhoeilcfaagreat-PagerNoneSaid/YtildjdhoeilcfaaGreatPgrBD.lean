/-
  Layer 11: write. Own work.
-/
import Derived.Test.YtildjdhoeilcfaaGreatPgrBC
import Derived.Deep.CutBlock

namespace Go.Proofs.YtildjdhoeilcfaaGreat
open Go.RowKit Go.Maps

theorem jgr_len {M : SM} {n : Nat} (h : jgrE M n = 0) : n ≤ (jgrM M n).pg.length := by
  unfold jgrE at h
  unfold jgrM
  split at h
  · rename_i k; rw [if_pos (.inl k)]; exact k
  · rename_i k
    split at h
    · simp at h
    · rename_i k2
      rw [if_neg (fun e => e.elim k k2), if_pos h]
      show n ≤ (M.pg ++ List.replicate (n - M.pg.length) _).length
      simp; omega
theorem jgrE_codes {M : SM} {n : Nat} (h : n ≤ M.limit) : jgrE M n = 0 ∨ jgrE M n = 20 := by
  unfold jgrE
  split
  · exact .inl rfl
  · rw [if_neg (by omega)]; exact cE_codes _ _
theorem wrs_keep (C : Nat → List Int) : ∀ (l : List Nat) (M M1 : SM) (c : Nat), wrsM C M l = (M1, 0) → Wel M c → (∀ p ∈ l, p < M.pg.length) → Wel M1 (c + l.length) ∧ M1.pg.length = M.pg.length ∧ M1.size = M.size ∧ M1.limit = M.limit
  | [], M, M1, c, h, hW, _ => by
    simp only [wrsM, Prod.mk.injEq] at h
    obtain ⟨rfl, _⟩ := h
    exact ⟨hW, rfl, rfl, rfl⟩
  | p :: l, M, M1, c, h, hW, hl => by
    unfold wrsM at h
    split at h
    · have hp := hl p (by simp)
      have e1 : (wrM M p (C p)).pg.length = M.pg.length := by show (List.set _ _ _).length = _; rw [List.length_set]
      obtain ⟨a, b, c1, d⟩ := wrs_keep C l (wrM M p (C p)) M1 (c + 1) h (hW.wr hp) (fun q hq => by rw [e1]; exact hl q (by simp [hq]))
      exact ⟨a.mono (by simp; omega), b.trans e1, c1, d⟩
    · simp at h
theorem PgsAt.ks {w : World} {b S : Nat} {K : List Nat} {C : Nat → List Int} (h : PgsAt w b S K C) : ∃ V, KsAt w b K V ∧ ∀ p ∈ K, Own8 0 w S (V p) (C p) := by
  obtain ⟨V, h1, h2, h3, h4⟩ := h
  exact ⟨V, ⟨h1, h2, h3⟩, h4⟩
theorem mkeys_at (w : World) (mb : Option Nat) : w.grownBy (w.alloc (.cells #[.map mb] 129)) none := World.grownBy_alloc _ _ _
theorem mset_cell (w : World) (mb : Option Nat) : (w.alloc (.cells #[.map mb] 129)).cell? ⟨w.heap.size, 0, none⟩ = some (.map mb) := by
  have h := lit_block w (.cells #[.map mb] 129)
  generalize w.alloc (.cells #[.map mb] 129) = W at h ⊢
  simp [World.cell?, h]

set_option maxRecDepth 20000 in
set_option maxHeartbeats 8000000 in
theorem dwrite_any {B B2 x S d c : Nat} {w : World} {T : TV} {M : SM} (h : DraftAt B w x S T) (hd : PD B2 w d M) (he : M.size = S) (hW : Wel M c) (hc : c + T.K.length ≤ 90000) (hen : T.sp.en ≤ M.limit) (hK : ∀ p ∈ T.K, p < T.sp.en) :
    Calls Tryz.prog 106 #[.pointer (some ⟨x, 0, none⟩), .pointer (some ⟨d, 0, none⟩)] w fun r w' => r = .returned (.int .i64 (dwM T M).2) ∧ PD B2 w' d (dwM T M).1 ∧ Dfr B2 w w' := by
  obtain ⟨Bs, mb, H, hD⟩ := h.un
  have hl6 := hW.l
  have KE := Lib.hid (send_any w Bs T.sp hD.sp)
  have KG := Lib.hid (jgrow_any (n := T.sp.en) hd (hW.fine (by omega)) hW.s2 hW.l (by omega))
  have HD := Lib.hid h
  have HBX := Lib.hid hD.box
  obtain ⟨c0, c1, c2⟩ := cells3 hD.box
  have hdw : Hid (dwM T M = if jgrE M T.sp.en = 0 then wrsM T.C (jgrM M T.sp.en) T.K else (jgrM M T.sp.en, jgrE M T.sp.en)) := Lib.hid rfl
  obtain ⟨RR, hRR⟩ : ∃ RR, RR = dwM T M := ⟨_, rfl⟩
  rw [← hRR] at hdw ⊢
  clear hRR
  rcases jgrE_codes hen with e0 | e0
  · have HRR := Lib.hid (hdw.out.trans (if_pos e0))
    have hlen := jgr_len e0
    have w1 : Wel (jgrM M T.sp.en) (c + 1) := hW.jgr
    obtain ⟨z1, z2, z3⟩ := jgrM_size M T.sp.en
    have hS4 : S ≤ 4096 := by have := hW.s2; omega
    have hsz1 : (jgrM M T.sp.en).size = S := z1.trans he
    rw [e0] at KG
    obtain ⟨V, hks, h8⟩ := hD.pg.ks
    have HKS := Lib.hid hks
    have H8 := Lib.hid h8
    have HMb := Lib.hid hD.pg.ek
    have hwp := w1.p
    have hwl := w1.l
    generalize jgrM M T.sp.en = M1 at KG HRR hlen w1 hsz1 hwp hwl
    have HM2 := Lib.hid (fun k M2 (hk : wrsM T.C M1 (T.K.take k) = (M2, 0)) => wrs_keep T.C _ M1 M2 (c + 1) hk w1 (fun p hp => Nat.lt_of_lt_of_le (hK p (List.mem_of_mem_take hp)) hlen))
    have HKp := Lib.hid hK
    clear hdw z1 z2 z3 he hks h8 hd h hD hW hK
    go_enter Tryz.func106, Tryz.ntmps106
    go_wp2_with (first
      | (go_at_call 104; ((with_reducible refine KE.out.mono ?_); rintro r w2 ⟨rfl, rfl⟩))
      | (go_at_call 131; ((with_reducible refine KG.out.mono ?_); rintro r w2 ⟨rfl, hd, hf⟩); have HD2 := Lib.hid hd; have HF2 := Lib.hid hf; have HBX2 := Lib.hid (dfr_cells hf HBX.out (by decide)); clear hd hf c0 c1 c2; obtain ⟨c0, c1, c2⟩ := cells3 HBX2.out)
      | (go_at_call 148; ((with_reducible refine (mkeys_any w2 (some mb)).mono ?_); rintro r w3 ⟨rfl, rfl⟩))
      | (go_at_call 147; ((with_reducible refine (msorted_all _ w2.heap.size mb T.K V (mset_cell _ _) ((HKS.out.kept ((kfr_dfr HF2.out).block mb HMb.out.2 (.inr (by rw [HMb.out.1]; exact KD_none)))).grown (mkeys_at _ _)) (by omega)).mono ?_); rintro r w4 ⟨a4, c4, rfl, ho, hg⟩); have HG4 := Lib.hid (gtrans (mkeys_at w2 (some mb)) hg); have HO4 := Lib.hid ho; have HD4 := Lib.hid (HD2.out.new HG4.out); have HF4 := Lib.hid (HF2.out.trans (dfr_new (B := B2) HG4.out)); clear ho hg))
    go_loopw [26] (fun i wr => ∃ (k : Nat) (M2 : SM), k ≤ T.K.length ∧ i = .int .i64 (k : Int) ∧ Hid (wrsM T.C M1 (T.K.take k) = (M2, 0) ∧ PD B2 wr d M2 ∧ Dfr B2 w4 wr)) (fun i _ => T.K.length - (intOf i).toNat)
    case atStart => exact ⟨0, M1, Nat.zero_le _, rfl, Lib.hid ⟨rfl, HD4.out, Dfr.refl _ _⟩⟩
    case round =>
      obtain ⟨k, M2, hk, rfl, HR⟩ := hrel
      by_cases hlt : k < T.K.length
      · have hki : (k : Int) < (T.K.length : Int) := by omega
        obtain ⟨bl, ol, e4, _, hcl⟩ := HO4.out.psq.at k hlt
        subst e4
        have hmem : T.K.getD k 0 ∈ T.K := by rw [List.getD_eq_getElem?_getD, List.getElem?_eq_getElem hlt]; exact List.getElem_mem hlt
        have htk : T.K.take (k + 1) = T.K.take k ++ [T.K.getD k 0] := by
          rw [List.take_succ_eq_append_getElem hlt, List.getD_eq_getElem?_getD, List.getElem?_eq_getElem hlt]; rfl
        have hcl2 : wr.cell? ⟨bl, ol + k, none⟩ = some (.int .u32 ((T.K.getD k 0 : Nat) : Int)) := by
          have h1 := (HO4.out.kfr (kfr_dfr HR.out.2.2) (not_KD' (by decide))).psq.at k hlt
          obtain ⟨b', o', e5, _, h2⟩ := h1
          injection e5 with e5
          injection e5 with e6 e7
          subst e6; subst e7
          exact h2
        obtain ⟨hw2, hp2, hs2, hli2⟩ := HM2.out k M2 HR.out.1
        have hkl : (T.K.take k).length = k := by rw [List.length_take]; omega
        rw [hkl] at hw2
        have HKr := Lib.hid ((HKS.out.kept ((kfr_dfr HF4.out).block mb HMb.out.2 (.inr (by rw [HMb.out.1]; exact KD_none)))).kept ((kfr_dfr HR.out.2.2).block mb (by have := HF4.out.size; have := HMb.out.2; omega) (.inr (by rw [Kfr.ek (kfr_dfr HF4.out) HMb.out.2 (.inr (by rw [HMb.out.1]; exact KD_none)), HMb.out.1]; exact KD_none))))
        have h8r := (kfr_dfr (HF4.out.trans HR.out.2.2)).own8 (H8.out _ hmem) (not_KD' (by decide))
        have hpl : T.K.getD k 0 < M2.pg.length := by have := HKp.out _ hmem; omega
        have hp32 : T.K.getD k 0 < 4294967296 := by omega
        have HTK := Lib.hid htk
        have hat := at_pgD V (T.K.getD k 0) (.held (.slice none 0 0)) T.K hmem
        generalize T.K.getD k 0 = p at hcl2 h8r hpl hp32 HTK hat
        obtain ⟨av, cv, ev⟩ := own_shape h8r
        have hzz : (zeroValue 32).run Tryz.prog wr = .ok (.slice none 0 0) wr := by kernel_rfl
        obtain ⟨v, ps, hrun, hv⟩ := HKr.out.1.lookup lawP Tryz.underlying129 hzz (zd := .held (.slice none 0 0)) (zp := []) rfl (key := .int .u32 (p : Int)) (keyP hp32)
        rw [hat] at hv
        have ev2 := heldR_inv hv
        rw [ev] at ev2 h8r
        subst ev2
        have KW := Lib.hid (HR.out.2.1.write (i := p) (by rw [hs2]; exact hsz1) (hw2.fine (by omega)) hpl hS4 h8r (by have := hw2.lo; omega) (p : Int) rfl)
        have HRs := Lib.hid (wrs_snoc T.C _ M1 M2 p HR.out.1)
        have HBXr := Lib.hid (dfr_cells (HF4.out.trans HR.out.2.2) HBX.out (by decide))
        obtain ⟨d0, d1, d2⟩ := cells3 HBXr.out
        have HDE := Lib.hid (deE_cE M2)
        clear hv hat ev h8r hmem htk hcl
        unfold wrX at KW
        rcases cE_codes M2.fails M2.ahead with e1 | e1
        · rw [e1] at KW HRs
          simp only [if_true] at KW HRs
          go_wp2_with (first
            | (go_at_call 149; ((with_reducible refine KW.out.mono ?_); rintro r w5 ⟨rfl, hd, hf⟩); have HD5 := Lib.hid hd; have HF5 := Lib.hid hf; clear hd hf))
          go_roundw
          case rel => exact ⟨k + 1, wrM M2 p (T.C p), by omega, by go_num, Lib.hid ⟨by rw [HTK.out, HRs.out], HD5.out, HR.out.2.2.trans HF5.out⟩⟩
          case measure => simp [intOf]; omega
        · rw [e1] at KW HRs
          simp only [if_neg (show ¬ ((20 : Int) = 0) by decide)] at KW HRs
          have HRT := Lib.hid (wrs_pre T.C _ (T.K.drop (k + 1)) M1 _ _ HRs.out (by decide))
          have HTD := Lib.hid (show T.K.take k ++ [p] ++ T.K.drop (k + 1) = T.K by rw [← HTK.out]; exact List.take_append_drop _ _)
          go_wp2_with (first
            | (go_at_call 149; ((with_reducible refine KW.out.mono ?_); rintro r w5 ⟨rfl, hd, hf⟩); have HD5 := Lib.hid hd; have HF5 := Lib.hid hf; clear hd hf)
            | (go_at_call 52; ((with_reducible refine (diskError_as 20 20 (by decide) _).mono ?_); rintro r w6 ⟨rfl, rfl⟩)))
          go_ret
          have hrt := HRT.out
          rw [HTD.out] at hrt
          exact ⟨by rw [HRR.out, hrt]; rfl, by rw [HRR.out, hrt]; exact HD5.out, HF4.out.trans (HR.out.2.2.trans HF5.out)⟩
      · obtain rfl : k = T.K.length := by omega
        go_wp2
        go_ret
        have hr1 := HR.out.1
        rw [List.take_length] at hr1
        exact ⟨by rw [HRR.out, hr1]; rfl, by rw [HRR.out, hr1]; exact HR.out.2.1, HF4.out.trans HR.out.2.2⟩
  · have HRR := Lib.hid (hdw.out.trans (if_neg (by rw [e0]; decide)))
    rw [e0] at KG HRR
    clear hdw
    go_enter Tryz.func106, Tryz.ntmps106
    go_wp2_with (first
      | (go_at_call 104; ((with_reducible refine KE.out.mono ?_); rintro r w2 ⟨rfl, rfl⟩))
      | (go_at_call 131; ((with_reducible refine KG.out.mono ?_); rintro r w2 ⟨rfl, hd, hf⟩); have HD2 := Lib.hid hd; have HF2 := Lib.hid hf; clear hd hf))
    go_ret
    exact ⟨by rw [HRR.out]; rfl, by rw [HRR.out]; exact HD2.out, HF2.out⟩

end Go.Proofs.YtildjdhoeilcfaaGreat

namespace Go.Proofs.YtildjdhoeilcfaaGreat
open Go.RowKit Go.Maps

/-- Pages let go of, one behind the other. -/
def frAll : TV → List Nat → TV × Int
  | T, [] => (T, 0)
  | T, p :: l => if (freeT T p).2 = 0 then frAll (freeT T p).1 l else ((freeT T p).1, (freeT T p).2)
theorem frAll_split : ∀ (l m : List Nat) (T T1 : TV), frAll T (l ++ m) = (T1, 0) → ∃ T2, frAll T l = (T2, 0) ∧ frAll T2 m = (T1, 0)
  | [], m, T, T1, h => ⟨T, rfl, h⟩
  | p :: l, m, T, T1, h => by
    simp only [List.cons_append] at h
    unfold frAll at h
    split at h
    · rename_i k
      obtain ⟨T2, a, b⟩ := frAll_split l m _ _ h
      exact ⟨T2, by unfold frAll; rw [if_pos k]; exact a, b⟩
    · rename_i k
      simp at h
      exact absurd h.2 k
theorem frAll_app : ∀ (l m : List Nat) (T T2 : TV), frAll T l = (T2, 0) → frAll T (l ++ m) = frAll T2 m
  | [], m, T, T2, h => by
    simp only [frAll, Prod.mk.injEq] at h
    obtain ⟨rfl, _⟩ := h
    rfl
  | p :: l, m, T, T2, h => by
    unfold frAll at h
    simp only [List.cons_append]
    conv => lhs; unfold frAll
    split at h
    · rename_i k
      rw [if_pos k]
      exact frAll_app l m _ T2 h
    · rename_i k
      simp at h
      exact absurd h.2 k
theorem frAll_n : ∀ (l : List Nat) (T T1 : TV) (e : Int), frAll T l = (T1, e) → T1.n = T.n ∧ T1.C = T.C
  | [], T, T1, e, h => by
    simp only [frAll, Prod.mk.injEq] at h
    obtain ⟨rfl, _⟩ := h
    exact ⟨rfl, rfl⟩
  | p :: l, T, T1, e, h => by
    have hn : (freeT T p).1.n = T.n ∧ (freeT T p).1.C = T.C := by unfold freeT; split <;> exact ⟨rfl, rfl⟩
    unfold frAll at h
    split at h
    · obtain ⟨a, b⟩ := frAll_n l _ _ _ h
      exact ⟨a.trans hn.1, b.trans hn.2⟩
    · simp only [Prod.mk.injEq] at h
      obtain ⟨rfl, _⟩ := h
      exact hn
theorem cells6' {W : World} {q : Nat} {x0 x1 x2 x3 x4 x5 : Value} {t : TypeId} (h : W.heap[q]? = some (.cells #[x0, x1, x2, x3, x4, x5] t (0, 0))) :
    (W.cell? ⟨q, 0, none⟩ = some x0 ∧ W.cell? ⟨q, 1, none⟩ = some x1 ∧ W.cell? ⟨q, 2, none⟩ = some x2 ∧ W.cell? ⟨q, 3, none⟩ = some x3 ∧ W.cell? ⟨q, 4, none⟩ = some x4 ∧ W.cell? ⟨q, 5, none⟩ = some x5) ∧
    W.frozen? ⟨q, 0, none⟩ = false ∧ W.frozen? ⟨q, 1, none⟩ = false ∧ W.frozen? ⟨q, 2, none⟩ = false ∧ W.frozen? ⟨q, 3, none⟩ = false ∧ W.frozen? ⟨q, 4, none⟩ = false ∧ W.frozen? ⟨q, 5, none⟩ = false := by
  refine ⟨⟨?_, ?_, ?_, ?_, ?_, ?_⟩, ?_, ?_, ?_, ?_, ?_, ?_⟩ <;> simp [World.cell?, World.frozen?, h]
abbrev set6 (W : World) (q : Nat) (a b c d e f : Value) : World := (((((W.setCell ⟨q, 0, none⟩ a).setCell ⟨q, 1, none⟩ b).setCell ⟨q, 2, none⟩ c).setCell ⟨q, 3, none⟩ d).setCell ⟨q, 4, none⟩ e).setCell ⟨q, 5, none⟩ f
theorem store6' {W : World} {q : Nat} {x0 x1 x2 x3 x4 x5 : Value} {t : TypeId} (h : W.heap[q]? = some (.cells #[x0, x1, x2, x3, x4, x5] t (0, 0))) (a b c d e f : Value) :
    (set6 W q a b c d e f).heap[q]? = some (.cells #[a, b, c, d, e, f] t (0, 0)) ∧ Kfr (fun x => x = some t) 0 W (set6 W q a b c d e f) := by
  have h1 : _ = some (Obj.cells #[a, x1, x2, x3, x4, x5] t (0, 0)) := heap_setCell_same _ q 0 _ t a h
  have h2 : _ = some (Obj.cells #[a, b, x2, x3, x4, x5] t (0, 0)) := heap_setCell_same _ q 1 _ t b h1
  have h3 : _ = some (Obj.cells #[a, b, c, x3, x4, x5] t (0, 0)) := heap_setCell_same _ q 2 _ t c h2
  have h4 : _ = some (Obj.cells #[a, b, c, d, x4, x5] t (0, 0)) := heap_setCell_same _ q 3 _ t d h3
  have h5 : _ = some (Obj.cells #[a, b, c, d, e, x5] t (0, 0)) := heap_setCell_same _ q 4 _ t e h4
  exact ⟨heap_setCell_same _ q 5 _ t f h5, (((((kfr_set h 0 a).trans (kfr_set h1 1 b)).trans (kfr_set h2 2 c)).trans (kfr_set h3 3 d)).trans (kfr_set h4 4 e)).trans (kfr_set h5 5 f)⟩
theorem results_C {fn : Func} {p u : Tmp} (h : fn.results = #[.cell p 119, .tmp u]) (tmps : Array Value) (W : World) (q : Nat) (cs : Array Value) (e : Value) (hp : tmps.getD p undef = .pointer (some ⟨q, 0, none⟩)) (he : tmps.getD u undef = e)
    (hq : W.heap[q]? = some (.cells cs 119 (0, 0))) (hs : cs.size = 6) : (results fn tmps).run Tryz.prog W = .ok (.tuple #[.agg cs, e]) W := by
  have hld := run_loadVar_row (P := Tryz.prog) W q 119 119 cs (0, 0) _ hq Tryz.underlying119 rfl (by rw [hs]; kernel_rfl)
  have hp' : tmps[p]?.getD undef = .pointer (some ⟨q, 0, none⟩) := by simpa using hp
  have he' : tmps[u]?.getD undef = e := by simpa using he
  simp [results, h, hp', he', asAddr, hld]

/-- A block that wasn't there at first. -/
theorem Kfr.fresh {P : Option TypeId → Prop} {B : Nat} {w0 w w' : World} {q : Nat} (h : Kfr P B w0 w) (hq : w0.heap.size ≤ q) (g : w.grownBy w' (some q)) : Kfr P B w0 w' :=
  ⟨g.os.trans h.os, g.tape.trans h.tape, g.output.trans h.output, Nat.le_trans h.size g.size, fun i hi hp => (g.block i (Nat.lt_of_lt_of_le hi h.size) (by intro e; injection e with e; omega)).trans (h.block i hi hp)⟩
theorem set6_grown (W : World) (q : Nat) (a b c d e f : Value) : W.grownBy (set6 W q a b c d e f) (some q) := gtrans (gtrans (gtrans (gtrans (gtrans (gset W ⟨q, 0, none⟩ a) (gset _ ⟨q, 1, none⟩ b)) (gset _ ⟨q, 2, none⟩ c)) (gset _ ⟨q, 3, none⟩ d)) (gset _ ⟨q, 4, none⟩ e)) (gset _ ⟨q, 5, none⟩ f)
/-- What the change must be like, once its lists are taken, to be told of. -/
structure ClOk (S : Nat) (T : TV) (sp : Sp) (l : List Nat) : Prop where
  few : Few sp T.n
  rise : (flatR (recsM sp T.n)).Pairwise lexP
  ge : manyF ((flatR (recsM sp T.n)).length : Int) (S : Int) ≤ (l.length : Int)
  ll : l.length ≤ 65536
  en : sp.en < 4294967296
/-- What close leaves: l are the new lists. -/
def CLR (B x S M O : Nat) (w : World) (T : TV) (r : Ending) (w' : World) : Prop :=
  Kfr KS B w w' ∧
  ((∃ sp l pa pc la lc, r = .returned (.tuple #[.agg #[.int .u64 (T.n : Int), .int .u32 (sp.en : Int), .int .u32 0, .int .u32 ((aftL l 0 : Nat) : Int), .slice pa (flatR (recsM sp T.n)).length pc, .slice la l.length lc], .int .i64 0]) ∧
     TakeTo S ((O : Int) - (T.sp.us.length : Int)) T.sp [] sp l ∧ ¬ ((l.length : Int) < manyF ((O : Int) - (T.sp.us.length : Int) + (sp.us.length : Int)) (S : Int)) ∧
     POwn 266 w.heap.size w' (.slice pa (flatR (recsM sp T.n)).length pc) (flatR (recsM sp T.n)) ∧ OwnP w.heap.size w' (.slice la l.length lc) l ∧ (l = [] → la = none ∧ lc = 0) ∧ DraftAt B w' x S (putT { T with sp := sp } l (flatR (recsM sp T.n)) M S l.length)) ∨
   (∃ sp l T', r = .returned (.tuple #[.agg #[.int .u64 0, .int .u32 0, .int .u32 0, .int .u32 0, .slice none 0 0, .slice none 0 0], .int .i64 21]) ∧ TakeTo S ((O : Int) - (T.sp.us.length : Int)) T.sp [] sp l ∧ takeM sp = (sp, 0, 21) ∧ DraftAt B w' x S T'))

set_option maxRecDepth 20000 in
set_option maxHeartbeats 8000000 in
theorem dclose_any {B x S M lc0 : Nat} {la0 : Option Addr} {w : World} {T T1 : TV} {ls : List Nat} (h : DraftAt B w x S T) (hl : PgT w (.slice la0 ls.length lc0) ls) (hfr : frAll T ls = (T1, 0)) (s1 : 512 ≤ S) (s2 : S ≤ 4096) (hM : (M : Int) = roomI (S : Int))
    (hf : Few T1.sp T1.n) (hk : TkOk T1.sp) (hK : T1.K.length ≤ 100000) (hn : T.n < 18446744073709551616)
    (hc : ∀ sp l, TakeTo S (((flatR (recsM T1.sp T1.n)).length : Int) - (T1.sp.us.length : Int)) T1.sp [] sp l → ¬ ((l.length : Int) < manyF (((flatR (recsM T1.sp T1.n)).length : Int) - (T1.sp.us.length : Int) + (sp.us.length : Int)) (S : Int)) → ClOk S T1 sp l) :
    Calls Tryz.prog 105 #[.pointer (some ⟨x, 0, none⟩), .slice la0 ls.length lc0, .int .i64 (S : Int)] w fun r w' => CLR B x S M (flatR (recsM T1.sp T1.n)).length w T1 r w' := by
  have HL := Lib.hid hl
  have hls : ls.length ≤ 9223372036854775807 := by obtain ⟨_, c, e, h1, h2, _⟩ := hl; have h9 : maxLen ≤ 9223372036854775807 := by decide
                                                   omega
  have HQ0 := Lib.hid (lit_block w (.cells #[.int .u64 0, .int .u32 0, .int .u32 0, .int .u32 0, .slice none 0 0, .slice none 0 0] 119))
  have HG0 := Lib.hid (World.grownBy_alloc w (.cells #[.int .u64 0, .int .u32 0, .int .u32 0, .int .u32 0, .slice none 0 0, .slice none 0 0] 119) none)
  have HD0 := Lib.hid (h.new HG0.out)
  have HFR := Lib.hid (fun k => frAll_split (ls.take k) (ls.drop k) T T1 (by rw [List.take_append_drop]; exact hfr))
  have HT1 := Lib.hid hfr
  obtain ⟨O, hO⟩ : ∃ O, O = (flatR (recsM T1.sp T1.n)).length := ⟨_, rfl⟩
  have KTL := Lib.hid (fun W (k : DraftAt B W x S T1) => takeLists_any k hf hk s1 s2)
  rw [← hO] at KTL hc ⊢
  have HCL := Lib.hid hc
  clear h hl hc hf hk hfr
  go_enter Tryz.func105, Tryz.ntmps105
  go_wp2
  generalize w.alloc (.cells #[.int .u64 0, .int .u32 0, .int .u32 0, .int .u32 0, .slice none 0 0, .slice none 0 0] 119) = W0 at HQ0 HG0 HD0 ⊢
  go_loopw [18] (fun i wr => ∃ (k : Nat) (Tk : TV), k ≤ ls.length ∧ i = .int .i64 (k : Int) ∧ Hid (frAll T (ls.take k) = (Tk, 0) ∧ DraftAt B wr x S Tk ∧ Kfr KS B W0 wr)) (fun i _ => ls.length - (intOf i).toNat)
  case atStart => exact ⟨0, T, Nat.zero_le _, rfl, Lib.hid ⟨rfl, HD0.out, Kfr.refl _ _ _⟩⟩
  case round =>
    obtain ⟨k, Tk, hk, rfl, HR⟩ := hrel
    by_cases hlt : k < ls.length
    · have hki : (k : Int) < (ls.length : Int) := by omega
      obtain ⟨bl, ol, e4, _, hcl⟩ := ((HL.out.kfr (Kfr.of (P := KS) (B := B) HG0.out) (not_KS (by decide))).kfr HR.out.2.2 (not_KS (by decide))).at k hlt
      have hp32 : ls.getD k 0 < 4294967296 := HL.out.u32 _ (by rw [List.getD_eq_getElem?_getD, List.getElem?_eq_getElem hlt]; exact List.getElem_mem hlt)
      have htk : ls.take (k + 1) = ls.take k ++ [ls.getD k 0] := by
        rw [List.take_succ_eq_append_getElem hlt, List.getD_eq_getElem?_getD, List.getElem?_eq_getElem hlt]; rfl
      have hdr : ls.drop k = ls.getD k 0 :: ls.drop (k + 1) := by
        rw [List.drop_eq_getElem_cons hlt, List.getD_eq_getElem?_getD, List.getElem?_eq_getElem hlt]; rfl
      have hz : (freeT Tk (ls.getD k 0)).2 = 0 := by
        obtain ⟨T2, a, b⟩ := HFR.out k
        rw [HR.out.1] at a
        injection a with a _
        subst a
        rw [hdr] at b
        unfold frAll at b
        split at b
        · assumption
        · rename_i n
          simp at b
          exact absurd b.2 n
      have HTK := Lib.hid htk
      have HSN := Lib.hid (frAll_app (ls.take k) [ls.getD k 0] T Tk HR.out.1)
      subst e4
      clear hdr htk
      generalize ls.getD k 0 = p at hcl hp32 hz HTK HSN
      have HSN2 := Lib.hid (show frAll T (ls.take (k + 1)) = ((freeT Tk p).1, 0) by rw [HTK.out, HSN.out]; unfold frAll; rw [if_pos hz]; rfl)
      have KF := Lib.hid (dfree_any HR.out.2.1 hp32)
      rw [hz] at KF
      clear hz
      go_wp2_with (first
        | (go_at_call 61; ((with_reducible refine KF.out.mono ?_); rintro r w3 ⟨rfl, hd, hkf⟩); have HD3 := Lib.hid hd; have HK3 := Lib.hid (HR.out.2.2.trans hkf); clear hd hkf))
      go_roundw
      case rel => exact ⟨k + 1, (freeT Tk p).1, by omega, by go_num, Lib.hid ⟨HSN2.out, HD3.out, HK3.out⟩⟩
      case measure => simp [intOf]; omega
    · obtain rfl : k = ls.length := by omega
      obtain ⟨r1, r2, r3⟩ := HR.out
      rw [List.take_length] at r1
      obtain rfl : Tk = T1 := by
        have := r1.symm.trans HT1.out
        injection this
      have HK0 := Lib.hid (Kfr.trans (Kfr.of (P := KS) (B := B) HG0.out) r3)
      have HQ1 := Lib.hid (r3.cells HQ0.out (not_KS (by decide)))
      have KT := Lib.hid (KTL.out wr r2)
      clear HR r1 r2 r3 HQ0 HD0 HFR HT1 KTL
      go_wp2_with (fail)
      ((with_reducible refine KT.out.mono ?_))
      rintro r w2 ⟨hk2, hcs⟩
      have HK2 := Lib.hid (HK0.out.trans hk2)
      have HQ2 := Lib.hid (hk2.cells HQ1.out (not_KS (by decide)))
      rcases hcs with ⟨sp, l, la, lc, rfl, t1, t2, t3, t4, t5, t6⟩ | ⟨sp, l, rfl, t1, t2, t3⟩
      · have HCO := Lib.hid (HCL.out sp l t1 (Int.not_lt.1 t2))
        have HT1 := Lib.hid t1
        have HT2N := Lib.hid (show Hid (¬ ((l.length : Int) < manyF ((O : Int) - (Tk.sp.us.length : Int) + (sp.us.length : Int)) (S : Int))) from Lib.hid t2).out
        have HT3 := Lib.hid (OwnP.mono t3 HK0.out.size)
        have HT4 := Lib.hid t4
        have HT5 := Lib.hid t5
        have KFP := Lib.hid (freePairs_any t5 HCO.out.few)
        have KPL := Lib.hid (fun W (k : w2.grownBy W none) pa pc b (hp : POwn 266 b W (.slice pa (flatR (recsM sp Tk.n)).length pc) (flatR (recsM sp Tk.n))) => putLists_any (M := M) (t5.new k) s1 s2 hM (t3.grown k) hp HCO.out.few.fl HCO.out.ll HCO.out.ge HCO.out.rise hK)
        clear t1 t2 t3 t4 t5 t6 hk2
        go_wp2_with (first
          | (go_at_call 144; ((with_reducible refine KFP.out.mono ?_); rintro r w3 ⟨pa, pc, rfl, ho, hg⟩); have HP3 := Lib.hid ho; have HG3 := Lib.hid hg; clear ho hg)
          | (go_at_call 145; ((with_reducible refine (KPL.out _ HG3.out pa pc _ HP3.out).mono ?_); rintro r w4 ⟨rfl, hd, hkf⟩); have HD4 := Lib.hid hd; have HK4 := Lib.hid ((HK2.out.trans (Kfr.of HG3.out)).trans hkf); have HK34 := Lib.hid (Kfr.trans (Kfr.of (P := KS) (B := B) HG3.out) hkf); have HP4 := Lib.hid (HP3.out.kfr hkf (not_KS (by decide))); clear hd hkf))
        have HQ4 := Lib.hid (HK34.out.cells HQ2.out (not_KS (by decide)))
        have HL4 := Lib.hid (HT3.out.kfr HK34.out (not_KS (by decide)))
        have hun := HD4.out.un
        obtain ⟨Bs, mb, H, hD4⟩ := hun
        have hen4 : (putT { Tk with sp := sp } l (flatR (recsM sp Tk.n)) M S l.length).sp = sp := (putT_same _ _ _ _ _ _).2
        have hnn4 : (putT { Tk with sp := sp } l (flatR (recsM sp Tk.n)) M S l.length).n = Tk.n := (putT_same _ _ _ _ _ _).1
        have KE := Lib.hid (fun W (g : w4.grownBy W none) => by have := send_any W Bs _ (hD4.new g).sp; rw [hen4] at this; exact this)
        have hb4 := hD4.box
        rw [hnn4] at hb4
        have HCX := Lib.hid (fun W (g : w4.grownBy W none) => cells3 ((g.block _ (lt_of_block hb4) (by simp)).trans hb4))
        have KA := Lib.hid (fun W (g : w4.grownBy W none) => after_any W _ _ _ _ l (HL4.out.grown g).psq 0 0 rfl)
        clear hD4 hb4
        generalize hAX : aftL l 0 = ax at KA
        have HAX := Lib.hid hAX
        obtain ⟨FN, hFN⟩ : ∃ FN, FN = (flatR (recsM sp Tk.n)).length := ⟨_, rfl⟩
        have HFN := Lib.hid hFN
        rw [← hFN] at HP4 ⊢
        clear hAX hen4 hnn4 hFN KPL KFP HP3
        go_region_held3 (fun W' => W'.cell? ⟨x, 0, none⟩ = some (.int .u64 (Tk.n : Int)) ∧ W'.cell? ⟨x, 1, none⟩ = some (.pointer (some ⟨Bs + 4, 0, none⟩)) ∧ W'.cell? ⟨x, 2, none⟩ = some (.map (some mb)))
          (first | (with_reducible exact (HCX.out _ (gdrew w4))) | (with_reducible exact (HCX.out _ (g_alloc_drew w4 _))))
          (first
            | (go_at_call 104; ((with_reducible refine (KE.out _ (gdrew w4)).mono ?_); rintro r w5 ⟨rfl, rfl⟩))
            | (go_at_call 104; ((with_reducible refine (KE.out _ (g_alloc_drew w4 _)).mono ?_); rintro r w5 ⟨rfl, rfl⟩))
            | (go_at_call 146; ((with_reducible refine (KA.out _ (gdrew w4)).mono ?_); rintro r w5 ⟨rfl, rfl⟩))
            | (go_at_call 146; ((with_reducible refine (KA.out _ (g_alloc_drew w4 _)).mono ?_); rintro r w5 ⟨rfl, rfl⟩)))
        all_goals
          have hmX := heap_alloc_new w4 (.cells #[.int .u64 (Tk.n : Int), .int .u32 (sp.en : Int), .int .u32 0, .int .u32 (ax : Int)] 44)
          have hmX2 : ((w4.alloc (.cells #[.int .u64 (Tk.n : Int), .int .u32 (sp.en : Int), .int .u32 0, .int .u32 (ax : Int)] 44)).drew).heap[w4.heap.size]? = some (.cells #[.int .u64 (Tk.n : Int), .int .u32 (sp.en : Int), .int .u32 0, .int .u32 (ax : Int)] 44 (0, 0)) := hmX
          have hgX := g_alloc_drew w4 (.cells #[.int .u64 (Tk.n : Int), .int .u32 (sp.en : Int), .int .u32 0, .int .u32 (ax : Int)] 44)
          clear hmX
          generalize (w4.alloc (.cells #[.int .u64 (Tk.n : Int), .int .u32 (sp.en : Int), .int .u32 0, .int .u32 (ax : Int)] 44)).drew = X at hmX2 hgX ⊢
          have HQX := Lib.hid ((hgX.block _ (lt_of_block HQ4.out) (by simp)).trans HQ4.out)
          have HGX := Lib.hid hgX
          obtain ⟨m0, m1, m2, m3⟩ := mt_cells hmX2
          obtain ⟨⟨q0, q1, q2, q3, q4, q5⟩, z0, z1, z2, z3, z4, z5⟩ := cells6' HQX.out
          obtain ⟨e9, k9⟩ := store6' HQX.out (.int .u64 (Tk.n : Int)) (.int .u32 (sp.en : Int)) (.int .u32 0) (.int .u32 (ax : Int)) (.slice pa FN pc) (.slice la l.length lc)
          have HE9 := Lib.hid e9
          have HK9 := Lib.hid k9
          clear hgX hmX2 e9 k9
          go_wp2
          refine bodyPost_ret (results_C rfl _ _ w.heap.size _ _ rfl rfl HE9.out rfl) rfl ?_
          refine ⟨(HK4.out.trans (Kfr.of HGX.out)).fresh (Nat.le_refl _) (set6_grown _ _ _ _ _ _ _ _), .inl ⟨sp, l, pa, pc, la, lc, ?_, HT1.out, ?_, ?_, ((HL4.out.grown HGX.out).kfr HK9.out (by simp)), HT4.out, ?_⟩⟩
          · rw [HAX.out, ← HFN.out]; rfl
          · exact Int.not_lt.2 HT2N.out
          · rw [← HFN.out]; exact (POwn.mono (HP4.out.grown HGX.out) (by have := HK2.out.size; exact this)).kfr HK9.out (by simp)
          · exact (HD4.out.new HGX.out).kfr HK9.out (by simp) (by simp) (by simp) (by simp) (by simp) (by simp)
      · obtain ⟨⟨q0, q1, q2, q3, q4, q5⟩, z0, z1, z2, z3, z4, z5⟩ := cells6' HQ2.out
        have HT1 := Lib.hid t1
        have HT2 := Lib.hid t2
        have HT3 := Lib.hid t3
        clear t1 t2 t3 hk2
        go_wp2
        obtain ⟨e9, k9⟩ := store6' HQ2.out (.int .u64 0) (.int .u32 0) (.int .u32 0) (.int .u32 0) (.slice none 0 0) (.slice none 0 0)
        exact bodyPost_ret (results_C rfl _ _ w.heap.size _ _ rfl rfl e9 rfl) rfl ⟨HK2.out.fresh (Nat.le_refl _) (set6_grown _ _ _ _ _ _ _ _), .inr ⟨sp, l, _, rfl, HT1.out, HT2.out, HT3.out.kfr k9 (by simp) (by simp) (by simp) (by simp) (by simp) (by simp)⟩⟩

end Go.Proofs.YtildjdhoeilcfaaGreat

namespace Go.Proofs.YtildjdhoeilcfaaGreat
open Go.RowKit Go.Maps

/-- What a commit writes to. -/
def KC (t : Option TypeId) : Prop := KS t ∨ KD t ∨ t = some 121
theorem ks_kc {t : Option TypeId} (h : KS t) : KC t := .inl h
theorem kd_kc {t : Option TypeId} (h : KD t) : KC t := .inr (.inl h)
/-- What a commit makes of the disk, and how far it came: 0 through, 1 not, 2 nothing is known. -/
def cmR (T : TV) (M : SM) (mt : Mt) : SM × Nat :=
  if (dwM T M).2 = 0 then
    if cE (dwM T M).1.fails (dwM T M).1.ahead = 0 then
      if cE (syncM (dwM T M).1).fails (syncM (dwM T M).1).ahead = 0 then
        if cE (wrM (syncM (dwM T M).1) (mt.t % 2) (mpage mt M.size)).fails (wrM (syncM (dwM T M).1) (mt.t % 2) (mpage mt M.size)).ahead = 0 then (syncM (wrM (syncM (dwM T M).1) (mt.t % 2) (mpage mt M.size)), 0)
        else (cntM (wrM (syncM (dwM T M).1) (mt.t % 2) (mpage mt M.size)), 2)
      else (cntM (syncM (dwM T M).1), 1)
    else (cntM (dwM T M).1, 1)
  else ((dwM T M).1, 1)
theorem dw_codes {T : TV} {M : SM} (h : T.sp.en ≤ M.limit) : (dwM T M).2 = 0 ∨ (dwM T M).2 = 20 := by
  have hw : ∀ (l : List Nat) (M : SM), (wrsM T.C M l).2 = 0 ∨ (wrsM T.C M l).2 = 20 := by
    intro l
    induction l with
    | nil => intro M; exact .inl rfl
    | cons p l ih =>
      intro M
      unfold wrsM
      split
      · exact ih _
      · exact .inr rfl
  unfold dwM
  split
  · exact hw _ _
  · rename_i k
    exact .inr ((jgrE_codes h).resolve_left k)
theorem dw_keep {T : TV} {M : SM} {c : Nat} (hW : Wel M c) (hK : ∀ p ∈ T.K, p < T.sp.en) (h : (dwM T M).2 = 0) : Wel (dwM T M).1 (c + 1 + T.K.length) ∧ T.sp.en ≤ (dwM T M).1.pg.length ∧ (dwM T M).1.size = M.size ∧ (dwM T M).1.limit = M.limit := by
  unfold dwM at h ⊢
  split at h
  · rename_i k
    rw [if_pos k]
    have hl := jgr_len k
    obtain ⟨z1, z2, z3⟩ := jgrM_size M T.sp.en
    obtain ⟨a, b, c1, d⟩ := wrs_keep T.C T.K (jgrM M T.sp.en) (wrsM T.C (jgrM M T.sp.en) T.K).1 (c + 1) (Prod.ext rfl h) hW.jgr (fun p hp => Nat.lt_of_lt_of_le (hK p hp) hl)
    exact ⟨a, by omega, c1.trans z1, d.trans z2⟩
  · rename_i k
    exact absurd h k
/-- What the commit of a change wants, once its lists are taken. -/
structure WrOk (c S Mr : Nat) (T1 : TV) (M : SM) (main : Nat) (sp : Sp) (l : List Nat) : Prop where
  cnt : c + (putT { T1 with sp := sp } l (flatR (recsM sp T1.n)) Mr S l.length).K.length ≤ 80000
  en : sp.en ≤ M.limit
  e2 : 2 ≤ sp.en
  K : ∀ p ∈ (putT { T1 with sp := sp } l (flatR (recsM sp T1.n)) Mr S l.length).K, p < sp.en
  mr : mright ⟨T1.n, sp.en, main, aftL l 0⟩ = true
  mo : MtOk ⟨T1.n, sp.en, main, aftL l 0⟩
theorem FileAt.cells8 {B f d : Nat} {w : World} {F : FV} (h : FileAt B w f d F) : ∃ pa pc la lc, w.heap[f]? = some (.cells (fcells d F (.slice pa F.ps.length pc) (.slice la F.ls.length lc)) 121 (0, 0)) ∧ PgT w (.slice la F.ls.length lc) F.ls := by
  obtain ⟨_, pa, pc, la, lc, hb, _, hl, _⟩ := h
  exact ⟨pa, pc, la, lc, hb, hl⟩
def CommitR (B f d x S Mr O : Nat) (w : World) (F : FV) (T1 : TV) (M : SM) (main : Nat) (r : Ending) (w' : World) : Prop :=
  Kfr KC B w w' ∧
  ((∃ sp l, TakeTo S ((O : Int) - (T1.sp.us.length : Int)) T1.sp [] sp l ∧ ¬ ((l.length : Int) < manyF ((O : Int) - (T1.sp.us.length : Int) + (sp.us.length : Int)) (S : Int)) ∧
      PD B w' d (cmR (putT { T1 with sp := sp } l (flatR (recsM sp T1.n)) Mr S l.length) M ⟨T1.n, sp.en, main, aftL l 0⟩).1 ∧
      r = .returned (.int .i64 (if (cmR (putT { T1 with sp := sp } l (flatR (recsM sp T1.n)) Mr S l.length) M ⟨T1.n, sp.en, main, aftL l 0⟩).2 = 0 then 0 else 20)) ∧
      FileAt B w' f d (if (cmR (putT { T1 with sp := sp } l (flatR (recsM sp T1.n)) Mr S l.length) M ⟨T1.n, sp.en, main, aftL l 0⟩).2 = 0 then ⟨⟨T1.n, sp.en, main, aftL l 0⟩, flatR (recsM sp T1.n), l, F.st⟩
        else if (cmR (putT { T1 with sp := sp } l (flatR (recsM sp T1.n)) Mr S l.length) M ⟨T1.n, sp.en, main, aftL l 0⟩).2 = 1 then F else { F with st := true })) ∨
   (∃ sp l, r = .returned (.int .i64 21) ∧ TakeTo S ((O : Int) - (T1.sp.us.length : Int)) T1.sp [] sp l ∧ takeM sp = (sp, 0, 21) ∧ PD B w' d M ∧ FileAt B w' f d F))

/-- What close tells, written out. -/
def CLD (B x S M O base : Nat) (w' : World) (T : TV) (a b c e : Int) (pa : Option Addr) (pn pc : Nat) (la : Option Addr) (ln lc : Nat) : Prop :=
    (e = 0 ∧ ∃ sp l, a = (T.n : Int) ∧ b = (sp.en : Int) ∧ c = ((aftL l 0 : Nat) : Int) ∧ pn = (flatR (recsM sp T.n)).length ∧ ln = l.length ∧ TakeTo S ((O : Int) - (T.sp.us.length : Int)) T.sp [] sp l ∧ ¬ ((l.length : Int) < manyF ((O : Int) - (T.sp.us.length : Int) + (sp.us.length : Int)) (S : Int)) ∧
     POwn 266 base w' (.slice pa pn pc) (flatR (recsM sp T.n)) ∧ OwnP base w' (.slice la ln lc) l ∧ (l = [] → la = none ∧ lc = 0) ∧ DraftAt B w' x S (putT { T with sp := sp } l (flatR (recsM sp T.n)) M S l.length)) ∨
     (e = 21 ∧ ∃ sp l, TakeTo S ((O : Int) - (T.sp.us.length : Int)) T.sp [] sp l ∧ takeM sp = (sp, 0, 21))
theorem CLR.un {B x S M O : Nat} {w w' : World} {T : TV} {r : Ending} (h : CLR B x S M O w T r w') : ∃ (a b c e : Int) (pa : Option Addr) (pn pc : Nat) (la : Option Addr) (ln lc : Nat), r = .returned (.tuple #[.agg #[.int .u64 a, .int .u32 b, .int .u32 0, .int .u32 c, .slice pa pn pc, .slice la ln lc], .int .i64 e]) ∧ Kfr KS B w w' ∧ CLD B x S M O w.heap.size w' T a b c e pa pn pc la ln lc := by
  obtain ⟨hk, ⟨sp, l, pa, pc, la, lc, e, h1, h2, h3, h4, h5, h6⟩ | ⟨sp, l, T', e, h1, h2, h3⟩⟩ := h
  · exact ⟨_, _, _, _, _, _, _, _, _, _, e, hk, .inl ⟨rfl, sp, l, rfl, rfl, rfl, rfl, rfl, h1, h2, h3, h4, h5, h6⟩⟩
  · exact ⟨_, _, _, _, _, _, _, _, _, _, e, hk, .inr ⟨rfl, sp, l, h1, h2⟩⟩
theorem CLD.kfr {P : Option TypeId → Prop} {B B' x S M O base base' : Nat} {w w' : World} {T : TV} {a b c e : Int} {pa : Option Addr} {pn pc : Nat} {la : Option Addr} {ln lc : Nat} (h : CLD B x S M O base w T a b c e pa pn pc la ln lc) (k : Kfr P B' w w') (hb : base' ≤ base)
    (h0 : ¬ P none) (h1 : ¬ P (some 193)) (h2 : ¬ P (some 141)) (h3 : ¬ P (some 42)) (h4 : ¬ P (some 131)) (h8 : ¬ P (some 5)) (h9 : ¬ P (some 266)) : CLD B x S M O base' w' T a b c e pa pn pc la ln lc := by
  rcases h with ⟨e0, sp, l, e1, e2, e3, e4, e5, t1, t2, t3, t4, t5, t6⟩ | h
  · exact .inl ⟨e0, sp, l, e1, e2, e3, e4, e5, t1, t2, (POwn.mono t3 hb).kfr k h9, (t4.mono hb).kfr k h3, t5, t6.kfr k h0 h1 h2 h3 h4 h8⟩
  · exact .inr h

end Go.Proofs.YtildjdhoeilcfaaGreat

namespace Go.Proofs.YtildjdhoeilcfaaGreat
open Go.RowKit Go.Maps

def coL : Code → Code
  | .seq a _ => a
  | c => c
def coR : Code → Code
  | .seq _ b => b
  | c => c
noncomputable def commitBody : Code := (Tryz.f63.body).getD .skip
noncomputable def commitOne : Code := coL (coR commitBody)
set_option maxRecDepth 1000000 in
set_option maxHeartbeats 40000000 in
theorem com1_any {B f d x S Mr c main : Nat} {w : World} {F : FV} {T T1 : TV} {M : SM} (hF : FileAt B w f d F) (hD : DraftAt B w x S T) (hd : PD B w d M) (hW : Wel M c) (hS : M.size = S) (hMr : (Mr : Int) = roomI (S : Int)) (hfr : frAll T F.ls = (T1, 0))
    (hf : Few T1.sp T1.n) (hk : TkOk T1.sp) (hK : T1.K.length ≤ 100000) (hn : T.n < 18446744073709551616) (hmain : main < 4294967296)
    (hc : ∀ sp l, TakeTo S (((flatR (recsM T1.sp T1.n)).length : Int) - (T1.sp.us.length : Int)) T1.sp [] sp l → ¬ ((l.length : Int) < manyF (((flatR (recsM T1.sp T1.n)).length : Int) - (T1.sp.us.length : Int) + (sp.us.length : Int)) (S : Int)) → ClOk S T1 sp l ∧ WrOk c S Mr T1 M main sp l)
    (u7 u8 u13 u14 u15 u16 u17 u18 u19 u20 u21 u22 u23 u24 v2 v3 v4 v5 v6 v9 v10 v11 v12 v25 v26 v27 v28 v29 v30 v31 v32 v33 v34 v35 v36 v37 v38 v39 v40 v41 v42 v43 v44 v45 v46 v47 v48 v49 v50 v51 v52 v53 v54 v55 v56 v57 v58 v59 v60 v61 v62 v63 v64 v65 v66 v67 v68 v69 v70 v71 v72 v73 v74 : Value) (Kc : Act → World → Prop) (Qc : Exit → Act → World → Prop)
    (hK : ∀ (x13 x14 x15 x16 x17 x18 x19 x20 x21 x22 x23 x24 : Value) (q : Nat) (a b c3 e : Int) (qa : Option Addr) (qn qc : Nat) (ka : Option Addr) (kn kc : Nat) (wx : World), wx.heap[q]? = some (.cells #[.int .u64 a, .int .u32 b, .int .u32 0, .int .u32 c3, .slice qa qn qc, .slice ka kn kc] 119 (0, 0)) → w.heap.size ≤ q → Kfr KS B w wx → CLD B x S Mr (flatR (recsM T1.sp T1.n)).length w.heap.size wx T1 a b c3 e qa qn qc ka kn kc → Kc ⟨#[.pointer (some ⟨f, 0, none⟩), .pointer (some ⟨x, 0, none⟩), v2, v3, v4, v5, v6, (.pointer (some ⟨q, 0, none⟩)), (.int .i64 e), v9, v10, v11, v12, x13, x14, x15, x16, x17, x18, x19, x20, x21, x22, x23, x24, v25, v26, v27, v28, v29, v30, v31, v32, v33, v34, v35, v36, v37, v38, v39, v40, v41, v42, v43, v44, v45, v46, v47, v48, v49, v50, v51, v52, v53, v54, v55, v56, v57, v58, v59, v60, v61, v62, v63, v64, v65, v66, v67, v68, v69, v70, v71, v72, v73, v74], []⟩ wx) :
    Code.wp Tryz.prog commitOne (Exit.then Kc Qc) ⟨#[.pointer (some ⟨f, 0, none⟩), .pointer (some ⟨x, 0, none⟩), v2, v3, v4, v5, v6, u7, u8, v9, v10, v11, v12, u13, u14, u15, u16, u17, u18, u19, u20, u21, u22, u23, u24, v25, v26, v27, v28, v29, v30, v31, v32, v33, v34, v35, v36, v37, v38, v39, v40, v41, v42, v43, v44, v45, v46, v47, v48, v49, v50, v51, v52, v53, v54, v55, v56, v57, v58, v59, v60, v61, v62, v63, v64, v65, v66, v67, v68, v69, v70, v71, v72, v73, v74], []⟩ w := by
  conv => arg 2; whnf
  have HK := Lib.hid hK
  clear hK
  have s1 : 512 ≤ S := by have := hW.s1; omega
  have s2 : S ≤ 4096 := by have := hW.s2; omega
  obtain ⟨pa, pc, la, lc, hb, hl⟩ := hF.cells8
  have HB := Lib.hid hb
  have HSZ := Lib.hid (fun W (g : w.grownBy W none) => by have := fsize_any (hF.new g) (hd.new g); rw [hS] at this; exact this)
  have HCL := Lib.hid (fun W (g : w.grownBy W none) => dclose_any (M := Mr) (hD.new g) (hl.kfr (Kfr.of (P := fun _ => False) (B := 0) g) (by simp)) hfr s1 s2 hMr hf hk hK hn (fun sp l a b => (hc sp l a b).1))
  have HWR := Lib.hid (fun sp l a b => (hc sp l a b).2)
  have HCX := Lib.hid (fun W (g : w.grownBy W none) => (fcells8 ((g.block _ (lt_of_block hb) (by simp)).trans hb)).2.2.2.2.2.2.1)
  have HFF := Lib.hid hF
  have HPD := Lib.hid hd
  generalize (flatR (recsM T1.sp T1.n)).length = O at HCL HWR HK ⊢
  clear hb hF hD hd hc hf hk hl hfr
  have HCY := Lib.hid (fun W (k : Kfr KS B w W) => (fcells8 (k.cells HB.out (not_KS (by decide)))).2.2.2.2.2.2.1)
  have HCA := Lib.hid (fun W o (k : Kfr KS B w W) => HCY.out (W.alloc o) (k.trans (Kfr.of (World.grownBy_alloc W o none))))
  have HCS := Lib.hid (fun W a0 a1 a2 a3 a4 a5 (k : Kfr KS B w W) => HCY.out (set6 W w.heap.size a0 a1 a2 a3 a4 a5) (k.fresh (Nat.le_refl _) (set6_grown _ _ _ _ _ _ _ _)))
  go_region_held3 (fun W' => W'.cell? ⟨f, 6, none⟩ = some (.slice la F.ls.length lc))
    (first | (with_reducible exact (HCX.out _ (gdrew w))) | (with_reducible exact (HCX.out _ (g_alloc_drew w _))) | (with_reducible exact (HCY.out _ HK3.out)) | (with_reducible exact (HCA.out _ _ HK3.out)) | (with_reducible exact (HCS.out _ _ _ _ _ _ _ HK3.out)))
    (first
      | (go_at_call 34; ((with_reducible refine (HSZ.out _ (gdrew w)).mono ?_); rintro r w2 ⟨rfl, rfl⟩))
      | (go_at_call 34; ((with_reducible refine (HSZ.out _ (g_alloc_drew w _)).mono ?_); rintro r w2 ⟨rfl, rfl⟩))
      | (go_at_call 105; ((with_reducible refine (HCL.out _ (gdrew w)).mono ?_); rintro r w3 hk; obtain ⟨a, b, c3, e, qa, qn, qc, ka, kn, kc, rfl, hk1, hk2⟩ := CLR.un hk); have HK3 := Lib.hid (Kfr.trans (Kfr.of (P := KS) (B := B) (gdrew w)) hk1); have HC3 := Lib.hid hk2; clear hk hk1 hk2)
      | (go_at_call 105; ((with_reducible refine (HCL.out _ (g_alloc_drew w _)).mono ?_); rintro r w3 hk; obtain ⟨a, b, c3, e, qa, qn, qc, ka, kn, kc, rfl, hk1, hk2⟩ := CLR.un hk); have HK3 := Lib.hid (Kfr.trans (Kfr.of (P := KS) (B := B) (g_alloc_drew w _)) hk1); have HC3 := Lib.hid hk2; have HZ3 := Lib.hid (hk1.cells (show (w.alloc (.cells #[.int .u64 0, .int .u32 0, .int .u32 0, .int .u32 0, .slice none 0 0, .slice none 0 0] 119)).drew.heap[w.heap.size]? = _ from lit_block w _) (not_KS (by decide))); obtain ⟨⟨q0, q1, q2, q3, q4, q5⟩, z0, z1, z2, z3, z4, z5⟩ := cells6' HZ3.out; clear hk hk1 hk2))
  ·  refine HK.out _ _ _ _ _ _ _ _ _ _ _ _ _ _ _ _ _ _ _ _ _ _ _ _ (lit_block _ _) HK3.out.size (HK3.out.trans (Kfr.of (World.grownBy_alloc _ _ none))) (HC3.out.kfr (P := fun _ => False) (B' := 0) (Kfr.of (World.grownBy_alloc _ _ none)) ?_ (fun h => h) (fun h => h) (fun h => h) (fun h => h) (fun h => h) (fun h => h) (fun h => h))
     exact Nat.le_refl _
  ·  obtain ⟨g1, g2⟩ := store6' HZ3.out _ _ _ _ _ _
     refine HK.out _ _ _ _ _ _ _ _ _ _ _ _ _ _ _ _ _ _ _ _ _ _ _ _ g1 (Nat.le_refl _) (HK3.out.fresh (Nat.le_refl _) (set6_grown _ _ _ _ _ _ _ _)) (HC3.out.kfr g2 ?_ (by simp) (by simp) (by simp) (by simp) (by simp) (by simp) (by simp))
     exact (World.grownBy_alloc w _ none).size
  ·  obtain ⟨g1, g2⟩ := store6' HZ3.out _ _ _ _ _ _
     refine HK.out _ _ _ _ _ _ _ _ _ _ _ _ _ _ _ _ _ _ _ _ _ _ _ _ g1 (Nat.le_refl _) (HK3.out.fresh (Nat.le_refl _) (set6_grown _ _ _ _ _ _ _ _)) (HC3.out.kfr g2 ?_ (by simp) (by simp) (by simp) (by simp) (by simp) (by simp) (by simp))
     exact (World.grownBy_alloc w _ none).size

end Go.Proofs.YtildjdhoeilcfaaGreat
