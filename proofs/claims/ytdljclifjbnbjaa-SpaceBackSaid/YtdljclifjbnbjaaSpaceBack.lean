/-
  SpaceBack: what is taken, and all given back, leaves as many usable pages as there were, with the new ones. Proved for every input, no condition.
-/
import Derived.Test.YtdljclifjbnbjaaSpcW
import Derived.Test.YtdljclifjbnbjaaSpcV
namespace Go.Proofs.Ytdljclifjbnbjaa
open Go.RowKit Go.Maps

theorem OwnP.sfr {B base : Nat} {w w' : World} {v : Value} {ps : List Nat} (h : OwnP base w v ps) (k : Sfr B w w') (hb : B + 5 ≤ base) : OwnP base w' v ps := by
  refine ⟨⟨h.1.1, ?_⟩, h.2⟩
  rcases h.1.2 with hn | ⟨g, cap, cur, rfl, hg, hgg, r⟩
  · exact .inl hn
  · exact .inr ⟨g, cap, cur, rfl, hg, (k.block g (lt_of_block hgg) (.inr (by omega))).trans hgg, r⟩
theorem SpAt.own {B H base size n : Nat} {e : TypeId} {w w' : World} {M : Sp} {v : Value} {xs : List Value} (h : SpAt B H w M) (hr : w.ownsRow base e size v n xs) (k : w.grownBy w' v.ownBlock) (hH : H ≤ base) (hB : B + 5 ≤ base) : SpAt B H w' M := by
  cases hv : v.ownBlock with
  | none => rw [hv] at k; exact h.grown k
  | some r => rw [hv] at k; have := (hr.lt r hv).1; exact h.far k (by omega) (by omega)
theorem take_at {H : Nat} (w : World) (B : Nat) (M M' : Sp) (p : Nat) (e : Int) (h : SpAt B H w M) (hlow : ∀ x ∈ M.us, M.low ≤ x) (hen : M.en ≤ M.lim) (hlim : M.lim ≤ 65536) (ht : takeM M = (M', p, e)) :
    Calls Try.prog 15 #[.pointer (some ⟨B + 4, 0, none⟩)] w fun r w' => OpR B H w M' (.tuple #[.int .u32 (p : Int), .int .i64 e]) r w' := by
  have K := take_any w B M h hlow hen hlim
  rw [ht] at K
  exact K
theorem take_full {H : Nat} (w : World) (B : Nat) (M : Sp) (h : SpAt B H w M) (hlow : ∀ x ∈ M.us, M.low ≤ x) (hen : M.en ≤ M.lim) (hlim : M.lim ≤ 65536) (ht : takeM M = (M, 0, 21)) :
    Calls Try.prog 15 #[.pointer (some ⟨B + 4, 0, none⟩)] w fun r w' => OpR B H w M (.tuple #[.int .u32 0, .int .i64 21]) r w' := take_at w B M M 0 21 h hlow hen hlim ht
theorem give_at {H : Nat} (w : World) (B : Nat) (M M' : Sp) (p : Nat) (e : Int) (h : SpAt B H w M) (hp : p < 4294967296) (ht : giveM M p = (M', e)) :
    Calls Try.prog 17 #[.pointer (some ⟨B + 4, 0, none⟩), .int .u32 (p : Int)] w fun r w' => OpR B H w M' (.int .i64 e) r w' := by
  have K := give_any w B M h p hp
  rw [ht] at K
  exact K
theorem fresh_at {H : Nat} (w : World) (B : Nat) (M : Sp) (p : Nat) (b : Bool) (h : SpAt B H w M) (hp : p < 4294967296) (hb : decide (p ∈ M.fr) = b) :
    Calls Try.prog 19 #[.pointer (some ⟨B + 4, 0, none⟩), .int .u32 (p : Int)] w fun r w' => r = .returned (.bool b) ∧ w.grownBy w' none := by
  subst hb
  exact fresh_any w B M h p hp
theorem end_at {H : Nat} (w : World) (B : Nat) (M : Sp) (E : Nat) (h : SpAt B H w M) (hE : M.en = E) :
    Calls Try.prog 20 #[.pointer (some ⟨B + 4, 0, none⟩)] w fun r w' => r = .returned (.int .u32 (E : Int)) ∧ w = w' := by
  subst hE
  exact end_any w B M h
theorem usable_at {H : Nat} (w : World) (B : Nat) (M : Sp) (n : Nat) (h : SpAt B H w M) (hn : M.us.length = n) :
    Calls Try.prog 24 #[.pointer (some ⟨B + 4, 0, none⟩)] w fun r w' => r = .returned (.int .i64 (n : Int)) ∧ w = w' := by
  subst hn
  exact usable_any w B M h

theorem spOf_take {old : Nat} {rs : List Rc} (h : Okr 50 rs) : TakeInv (insAll (allOf (oldRecs old rs)) []).length (spOf 50 60 old rs) [] := by
  have hr : ∀ x ∈ insAll (allOf (oldRecs old rs)) [], 2 ≤ x ∧ x < 50 := fun x hx => by
    rcases mem_insAll.1 hx with e | e
    · exact okr_range (okr_filter h _) x e
    · simp at e
  exact ⟨rfl, Nat.le_refl _, (show 50 ≤ 60 by decide), fun x hx => (hr x hx).1, srt_insAll List.Pairwise.nil, fun x hx => (hr x hx).2, fun x => Iff.rfl, List.nodup_nil, by simp, rfl, .inl rfl⟩

set_option maxRecDepth 100000 in
set_option maxHeartbeats 8000000 in
theorem back_any (W : World) (ao : Option Addr) (n c : Nat) (rs : List Rc) (a m : Int) (h : RSq (fun b => b < W.heap.size) W (.slice ao n c) rs) (hsm : Small8 rs) (ha0 : 0 ≤ a) (ha1 : a ≤ 18446744073709551615) (hm0 : 0 ≤ m) (hm1 : m ≤ 255) :
    Calls Try.prog 6 #[.slice ao n c, .int .u64 a, .int .u8 m] W fun r w' => r = .returned (.bool true) ∧ Below W.heap.size W w' := by
  have Hs := Lib.hid h
  have HSM := Lib.hid hsm
  clear h hsm
  obtain ⟨f, hf⟩ : ∃ f, few8 rs = f := ⟨_, rfl⟩
  obtain ⟨g, hg⟩ : ∃ g, right rs 50 = g := ⟨_, rfl⟩
  have HFW := Lib.hid hf
  have HRT := Lib.hid hg
  clear hf hg
  cases f with
  | false =>
    go_enter Try.func6, Try.ntmps6
    go_wp2_with (first
      | (go_at_call 8; (with_reducible refine (awake8_any W).mono ?_); rintro r w1 ⟨rfl, hg⟩; have HG1 := Lib.hid hg; have HR1 := Lib.hid (Hs.out.grown hg); clear hg)
      | (go_at_call 9; (with_reducible refine (few8_any w1 _ ao n c rs HR1.out).mono ?_); rw [HFW.out]; rintro r wq ⟨rfl, rfl⟩)
      | (go_at_call 10; (with_reducible refine (records8_any w1 ao n c rs (HR1.out.imp (fun b _ hb => hb)) HSM.out).mono ?_); rintro r w2 ⟨ov, rv, es, es2, rfl, ho, he, hv, he2, hg⟩; have HG2 := Lib.hid (gtrans HG1.out hg); clear ho he hv he2 hg))
    go_ret
    exact ⟨rfl, gbelow HG2.out⟩
  | true =>
    cases g with
    | false =>
      go_enter Try.func6, Try.ntmps6
      go_wp2_with (first
        | (go_at_call 8; (with_reducible refine (awake8_any W).mono ?_); rintro r w1 ⟨rfl, hg⟩; have HG1 := Lib.hid hg; have HR1 := Lib.hid (Hs.out.grown hg); clear hg)
        | (go_at_call 9; (with_reducible refine (few8_any w1 _ ao n c rs HR1.out).mono ?_); rw [HFW.out]; rintro r wq ⟨rfl, rfl⟩)
        | (go_at_call 10; (with_reducible refine (records8_any w1 ao n c rs (HR1.out.imp (fun b _ hb => hb)) HSM.out).mono ?_); rintro r w2 ⟨ov, rv, es, es2, rfl, ho, he, hv, he2, hg⟩; have hro := ho.rsq; rw [he] at hro; obtain ⟨oa, oc, rfl⟩ := hro.shape; have HRO := Lib.hid hro; have HG2 := Lib.hid (gtrans HG1.out hg); clear ho he hv he2 hg hro)
        | (go_at_call 13; (with_reducible refine (right50 w2 _ oa _ oc rs HRO.out false HRT.out).mono ?_); rintro r w3 ⟨rfl, hg⟩; have HG3 := Lib.hid (gtrans HG2.out hg); clear hg))
      go_ret
      exact ⟨rfl, gbelow HG3.out⟩
    | true =>
      have hok := right_iff.1 HRT.out
      have hti := spOf_take (old := a.toNat) hok
      obtain ⟨was, hwas⟩ : ∃ was, was = (insAll (allOf (oldRecs a.toNat rs)) []).length := ⟨_, rfl⟩
      have hwas5 : was ≤ 50 := by
        rw [hwas, us_len hok]
        exact Nat.le_trans (old_le _ rs) (nodup_len (okr_nodup hok) fun x hx => (okr_range hok x hx).2)
      rw [← hwas] at hti
      have HWAS := Lib.hid hwas
      have HTI := Lib.hid hti
      have HTW := Lib.hid (show (spOf 50 60 a.toNat rs).us.length = was from hwas.symm)
      obtain ⟨i0, hi, hz0, hz1, hz2⟩ := info_parts infoPage
      obtain ⟨N, hN⟩ : ∃ N : Nat, (N : Int) = m % 20 := ⟨(m % 20).toNat, by omega⟩
      have hN20 : N < 20 := by omega
      have HNN := Lib.hid hN
      clear hok hti hwas
      go_enter Try.func6, Try.ntmps6
      go_wp2_with (first
        | (go_at_call 8; (with_reducible refine (awake8_any W).mono ?_); rintro r w1 ⟨rfl, hg⟩; have HG1 := Lib.hid hg; have HR1 := Lib.hid (Hs.out.grown hg); clear hg)
        | (go_at_call 9; (with_reducible refine (few8_any w1 _ ao n c rs HR1.out).mono ?_); rw [HFW.out]; rintro r wq ⟨rfl, rfl⟩)
        | (go_at_call 10; (with_reducible refine (records8_any w1 ao n c rs (HR1.out.imp (fun b _ hb => hb)) HSM.out).mono ?_); rintro r w2 ⟨ov, rv, es, es2, rfl, ho, he, hv, he2, hg⟩; have hro := ho.rsq; rw [he] at hro; obtain ⟨oa, oc, rfl⟩ := hro.shape; have HRO := Lib.hid hro; have HG2 := Lib.hid (gtrans HG1.out hg); clear ho he hv he2 hg hro)
        | (go_at_call 13; (with_reducible refine (right50 w2 _ oa _ oc rs HRO.out true HRT.out).mono ?_); rintro r w3 ⟨rfl, hg⟩; have HG3 := Lib.hid (gtrans HG2.out hg); have HR3 := Lib.hid (HRO.out.grown hg); clear hg)
        | (go_at_call 11; (with_reducible refine (new50 w3 _ oa _ oc a rs HR3.out HRT.out ha0 ha1).mono ?_); rintro r w4 ⟨B, rfl, hB1, hs1, hg⟩; have HG4 := Lib.hid (gtrans HG3.out hg); have HS1 := Lib.hid hs1; have hWB := Lib.hid (Nat.le_trans HG3.out.size hB1); clear hg hs1 hB1)
        | (go_at_call 24; (with_reducible refine (usable_at w4 B _ was HS1.out HTW.out).mono ?_); rintro r wq ⟨rfl, rfl⟩))
      have hH5 : B + 5 ≤ w4.heap.size := by obtain ⟨_, h1, _⟩ := HS1.out; exact h1.lt
      go_loopg [14, 15] N (fun gg tv i wr => ∃ (k : Nat) (M : Sp) (T : List Nat), k + gg = N ∧ i = .int .i64 (k : Int) ∧ T.length = k ∧ TakeInv was M T ∧ SpAt B w4.heap.size wr M ∧ OwnP w4.heap.size wr tv T ∧ W.grownBy wr none ∧ w4.heap.size ≤ wr.heap.size)
      case atStart => exact ⟨0, _, [], by omega, rfl, rfl, HTI.out, HS1.out, ⟨World.ownsRow_nil _ _ _ _, by simp⟩, HG4.out, Nat.le_refl _⟩
      case round =>
        obtain ⟨k, M, T, hk, rfl, hTl, hti, hS, hop, hg, hwz⟩ := hrel
        have HTl := Lib.hid hTl
        have HTi := Lib.hid hti
        have HS := Lib.hid hS
        have HOP := Lib.hid hop
        have HG := Lib.hid hg
        have HZ := Lib.hid hwz
        clear hTl hti hS hop hg hwz
        by_cases hlt : k < N
        · have hki : (k : Int) < m % 20 := by rw [← HNN.out]; omega
          obtain ⟨M', p, e, hT⟩ : ∃ M' p e, takeM M = (M', p, e) := ⟨_, _, _, rfl⟩
          have HT := Lib.hid hT
          rcases take_step HTi.out hT with ⟨rfl, hti2, hp60⟩ | ⟨rfl, hM, rfl⟩
          · have HTi2 := Lib.hid hti2
            clear hT hti2
            go_wp2_with (first
              | (go_at_call 15; (with_reducible refine (take_at wr B M M' p 0 HS.out HTi.out.low (by rw [HTi.out.lim]; exact HTi.out.en2) (by rw [HTi.out.lim]; decide) HT.out).mono ?_); rintro r w5 ⟨rfl, hs, hsf⟩; have HS5 := Lib.hid hs; have HO5 := Lib.hid (HOP.out.sfr hsf hH5); have HG5 := Lib.hid (hsf.grown HG.out hWB.out); have HZ5 := Lib.hid (Nat.le_trans HZ.out hsf.size); clear hs hsf)
              | (at_builtin; refine wpList_append_own _ rfl _ _ 63 rfl w4.heap.size 36 i0 (.int .u32 0) 1 4 Try.underlying63 hi hz0 hz1 hz2 rfl (by decide) _ T.length _ rfl (HO5.out.1.alloc _) ⟨w5.heap.size, 0, none⟩ 1 1 [encP p] rfl rfl (cell_one_new _ _ _) (by simp [Value.oneCell', encP]) (by rw [HTl.out]; unfold maxLen; omega) (by rw [HTl.out]; omega) (by have := HZ5.out; simp; omega) ?_; intro v' w6 hown' hgrow _; have HO6 := Lib.hid hown'; have HG6 := Lib.hid hgrow; clear hown' hgrow))
            go_roundg (N - (k + 1))
            case rel =>
              have ga := World.grownBy_alloc w5 (.cells #[encP p] 36) none
              refine ⟨k + 1, M', T ++ [p], by omega, by simp, by rw [List.length_append, HTl.out]; rfl, HTi2.out, (HS5.out.grown ga).own (World.ownsRow.alloc HO5.out.1 _) HG6.out (Nat.le_refl _) hH5, ⟨by simpa using HO6.out, fun x hx => ?_⟩, grow_own (gtrans HG5.out ga) (World.ownsRow.alloc HO5.out.1 _) HG6.out (by have := hWB.out; omega), Nat.le_trans HZ5.out (Nat.le_trans ga.size HG6.out.size)⟩
              rcases List.mem_append.1 hx with e | e
              · exact HO5.out.2 x e
              · have : x = p := by simpa using e
                omega
            case measure => omega
          · rw [hM] at hT
            have HT2 := Lib.hid hT
            clear hT hM
            go_wp2_with (first
              | (go_at_call 15; (with_reducible refine (take_full wr B M HS.out HTi.out.low (by rw [HTi.out.lim]; exact HTi.out.en2) (by rw [HTi.out.lim]; decide) HT2.out).mono ?_); rintro r w5 ⟨rfl, hs, hsf⟩; have HS5 := Lib.hid hs; have HO5 := Lib.hid (HOP.out.sfr hsf hH5); have HG5 := Lib.hid (hsf.grown HG.out hWB.out); have HZ5 := Lib.hid (Nat.le_trans HZ.out hsf.size); clear hs hsf))
            have HNd := HTi.out.nd
            have hT32 : ∀ x ∈ T, x < 4294967296 := HO5.out.2
            obtain ⟨E, hE⟩ : ∃ E, E = M.en := ⟨_, rfl⟩
            obtain ⟨u0, hu0⟩ : ∃ u0, u0 = M.us.length := ⟨_, rfl⟩
            have hgi := HTi.out.give
            rw [← hE, ← hu0] at hgi
            have hE1 := HTi.out.en1
            have hE2 := HTi.out.en2
            have hlen := HTi.out.len
            have hor : E = 50 ∨ u0 = 0 := by
              rcases HTi.out.or with e | e
              · exact .inl (hE.trans e)
              · exact .inr (by rw [hu0, e]; rfl)
            rw [← hE] at hE1 hE2 hlen
            rw [← hu0] at hlen
            obtain ⟨ta, tc, htv⟩ := own_shape HO5.out.1
            obtain ⟨tn, htn⟩ : ∃ tn, tn = T.length := ⟨_, rfl⟩
            rw [← htn] at hlen htv
            have HTN := Lib.hid htn
            have HGI := Lib.hid hgi
            have hk20 : tn ≤ 20 := by rw [htn, HTl.out]; omega
            clear hgi hE hu0 htn
            subst htv
            have hpsq := HO5.out.psq
            go_loopg [18] tn (fun gg i wr => ∃ (k : Nat) (M : Sp), k + gg = tn ∧ i = .int .i64 (k : Int) ∧ GiveInv u0 E k M T ∧ SpAt B w4.heap.size wr M ∧ Sfr B w5 wr)
            case atStart => exact ⟨0, M, by omega, rfl, HGI.out, HS5.out, Sfr.refl _ _⟩
            case round =>
              obtain ⟨k, M, hk, rfl, hgi, hS, hsf⟩ := hrel
              have HGi := Lib.hid hgi
              have HSx := Lib.hid hS
              have HSf := Lib.hid hsf
              clear hgi hS hsf
              by_cases hlt : k < tn
              · have hkT : k < T.length := by have := HTN.out; omega
                obtain ⟨b, o, rfl, hb, c0⟩ := hpsq.at k hkT
                have hki : (k : Int) < (tn : Int) := by omega
                have hbl := World.block_lt_of_cell? _ _ c0
                have KEEP : ∀ wx, Sfr B w5 wx → wx.cell? ⟨b, o + k, none⟩ = some (.int .u32 ((T.getD k 0 : Nat) : Int)) := fun wx hx => (World.cell?_of_block (w := w5) (hx.block b hbl (.inr (by omega)))).trans c0
                obtain ⟨p, hp⟩ : ∃ p, T.getD k 0 = p := ⟨_, rfl⟩
                rw [hp] at KEEP c0
                have hTk : T[k]? = some p := by rw [← hp, List.getElem?_eq_getElem hkT]; simp [List.getD, List.getElem?_eq_getElem hkT]
                have hp32 := hT32 p (List.mem_of_getElem? hTk)
                obtain ⟨hin, M2, hg0, hgi2, hn, hg1⟩ := give_step HGi.out HNd hTk
                have HF1 := Lib.hid (show decide (p ∈ M.fr) = true by simp [hin])
                have HF2 := Lib.hid (show decide (p ∈ M2.fr) = false by simp [hn])
                have HGV0 := Lib.hid hg0
                have HGV1 := Lib.hid hg1
                have HGi2 := Lib.hid hgi2
                have HKEEP := Lib.hid KEEP
                have C1 := KEEP wr HSf.out
                clear hp hTk hin hg0 hgi2 hn hg1 KEEP c0
                go_wp2_with (first
                  | (go_at_call 19; (with_reducible refine (fresh_at wr B M p true HSx.out hp32 HF1.out).mono ?_); rintro r w6 ⟨rfl, hg⟩; have HS6 := Lib.hid (HSx.out.grown hg); have HF6 := Lib.hid (HSf.out.trans (Sfr.of hg)); have C6 := HKEEP.out w6 HF6.out; clear hg)
                  | (go_at_call 17; (with_reducible refine (give_at w6 B M M2 p 0 HS6.out hp32 HGV0.out).mono ?_); rintro r w7 ⟨rfl, hs, hsf⟩; have HS7 := Lib.hid hs; have HF7 := Lib.hid (HF6.out.trans hsf); have C7 := HKEEP.out w7 HF7.out; clear hs hsf)
                  | (go_at_call 19; (with_reducible refine (fresh_at w7 B M2 p false HS7.out hp32 HF2.out).mono ?_); rintro r w8 ⟨rfl, hg⟩; have HS8 := Lib.hid (HS7.out.grown hg); have HF8 := Lib.hid (HF7.out.trans (Sfr.of hg)); have C8 := HKEEP.out w8 HF8.out; clear hg)
                  | (go_at_call 17; (with_reducible refine (give_at w8 B M2 M2 p 1 HS8.out hp32 HGV1.out).mono ?_); rintro r w9 ⟨rfl, hs, hsf⟩; have HS9 := Lib.hid hs; have HF9 := Lib.hid (HF8.out.trans hsf); clear hs hsf))
                go_roundg (tn - (k + 1))
                case rel => exact ⟨k + 1, M2, by omega, by simp, HGi2.out, HS9.out, HF9.out⟩
                case measure => omega
              · have hki : ¬ (k : Int) < (tn : Int) := by omega
                have hkn : k = tn := by omega
                have HU := Lib.hid (show M.us.length = u0 + tn by rw [HGi.out.len, hkn])
                have HE := Lib.hid HGi.out.en
                have hBel := Lib.hid (gbelow (HSf.out.grown HG5.out hWB.out))
                by_cases h50 : E = 50
                · subst h50
                  have hm1 : ((u0 + tn : Nat) : Int) = max (was : Int) ((was : Int) + ((50 : Nat) : Int) - 50) := by omega
                  have hB : ((50 : Int) == max 50 (50 + (tn : Int) - (was : Int))) = true := by rw [beq_iff_eq]; omega
                  go_wp2_with (first
                    | (go_at_call 24; (with_reducible refine (usable_at wr B M _ HSx.out HU.out).mono ?_); rintro r wq ⟨rfl, rfl⟩)
                    | (go_at_call 20; (with_reducible refine (end_at wr B M 50 HSx.out HE.out).mono ?_); rintro r wq ⟨rfl, rfl⟩))
                  go_ret
                  exact ⟨rfl, hBel.out⟩
                · have hu0 : u0 = 0 := by rcases hor with e | e; exact absurd e h50; exact e
                  subst hu0
                  have hm1 : ((0 + tn : Nat) : Int) = max (was : Int) ((was : Int) + (E : Int) - 50) := by omega
                  have hB : ((E : Int) == max 50 (50 + (tn : Int) - (was : Int))) = true := by rw [beq_iff_eq]; omega
                  go_wp2_with (first
                    | (go_at_call 24; (with_reducible refine (usable_at wr B M _ HSx.out HU.out).mono ?_); rintro r wq ⟨rfl, rfl⟩)
                    | (go_at_call 20; (with_reducible refine (end_at wr B M E HSx.out HE.out).mono ?_); rintro r wq ⟨rfl, rfl⟩))
                  go_ret
                  exact ⟨rfl, hBel.out⟩
        · have hki : ¬ (k : Int) < m % 20 := by rw [← HNN.out]; omega
          have HS5 := HS
          have HO5 := HOP
          have HG5 := HG
          have HZ5 := HZ
          generalize hwr : wr = w5 at HS5 HO5 HG5 HZ5 ⊢
          go_wp2
          have HNd := HTi.out.nd
          have hT32 : ∀ x ∈ T, x < 4294967296 := HO5.out.2
          obtain ⟨E, hE⟩ : ∃ E, E = M.en := ⟨_, rfl⟩
          obtain ⟨u0, hu0⟩ : ∃ u0, u0 = M.us.length := ⟨_, rfl⟩
          have hgi := HTi.out.give
          rw [← hE, ← hu0] at hgi
          have hE1 := HTi.out.en1
          have hE2 := HTi.out.en2
          have hlen := HTi.out.len
          have hor : E = 50 ∨ u0 = 0 := by
            rcases HTi.out.or with e | e
            · exact .inl (hE.trans e)
            · exact .inr (by rw [hu0, e]; rfl)
          rw [← hE] at hE1 hE2 hlen
          rw [← hu0] at hlen
          obtain ⟨ta, tc, htv⟩ := own_shape HO5.out.1
          obtain ⟨tn, htn⟩ : ∃ tn, tn = T.length := ⟨_, rfl⟩
          rw [← htn] at hlen htv
          have HTN := Lib.hid htn
          have HGI := Lib.hid hgi
          have hk20 : tn ≤ 20 := by rw [htn, HTl.out]; omega
          clear hgi hE hu0 htn
          subst htv
          have hpsq := HO5.out.psq
          go_loopg [18] tn (fun gg i wr => ∃ (k : Nat) (M : Sp), k + gg = tn ∧ i = .int .i64 (k : Int) ∧ GiveInv u0 E k M T ∧ SpAt B w4.heap.size wr M ∧ Sfr B w5 wr)
          case atStart => exact ⟨0, M, by omega, rfl, HGI.out, HS5.out, Sfr.refl _ _⟩
          case round =>
            obtain ⟨k, M, hk, rfl, hgi, hS, hsf⟩ := hrel
            have HGi := Lib.hid hgi
            have HSx := Lib.hid hS
            have HSf := Lib.hid hsf
            clear hgi hS hsf
            by_cases hlt : k < tn
            · have hkT : k < T.length := by have := HTN.out; omega
              obtain ⟨b, o, rfl, hb, c0⟩ := hpsq.at k hkT
              have hki : (k : Int) < (tn : Int) := by omega
              have hbl := World.block_lt_of_cell? _ _ c0
              have KEEP : ∀ wx, Sfr B w5 wx → wx.cell? ⟨b, o + k, none⟩ = some (.int .u32 ((T.getD k 0 : Nat) : Int)) := fun wx hx => (World.cell?_of_block (w := w5) (hx.block b hbl (.inr (by omega)))).trans c0
              obtain ⟨p, hp⟩ : ∃ p, T.getD k 0 = p := ⟨_, rfl⟩
              rw [hp] at KEEP c0
              have hTk : T[k]? = some p := by rw [← hp, List.getElem?_eq_getElem hkT]; simp [List.getD, List.getElem?_eq_getElem hkT]
              have hp32 := hT32 p (List.mem_of_getElem? hTk)
              obtain ⟨hin, M2, hg0, hgi2, hn, hg1⟩ := give_step HGi.out HNd hTk
              have HF1 := Lib.hid (show decide (p ∈ M.fr) = true by simp [hin])
              have HF2 := Lib.hid (show decide (p ∈ M2.fr) = false by simp [hn])
              have HGV0 := Lib.hid hg0
              have HGV1 := Lib.hid hg1
              have HGi2 := Lib.hid hgi2
              have HKEEP := Lib.hid KEEP
              have C1 := KEEP wr HSf.out
              clear hp hTk hin hg0 hgi2 hn hg1 KEEP c0
              go_wp2_with (first
                | (go_at_call 19; (with_reducible refine (fresh_at wr B M p true HSx.out hp32 HF1.out).mono ?_); rintro r w6 ⟨rfl, hg⟩; have HS6 := Lib.hid (HSx.out.grown hg); have HF6 := Lib.hid (HSf.out.trans (Sfr.of hg)); have C6 := HKEEP.out w6 HF6.out; clear hg)
                | (go_at_call 17; (with_reducible refine (give_at w6 B M M2 p 0 HS6.out hp32 HGV0.out).mono ?_); rintro r w7 ⟨rfl, hs, hsf⟩; have HS7 := Lib.hid hs; have HF7 := Lib.hid (HF6.out.trans hsf); have C7 := HKEEP.out w7 HF7.out; clear hs hsf)
                | (go_at_call 19; (with_reducible refine (fresh_at w7 B M2 p false HS7.out hp32 HF2.out).mono ?_); rintro r w8 ⟨rfl, hg⟩; have HS8 := Lib.hid (HS7.out.grown hg); have HF8 := Lib.hid (HF7.out.trans (Sfr.of hg)); have C8 := HKEEP.out w8 HF8.out; clear hg)
                | (go_at_call 17; (with_reducible refine (give_at w8 B M2 M2 p 1 HS8.out hp32 HGV1.out).mono ?_); rintro r w9 ⟨rfl, hs, hsf⟩; have HS9 := Lib.hid hs; have HF9 := Lib.hid (HF8.out.trans hsf); clear hs hsf))
              go_roundg (tn - (k + 1))
              case rel => exact ⟨k + 1, M2, by omega, by simp, HGi2.out, HS9.out, HF9.out⟩
              case measure => omega
            · have hki : ¬ (k : Int) < (tn : Int) := by omega
              have hkn : k = tn := by omega
              have HU := Lib.hid (show M.us.length = u0 + tn by rw [HGi.out.len, hkn])
              have HE := Lib.hid HGi.out.en
              have hBel := Lib.hid (gbelow (HSf.out.grown HG5.out hWB.out))
              by_cases h50 : E = 50
              · subst h50
                have hm1 : ((u0 + tn : Nat) : Int) = max (was : Int) ((was : Int) + ((50 : Nat) : Int) - 50) := by omega
                have hB : ((50 : Int) == max 50 (50 + (tn : Int) - (was : Int))) = true := by rw [beq_iff_eq]; omega
                go_wp2_with (first
                  | (go_at_call 24; (with_reducible refine (usable_at wr B M _ HSx.out HU.out).mono ?_); rintro r wq ⟨rfl, rfl⟩)
                  | (go_at_call 20; (with_reducible refine (end_at wr B M 50 HSx.out HE.out).mono ?_); rintro r wq ⟨rfl, rfl⟩))
                go_ret
                exact ⟨rfl, hBel.out⟩
              · have hu0 : u0 = 0 := by rcases hor with e | e; exact absurd e h50; exact e
                subst hu0
                have hm1 : ((0 + tn : Nat) : Int) = max (was : Int) ((was : Int) + (E : Int) - 50) := by omega
                have hB : ((E : Int) == max 50 (50 + (tn : Int) - (was : Int))) = true := by rw [beq_iff_eq]; omega
                go_wp2_with (first
                  | (go_at_call 24; (with_reducible refine (usable_at wr B M _ HSx.out HU.out).mono ?_); rintro r wq ⟨rfl, rfl⟩)
                  | (go_at_call 20; (with_reducible refine (end_at wr B M E HSx.out HE.out).mono ?_); rintro r wq ⟨rfl, rfl⟩))
                go_ret
                exact ⟨rfl, hBel.out⟩

open Go.ChangeShapes Go.WideShapes Go.ChangeAt
set_option linter.unusedVariables false
set_option maxRecDepth 100000 in
theorem back_lifted (os : Os) (started : os.Started) (H : Type) (enc : TypeId × Value → H) :
    ReturnsInHanded {} Try.checked os 6 .any (Rows.spaceBackSpec.pre6 enc Try.prog Try.f6 Rows.spaceBackRow.domain false) (Rows.spaceBackSpec.post enc Try.prog Try.f6 false true false false) := by
  refine returnsInHanded_of_change_sized (C := Try.checked) ownKnob0 started (by kernel_rfl) Try.func6
    (ChangeSpec.witness6 (enc := enc) (C := Try.checked) false ⟨#[], #[.slice none 0 0, .int .u64 0, .int .u8 0], []⟩ 8 (by kernel_rfl) (by kernel_rfl) (by kernel_rfl) (by kernel_rfl)) ?_
  intro W base args ds gs before hval0 hW hcnd hsz0 _
  have hval : ∀ (j : Nat) t v, Try.f6.params[j]? = some t → args[j]? = some v → Value.okWide Try.prog W .any base t v := hval0
  have hW' := hW
  obtain ⟨p, q, hA0, hV, rfl, hfz, hnd⟩ := hW
  have hA : DataW.TrodAll enc Try.prog W 0 (fun _ => true) true Try.f6.params.toList args.toList ds p := hA0
  have hsz : (DataW.weightsEach Try.prog (Try.f6.params.toList ++ Rows.spaceBackSpec.plain.varTypes Try.prog) (ds ++ gs)).all (· ≤ reachBytes) = true := hsz0
  rw [Try.params6] at hA hval hsz
  obtain ⟨v0, vs0, d0, ds0, p0, q0, hargs, rfl, rfl, h0, r0⟩ := trodAll_cons hA
  obtain ⟨v1, vs1, d1, ds1, p1, q1, rfl, rfl, rfl, h1, r1⟩ := trodAll_cons r0
  obtain ⟨v2, vs2, d2, ds2, p2, q2, rfl, rfl, rfl, h2, r2⟩ := trodAll_cons r1
  obtain ⟨rfl, rfl, rfl⟩ := trodAll_nil r2
  obtain rfl : args = #[v0, v1, v2] := by cases args; simp_all
  obtain ⟨rfl, rfl⟩ := trodVars_none hV
  obtain ⟨a0, len0, cap0, rfl⟩ := okWide_slice Try.underlying23 (hval 0 23 v0 rfl rfl)
  have lt0 : ∀ x ∈ p0, x.block < W.heap.size := by obtain ⟨m, hm⟩ := h0; exact DataW.trod_lt m _ _ _ hm
  obtain ⟨z0, w0, s0⟩ := open_raws8 h0 hsz (j := 0) rfl rfl
  obtain ⟨a1, rfl, rfl, rfl, w1⟩ := open_int Try.underlying24 (hval 1 24 v1 rfl rfl) h1
  have b1 := bounds_u64 w1
  obtain ⟨a2, rfl, rfl, rfl, w2⟩ := open_int Try.underlying5 (hval 2 5 v2 rfl rfl) h2
  have b2 := bounds_u8 w2
  clear hA0 hval0
  refine (back_any W a0 len0 cap0 z0 a1 a2 w0 s0 b1.1 b1.2 b2.1 b2.2).mono fun e W' ⟨he, bel⟩ => ?_
  subst he
  exact ⟨_, rfl, _, _, _, [], _, [], hW', trodAll_mk1 (shut_bool Try.underlying4 _), (trodAll_cons_mk (Below.trod laidOut0 (by kernel_rfl) (of_decide_eq_true (by kernel_rfl)) h0 bel lt0) (trodAll_cons_mk (shut_int Try.underlying24 w1) (trodAll_cons_mk (shut_int Try.underlying5 w2) trodAll_mk0))), rfl, bel.frame _, fun h => by cases h⟩

/-- SpaceBack, for every input. -/
theorem spaceBack_holds : Rows.SpaceBackSaid :=
  OpenClaim.holds_of_wide 6 Try.f6 rfl rfl rfl rfl rfl rfl rfl ⟨rfl, rfl, rfl, rfl, rfl⟩ rfl rfl rfl rfl rfl (by kernel_rfl) Try.func6 (by kernel_rfl)
    (of_decide_eq_true (by kernel_rfl)) (by unfold Func.isWrapper; first | (rw [if_pos (by decide +kernel)]; kernel_rfl) | (rw [if_neg (by decide +kernel)]; exact ⟨rfl, rfl⟩))
    (fun os started H enc _ => back_lifted os started H enc)
#print axioms spaceBack_holds

end Go.Proofs.Ytdljclifjbnbjaa
