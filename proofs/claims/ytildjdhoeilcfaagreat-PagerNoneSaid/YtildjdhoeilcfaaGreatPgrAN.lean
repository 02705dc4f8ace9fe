/-
  Layer 11: lastMeta, on a disk that doesn't fail. Own work.
-/
import Derived.Test.YtildjdhoeilcfaaGreatPgrAM
import Derived.Test.YtildjdhoeilcfaaGreatPgrAK
import Derived.Test.YtildjdhoeilcfaaGreatPgrAJ
import Derived.OwnWalk

namespace Go.Proofs.YtildjdhoeilcfaaGreat
open Go.RowKit Go.Maps

theorem last_cnt (M : SM) (i : Nat) : lastM (cntM M) i = lastM M i := rfl
theorem cnt_wel {M : SM} {c : Nat} (h : Wel M c) : Wel (cntM M) (c + 1) := h.cnt

/-- What stands while both pages are read: k of them were. -/
structure LM (d q : Nat) (B : Nat) (w0 w : World) (M : SM) (S : Nat) (a b : List Int) (va vb : Value) (k : Nat) : Prop where
  hq : w.heap[q]? = some (.cells #[.int .u64 0, .int .u32 0, .int .u32 0, .int .u32 0] 44 (0, 0))
  hp : w.heap[q + 1]? = some (.cells #[va, vb] 185 (0, 0))
  pd : PD B w d M
  fr : Dfr B w0 w
  q0 : w0.heap.size ≤ q
  z : k = 0 → va = .slice none 0 0
  y : k ≤ 1 → vb = .slice none 0 0
  a : 1 ≤ k → ∃ ao c, va = .slice ao S c ∧ Own8 w0.heap.size w S (.slice ao S c) a
  b : 2 ≤ k → ∃ ao c, vb = .slice ao S c ∧ Own8 w0.heap.size w S (.slice ao S c) b
/-- A page more. -/
theorem LM.put0 {d q B S : Nat} {w0 w w1 : World} {M M1 : SM} {a b : List Int} {va vb : Value} (h : LM d q B w0 w M S a b va vb 0) (hd : PD B w1 d M1) (hf : Dfr B w w1) {ao : Option Addr} {c : Nat} (ho : Own8 w.heap.size w1 S (.slice ao S c) a) :
    LM d q B w0 (w1.setCell ⟨q + 1, 0, none⟩ (.slice ao S c)) M1 S a b (.slice ao S c) vb 1 := by
  have e1 := dfr_cells hf h.hp (by decide)
  have k := kfr_set e1 0 (.slice ao S c)
  have e2 := dfr_cells hf h.hq (by decide)
  exact ⟨(Below.heap_setCell _ _ _ _ (show q ≠ q + 1 by omega)).trans e2, heap_setCell_same _ (q + 1) 0 _ 185 (.slice ao S c) e1, hd.kfr k (by simp) (by simp) (by simp) (by simp), (h.fr.trans hf).nset (by have := h.q0; omega) _ _, h.q0, (by omega), (fun _ => h.y (by omega)), (fun _ => ⟨ao, c, rfl, k.own8 (own_base ho h.fr.size) (by simp)⟩), (by omega)⟩
theorem LM.put1 {d q B S : Nat} {w0 w w1 : World} {M M1 : SM} {a b : List Int} {va vb : Value} (h : LM d q B w0 w M S a b va vb 1) (hd : PD B w1 d M1) (hf : Dfr B w w1) {ao : Option Addr} {c : Nat} (ho : Own8 w.heap.size w1 S (.slice ao S c) b) :
    LM d q B w0 (w1.setCell ⟨q + 1, 1, none⟩ (.slice ao S c)) M1 S a b va (.slice ao S c) 2 := by
  have e1 := dfr_cells hf h.hp (by decide)
  have k := kfr_set e1 1 (.slice ao S c)
  have e2 := dfr_cells hf h.hq (by decide)
  refine ⟨(Below.heap_setCell _ _ _ _ (show q ≠ q + 1 by omega)).trans e2, heap_setCell_same _ (q + 1) 1 _ 185 (.slice ao S c) e1, hd.kfr k (by simp) (by simp) (by simp) (by simp), (h.fr.trans hf).nset (by have := h.q0; omega) _ _, h.q0, (by omega), (by omega), (fun _ => ?_), (fun _ => ⟨ao, c, rfl, k.own8 (own_base ho h.fr.size) (by simp)⟩)⟩
  obtain ⟨a1, c1, e, o⟩ := h.a (by omega)
  exact ⟨a1, c1, e, k.own8 ((kfr_dfr hf).own8 o (by simp [KD])) (by simp)⟩

/-- Are both pages noughts, and no more there? -/
def blankM (M : SM) : Bool := (M.pg.length == 2) && allZ (lastM M 0) && allZ (lastM M 1)
def blk2 (M : SM) : Nat → Bool
  | 0 => M.pg.length == 2
  | 1 => (M.pg.length == 2) && allZ (lastM M 0)
  | _ => blankM M
def cntK (M : SM) : Nat → SM
  | 0 => M
  | k + 1 => cntM (cntK M k)
def lmM (M : SM) : SM := if M.pg.length = 0 then fmM M else if M.pg.length = 1 then M else if blankM M = true then fmM (cntK M 2) else cntK M 2
def lmR (M : SM) : Mt × Int := if M.pg.length = 0 then (fm0, 0) else if M.pg.length = 1 then (mt0, 24) else if blankM M = true then (fm0, 0) else nmR M (lastM M 0) (lastM M 1)

set_option maxRecDepth 20000 in
set_option maxHeartbeats 4000000 in
theorem lastMeta_any {B d c : Nat} {w : World} {M : SM} (h : PD B w d M) (hW : Wel M c) (hc : c ≤ 90000) (hf : M.fails = false) (hl : 2 ≤ M.limit) (hb : ∀ x ∈ M.pg, Byt x.2) :
    Calls Tryz.prog 53 #[.pointer (some ⟨d, 0, none⟩)] w fun r w' => r = .returned (.tuple #[.agg (mtC (lmR M).1), .int .i64 (lmR M).2]) ∧ PD B w' d (lmM M) ∧ Dfr B w w' := by
  have HD := Lib.hid h
  have HL := Lib.hid (fun w' (k : PD B w' d M) => k.dlen)
  have hp6 : M.pg.length ≤ 65536 := by have := hW.p; have := hW.l; omega
  have HM0 : Hid (mtC fm0 = #[.int .u64 1, .int .u32 2, .int .u32 0, .int .u32 0]) := Lib.hid rfl
  by_cases c0 : M.pg.length = 0
  · have K := Lib.hid (fun W (k : PD B W d M) => firstMeta_any k hW (by omega) hf hl)
    rw [show lmR M = (fm0, 0) from if_pos c0, show lmM M = fmM M from if_pos c0]
    show Calls _ _ _ _ fun r w' => r = .returned (.tuple #[.agg (mtC fm0), .int .i64 0]) ∧ _
    rw [HM0.out] at K ⊢
    have HL0 : Hid (∀ w', PD B w' d M → Calls Tryz.prog 33 #[.pointer (some ⟨d, 0, none⟩)] w' fun r w'' => r = .returned (.int .i64 0) ∧ w' = w'') := Lib.hid fun w' k => by have := HL.out w' k; rw [c0] at this; exact this
    clear hW hf hb hp6 HL c0
    go_enter Tryz.func53, Tryz.ntmps53
    go_wp2_with (first
      | (go_at_call 33; ((with_reducible refine (HL0.out _ (HD.out.new (World.grownBy_alloc w (.cells #[.int .u64 0, .int .u32 0, .int .u32 0, .int .u32 0] 44) none))).mono ?_); rintro r w4 ⟨rfl, rfl⟩))
      | (go_at_call 95; ((with_reducible refine (K.out _ (HD.out.new (World.grownBy_alloc w (.cells #[.int .u64 0, .int .u32 0, .int .u32 0, .int .u32 0] 44) none))).mono ?_); rintro r w4 ⟨rfl, hd, hf⟩); have HD4 := Lib.hid hd; have HQ4 := Lib.hid (dfr_cells hf (lit_block w (.cells #[.int .u64 0, .int .u32 0, .int .u32 0, .int .u32 0] 44)) (by decide)); have HF4 := Lib.hid ((dfr_new (B := B) (World.grownBy_alloc w (.cells #[.int .u64 0, .int .u32 0, .int .u32 0, .int .u32 0] 44) none)).trans hf); clear hd hf; obtain ⟨⟨q0, q1, q2, q3⟩, p0, p1, p2, p3⟩ := cells4 HQ4.out))
    exact bodyPost_ret (results_M rfl _ _ w.heap.size _ _ rfl rfl (store4 HQ4.out _ _ _ _) rfl) rfl ⟨rfl, HD4.out.set4 HQ4.out _ _ _ _, HF4.out.set4 (Nat.le_refl _) _ _ _ _⟩
  · by_cases c1 : M.pg.length = 1
    · rw [show lmR M = (mt0, 24) from (if_neg c0).trans (if_pos c1), show lmM M = M from (if_neg c0).trans (if_pos c1)]
      have HL0 : Hid (∀ w', PD B w' d M → Calls Tryz.prog 33 #[.pointer (some ⟨d, 0, none⟩)] w' fun r w'' => r = .returned (.int .i64 1) ∧ w' = w'') := Lib.hid fun w' k => by have := HL.out w' k; rw [c1] at this; exact this
      clear hW hf hb hp6 HL c1 c0
      go_enter Tryz.func53, Tryz.ntmps53
      go_wp2_with (first
        | (go_at_call 33; ((with_reducible refine (HL0.out _ (HD.out.new (World.grownBy_alloc w (.cells #[.int .u64 0, .int .u32 0, .int .u32 0, .int .u32 0] 44) none))).mono ?_); rintro r w4 ⟨rfl, rfl⟩); have HQ4 := Lib.hid (lit_block w (.cells #[.int .u64 0, .int .u32 0, .int .u32 0, .int .u32 0] 44)); obtain ⟨⟨q0, q1, q2, q3⟩, p0, p1, p2, p3⟩ := cells4 HQ4.out))
      exact bodyPost_ret (results_M rfl _ _ w.heap.size _ _ rfl rfl HQ4.out rfl) rfl ⟨rfl, HD.out.new (World.grownBy_alloc w (.cells #[.int .u64 0, .int .u32 0, .int .u32 0, .int .u32 0] 44) none), dfr_new (B := B) (World.grownBy_alloc w (.cells #[.int .u64 0, .int .u32 0, .int .u32 0, .int .u32 0] 44) none)⟩
    · have hlen : 2 ≤ M.pg.length := by omega
      have R0 := Lib.hid (fun W (k : PD B W d M) => readPage_ok (i := 0) k (hW.fine (by omega)) (by omega) hW.s2 (calm_cE hf) 0 rfl)
      have f1 : (cntM M).fails = false := cnt_calm hf
      have R1 : Hid (∀ W, PD B W d (cntM M) → Calls Tryz.prog 81 #[.pointer (some ⟨d, 0, none⟩), .int .i64 1] W fun r w' => ∃ ao c, r = .returned (.tuple #[.slice ao M.size c, .int .i64 0]) ∧ PD B w' d (cntM (cntM M)) ∧ Own8 W.heap.size w' M.size (.slice ao M.size c) (lastM M 1) ∧ Dfr B W w') := Lib.hid (fun W (k : PD B W d (cntM M)) => readPage_ok (i := 1) k ((cnt_wel hW).fine (by omega)) (by show 1 < M.pg.length; omega) hW.s2 (calm_cE f1) 1 rfl)
      have f2 : (cntM (cntM M)).fails = false := cnt_calm f1
      have KF := Lib.hid (fun W (k : PD B W d (cntM (cntM M))) => firstMeta_any k (cnt_wel (cnt_wel hW)) (by omega) f2 hl)
      have KN := Lib.hid (fun W (k : PD B W d (cntM (cntM M))) => newestMeta_any (w := W) k hW.l hp6)
      have hba : Byt (lastM M 0) := by
        unfold lastM; rw [List.getD_eq_getElem?_getD, List.getElem?_eq_getElem (by omega)]; exact hb _ (List.getElem_mem _)
      have hbb : Byt (lastM M 1) := by
        unfold lastM; rw [List.getD_eq_getElem?_getD, List.getElem?_eq_getElem (by omega)]; exact hb _ (List.getElem_mem _)
      have hr : lmR M = if blankM M = true then (fm0, 0) else nmR M (lastM M 0) (lastM M 1) := (if_neg c0).trans (if_neg c1)
      have hm : lmM M = if blankM M = true then fmM (cntK M 2) else cntK M 2 := (if_neg c0).trans (if_neg c1)
      have HRV0 := Lib.hid hr
      have HRM0 := Lib.hid hm
      clear hr hm
      generalize lmR M = RR at HRV0 ⊢
      generalize lmM M = MM at HRM0 ⊢
      have HB0 := Lib.hid (show blk2 M 0 = (M.pg.length == 2) from rfl)
      have HB1 := Lib.hid (show blk2 M 1 = (blk2 M 0 && allZ (lastM M 0)) from rfl)
      have HB2 := Lib.hid (show blk2 M 2 = (blk2 M 1 && allZ (lastM M 1)) from rfl)
      have HBM := Lib.hid (show blk2 M 2 = blankM M from rfl)
      have hs2 := hW.s2
      go_enter Tryz.func53, Tryz.ntmps53
      go_wp2_with (first
        | (go_at_call 33; ((with_reducible refine (HL.out _ (HD.out.new (World.grownBy_alloc w (.cells #[.int .u64 0, .int .u32 0, .int .u32 0, .int .u32 0] 44) none))).mono ?_); rintro r w4 ⟨rfl, rfl⟩))
        | (go_at_call 33; ((with_reducible refine (HL.out _ (HD.out.new (two_grown w (.cells #[.int .u64 0, .int .u32 0, .int .u32 0, .int .u32 0] 44) (.cells #[.slice none 0 0, .slice none 0 0] 185)))).mono ?_); rintro r w4 ⟨rfl, rfl⟩)))
      have HS := Lib.hid (show LM d w.heap.size B w ((w.alloc (.cells #[.int .u64 0, .int .u32 0, .int .u32 0, .int .u32 0] 44)).alloc (.cells #[.slice none 0 0, .slice none 0 0] 185)) M M.size (lastM M 0) (lastM M 1) (.slice none 0 0) (.slice none 0 0) 0 from
        ⟨two_lit0 _ _ _, two_lit1 _ _ _, HD.out.new (two_grown _ _ _), dfr_new (two_grown _ _ _), Nat.le_refl _, fun _ => rfl, fun _ => rfl, by omega, by omega⟩)
      go_loopw [5, 23] (fun bl i wr => ∃ (k : Nat) (va vb : Value), k ≤ 2 ∧ i = .int .i64 k ∧ bl = .bool (blk2 M k) ∧ Hid (LM d w.heap.size B w wr (cntK M k) M.size (lastM M 0) (lastM M 1) va vb k)) (fun _ i _ => 2 - (intOf i).toNat)
      case atStart => exact ⟨0, _, _, by omega, rfl, by rw [HB0.out]; congr 1; rw [Bool.eq_iff_iff]; simp; omega, HS⟩
      case round =>
        obtain ⟨k, va, vb, hk, rfl, rfl, HR⟩ := hrel
        clear HS
        by_cases hlt : k < 2
        · rcases (by omega : k = 0 ∨ k = 1) with rfl | rfl
          · obtain ⟨b0, hb0⟩ : ∃ b0, b0 = blk2 M 0 := ⟨_, rfl⟩
            rw [← hb0] at HB1 ⊢
            have HBK := Lib.hid hb0
            clear hb0
            cases b0
            · go_wp2_with (first
              | (go_at_call 81; ((with_reducible refine (R0.out _ HR.out.pd).mono ?_); rintro r w1 ⟨ao, c, rfl, hd, ho, hf⟩); have HD1 := Lib.hid hd; have HO1 := Lib.hid ho; have HF1 := Lib.hid hf; clear hd ho hf; obtain ⟨s0, s1, s2, s3⟩ := cells2 (dfr_cells HF1.out HR.out.hp (by decide)); have HW1 := Lib.hid (LM.put0 HR.out HD1.out HF1.out HO1.out); have HO2 := Lib.hid ((kfr_set (dfr_cells HF1.out HR.out.hp (by decide)) 0 (.slice ao M.size c)).own8 HO1.out (by simp)))
              | (go_at_call 96; ((with_reducible refine (noughts_any _ _ _ _ _ _ HO2.out.seq).mono ?_); rintro r w2 ⟨rfl, rfl⟩)))
              go_roundw
              case rel => exact ⟨1, _, _, by omega, by go_num, by rw [HB1.out]; rfl, HW1⟩
              case measure => simp [intOf]
            · go_wp2_with (first
              | (go_at_call 81; ((with_reducible refine (R0.out _ HR.out.pd).mono ?_); rintro r w1 ⟨ao, c, rfl, hd, ho, hf⟩); have HD1 := Lib.hid hd; have HO1 := Lib.hid ho; have HF1 := Lib.hid hf; clear hd ho hf; obtain ⟨s0, s1, s2, s3⟩ := cells2 (dfr_cells HF1.out HR.out.hp (by decide)); have HW1 := Lib.hid (LM.put0 HR.out HD1.out HF1.out HO1.out); have HO2 := Lib.hid ((kfr_set (dfr_cells HF1.out HR.out.hp (by decide)) 0 (.slice ao M.size c)).own8 HO1.out (by simp)))
              | (go_at_call 96; ((with_reducible refine (noughts_any _ _ _ _ _ _ HO2.out.seq).mono ?_); rintro r w2 ⟨rfl, rfl⟩)))
              go_roundw
              case rel => exact ⟨1, _, _, by omega, by go_num, by rw [HB1.out]; rfl, HW1⟩
              case measure => simp [intOf]
          · obtain ⟨b0, hb0⟩ : ∃ b0, b0 = blk2 M 1 := ⟨_, rfl⟩
            rw [← hb0] at HB2 ⊢
            have HBK := Lib.hid hb0
            clear hb0
            cases b0
            · go_wp2_with (first
              | (go_at_call 81; ((with_reducible refine (R1.out _ HR.out.pd).mono ?_); rintro r w1 ⟨ao, c, rfl, hd, ho, hf⟩); have HD1 := Lib.hid hd; have HO1 := Lib.hid ho; have HF1 := Lib.hid hf; clear hd ho hf; obtain ⟨s0, s1, s2, s3⟩ := cells2 (dfr_cells HF1.out HR.out.hp (by decide)); have HW1 := Lib.hid (LM.put1 HR.out HD1.out HF1.out HO1.out); have HO2 := Lib.hid ((kfr_set (dfr_cells HF1.out HR.out.hp (by decide)) 1 (.slice ao M.size c)).own8 HO1.out (by simp)))
              | (go_at_call 96; ((with_reducible refine (noughts_any _ _ _ _ _ _ HO2.out.seq).mono ?_); rintro r w2 ⟨rfl, rfl⟩)))
              go_roundw
              case rel => exact ⟨2, _, _, by omega, by go_num, by rw [HB2.out]; rfl, HW1⟩
              case measure => simp [intOf]
            · go_wp2_with (first
              | (go_at_call 81; ((with_reducible refine (R1.out _ HR.out.pd).mono ?_); rintro r w1 ⟨ao, c, rfl, hd, ho, hf⟩); have HD1 := Lib.hid hd; have HO1 := Lib.hid ho; have HF1 := Lib.hid hf; clear hd ho hf; obtain ⟨s0, s1, s2, s3⟩ := cells2 (dfr_cells HF1.out HR.out.hp (by decide)); have HW1 := Lib.hid (LM.put1 HR.out HD1.out HF1.out HO1.out); have HO2 := Lib.hid ((kfr_set (dfr_cells HF1.out HR.out.hp (by decide)) 1 (.slice ao M.size c)).own8 HO1.out (by simp)))
              | (go_at_call 96; ((with_reducible refine (noughts_any _ _ _ _ _ _ HO2.out.seq).mono ?_); rintro r w2 ⟨rfl, rfl⟩)))
              go_roundw
              case rel => exact ⟨2, _, _, by omega, by go_num, by rw [HB2.out]; rfl, HW1⟩
              case measure => simp [intOf]
        · obtain rfl : k = 2 := by omega
          have hE1 : M.pg.length = M.pg.length := rfl
          obtain ⟨A0, C0, rfl, HOA⟩ := HR.out.a (by omega)
          obtain ⟨A1, C1, rfl, HOB⟩ := HR.out.b (by omega)
          have HCK : Hid (cntK M 2 = cntM (cntM M)) := Lib.hid rfl
          simp only [HCK.out] at HR ⊢
          have HMI : Hid (∀ w', Dfr B wr w' → Dfr B w w') := Lib.hid fun w' k => HR.out.fr.trans k
          have HPQ := Lib.hid HR.out.hp
          have HZQ := Lib.hid HR.out.hq
          have HPD := Lib.hid HR.out.pd
          have HWZ := Lib.hid HR.out.q0
          have HNA := Lib.hid (fun (hx : blankM M = false) => KN.out wr HR.out.pd A0 M.size C0 (lastM M 0) A1 M.size C1 (lastM M 1) HOA.seq HOB.seq hba hbb)
          clear HR HOA HOB hE1 hba hbb R0 R1 HL HD
          obtain ⟨⟨q0, q1, q2, q3⟩, p0, p1, p2, p3⟩ := cells4 HZQ.out
          obtain ⟨s0, s1, s2, s3⟩ := cells2 HPQ.out
          obtain ⟨bm, hbm⟩ : ∃ bm, bm = blankM M := ⟨_, rfl⟩
          rw [HBM.out, ← hbm]
          rw [← hbm] at HNA
          have HRV := Lib.hid (show RR = (if bm = true then ((fm0, 0) : Mt × Int) else nmR M (lastM M 0) (lastM M 1)) by rw [hbm]; exact HRV0.out)
          have HRM := Lib.hid (show MM = (if bm = true then fmM (cntM (cntM M)) else cntM (cntM M)) by rw [hbm]; exact HRM0.out)
          clear HB0 HB1 HB2 HBM hbm HRV0 HRM0
          cases bm
          · have HN : Hid (Calls Tryz.prog 97 #[.pointer (some ⟨d, 0, none⟩), .agg #[.slice A0 M.size C0, .slice A1 M.size C1]] wr fun r w' => r = .returned (.tuple #[.agg (mtC (nmR M (lastM M 0) (lastM M 1)).1), .int .i64 (nmR M (lastM M 0) (lastM M 1)).2]) ∧ wr.grownBy w' none) := Lib.hid (HNA.out rfl)
            clear HNA KF
            have HRV1 := Lib.hid (HRV.out.trans (if_neg (by decide)))
            have HRM1 := Lib.hid (HRM.out.trans (if_neg (by decide)))
            obtain ⟨R, hR⟩ : ∃ R, R = nmR M (lastM M 0) (lastM M 1) := ⟨_, rfl⟩
            rw [← hR] at HN HRV1
            clear hR HRV HRM
            obtain ⟨⟨T, e, m, f⟩, E⟩ := R
            have HN2 : Hid (Calls Tryz.prog 97 #[.pointer (some ⟨d, 0, none⟩), .agg #[.slice A0 M.size C0, .slice A1 M.size C1]] wr fun r w' => r = .returned (.tuple #[.agg #[.int .u64 (T : Int), .int .u32 (e : Int), .int .u32 (m : Int), .int .u32 (f : Int)], .int .i64 E]) ∧ wr.grownBy w' none) := HN
            clear HN
            go_wp2_with (first
              | (go_at_call 97; ((with_reducible refine HN2.out.mono ?_); rintro r w1 ⟨rfl, hg⟩); have HZ1 := Lib.hid ((hg.block _ (lt_of_block HZQ.out) (by simp)).trans HZQ.out); have HD1 := Lib.hid (HPD.out.new hg); have HF1 := Lib.hid (HMI.out _ (dfr_new hg)); clear hg q0 q1 q2 q3 p0 p1 p2 p3; obtain ⟨⟨q0, q1, q2, q3⟩, p0, p1, p2, p3⟩ := cells4 HZ1.out))
            exact bodyPost_ret (results_M rfl _ _ w.heap.size _ _ rfl rfl (store4 HZ1.out _ _ _ _) rfl) rfl ⟨by rw [HRV1.out]; rfl, by rw [HRM1.out]; exact HD1.out.set4 HZ1.out _ _ _ _, HF1.out.set4 (Nat.le_refl _) _ _ _ _⟩
          · clear HNA KN
            have HRV1 := Lib.hid (HRV.out.trans (if_pos rfl))
            have HRM1 := Lib.hid (HRM.out.trans (if_pos rfl))
            have KF1 := Lib.hid (KF.out wr HPD.out)
            rw [HM0.out] at KF1
            clear HRV HRM
            clear KF
            go_wp2_with (first
              | (go_at_call 95; ((with_reducible refine KF1.out.mono ?_); rintro r w1 ⟨rfl, hd, hf⟩); have HZ1 := Lib.hid (dfr_cells hf HZQ.out (by decide)); have HD1 := Lib.hid hd; have HF1 := Lib.hid (HMI.out _ hf); clear hd hf q0 q1 q2 q3 p0 p1 p2 p3; obtain ⟨⟨q0, q1, q2, q3⟩, p0, p1, p2, p3⟩ := cells4 HZ1.out))
            exact bodyPost_ret (results_M rfl _ _ w.heap.size _ _ rfl rfl (store4 HZ1.out _ _ _ _) rfl) rfl ⟨by rw [HRV1.out]; rfl, by rw [HRM1.out]; exact HD1.out.set4 HZ1.out _ _ _ _, HF1.out.set4 (Nat.le_refl _) _ _ _ _⟩

end Go.Proofs.YtildjdhoeilcfaaGreat

namespace Go.Proofs.YtildjdhoeilcfaaGreat
open Go.RowKit

/-- What stands while a head is put: the Writer g is a new one. -/
structure HW (w0 : World) (g : Nat) (hd : List Int) (w : World) : Prop where
  wr : WrAt w g hd
  bel : Below w0.heap.size w0 w
  g0 : w0.heap.size ≤ g
theorem HW.num {w0 w : World} {g : Nat} {hd : List Int} (h : HW w0 g hd w) (X : Int) (n : Nat) (m : Int) (hm : m = (n : Int)) (h0 : 0 ≤ X) (h1 : X ≤ 18446744073709551615) (hn1 : 1 ≤ n) (hn8 : n ≤ 8) (hl : hd.length ≤ 1000000) :
    Calls Tryz.prog 69 #[.pointer (some ⟨g, 0, none⟩), .int .u64 X, .int .i64 m] w fun r w' => r = .returned (.tuple #[]) ∧ HW w0 g (hd ++ numB X n n) w' := by
  subst hm
  refine (wnum_in w g n X hd h.wr h0 h1 hn1 hn8 (by omega)).mono fun r w' ⟨e, hw, hf⟩ => ⟨e, hw, h.bel.trans ((hf.below h.wr).mono h.g0), h.g0⟩

set_option maxHeartbeats 1000000 in
theorem whead_any (w : World) (kind : Int) (n : Nat) (hk0 : 0 ≤ kind) (hk1 : kind ≤ 255) (hn : n ≤ 1000000) :
    Calls Tryz.prog 241 #[.int .u8 kind, .int .i64 (n : Int)] w fun r w' => ∃ g, r = .returned (.pointer (some ⟨g, 0, none⟩)) ∧ HW w g ((([] ++ numB kind 1 1) ++ numB 0 1 1) ++ numB (n : Int) 2 2) w' := by
  go_enter Tryz.func241, Tryz.ntmps241
  go_wp2_with (first
    | (go_at_call 67; refine (newW_any _).mono ?_; rintro r w3 ⟨rfl, hw3, hg3⟩; have HP : Hid (HW w w.heap.size [] w3) := Lib.hid ⟨hw3, gbelow hg3, Nat.le_refl _⟩; clear hw3 hg3)
    | (go_at_call 69; have K := HP.out.num kind 1 1 rfl (by omega) (by omega) (by omega) (by omega) (by simp [numB_len]); ((with_reducible refine K.mono ?_); clear K; rintro r wn ⟨rfl, hs⟩); clear HP; have HP := Lib.hid hs; clear hs)
    | (go_at_call 69; have K := HP.out.num 0 1 1 rfl (by omega) (by omega) (by omega) (by omega) (by simp [numB_len]); ((with_reducible refine K.mono ?_); clear K; rintro r wn ⟨rfl, hs⟩); clear HP; have HP := Lib.hid hs; clear hs)
    | (go_at_call 69; have K := HP.out.num (n : Int) 2 2 rfl (by omega) (by omega) (by omega) (by omega) (by simp [numB_len]); ((with_reducible refine K.mono ?_); clear K; rintro r wn ⟨rfl, hs⟩); clear HP; have HP := Lib.hid hs; clear hs))
  go_ret
  exact ⟨_, rfl, HP.out⟩

section
variable {w : World} {B : Nat} {ao : Option Addr} {n c0 : Nat} {b b1 b2 b3 o1 o2 o3 : List Int} {e1 e2 e3 : Int} {C : Nat} {kind : Int}
/-- What ReadHead tells of bytes that begin otherwise. -/
def NoHead (w w' : World) (r : Ending) : Prop := r = .returned (.tuple #[.pointer none, .int .i64 0, .bool false]) ∧ w.grownBy w' none
/-- What ReadHead tells of bytes that begin so. -/
def IsHead (C : Nat) (b3 : List Int) (w w' : World) (r : Ending) : Prop := ∃ g, r = .returned (.tuple #[.pointer (some ⟨g, 0, none⟩), .int .i64 (C : Int), .bool true]) ∧ RS g w w' b3 0
theorem RS.gr {g : Nat} {w0 w : World} {bs : List Int} {e : Int} (h : RS g w0 w bs e) : w0.grownBy w none := gof h.bel none
theorem be1_255 {o : List Int} {bs b' : List Int} {e e' : Int} (hb : Byt bs) (x : nx bs e 1 true = (b', e', o)) : 0 ≤ beVal o ∧ beVal o ≤ 255 := by
  obtain ⟨_, bo, _, _⟩ := nx_both x hb
  have := beVal_lt o bo 1 (by have := nx_outlen x (by decide); omega)
  have := (beVal_bound o bo).1
  omega

theorem laid_head {Y : Lay} [LayOk Y] (x1 : nx b 0 1 true = (b1, e1, o1)) (x2 : nx b1 e1 1 true = (b2, e2, o2)) (x3 : nx b2 e2 2 true = (b3, e3, o3)) {L : List En} (hL : Laid Y b L) : e3 = 0 ∧ beVal o1 = Y.kind ∧ beVal o2 = 0 := by
  obtain ⟨r, hr, _⟩ := page_head hL
  rw [show ([Y.kind, 0] ++ numB (L.length : Int) 2 2) ++ (plB Y L b.length L.length ++ r) = [Y.kind] ++ ([0] ++ (numB (L.length : Int) 2 2 ++ (plB Y L b.length L.length ++ r))) by simp] at hr
  rw [hr, nx_app (by rfl)] at x1
  injection x1 with a1 x1; injection x1 with a2 a3
  subst a1; subst a2; subst a3
  rw [nx_app (by rfl)] at x2
  injection x2 with a1 x2; injection x2 with a2 a3
  subst a1; subst a2; subst a3
  rw [nx_app (by rw [numB_len]; rfl)] at x3
  injection x3 with a1 x3; injection x3 with a2 a3
  exact ⟨a2.symm, by simp [beVal], rfl⟩

set_option maxHeartbeats 2000000 in
theorem rhead_yes (h : Seq B w (.slice ao n c0) b) (hB : B ≤ w.heap.size) (hb : Byt b) (hl : b.length ≤ 140737488355328) (hk0 : 0 ≤ kind) (hk1 : kind ≤ 255)
    (x1 : nx b 0 1 true = (b1, e1, o1)) (x2 : nx b1 e1 1 true = (b2, e2, o2)) (x3 : nx b2 e2 2 true = (b3, 0, o3)) (h1 : beVal o1 = kind) (h2 : beVal o2 = 0) (hC : (C : Int) = beVal o3) (hCl : C ≤ 65535) :
    Calls Tryz.prog 183 #[.int .u8 kind, .slice ao n c0] w fun r w' => IsHead C b3 w w' r := by
  have H := Lib.hid h
  have HB := Lib.hid hb
  have HL := Lib.hid hl
  have X1 := Lib.hid x1
  have X2 := Lib.hid x2
  have X3 := Lib.hid x3
  have HA1 := Lib.hid h1
  have HA2 := Lib.hid h2
  have HC := Lib.hid hC
  clear h hb hl x1 x2 x3 h1 h2 hC
  go_enter Tryz.func183, Tryz.ntmps183
  go_wp2_with (first
    | (go_at_call 224; refine (newR_any w B _ b H.out hB (by have := HL.out; omega)).mono ?_; rintro r wr ⟨g, rfl, hgg, hrd, hgr⟩; have HR := Lib.hid (show RS g w wr b 0 from ⟨hrd, HB.out, HL.out, hgg, gbelow hgr⟩); clear hrd hgr hgg)
    | (go_at_call 184; have Kc := HR.out.num 1 (by decide) (by decide) X1.out; ((with_reducible refine Kc.mono ?_); clear Kc; rintro r wn ⟨rfl, hs, hg⟩); rw [HA1.out]; have HR1 := Lib.hid hs; clear hs hg HR)
    | (go_at_call 184; have Kc := HR1.out.num 1 (by decide) (by decide) X2.out; ((with_reducible refine Kc.mono ?_); clear Kc; rintro r wn2 ⟨rfl, hs, hg⟩); rw [HA2.out]; have HR2 := Lib.hid hs; clear hs hg HR1)
    | (go_at_call 184; have Kc := HR2.out.num 2 (by decide) (by decide) X3.out; ((with_reducible refine Kc.mono ?_); clear Kc; rintro r wn3 ⟨rfl, hs, hg⟩); rw [← HC.out]; have HR3 := Lib.hid hs; clear hs hg HR2)
    | (go_at_call 226; refine (err_any _ g b3 0 HR3.out.rd).mono ?_; rintro r w5 ⟨rfl, rfl⟩))
  go_ret3
  exact ⟨g, rfl, HR3.out⟩

set_option maxHeartbeats 2000000 in
theorem rhead_no (h : Seq B w (.slice ao n c0) b) (hB : B ≤ w.heap.size) (hb : Byt b) (hl : b.length ≤ 140737488355328) (hk0 : 0 ≤ kind) (hk1 : kind ≤ 255)
    (x1 : nx b 0 1 true = (b1, e1, o1)) (x2 : nx b1 e1 1 true = (b2, e2, o2)) (x3 : nx b2 e2 2 true = (b3, e3, o3)) (hno : ¬ (e3 = 0 ∧ beVal o1 = kind ∧ beVal o2 = 0)) :
    Calls Tryz.prog 183 #[.int .u8 kind, .slice ao n c0] w fun r w' => NoHead w w' r := by
  obtain ⟨c1, _, _, _⟩ := nx_both x1 hb
  obtain ⟨p0, p1⟩ := be1_255 hb x1
  obtain ⟨q0, q1⟩ := be1_255 c1 x2
  obtain ⟨A1, hA1⟩ : ∃ x, x = beVal o1 := ⟨_, rfl⟩
  obtain ⟨A2, hA2⟩ : ∃ x, x = beVal o2 := ⟨_, rfl⟩
  obtain ⟨A3, hA3⟩ : ∃ x, x = beVal o3 := ⟨_, rfl⟩
  rw [← hA1, ← hA2] at hno
  rw [← hA1] at p0 p1
  rw [← hA2] at q0 q1
  have H := Lib.hid h
  have HB := Lib.hid hb
  have HL := Lib.hid hl
  have X1 := Lib.hid x1
  have X2 := Lib.hid x2
  have X3 := Lib.hid x3
  have HA1 := Lib.hid hA1
  have HA2 := Lib.hid hA2
  have HA3 := Lib.hid hA3
  clear h hb hl x1 x2 x3 hA1 hA2 hA3 c1
  by_cases he : e3 = 0
  · subst he
    by_cases hk : A1 = kind
    · subst hk
      have hz : ¬ A2 = 0 := fun e => hno ⟨rfl, rfl, e⟩
      have hb2 : (A2 != 0) = true := by simpa using hz
      clear hno
      go_enter Tryz.func183, Tryz.ntmps183
      go_wp2_with (first
        | (go_at_call 224; refine (newR_any w B _ b H.out hB (by have := HL.out; omega)).mono ?_; rintro r wr ⟨g, rfl, hgg, hrd, hgr⟩; have HR := Lib.hid (show RS g w wr b 0 from ⟨hrd, HB.out, HL.out, hgg, gbelow hgr⟩); clear hrd hgr hgg)
        | (go_at_call 184; have Kc := HR.out.num 1 (by decide) (by decide) X1.out; ((with_reducible refine Kc.mono ?_); clear Kc; rintro r wn ⟨rfl, hs, hg⟩); rw [← HA1.out]; have HR1 := Lib.hid hs; clear hs hg HR)
        | (go_at_call 184; have Kc := HR1.out.num 1 (by decide) (by decide) X2.out; ((with_reducible refine Kc.mono ?_); clear Kc; rintro r wn2 ⟨rfl, hs, hg⟩); rw [← HA2.out]; have HR2 := Lib.hid hs; clear hs hg HR1)
        | (go_at_call 184; have Kc := HR2.out.num 2 (by decide) (by decide) X3.out; ((with_reducible refine Kc.mono ?_); clear Kc; rintro r wn3 ⟨rfl, hs, hg⟩); rw [← HA3.out]; have HR3 := Lib.hid hs; clear hs hg HR2)
        | (go_at_call 226; refine (err_any _ g b3 0 HR3.out.rd).mono ?_; rintro r w5 ⟨rfl, rfl⟩))
      go_ret3
      exact ⟨rfl, HR3.out.gr⟩
    · have hb1 : (A1 != kind) = true := by simpa using hk
      clear hno
      go_enter Tryz.func183, Tryz.ntmps183
      go_wp2_with (first
        | (go_at_call 224; refine (newR_any w B _ b H.out hB (by have := HL.out; omega)).mono ?_; rintro r wr ⟨g, rfl, hgg, hrd, hgr⟩; have HR := Lib.hid (show RS g w wr b 0 from ⟨hrd, HB.out, HL.out, hgg, gbelow hgr⟩); clear hrd hgr hgg)
        | (go_at_call 184; have Kc := HR.out.num 1 (by decide) (by decide) X1.out; ((with_reducible refine Kc.mono ?_); clear Kc; rintro r wn ⟨rfl, hs, hg⟩); rw [← HA1.out]; have HR1 := Lib.hid hs; clear hs hg HR)
        | (go_at_call 184; have Kc := HR1.out.num 1 (by decide) (by decide) X2.out; ((with_reducible refine Kc.mono ?_); clear Kc; rintro r wn2 ⟨rfl, hs, hg⟩); rw [← HA2.out]; have HR2 := Lib.hid hs; clear hs hg HR1)
        | (go_at_call 184; have Kc := HR2.out.num 2 (by decide) (by decide) X3.out; ((with_reducible refine Kc.mono ?_); clear Kc; rintro r wn3 ⟨rfl, hs, hg⟩); rw [← HA3.out]; have HR3 := Lib.hid hs; clear hs hg HR2)
        | (go_at_call 226; refine (err_any _ g b3 0 HR3.out.rd).mono ?_; rintro r w5 ⟨rfl, rfl⟩))
      go_ret3
      exact ⟨rfl, HR3.out.gr⟩
  · have heb : (e3 != 0) = true := by simpa using he
    clear hno
    go_enter Tryz.func183, Tryz.ntmps183
    go_wp2_with (first
      | (go_at_call 224; refine (newR_any w B _ b H.out hB (by have := HL.out; omega)).mono ?_; rintro r wr ⟨g, rfl, hgg, hrd, hgr⟩; have HR := Lib.hid (show RS g w wr b 0 from ⟨hrd, HB.out, HL.out, hgg, gbelow hgr⟩); clear hrd hgr hgg)
      | (go_at_call 184; have Kc := HR.out.num 1 (by decide) (by decide) X1.out; ((with_reducible refine Kc.mono ?_); clear Kc; rintro r wn ⟨rfl, hs, hg⟩); rw [← HA1.out]; have HR1 := Lib.hid hs; clear hs hg HR)
      | (go_at_call 184; have Kc := HR1.out.num 1 (by decide) (by decide) X2.out; ((with_reducible refine Kc.mono ?_); clear Kc; rintro r wn2 ⟨rfl, hs, hg⟩); rw [← HA2.out]; have HR2 := Lib.hid hs; clear hs hg HR1)
      | (go_at_call 184; have Kc := HR2.out.num 2 (by decide) (by decide) X3.out; ((with_reducible refine Kc.mono ?_); clear Kc; rintro r wn3 ⟨rfl, hs, hg⟩); rw [← HA3.out]; have HR3 := Lib.hid hs; clear hs hg HR2)
      | (go_at_call 226; refine (err_any _ g b3 e3 HR3.out.rd).mono ?_; rintro r w5 ⟨rfl, rfl⟩))
    go_ret3
    exact ⟨rfl, HR3.out.gr⟩
end

end Go.Proofs.YtildjdhoeilcfaaGreat

namespace Go.Proofs.YtildjdhoeilcfaaGreat
open Go.RowKit

/-- The first bytes of a page of a kind, with a next page. -/
def hdK (k : Int) (n : Nat) (x : Int) : List Int := (((([] ++ numB k 1 1) ++ numB 0 1 1) ++ numB (n : Int) 2 2) ++ numB x 4 4)
theorem hdK_is (k : Int) (n : Nat) (x : Int) : hdK k n x = (((([] ++ numB k 1 1) ++ numB 0 1 1) ++ numB (n : Int) 2 2) ++ numB x 4 4) := rfl
theorem hdK_len (k : Int) (n : Nat) (x : Int) : (hdK k n x).length = 8 := by simp [hdK, numB_len]
theorem hdK_byt (k : Int) (n : Nat) (x : Int) : Byt (hdK k n x) := by
  unfold hdK
  intro y hy
  simp only [List.mem_append, List.nil_append] at hy
  rcases hy with ((h | h) | h) | h <;> exact numB_byt _ _ _ y h
/-- Told as it is read. -/
theorem hdK_read {k : Int} (h0 : 0 ≤ k) (h1 : k ≤ 255) (n : Nat) (x : Int) (r : List Int) : hdK k n x ++ r = [k] ++ ([0] ++ (numB (n : Int) 2 2 ++ (numB x 4 4 ++ r))) := by
  rw [hdK, numB1, numB1, show k % 256 = k by omega]
  simp
theorem hdK_inj {k : Int} {n m : Nat} {x y : Int} {r s : List Int} (hn : n ≤ 65535) (hm : m ≤ 65535) (hx0 : 0 ≤ x) (hx1 : x ≤ 4294967295) (hy0 : 0 ≤ y) (hy1 : y ≤ 4294967295) (h : hdK k n x ++ r = hdK k m y ++ s) : n = m ∧ x = y ∧ r = s := by
  obtain ⟨h1, h2⟩ := List.append_inj h (by rw [hdK_len, hdK_len])
  unfold hdK at h1
  obtain ⟨h3, h4⟩ := List.append_inj' h1 (by rw [numB_len, numB_len])
  obtain ⟨_, h5⟩ := List.append_inj' h3 (by rw [numB_len, numB_len])
  have l1 := congrArg beVal h5
  have l2 := congrArg beVal h4
  rw [be2 (by omega) (by omega), be2 (by omega) (by omega)] at l1
  rw [be4 (by omega) (by omega), be4 (by omega) (by omega)] at l2
  exact ⟨by omega, l2, h2⟩
theorem nx_at {bs : List Int} {n : Nat} (h : n ≤ bs.length) : nx bs 0 (n : Int) true = (bs.drop n, 0, bs.take n) := by
  have : ¬ (bs.length : Int) < (n : Int) := by omega
  simp only [nx, if_neg this]
  simp

theorem results_tmp4 {fn : Func} {t u v x : Tmp} (h : fn.results = #[.tmp t, .tmp u, .tmp v, .tmp x]) (tmps : Array Value) (P : Program) (w : World) :
    (results fn tmps).run P w = .ok (.tuple #[tmps.getD t undef, tmps.getD u undef, tmps.getD v undef, tmps.getD x undef]) w := by
  simp [results, h]

set_option maxHeartbeats 1000000 in
theorem lmany_yes (w : World) (n m M : Int) (hn : 1 ≤ n) (hn9 : n ≤ 9223372036854775807) (hm : 1 ≤ m) (hM : (n - 1) / m + 1 = M) :
    Calls Tryz.prog 205 #[.int .i64 n, .int .i64 m] w fun r w' => r = .returned (.int .i64 M) ∧ w = w' := by
  obtain ⟨Q, hQ⟩ : ∃ Q, Q = (n - 1) / m := ⟨_, rfl⟩
  have hqd : (n - 1).tdiv m = Q := by rw [hQ, Int.tdiv_eq_ediv_of_nonneg (by omega)]
  have hQ0 : 0 ≤ Q := by rw [hQ]; exact Int.ediv_nonneg (by omega) (by omega)
  have hQ9 : Q ≤ n - 1 := by rw [hQ]; exact Int.ediv_le_self _ (by omega)
  have hd1 : decide (n < 1) = false := by simp; omega
  have hw1 : IntKind.i64.wrap (n - 1) = n - 1 := IntWalk.i64_in _ (by omega)
  have hw2 : IntKind.i64.wrap Q = Q := IntWalk.i64_in _ (by omega)
  have hne : ¬ m = 0 := by omega
  have hne2 : (m == 0) = false := by simp; omega
  have hMQ : M = Q + 1 := by omega
  have hQ8 : Q + 1 ≤ 9223372036854775807 := by omega
  subst hMQ
  clear hM hQ
  go_enter Tryz.func205, Tryz.ntmps205
  go_wp2
  go_ret
  exact ⟨by simp, rfl⟩
set_option maxHeartbeats 1000000 in
theorem lmany_no (w : World) (n m : Int) (h : n < 1) :
    Calls Tryz.prog 205 #[.int .i64 n, .int .i64 m] w fun r w' => r = .returned (.int .i64 0) ∧ w = w' := by
  have hd1 : decide (n < 1) = true := by simpa using h
  clear h
  go_enter Tryz.func205, Tryz.ntmps205
  go_wp2
  go_ret
  exact ⟨rfl, rfl⟩

set_option maxHeartbeats 1000000 in
theorem wlinked_any (w : World) (kind : Int) (n : Nat) (ni : Int) (hni : ni = (n : Int)) (x : Int) (hk0 : 0 ≤ kind) (hk1 : kind ≤ 255) (hn : n ≤ 1000000) (hx0 : 0 ≤ x) (hx1 : x ≤ 4294967295) :
    Calls Tryz.prog 210 #[.int .u8 kind, .int .i64 ni, .int .u32 x] w fun r w' => ∃ g, r = .returned (.pointer (some ⟨g, 0, none⟩)) ∧ HW w g (hdK kind n x) w' := by
  subst hni
  have hw64 : IntKind.u64.wrap x = x := by rw [show IntKind.u64.wrap x = x % 18446744073709551616 from rfl]; omega
  go_enter Tryz.func210, Tryz.ntmps210
  go_wp2_with (first
    | (go_at_call 241; have K := whead_any w kind n hk0 hk1 hn; ((with_reducible refine K.mono ?_); clear K; rintro r w1 ⟨g, rfl, hh⟩); have HP := Lib.hid hh; clear hh)
    | (go_at_call 69; have K := HP.out.num x 4 4 rfl hx0 (by omega) (by omega) (by omega) (by simp [numB_len]); ((with_reducible refine K.mono ?_); clear K; rintro r w2 ⟨rfl, hh⟩); rw [← hdK_is] at hh; have HP2 := Lib.hid hh; clear hh HP))
  go_ret
  exact ⟨g, rfl, HP2.out⟩

section
variable {w : World} {B : Nat} {ao : Option Addr} {n c0 : Nat} {b r : List Int} {C : Nat} {kind x : Int}
/-- What ReadLinked tells of bytes that begin so. -/
def IsLinked (C : Nat) (x : Int) (rest : List Int) (w w' : World) (r : Ending) : Prop := ∃ g, r = .returned (.tuple #[.pointer (some ⟨g, 0, none⟩), .int .i64 (C : Int), .int .u32 x, .bool true]) ∧ RS g w w' rest 0
/-- What it tells of others. -/
def NoLinked (w w' : World) (r : Ending) : Prop := r = .returned (.tuple #[.pointer none, .int .i64 0, .int .u32 0, .bool false]) ∧ w.grownBy w' none

set_option maxHeartbeats 2000000 in
theorem rlinked_yes (h : Seq B w (.slice ao n c0) b) (hB : B ≤ w.heap.size) (hb : Byt b) (hl : b.length ≤ 140737488355328) (hk0 : 0 ≤ kind) (hk1 : kind ≤ 255) (hC : C ≤ 65535) (hx0 : 0 ≤ x) (hx1 : x ≤ 4294967295) (he : b = hdK kind C x ++ r) :
    Calls Tryz.prog 135 #[.int .u8 kind, .slice ao n c0] w fun e w' => IsLinked C x r w w' e := by
  have hlen : b.length = 8 + r.length := by rw [he, List.length_append, hdK_len]
  have hn : n = b.length := by obtain ⟨_, _, hv, _⟩ := h; injection hv
  have hn8 : ¬ (n : Int) < 8 := by omega
  have hn9 : n ≤ 140737488355328 := by omega
  have he2 := he
  rw [hdK_read hk0 hk1] at he2
  have X1 := Lib.hid (show nx b 0 1 true = ([0] ++ (numB (C : Int) 2 2 ++ (numB x 4 4 ++ r)), 0, [kind]) by rw [he2]; exact nx_app (by rfl))
  have X2 := Lib.hid (show nx ([0] ++ (numB (C : Int) 2 2 ++ (numB x 4 4 ++ r))) 0 1 true = (numB (C : Int) 2 2 ++ (numB x 4 4 ++ r), 0, [0]) from nx_app (by rfl))
  have X3 := Lib.hid (show nx (numB (C : Int) 2 2 ++ (numB x 4 4 ++ r)) 0 2 true = (numB x 4 4 ++ r, 0, numB (C : Int) 2 2) from nx_app (by rw [numB_len]; rfl))
  have X4 := Lib.hid (show nx (numB x 4 4 ++ r) 0 4 true = (r, 0, numB x 4 4) from nx_app (by rw [numB_len]; rfl))
  have HX := Lib.hid (show beVal (numB x 4 4) = x from be4 hx0 (by omega))
  have H := Lib.hid h
  have HB := Lib.hid hb
  have HL := Lib.hid hl
  have HC := Lib.hid (show (C : Int) = beVal (numB (C : Int) 2 2) from (be2 (by omega) (by omega)).symm)
  have HA1 := Lib.hid (show beVal [kind] = kind by simp [beVal])
  have HA2 := Lib.hid (show beVal [0] = 0 from rfl)
  have hw32 : IntKind.u32.wrap x = x := by rw [show IntKind.u32.wrap x = x % 4294967296 from rfl]; omega
  clear h hb hl he he2 hn hlen
  go_enter Tryz.func135, Tryz.ntmps135
  go_wp2_with (first
    | (go_at_call 183; have Kc := rhead_yes (kind := kind) H.out hB HB.out HL.out hk0 hk1 X1.out X2.out X3.out HA1.out HA2.out HC.out hC; ((with_reducible refine Kc.mono ?_); clear Kc; rintro r w3 ⟨g, rfl, hs⟩); have HR3 := Lib.hid hs; clear hs)
    | (go_at_call 184; have Kc := HR3.out.num 4 (by decide) (by decide) X4.out; rw [HX.out] at Kc; ((with_reducible refine Kc.mono ?_); clear Kc; rintro r w4 ⟨rfl, hs, hg⟩); have HR4 := Lib.hid hs; clear hs hg))
  (try simp only [Exit.inBlock, Exit.then])
  refine bodyPost_ret (results_tmp4 rfl _ _ _) rfl ?_
  exact ⟨g, rfl, HR4.out⟩

set_option maxHeartbeats 2000000 in
theorem rlinked_no (h : Seq B w (.slice ao n c0) b) (hB : B ≤ w.heap.size) (hb : Byt b) (hl : b.length ≤ 140737488355328) (hk0 : 0 ≤ kind) (hk1 : kind ≤ 255) (hno : ∀ (C : Nat) (x : Int) (r : List Int), C ≤ 65535 → 0 ≤ x → x ≤ 4294967295 → b ≠ hdK kind C x ++ r) :
    Calls Tryz.prog 135 #[.int .u8 kind, .slice ao n c0] w fun e w' => NoLinked w w' e := by
  obtain ⟨b1, e1, o1, x1⟩ : ∃ a b' d, nx b 0 1 true = (a, b', d) := ⟨_, _, _, rfl⟩
  obtain ⟨b2, e2, o2, x2⟩ : ∃ a b' d, nx b1 e1 1 true = (a, b', d) := ⟨_, _, _, rfl⟩
  obtain ⟨b3, e3, o3, x3⟩ : ∃ a b' d, nx b2 e2 2 true = (a, b', d) := ⟨_, _, _, rfl⟩
  have hn : n = b.length := by obtain ⟨_, _, hv, _⟩ := h; injection hv
  have hn9 : n ≤ 140737488355328 := by omega
  have H := Lib.hid h
  have HB := Lib.hid hb
  have HL := Lib.hid hl
  have X1 := Lib.hid x1
  have X2 := Lib.hid x2
  by_cases hh : e3 = 0 ∧ beVal o1 = kind ∧ beVal o2 = 0
  · obtain ⟨he, h1, h2⟩ := hh
    subst he
    obtain ⟨c1, bo1, _, _⟩ := nx_both x1 hb
    obtain ⟨c2, bo2, _, _⟩ := nx_both x2 c1
    obtain ⟨c3, bo3, _, _⟩ := nx_both x3 c2
    obtain ⟨r2, p2, l3⟩ := nx_ok x3 (by decide)
    subst r2
    obtain ⟨r1, p1, l2⟩ := nx_ok x2 (by decide)
    subst r1
    obtain ⟨_, p0, l1⟩ := nx_ok x1 (by decide)
    have q1 := num1 bo1 (by omega)
    have q2 := num1 bo2 (by omega)
    have q3 := num2 bo3 (by omega)
    have hC0 := (beVal_bound o3 bo3).1
    have hC1 := beVal_lt o3 bo3 2 (by omega)
    obtain ⟨C, hC⟩ : ∃ x : Nat, (x : Int) = beVal o3 := ⟨(beVal o3).toNat, by omega⟩
    rw [h1, numB1] at q1
    rw [h2, numB1] at q2
    rw [← hC] at q3
    have hbb : b = [kind] ++ ([0] ++ (numB (C : Int) 2 2 ++ b3)) := by rw [p0, p1, p2, ← q1, ← q2, q3, show kind % 256 = kind by omega]; rfl
    have hsh : b.length < 8 := by
      rcases Nat.lt_or_ge b.length 8 with k | k
      · exact k
      · exfalso
        have hb3 : 4 ≤ b3.length := by rw [hbb] at k; simp [numB_len] at k; omega
        have ho4 : Byt (b3.take 4) := fun y hy => c3 y (List.mem_of_mem_take hy)
        have hl4 : (b3.take 4).length = 4 := by rw [List.length_take]; omega
        have hv := beVal_bound _ ho4
        have hv2 := beVal_lt _ ho4 4 (by omega)
        refine hno C (beVal (b3.take 4)) (b3.drop 4) (by omega) hv.1 (by omega) ?_
        rw [hdK_read hk0 hk1, num4 ho4 hl4, List.take_append_drop]
        exact hbb
    have hn8 : (n : Int) < 8 := by omega
    have X3 := Lib.hid x3
    have HA1 := Lib.hid h1
    have HA2 := Lib.hid h2
    have HC := Lib.hid hC
    have hCl : C ≤ 65535 := by omega
    clear h hb hl x1 x2 x3 h1 h2 hno hn c1 c2 c3 bo1 bo2 bo3 p0 p1 p2 l1 l2 l3 q1 q2 q3 hC0 hC1 hC hbb hsh
    go_enter Tryz.func135, Tryz.ntmps135
    go_wp2_with (go_at_call 183; have Kc := rhead_yes (kind := kind) H.out hB HB.out HL.out hk0 hk1 X1.out X2.out X3.out HA1.out HA2.out HC.out hCl; ((with_reducible refine Kc.mono ?_); clear Kc; rintro r w3 ⟨g, rfl, hs⟩); have HR3 := Lib.hid hs; clear hs)
    (try simp only [Exit.inBlock, Exit.then])
    refine bodyPost_ret (results_tmp4 rfl _ _ _) rfl ?_
    exact ⟨rfl, HR3.out.gr⟩
  · have X3 := Lib.hid x3
    have HH := Lib.hid hh
    clear h hb hl x1 x2 x3 hno hn hh
    go_enter Tryz.func135, Tryz.ntmps135
    go_wp2_with (go_at_call 183; have Kc := rhead_no (kind := kind) H.out hB HB.out HL.out hk0 hk1 X1.out X2.out X3.out HH.out; ((with_reducible refine Kc.mono ?_); clear Kc; rintro r w3 ⟨rfl, hs⟩); have HR3 := Lib.hid hs; clear hs)
    (try simp only [Exit.inBlock, Exit.then])
    refine bodyPost_ret (results_tmp4 rfl _ _ _) rfl ?_
    exact ⟨rfl, HR3.out⟩
end

end Go.Proofs.YtildjdhoeilcfaaGreat
