/-
  'DiskLast' returns true for every input: what was written to a page last is read, loose or not, whatever else was written. No condition. Own work.
-/
import Derived.Test.YtkcadiiahbkmcaaDskT
import Derived.ProofKit
import Derived.OpenShut
import Derived.ShutString
import Derived.ChangeOld
import Derived.Deep.QuietTactic
import Derived.BigQuiet
import Derived.Laws.BitsAllLaws
namespace Go.Proofs.Ytkcadiiahbkmcaa
open Go.RowKit

/-- The disk's pages are filled with L's bytes. -/
def LSt (M : SM) (L : List Int) (n : Nat) : Prop := M.fails = false ∧ M.size = 512 ∧ M.pg.length = n ∧ ∀ p, p < n → lastM M p = List.replicate 512 (L.getD p 0)
theorem LSt.cnt {M : SM} {L : List Int} {n : Nat} (h : LSt M L n) : LSt (cntM M) L n := ⟨cnt_calm h.1, h.2.1, h.2.2.1, h.2.2.2⟩
theorem LSt.wr {M : SM} {L : List Int} {n i : Nat} {v : Int} (h : LSt M L n) (hi : i < n) (hL : L.length = n) : LSt (wrM M i (fullB 512 [v] 512)) (L.set i v) n := by
  refine ⟨cnt_calm (M := M) h.1, h.2.1, by rw [wrM]; simp only [List.length_set]; exact h.2.2.1, fun p hp => ?_⟩
  rw [lastM_wr _ _ _ _ (by rw [h.2.2.1]; exact hi), fullB_one]
  by_cases e : p = i
  · subst e; rw [if_pos rfl]; simp [List.getD_eq_getElem?_getD, hL, hi]
  · rw [if_neg e, h.2.2.2 p hp]
    simp only [List.getD_eq_getElem?_getD, List.getElem?_set]
    rw [if_neg (by omega)]
theorem LSt.sync {M : SM} {L : List Int} {n : Nat} (h : LSt M L n) : LSt (syncM M) L n :=
  ⟨cnt_calm (M := M) h.1, h.2.1, by simp [syncM, syncP_len, cntM, h.2.2.1], fun p hp => by rw [lastM_sync]; exact h.2.2.2 p hp⟩
def last0 (o : Bool) : SM := growM (cntM { size := 512, limit := 9, pg := [], loose := [], fails := false, ahead := 0, calls := 0, once := false }) 4 o
theorem last0_wel (o : Bool) : Wel (last0 o) 1 := Wel.grow (wel_new (s := 512) (l := 9) (by decide)) (by decide)
theorem last0_st (o : Bool) : LSt (last0 o) (List.replicate 4 0) 4 := by
  refine ⟨by cases o <;> decide, by cases o <;> decide, by cases o <;> decide, fun p hp => ?_⟩
  match p, hp with
  | 0, _ => rfl
  | 1, _ => rfl
  | 2, _ => rfl
  | 3, _ => rfl

theorem own_block {w : World} {base size n c q : Nat} {e : TypeId} {xs : List Value} (h : w.ownsRow base e size (.slice (some ⟨q, 0, none⟩) n c) n xs) : ∃ cur, w.heap[q]? = some (.cells cur e (0, 0)) ∧ cur.size = c * size ∧ base ≤ q := by
  rcases h.2 with ⟨h', _⟩ | ⟨g, cap, cur, h', hb, hg, _, _, hs, _⟩
  · simp at h'
  · simp only [Value.slice.injEq, Option.some.injEq, Addr.mk.injEq, and_true, true_and] at h'
    obtain ⟨rfl, rfl⟩ := h'
    exact ⟨cur, hg, hs, hb⟩
theorem u8_and3 (s : Nat) (h : s < 256) : (bits BinOp.and IntKind.u8 (s : Int) 3 == 0) = decide (s % 4 = 0) := by
  rw [show (3 : Int) = ((3 : Nat) : Int) from rfl, u8_and_nat s 3 h (by decide), show s &&& 3 = s % 4 from Nat.and_two_pow_sub_one_eq_mod s 2, Bool.eq_iff_iff]
  simp
  omega

set_option maxRecDepth 100000 in
set_option maxHeartbeats 8000000 in
theorem last_yes (W : World) (ao1 ao2 ao3 : Option Addr) (n1 n2 n3 c1 c2 c3 : Nat) (b1 b2 b3 : List Int) (h1 : Seq W.heap.size W (.slice ao1 n1 c1) b1) (h2 : Seq W.heap.size W (.slice ao2 n2 c2) b2) (h3 : Seq W.heap.size W (.slice ao3 n3 c3) b3)
    (y1 : Byt b1) (y3 : Byt b3) (hn : n1 ≤ 40) (hn2 : n1 ≤ n2) (hn3 : n1 ≤ n3) :
    Calls Try.prog 7 #[.slice ao1 n1 c1, .slice ao2 n2 c2, .slice ao3 n3 c3] W fun r w' => r = .returned (.bool true) ∧ Below W.heap.size W w' := by
  have hnot : ∀ (x : Bool) (w : World), (Op.unary .not (.bool x)).run Try.prog w = .ok (.bool (!x)) w := fun _ _ => rfl
  have hmay : May ((512 : Nat) : Int) ((9 : Nat) : Int) := by decide
  have l1 : n1 = b1.length ∧ n1 ≤ c1 := by obtain ⟨_, _, hv, g1, _⟩ := h1; cases hv; exact ⟨rfl, g1⟩
  have l2 : n2 = b2.length ∧ n2 ≤ c2 ∧ c2 ≤ maxLen := by obtain ⟨_, _, hv, g1, g2, _⟩ := h2; cases hv; exact ⟨rfl, g1, g2⟩
  have l3 : n3 = b3.length ∧ n3 ≤ c3 := by obtain ⟨_, _, hv, g1, _⟩ := h3; cases hv; exact ⟨rfl, g1⟩
  have HL1 := Lib.hid l1
  have HL2 := Lib.hid l2
  have HL3 := Lib.hid l3
  have H1 := Lib.hid h1
  have H2 := Lib.hid h2
  have H3 := Lib.hid h3
  have Y1 := Lib.hid y1
  have Y3 := Lib.hid y3
  have HT0 := Lib.hid last0_st
  have HW0 := Lib.hid last0_wel
  have d1 : decide (40 < n1) = false := by simp; omega
  have d1i : decide ((40 : Int) < (n1 : Int)) = false := by simp; omega
  have hmk : ∀ w, (Instr.makeSlice 22 (.int .i64 4) (.int .i64 4)).run Try.prog w = .ok (.slice (some ⟨w.heap.size, 0, none⟩) 4 4) (w.alloc (.cells (madeCells #[Value.int .u8 0] 4) 5)) := fun w => run_make_row' (P := Try.prog) 22 5 (.int .u8 0) 1 Try.underlying22 infoU8 rfl .i64 .i64 4 (by decide) (by decide) w
  have d2 : decide (n2 < n1) = false := by simp; omega
  have d3 : decide (n3 < n1) = false := by simp; omega
  have hc2 : n1 ≤ c2 := by omega
  clear l1 l2 l3 h1 h2 h3 y1 y3
  go_enter Try.func7, Try.ntmps7
  go_wp2_with (first
    | (go_at_call 9; refine (awake3_any _).mono ?_; rintro e wA ⟨rfl, hA⟩; have HA := Lib.hid hA; clear hA)
    | (go_at_call 31; refine (new_good _ 512 9 hmay).mono ?_; rintro e w0 ⟨rfl, hw0⟩; have HD0 : Hid (DskAt wA.heap.size w0 wA.heap.size { size := 512, limit := 9, pg := [], loose := [], fails := false, ahead := 0, calls := 0, once := false }) := Lib.hid (by rw [← hw0]; exact newM (Nat.le_refl _)); have HG0 : Hid (Dfr wA.heap.size wA w0) := Lib.hid (by rw [← hw0]; exact dfr_new (World.grownBy_alloc _ _ _)); clear hw0)
    | (go_at_call 17; refine (HD0.out.grow (n := 4) aw_fine.1 (by decide) (by decide) (by decide) (by decide) (by decide)).mono ?_; rintro e w1 ⟨o, rfl, hd, hf⟩; have HD1 : Hid (DskAt wA.heap.size w1 wA.heap.size (last0 o)) := Lib.hid hd; have HG1 := Lib.hid (HG0.out.trans hf); clear hd hf))
  have HOM : Hid (Own8 w1.heap.size (w1.alloc (.cells (madeCells #[Value.int .u8 0] 4) 5)) 4 (.slice (some ⟨w1.heap.size, 0, none⟩) 4 4) (List.replicate 4 0)) := Lib.hid ⟨by decide, .inr ⟨w1.heap.size, 4, _, rfl, Nat.le_refl _, heap_alloc_new _ _, Nat.le_refl _, by decide, by rw [size_madeCells], by rw [toList_madeCells_one]; rfl⟩⟩
  have HDM := Lib.hid (HD1.out.new (World.grownBy_alloc w1 (.cells (madeCells #[Value.int .u8 0] 4) 5) none))
  have HGM := Lib.hid (HG1.out.trans (dfr_new (World.grownBy_alloc w1 (.cells (madeCells #[Value.int .u8 0] 4) 5) none)))
  obtain ⟨q, hq⟩ : ∃ q, q = w1.heap.size := ⟨_, rfl⟩
  rw [← hq] at HOM ⊢
  have hWq : W.heap.size ≤ q := by rw [hq]; exact Nat.le_trans HA.out.size HG1.out.size
  have HWq := Lib.hid hWq
  have HSz := Lib.hid HA.out.size
  clear hq hWq hmk
  go_loopg [11] n1 (fun g v wr => ∃ (i : Nat) (M : SM) (L : List Int), i + g = n1 ∧ v = .int .i64 (i : Int) ∧ DskAt wA.heap.size wr wA.heap.size M ∧ Wel M (1 + 6 * i) ∧ LSt M L 4 ∧ L.length = 4 ∧ wr.ownsRow W.heap.size 5 1 (.slice (some ⟨q, 0, none⟩) 4 4) 4 (L.map (Value.int .u8)) ∧ Below W.heap.size W wr)
  case atStart => exact ⟨0, last0 o, List.replicate 4 0, by omega, rfl, HDM.out, HW0.out o, HT0.out o, by decide, own_base HOM.out HWq.out, (gbelow HA.out).trans ((HGM.out.below (Nat.le_refl _)).mono HSz.out)⟩
  case round =>
    obtain ⟨i, M, L, hi, rfl, hd, hw, hl, hL, ho, hb⟩ := hrel
    have HDi := Lib.hid hd
    have HWi := Lib.hid hw
    have HLi := Lib.hid hl
    have HLL := Lib.hid hL
    have HOi := Lib.hid ho
    have HBi := Lib.hid hb
    clear hd hw hl hL ho hb HOM HDM HGM
    by_cases hlt : i < n1
    · obtain ⟨g, rfl⟩ : ∃ g, gk = g + 1 := ⟨gk - 1, by omega⟩
      have hki : (i : Int) < (n1 : Int) := by omega
      obtain ⟨p1, o1, rfl, e1⟩ := (H1.out.below HBi.out.block).cellAt i (by have := HL1.out; omega)
      obtain ⟨p2, o2, rfl, e2⟩ := (H2.out.below HBi.out.block).cellAt i (by have := HL2.out; omega)
      obtain ⟨p3, o3, rfl, e3⟩ := (H3.out.below HBi.out.block).cellAt i (by have := HL3.out; omega)
      have hb1 := Byt.get Y1.out i
      have hb3 := Byt.get Y3.out i
      obtain ⟨u, hu⟩ : ∃ u : Nat, b1.getD i 0 = (u : Int) := ⟨(b1.getD i 0).toNat, by omega⟩
      obtain ⟨s, hs⟩ : ∃ s : Nat, b3.getD i 0 = (s : Int) := ⟨(b3.getD i 0).toNat, by omega⟩
      rw [hu] at e1 hb1
      rw [hs] at e3 hb3
      obtain ⟨v, hv⟩ : ∃ v, v = b2.getD i 0 := ⟨_, rfl⟩
      have HV := Lib.hid hv
      rw [← hv] at e2
      have HSv := Lib.hid hs
      clear hu hs hv
      obtain ⟨kk, hkk⟩ : ∃ kk : Nat, (u : Int) % 4 = (kk : Int) := ⟨u % 4, by omega⟩
      have hk4 : kk < 4 := by omega
      have hk4i : (kk : Int) < 4 := by omega
      have HSl : Hid (Seq wr.heap.size wr (.slice (some ⟨p2, o2 + i, none⟩) 1 (c2 - i)) [v]) := Lib.hid (by
        have h := (((H2.out.below HBi.out.block).mono HBi.out.size).tail (k := i) (by have := HL2.out; omega)).pre 1 (by rw [List.length_drop]; have := HL2.out; omega)
        have e : (b2.drop i).take 1 = [v] := by
          have hl : i < b2.length := by have := HL2.out; omega
          rw [HV.out, List.getD_eq_getElem?_getD, List.getElem?_eq_getElem hl, List.drop_eq_getElem_cons hl]; rfl
        rw [e] at h
        simp only [Option.map_some, Addr.add_lit] at h
        exact h)
      by_cases hs4 : s % 4 = 0
      · have hbs : (bits BinOp.and IntKind.u8 (s : Int) 3 == 0) = true := by rw [u8_and3 s (by omega)]; simpa using hs4
        clear hs4
        go_wp2_with (first
          | (go_at_call 12; refine (full_any _ 512 _ 1 (c2 - i) [v] false HSl.out (by decide)).mono ?_; rintro e w2 ⟨gf, kf, rfl, hof, hgf⟩; obtain rfl := full_own hof; have HO2 : Hid (Own8 wr.heap.size w2 512 (.slice (some ⟨gf, 0, none⟩) 512 512) (fullB 512 [v] 512)) := Lib.hid hof; have HD2 := Lib.hid (HDi.out.new hgf); have HG2 := Lib.hid (dfr_new (B := wA.heap.size) hgf); clear hof hgf)
          | (go_at_call 13; refine (HD2.out.writeN (i := kk) HLi.out.2.1 (HWi.out.fine (by omega)) (by rw [HLi.out.2.2.1]; exact hk4) (by decide) (cE_calm HLi.out.1) HO2.out (by have := HWi.out.lo; omega)).mono ?_; rintro e w3 ⟨rfl, hd, hf⟩; have HD3 := Lib.hid hd; have HG3 := Lib.hid (HG2.out.trans hf); have HB3 : Hid (Below W.heap.size W w3) := Lib.hid (HBi.out.trans ((HG3.out.below (Nat.le_of_lt HDi.out.lt)).mono HSz.out)); have HW3 := Lib.hid (HWi.out.wr (i := kk) (bs := fullB 512 [v] 512) (by rw [HLi.out.2.2.1]; exact hk4)); have HL3' := Lib.hid (HLi.out.wr (v := v) hk4 HLL.out); have HO3 : Hid (w3.ownsRow W.heap.size 5 1 (.slice (some ⟨q, 0, none⟩) 4 4) 4 (L.map (Value.int .u8))) := Lib.hid (HG3.out.own HOi.out (by decide)); obtain ⟨_, _, hz, e33⟩ := (H3.out.below HB3.out.block).cellAt i (by have := HL3.out; omega); cases hz; rw [HSv.out] at e33; clear hd hf e1 e3; skip)
          | (go_at_call 19; refine (HD3.out.sync (HW3.out.fine (by omega)) (cE_calm HL3'.out.1) HW3.out.lin (by have := HW3.out.lo; omega) (by rw [HL3'.out.2.2.1]; decide)).mono ?_; rintro e w4 ⟨rfl, hd, hf⟩; have HD4 := Lib.hid hd; have HB4 : Hid (Below W.heap.size W w4) := Lib.hid (HB3.out.trans ((hf.below (Nat.le_of_lt HD3.out.lt)).mono HSz.out)); have HW4 := Lib.hid HW3.out.sync; have HL4 := Lib.hid HL3'.out.sync; have HO4 := Lib.hid (hf.own HO3.out (by decide)); clear hd hf e33; obtain ⟨_, _, hz, e24⟩ := (H2.out.below HB4.out.block).cellAt i (by have := HL2.out; omega); cases hz; rw [← HV.out] at e24; obtain ⟨zq, hzq⟩ : ∃ z, w4.cell? ⟨q, kk, none⟩ = some z := ⟨_, (HO4.out.cellAt kk (by omega)).trans (List.getElem?_eq_getElem (by rw [List.length_map, HLL.out]; exact hk4))⟩; have fq := HO4.out.frozenAt kk; clear e2))
        generalize hM4 : syncM (wrM M kk (fullB 512 [v] 512)) = M4 at HD4 HW4 HL4
        clear hM4
        obtain ⟨st1, st2⟩ := HO4.out.stored kk (.int .u8 v)
        have HST := Lib.hid st1
        have HD5 : Hid (DskAt wA.heap.size (w4.setCell ⟨q, kk, none⟩ (.int .u8 v)) wA.heap.size M4) := Lib.hid (by
          obtain ⟨cur, hcur, hcs, _⟩ := own_block HO4.out
          exact HD4.out.small hcur (by rw [hcs, HL4.out.2.1]; decide) st2)
        have HB5 : Hid (Below W.heap.size W (w4.setCell ⟨q, kk, none⟩ (.int .u8 v))) := Lib.hid (gbelow (gnew (gof HB4.out none) st2 HWq.out))
        have HO5 : Hid ((w4.setCell ⟨q, kk, none⟩ (.int .u8 v)).ownsRow W.heap.size 5 1 (.slice (some ⟨q, 0, none⟩) 4 4) 4 ((L.set kk v).map (Value.int .u8))) := Lib.hid (by rw [List.map_set]; exact st1)
        have HLs := Lib.hid (show (L.set kk v).length = 4 by rw [List.length_set]; exact HLL.out)
        clear st1 st2
        generalize L.set kk v = L' at HO5 HL4 HLs
        go_wp2
        go_loopg [13] 4 (fun g2 t wr2 => ∃ (p : Nat) (M' : SM), p + g2 = 4 ∧ t = .int .i64 (p : Int) ∧ DskAt wA.heap.size wr2 wA.heap.size M' ∧ Wel M' (1 + 6 * i + 1 + 1 + p) ∧ LSt M' L' 4 ∧ wr2.ownsRow W.heap.size 5 1 (.slice (some ⟨q, 0, none⟩) 4 4) 4 (L'.map (Value.int .u8)) ∧ Below W.heap.size W wr2)
        case atStart => exact ⟨0, M4, by omega, rfl, HD5.out, HW4.out, HL4.out, HO5.out, HB5.out⟩
        case round =>
          obtain ⟨p, M', hp, rfl, hd, hw, hl, ho, hb⟩ := hrel
          have HDp := Lib.hid hd
          have HWp := Lib.hid hw
          have HLp := Lib.hid hl
          have HOp := Lib.hid ho
          have HBp := Lib.hid hb
          clear hd hw hl ho hb HD5 HB5 HO5 HST hzq fq e24
          by_cases hp4 : p < 4
          · obtain ⟨g2, rfl⟩ : ∃ g2, gk = g2 + 1 := ⟨gk - 1, by omega⟩
            have hpi : (p : Int) < 4 := by omega
            obtain ⟨z, hz⟩ : ∃ z, z = L'.getD p 0 := ⟨_, rfl⟩
            have HZ := Lib.hid hz
            clear hz
            go_wp2_with (first
              | (go_at_call 15; refine (HDp.out.readN (i := p) HLp.out.2.1 (HWp.out.fine (by omega)) (by rw [HLp.out.2.2.1]; exact hp4) (by decide) (cE_calm HLp.out.1)).mono ?_; rintro e w6 ⟨wc, ar, er, rfl, hd, hsz, hf, hg, hor⟩; rw [HLp.out.2.2.2 p hp4, ← HZ.out] at hor; have HD6 := Lib.hid (hd.new hg); have hf6 := hf.trans (dfr_new (B := wA.heap.size) hg); have HO6 : Hid (w6.ownsRow W.heap.size 5 1 (.slice (some ⟨q, 0, none⟩) 4 4) 4 (L'.map (Value.int .u8))) := Lib.hid (hf6.own HOp.out (by decide)); have HB6 : Hid (Below W.heap.size W w6) := Lib.hid (HBp.out.trans ((hf6.below (Nat.le_of_lt HDp.out.lt)).mono HSz.out)); obtain ⟨q6, rfl, -, -, k6⟩ := Own8.at hor (by decide); have r0 : w6.cell? ⟨q6, 0, none⟩ = some (.int .u8 z) := k6 0 (by decide); have r511 : w6.cell? ⟨q6, 511, none⟩ = some (.int .u8 z) := (by have h := k6 511 (by decide); rw [List.getD_eq_getElem?_getD, List.getElem?_replicate, if_pos (by decide)] at h; exact h); have rq : w6.cell? ⟨q, p, none⟩ = some (.int .u8 z) := (by have h := HO6.out.cellAt p (by omega); rw [List.getElem?_map, List.getElem?_eq_getElem (by rw [HLs.out]; exact hp4)] at h; rw [h, HZ.out]; simp [List.getD_eq_getElem?_getD, List.getElem?_eq_getElem (show p < L'.length by rw [HLs.out]; exact hp4)]); clear hd hsz hf hg hor hf6 k6))
            go_quiet (fail)
            go_wp2
            go_roundg g2
            case measure => omega
            case rel => exact ⟨p + 1, cntM M', by omega, by go_num, HD6.out.new (gdrewN _ _), HWp.out.cnt, HLp.out.cnt, HO6.out, gbelow (gtrans (gof HB6.out none) (gdrewN _ _))⟩
          · obtain rfl : p = 4 := by omega
            go_wp2
            go_roundg g
            case measure => omega
            case rel => exact ⟨i + 1, M', L', by omega, by go_num, HDp.out, HWp.out.mono (by omega), HLp.out, HLs.out, HOp.out, HBp.out⟩
      · have hbs : (bits BinOp.and IntKind.u8 (s : Int) 3 == 0) = false := by rw [u8_and3 s (by omega)]; simpa using hs4
        clear hs4
        go_wp2_with (first
          | (go_at_call 12; refine (full_any _ 512 _ 1 (c2 - i) [v] false HSl.out (by decide)).mono ?_; rintro e w2 ⟨gf, kf, rfl, hof, hgf⟩; obtain rfl := full_own hof; have HO2 : Hid (Own8 wr.heap.size w2 512 (.slice (some ⟨gf, 0, none⟩) 512 512) (fullB 512 [v] 512)) := Lib.hid hof; have HD2 := Lib.hid (HDi.out.new hgf); have HG2 := Lib.hid (dfr_new (B := wA.heap.size) hgf); clear hof hgf)
          | (go_at_call 13; refine (HD2.out.writeN (i := kk) HLi.out.2.1 (HWi.out.fine (by omega)) (by rw [HLi.out.2.2.1]; exact hk4) (by decide) (cE_calm HLi.out.1) HO2.out (by have := HWi.out.lo; omega)).mono ?_; rintro e w4 ⟨rfl, hd, hf⟩; have HD3 := Lib.hid hd; have HG3 := Lib.hid (HG2.out.trans hf); have HB3 : Hid (Below W.heap.size W w4) := Lib.hid (HBi.out.trans ((HG3.out.below (Nat.le_of_lt HDi.out.lt)).mono HSz.out)); have HW3 := Lib.hid (HWi.out.wr (i := kk) (bs := fullB 512 [v] 512) (by rw [HLi.out.2.2.1]; exact hk4)); have HL3' := Lib.hid (HLi.out.wr (v := v) hk4 HLL.out); have HO3 : Hid (w4.ownsRow W.heap.size 5 1 (.slice (some ⟨q, 0, none⟩) 4 4) 4 (L.map (Value.int .u8))) := Lib.hid (HG3.out.own HOi.out (by decide)); obtain ⟨_, _, hz, e33⟩ := (H3.out.below HB3.out.block).cellAt i (by have := HL3.out; omega); cases hz; rw [HSv.out] at e33; clear hd hf e1 e3; have HD4 := HD3; have HB4 := HB3; have HW4 := Lib.hid (HW3.out.mono (Nat.le_succ _)); have HL4 := HL3'; have HO4 := HO3; obtain ⟨_, _, hz, e24⟩ := (H2.out.below HB4.out.block).cellAt i (by have := HL2.out; omega); cases hz; rw [← HV.out] at e24; obtain ⟨zq, hzq⟩ : ∃ z, w4.cell? ⟨q, kk, none⟩ = some z := ⟨_, (HO4.out.cellAt kk (by omega)).trans (List.getElem?_eq_getElem (by rw [List.length_map, HLL.out]; exact hk4))⟩; have fq := HO4.out.frozenAt kk; clear e2))
        generalize hM4 : wrM M kk (fullB 512 [v] 512) = M4 at HD4 HW4 HL4
        clear hM4
        obtain ⟨st1, st2⟩ := HO4.out.stored kk (.int .u8 v)
        have HST := Lib.hid st1
        have HD5 : Hid (DskAt wA.heap.size (w4.setCell ⟨q, kk, none⟩ (.int .u8 v)) wA.heap.size M4) := Lib.hid (by
          obtain ⟨cur, hcur, hcs, _⟩ := own_block HO4.out
          exact HD4.out.small hcur (by rw [hcs, HL4.out.2.1]; decide) st2)
        have HB5 : Hid (Below W.heap.size W (w4.setCell ⟨q, kk, none⟩ (.int .u8 v))) := Lib.hid (gbelow (gnew (gof HB4.out none) st2 HWq.out))
        have HO5 : Hid ((w4.setCell ⟨q, kk, none⟩ (.int .u8 v)).ownsRow W.heap.size 5 1 (.slice (some ⟨q, 0, none⟩) 4 4) 4 ((L.set kk v).map (Value.int .u8))) := Lib.hid (by rw [List.map_set]; exact st1)
        have HLs := Lib.hid (show (L.set kk v).length = 4 by rw [List.length_set]; exact HLL.out)
        clear st1 st2
        generalize L.set kk v = L' at HO5 HL4 HLs
        go_wp2
        go_loopg [13] 4 (fun g2 t wr2 => ∃ (p : Nat) (M' : SM), p + g2 = 4 ∧ t = .int .i64 (p : Int) ∧ DskAt wA.heap.size wr2 wA.heap.size M' ∧ Wel M' (1 + 6 * i + 1 + 1 + p) ∧ LSt M' L' 4 ∧ wr2.ownsRow W.heap.size 5 1 (.slice (some ⟨q, 0, none⟩) 4 4) 4 (L'.map (Value.int .u8)) ∧ Below W.heap.size W wr2)
        case atStart => exact ⟨0, M4, by omega, rfl, HD5.out, HW4.out, HL4.out, HO5.out, HB5.out⟩
        case round =>
          obtain ⟨p, M', hp, rfl, hd, hw, hl, ho, hb⟩ := hrel
          have HDp := Lib.hid hd
          have HWp := Lib.hid hw
          have HLp := Lib.hid hl
          have HOp := Lib.hid ho
          have HBp := Lib.hid hb
          clear hd hw hl ho hb HD5 HB5 HO5 HST hzq fq e24
          by_cases hp4 : p < 4
          · obtain ⟨g2, rfl⟩ : ∃ g2, gk = g2 + 1 := ⟨gk - 1, by omega⟩
            have hpi : (p : Int) < 4 := by omega
            obtain ⟨z, hz⟩ : ∃ z, z = L'.getD p 0 := ⟨_, rfl⟩
            have HZ := Lib.hid hz
            clear hz
            go_wp2_with (first
              | (go_at_call 15; refine (HDp.out.readN (i := p) HLp.out.2.1 (HWp.out.fine (by omega)) (by rw [HLp.out.2.2.1]; exact hp4) (by decide) (cE_calm HLp.out.1)).mono ?_; rintro e w6 ⟨wc, ar, er, rfl, hd, hsz, hf, hg, hor⟩; rw [HLp.out.2.2.2 p hp4, ← HZ.out] at hor; have HD6 := Lib.hid (hd.new hg); have hf6 := hf.trans (dfr_new (B := wA.heap.size) hg); have HO6 : Hid (w6.ownsRow W.heap.size 5 1 (.slice (some ⟨q, 0, none⟩) 4 4) 4 (L'.map (Value.int .u8))) := Lib.hid (hf6.own HOp.out (by decide)); have HB6 : Hid (Below W.heap.size W w6) := Lib.hid (HBp.out.trans ((hf6.below (Nat.le_of_lt HDp.out.lt)).mono HSz.out)); obtain ⟨q6, rfl, -, -, k6⟩ := Own8.at hor (by decide); have r0 : w6.cell? ⟨q6, 0, none⟩ = some (.int .u8 z) := k6 0 (by decide); have r511 : w6.cell? ⟨q6, 511, none⟩ = some (.int .u8 z) := (by have h := k6 511 (by decide); rw [List.getD_eq_getElem?_getD, List.getElem?_replicate, if_pos (by decide)] at h; exact h); have rq : w6.cell? ⟨q, p, none⟩ = some (.int .u8 z) := (by have h := HO6.out.cellAt p (by omega); rw [List.getElem?_map, List.getElem?_eq_getElem (by rw [HLs.out]; exact hp4)] at h; rw [h, HZ.out]; simp [List.getD_eq_getElem?_getD, List.getElem?_eq_getElem (show p < L'.length by rw [HLs.out]; exact hp4)]); clear hd hsz hf hg hor hf6 k6))
            go_quiet (fail)
            go_wp2
            go_roundg g2
            case measure => omega
            case rel => exact ⟨p + 1, cntM M', by omega, by go_num, HD6.out.new (gdrewN _ _), HWp.out.cnt, HLp.out.cnt, HO6.out, gbelow (gtrans (gof HB6.out none) (gdrewN _ _))⟩
          · obtain rfl : p = 4 := by omega
            go_wp2
            go_roundg g
            case measure => omega
            case rel => exact ⟨i + 1, M', L', by omega, by go_num, HDp.out, HWp.out.mono (by omega), HLp.out, HLs.out, HOp.out, HBp.out⟩
    · obtain rfl : i = n1 := by omega
      go_wp2
      go_ret
      exact ⟨rfl, HBi.out⟩

set_option maxRecDepth 100000 in
set_option maxHeartbeats 4000000 in
theorem last_no (W : World) (ao1 ao2 ao3 : Option Addr) (n1 n2 n3 c1 c2 c3 : Nat) (h : 40 < n1 ∨ n2 < n1 ∨ n3 < n1) (m1 : n1 ≤ maxLen) (m2 : n2 ≤ maxLen) (m3 : n3 ≤ maxLen) :
    Calls Try.prog 7 #[.slice ao1 n1 c1, .slice ao2 n2 c2, .slice ao3 n3 c3] W fun r w' => r = .returned (.bool true) ∧ Below W.heap.size W w' := by
  have hnot : ∀ (x : Bool) (w : World), (Op.unary .not (.bool x)).run Try.prog w = .ok (.bool (!x)) w := fun _ _ => rfl
  unfold maxLen at m1 m2 m3
  by_cases h1 : 40 < n1
  · have h1i : (40 : Int) < (n1 : Int) := by omega
    clear h
    go_enter Try.func7, Try.ntmps7
    go_wp2_with (first
      | (go_at_call 9; refine (awake3_any _).mono ?_; rintro e wA ⟨rfl, hA⟩; have HA := Lib.hid (gbelow hA); clear hA))
    all_goals (go_ret; exact ⟨rfl, HA.out⟩)
  · have h1i : ¬ (40 : Int) < (n1 : Int) := by omega
    by_cases h2 : n2 < n1
    · clear h
      go_enter Try.func7, Try.ntmps7
      go_wp2_with (first
        | (go_at_call 9; refine (awake3_any _).mono ?_; rintro e wA ⟨rfl, hA⟩; have HA := Lib.hid (gbelow hA); clear hA))
      all_goals (go_ret; exact ⟨rfl, HA.out⟩)
    · have h3 : n3 < n1 := by omega
      clear h
      go_enter Try.func7, Try.ntmps7
      go_wp2_with (first
        | (go_at_call 9; refine (awake3_any _).mono ?_; rintro e wA ⟨rfl, hA⟩; have HA := Lib.hid (gbelow hA); clear hA))
      all_goals (go_ret; exact ⟨rfl, HA.out⟩)

theorem last_any (W : World) (ao1 : Option Addr) (n1 c1 : Nat) (b1 : List Int) (ao2 : Option Addr) (n2 c2 : Nat) (b2 : List Int) (ao3 : Option Addr) (n3 c3 : Nat) (b3 : List Int)
    (h1 : Seq W.heap.size W (.slice ao1 n1 c1) b1) (y1 : Byt b1) (h2 : Seq W.heap.size W (.slice ao2 n2 c2) b2) (_ : Byt b2) (h3 : Seq W.heap.size W (.slice ao3 n3 c3) b3) (y3 : Byt b3) :
    Calls Try.prog 7 #[.slice ao1 n1 c1, .slice ao2 n2 c2, .slice ao3 n3 c3] W fun r w' => r = .returned (.bool true) ∧ Below W.heap.size W w' := by
  by_cases h : 40 < n1 ∨ n2 < n1 ∨ n3 < n1
  · have g : ∀ {ao n c bs}, Seq W.heap.size W (.slice ao n c) bs → n ≤ maxLen := fun hs => by obtain ⟨_, _, hv, k1, k2, _⟩ := hs; cases hv; omega
    exact last_no W ao1 ao2 ao3 n1 n2 n3 c1 c2 c3 h (g h1) (g h2) (g h3)
  · exact last_yes W ao1 ao2 ao3 n1 n2 n3 c1 c2 c3 b1 b2 b3 h1 h2 h3 y1 y3 (by omega) (by omega) (by omega)

open Go.ChangeShapes Go.WideShapes Go.ChangeAt
set_option linter.unusedVariables false
set_option maxRecDepth 100000 in
theorem last_lifted (os : Os) (started : os.Started) (H : Type) (enc : TypeId × Value → H) :
    ReturnsInHanded {} Try.checked os 7 .any (Rows.diskLastSpec.pre6 enc Try.prog Try.f7 Rows.diskLastRow.domain false) (Rows.diskLastSpec.post enc Try.prog Try.f7 false true false false) := by
  refine returnsInHanded_of_change (C := Try.checked) ownKnob0 started (by kernel_rfl) Try.func7
    (ChangeSpec.witness6 (enc := enc) (C := Try.checked) false ⟨#[], #[.slice none 0 0, .slice none 0 0, .slice none 0 0], []⟩ 8 (by kernel_rfl) (by kernel_rfl) (by kernel_rfl) (by kernel_rfl)) ?_
  intro W base args ds gs before hval0 hW hcnd _
  have hval : ∀ (j : Nat) t v, Try.f7.params[j]? = some t → args[j]? = some v → Value.okWide Try.prog W .any base t v := hval0
  have hW' := hW
  obtain ⟨p, q, hA0, hV, rfl, hfz, hnd⟩ := hW
  have hA : DataW.TrodAll enc Try.prog W 0 (fun _ => true) true Try.f7.params.toList args.toList ds p := hA0
  rw [Try.params7] at hA hval
  obtain ⟨v0, vs0, d0, ds0, p0, q0, hargs, rfl, rfl, h0, r0⟩ := trodAll_cons hA
  obtain ⟨v1, vs1, d1, ds1, p1, q1, rfl, rfl, rfl, h1, r1⟩ := trodAll_cons r0
  obtain ⟨v2, vs2, d2, ds2, p2, q2, rfl, rfl, rfl, h2, r2⟩ := trodAll_cons r1
  obtain ⟨rfl, rfl, rfl⟩ := trodAll_nil r2
  obtain rfl : args = #[v0, v1, v2] := by cases args; simp_all
  obtain ⟨rfl, rfl⟩ := trodVars_none hV
  obtain ⟨a0, len0, cap0, rfl⟩ := okWide_slice Try.underlying22 (hval 0 22 v0 rfl rfl)
  have lt0 : ∀ x ∈ p0, x.block < W.heap.size := by obtain ⟨m, hm⟩ := h0; exact DataW.trod_lt m _ _ _ hm
  obtain ⟨z0, w0, y0⟩ := open_bytes h0
  obtain ⟨a1, len1, cap1, rfl⟩ := okWide_slice Try.underlying22 (hval 1 22 v1 rfl rfl)
  have lt1 : ∀ x ∈ p1, x.block < W.heap.size := by obtain ⟨m, hm⟩ := h1; exact DataW.trod_lt m _ _ _ hm
  obtain ⟨z1, w1, y1⟩ := open_bytes h1
  obtain ⟨a2, len2, cap2, rfl⟩ := okWide_slice Try.underlying22 (hval 2 22 v2 rfl rfl)
  have lt2 : ∀ x ∈ p2, x.block < W.heap.size := by obtain ⟨m, hm⟩ := h2; exact DataW.trod_lt m _ _ _ hm
  obtain ⟨z2, w2, y2⟩ := open_bytes h2
  clear hA0 hval0
  refine (last_any W a0 len0 cap0 z0 a1 len1 cap1 z1 a2 len2 cap2 z2 w0 y0 w1 y1 w2 y2).mono fun e W' ⟨he, bel⟩ => ?_
  subst he
  exact ⟨_, rfl, _, _, _, [], _, [], hW', trodAll_mk1 (shut_bool Try.underlying4 _), (trodAll_cons_mk (Below.trod laidOut0 (by kernel_rfl) (of_decide_eq_true (by kernel_rfl)) h0 bel lt0) (trodAll_cons_mk (Below.trod laidOut0 (by kernel_rfl) (of_decide_eq_true (by kernel_rfl)) h1 bel lt1) (trodAll_cons_mk (Below.trod laidOut0 (by kernel_rfl) (of_decide_eq_true (by kernel_rfl)) h2 bel lt2) trodAll_mk0))), rfl, bel.frame _, fun h => by cases h⟩

/-- DiskLast, for every input. -/
theorem diskLast_holds : Rows.DiskLastSaid :=
  OpenClaim.holds_of_wide 7 Try.f7 rfl rfl rfl rfl rfl rfl rfl ⟨rfl, rfl, rfl, rfl, rfl⟩ rfl rfl rfl rfl rfl (by kernel_rfl) Try.func7 (by kernel_rfl)
    (of_decide_eq_true (by kernel_rfl)) (by unfold Func.isWrapper; first | (rw [if_pos (by decide +kernel)]; kernel_rfl) | (rw [if_neg (by decide +kernel)]; exact ⟨rfl, rfl⟩))
    (fun os started H enc _ => last_lifted os started H enc)
#print axioms diskLast_holds

end Go.Proofs.Ytkcadiiahbkmcaa
