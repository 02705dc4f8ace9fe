/-
  'DiskSectors' returns true for every input: behind a crash each sector is one that was loose, or what was for good; what was synced is there whole where nothing loose stood over it. No condition. Own work.
-/
import Derived.Test.YtkcadiiahbkmcaaDskV
import Derived.ProofKit
import Derived.OpenShut
import Derived.ShutString
import Derived.ChangeOld
import Derived.Deep.QuietTactic
import Derived.BigQuiet
import Derived.Laws.BitsAllLaws
namespace Go.Proofs.Ytkcadiiahbkmcaa
open Go.RowKit

theorem own_blk {w : World} {base size n c q : Nat} {e : TypeId} {xs : List Value} (h : w.ownsRow base e size (.slice (some ⟨q, 0, none⟩) n c) n xs) : ∃ cur, w.heap[q]? = some (.cells cur e (0, 0)) ∧ cur.size = c * size ∧ base ≤ q := by
  rcases h.2 with ⟨h', _⟩ | ⟨g, cap, cur, h', hb, hg, _, _, hs, _⟩
  · simp at h'
  · simp only [Value.slice.injEq, Option.some.injEq, Addr.mk.injEq, and_true, true_and] at h'
    obtain ⟨rfl, rfl⟩ := h'
    exact ⟨cur, hg, hs, hb⟩
/-- The caller's own row of n bytes, at block q. -/
abbrev Mine (b : Nat) (w : World) (q n : Nat) (L : List Int) : Prop := w.ownsRow b 5 1 (.slice (some ⟨q, 0, none⟩) n n) n (L.map (Value.int .u8))
/-- A store into a row of the caller's own, that is smaller than a page. -/
theorem mine_store {B b d q n j : Nat} {W w : World} {M : SM} {L : List Int} {v : Int} (hd : DskAt B w d M) (ho : Mine b w q n L) (hn : n < M.size) (hb : W.heap.size ≤ b) (hW : Below W.heap.size W w) :
    DskAt B (w.setCell ⟨q, j, none⟩ (.int .u8 v)) d M ∧ Mine b (w.setCell ⟨q, j, none⟩ (.int .u8 v)) q n (L.set j v) ∧ Below W.heap.size W (w.setCell ⟨q, j, none⟩ (.int .u8 v)) := by
  obtain ⟨st1, st2⟩ := ho.stored j (.int .u8 v)
  obtain ⟨cur, hc, hs, hq⟩ := own_blk ho
  refine ⟨hd.small hc (by rw [hs]; omega) st2, ?_, gbelow (gnew (gof hW none) st2 (by omega))⟩
  unfold Mine; rw [List.map_set]; exact st1
theorem mine_cell {b q n j : Nat} {w : World} {L : List Int} (ho : Mine b w q n L) (hj : j < n) : w.cell? ⟨q, j, none⟩ = some (.int .u8 (L.getD j 0)) ∧ w.frozen? ⟨q, j, none⟩ = false := by
  have hl : L.length = n := by simpa using ho.1
  refine ⟨?_, ho.frozenAt j⟩
  rw [ho.cellAt j (by omega), List.getElem?_map, List.getElem?_eq_getElem (by omega)]
  simp [List.getD_eq_getElem?_getD, List.getElem?_eq_getElem (show j < L.length by omega)]

set_option maxRecDepth 100000 in
set_option maxHeartbeats 8000000 in
theorem sectors_yes (W : World) (ao1 ao2 ao3 : Option Addr) (n m n3 c1 c2 c3 : Nat) (f l ks : List Int) (h1 : Seq W.heap.size W (.slice ao1 n c1) f) (h2 : Seq W.heap.size W (.slice ao2 m c2) l) (h3 : Seq W.heap.size W (.slice ao3 n3 c3) ks)
    (y2 : Byt l) (y3 : Byt ks) (hn0 : 0 < n) (hn6 : n ≤ 6) (hm : m ≤ 20) :
    Calls Try.prog 5 #[.slice ao1 n c1, .slice ao2 m c2, .slice ao3 n3 c3] W fun r w' => r = .returned (.bool true) ∧ Below W.heap.size W w' := by
  have hnot : ∀ (x : Bool) (w : World), (Op.unary .not (.bool x)).run Try.prog w = .ok (.bool (!x)) w := fun _ _ => rfl
  have hmay : May ((640 : Nat) : Int) ((9 : Nat) : Int) := by decide
  have HL1 := Lib.hid (show n = f.length by obtain ⟨_, _, hv, _⟩ := h1; injection hv)
  have HL2 := Lib.hid (show m = l.length by obtain ⟨_, _, hv, _⟩ := h2; injection hv)
  have HL3 := Lib.hid (show n3 = ks.length by obtain ⟨_, _, hv, _⟩ := h3; injection hv)
  have hn3m : n3 ≤ 9223372036854775807 := by obtain ⟨_, _, hv, g1, g2, _⟩ := h3; cases hv; unfold maxLen at g2; omega
  have H1 := Lib.hid h1
  have H2 := Lib.hid h2
  have H3 := Lib.hid h3
  have Y2 := Lib.hid y2
  have Y3 := Lib.hid y3
  have e0 : ((n : Int) == 0) = false := by simpa using (by omega : ¬ (n : Int) = 0)
  have e1 : decide (6 < n) = false := by simp; omega
  have e1i : decide ((6 : Int) < (n : Int)) = false := by simp; omega
  have e2 : decide (20 < m) = false := by simp; omega
  have e2i : decide ((20 : Int) < (m : Int)) = false := by simp; omega
  obtain ⟨n5, hn5⟩ : ∃ x, x = 5 * n := ⟨_, rfl⟩
  have hn5i : (5 : Int) * (n : Int) = (n5 : Int) := by omega
  have hn530 : n5 ≤ 30 := by omega
  have HN5 := Lib.hid hn5
  have hmk := fun w => run_make_row' (P := Try.prog) 22 5 (.int .u8 0) 1 Try.underlying22 infoU8 rfl .i64 .i64 n5 (by omega) (by omega) w
  have HT0 := Lib.hid (fun o => sec0_st n o f)
  have HW0 := Lib.hid (fun o => sec0_wel n o hn6)
  clear h1 h2 h3 y2 y3 hn5
  go_enter Try.func5, Try.ntmps5
  go_wp2_with (first
    | (go_at_call 9; refine (awake3_any _).mono ?_; rintro e wA ⟨rfl, hA⟩; have HA := Lib.hid hA; clear hA)
    | (go_at_call 31; refine (new_good _ 640 9 hmay).mono ?_; rintro e w0 ⟨rfl, hw0⟩; have HD0 : Hid (DskAt wA.heap.size w0 wA.heap.size { size := 640, limit := 9, pg := [], loose := [], fails := false, ahead := 0, calls := 0, once := false }) := Lib.hid (by rw [← hw0]; exact newM (Nat.le_refl _)); have HG0 : Hid (Dfr wA.heap.size wA w0) := Lib.hid (by rw [← hw0]; exact dfr_new (World.grownBy_alloc _ _ _)); clear hw0)
    | (go_at_call 17; refine (HD0.out.grow (n := n) ⟨by decide, by decide, by decide⟩ (Nat.zero_le _) (show n ≤ 9 by omega) (by decide) (by decide) (by decide)).mono ?_; rintro e w1 ⟨o, rfl, hd, hf⟩; have HD1 : Hid (DskAt wA.heap.size w1 wA.heap.size (sec0 n o)) := Lib.hid hd; have HG1 := Lib.hid (HG0.out.trans hf); clear hd hf))
  have HOM : Hid (Mine w1.heap.size (w1.alloc (.cells (madeCells #[Value.int .u8 0] n5) 5)) w1.heap.size n5 (List.replicate (5 * n) 0)) := Lib.hid ⟨by rw [List.length_map, List.length_replicate, HN5.out, Nat.mul_one], .inr ⟨w1.heap.size, n5, _, rfl, Nat.le_refl _, heap_alloc_new _ _, Nat.le_refl _, by unfold maxLen; omega, by rw [size_madeCells, Nat.mul_one], by rw [toList_madeCells_one, Nat.mul_one, List.take_of_length_le (by simp), List.map_replicate, HN5.out]⟩⟩
  have HDM := Lib.hid (HD1.out.new (World.grownBy_alloc w1 (.cells (madeCells #[Value.int .u8 0] n5) 5) none))
  have HGM := Lib.hid (HG1.out.trans (dfr_new (World.grownBy_alloc w1 (.cells (madeCells #[Value.int .u8 0] n5) 5) none)))
  obtain ⟨q, hq⟩ : ∃ q, q = w1.heap.size := ⟨_, rfl⟩
  rw [← hq] at HOM ⊢
  have HWq := Lib.hid (show W.heap.size ≤ q by rw [hq]; exact Nat.le_trans HA.out.size HG1.out.size)
  have HSz := Lib.hid HA.out.size
  clear hq hmk hn5i
  go_loopg [12] n (fun g v wr => ∃ (i : Nat) (M : SM) (L : List Int), i + g = n ∧ v = .int .i64 (i : Int) ∧ DskAt wA.heap.size wr wA.heap.size M ∧ Wel M (1 + i) ∧ S1 M L f n i ∧ Mine W.heap.size wr q n5 L ∧ Below W.heap.size W wr)
  case atStart => exact ⟨0, sec0 n o, List.replicate (5 * n) 0, by omega, rfl, HDM.out, HW0.out o, HT0.out o, own_base HOM.out HWq.out, (gbelow HA.out).trans ((HGM.out.below (Nat.le_refl _)).mono HSz.out)⟩
  case round =>
    obtain ⟨i, M, L, hi, rfl, hd, hw, ht, ho, hb⟩ := hrel
    have HDi := Lib.hid hd
    have HWi := Lib.hid hw
    have HTi := Lib.hid ht
    have HOi := Lib.hid ho
    have HBi := Lib.hid hb
    clear hd hw ht ho hb HOM HDM HGM
    by_cases hlt : i < n
    · obtain ⟨g, rfl⟩ : ∃ g, gk = g + 1 := ⟨gk - 1, by omega⟩
      have hki : (i : Int) < (n : Int) := by omega
      obtain ⟨p1, o1, rfl, k1⟩ := (H1.out.below HBi.out.block).cellAt i (by have := HL1.out; omega)
      obtain ⟨v, hv⟩ : ∃ v, v = f.getD i 0 := ⟨_, rfl⟩
      have HV := Lib.hid hv
      rw [← hv] at k1
      clear hv
      go_wp2_with (first
        | (go_at_call 12; have hs1 : Own8 wr.heap.size (wr.alloc (.cells #[.int .u8 v] 5)) 1 (.slice (some ⟨wr.heap.size, 0, none⟩) 1 1) [v] := lit_own wr wr.heap.size (Nat.le_refl _) [v] (by simp [maxLen]); refine (full_any _ 640 _ 1 1 [v] false hs1.seq (by decide)).mono ?_; rintro e w2 ⟨gf, kf, rfl, hof, hgf⟩; obtain rfl := full_own hof; have hg2 := gtrans (World.grownBy_alloc wr (.cells #[.int .u8 v] 5) none) hgf; have HO2 : Hid (Own8 (wr.alloc (.cells #[.int .u8 v] 5)).heap.size w2 640 (.slice (some ⟨gf, 0, none⟩) 640 640) (fullB 640 [v] 640)) := Lib.hid hof; have HD2 := Lib.hid (HDi.out.new hg2); have HG2 := Lib.hid (dfr_new (B := wA.heap.size) hg2); clear hof hgf hs1 hg2)
        | (go_at_call 13; refine (HD2.out.writeN (i := i) HTi.out.sz (HWi.out.fine (by omega)) (by rw [HTi.out.pl]; exact hlt) (by decide) (cE_calm HTi.out.fs) HO2.out (by have := HWi.out.lo; omega)).mono ?_; rintro e w3 ⟨rfl, hd, hf⟩; have HD3 := Lib.hid hd; have hg3 := HG2.out.trans hf; have HB3 : Hid (Below W.heap.size W w3) := Lib.hid (HBi.out.trans ((hg3.below (Nat.le_of_lt HDi.out.lt)).mono HSz.out)); have HW3 := Lib.hid (HWi.out.wr (i := i) (bs := fullB 640 [v] 640) (by rw [HTi.out.pl]; exact hlt)); have HT3 := Lib.hid (HTi.out.step hlt); have HO3 : Hid (Mine W.heap.size w3 q n5 L) := Lib.hid (hg3.own HOi.out (by decide)); clear hd hf hg3 k1))
      rw [← HV.out] at HT3
      go_loopg [13] 5 (fun g2 t wr2 => ∃ (s : Nat), s + g2 = 5 ∧ t = .int .i64 (s : Int) ∧ DskAt wA.heap.size wr2 wA.heap.size (wrM M i (fullB 640 [v] 640)) ∧ Mine W.heap.size wr2 q n5 (up5 L i v s) ∧ Below W.heap.size W wr2)
      case atStart => exact ⟨0, by omega, rfl, HD3.out, HO3.out, HB3.out⟩
      case round =>
        obtain ⟨s, hs, rfl, hd, ho, hb⟩ := hrel
        have HDs := Lib.hid hd
        have HOs := Lib.hid ho
        have HBs := Lib.hid hb
        clear hd ho hb HD3 HO3 HB3
        by_cases hs5 : s < 5
        · obtain ⟨g2, rfl⟩ : ∃ g2, gk = g2 + 1 := ⟨gk - 1, by omega⟩
          have hsi : (s : Int) < 5 := by omega
          obtain ⟨ix, hix⟩ : ∃ ix : Nat, ix = 5 * i + s := ⟨_, rfl⟩
          have HIx := Lib.hid hix
          have hx1 : (5 : Int) * (i : Int) + (s : Int) = (ix : Int) := by omega
          have hxn : ix < n5 := by have := HN5.out; omega
          have hxi : (ix : Int) < (n5 : Int) := by omega
          obtain ⟨_, _, hz, k1⟩ := (H1.out.below HBs.out.block).cellAt i (by have := HL1.out; omega)
          cases hz
          rw [← HV.out] at k1
          have kq := (mine_cell HOs.out hxn).1
          have fq := (mine_cell HOs.out hxn).2
          have HST := Lib.hid (mine_store (j := ix) (v := v) HDs.out HOs.out (by show n5 < M.size; rw [HTi.out.sz]; omega) (Nat.le_refl _) HBs.out)
          clear hix
          generalize (up5 L i v s).getD ix 0 = old at kq
          go_wp2
          go_roundg g2
          case measure => omega
          case rel => exact ⟨s + 1, by omega, by go_num, HST.out.1, by rw [up5, ← HIx.out]; exact HST.out.2.1, HST.out.2.2⟩
        · obtain rfl : s = 5 := by omega
          go_wp2
          go_roundg g
          case measure => omega
          case rel => exact ⟨i + 1, _, _, by omega, by go_num, HDs.out, HW3.out.mono (by omega), HT3.out, HOs.out, HBs.out⟩
    · obtain rfl : i = n := by omega
      go_wp2_with (first
        | (go_at_call 19; refine (HDi.out.sync (HWi.out.fine (by omega)) (cE_calm HTi.out.fs) HWi.out.lin (by have := HWi.out.lo; omega) (by rw [HTi.out.pl]; omega)).mono ?_; rintro e w4 ⟨rfl, hd, hf⟩; have HD4 := Lib.hid hd; have HB4 : Hid (Below W.heap.size W w4) := Lib.hid (HBi.out.trans ((hf.below (Nat.le_of_lt HDi.out.lt)).mono HSz.out)); have HO4 : Hid (Mine W.heap.size w4 q n5 L) := Lib.hid (hf.own HOi.out (by decide)); have HW4 := Lib.hid HWi.out.sync; have HT4 := Lib.hid (HTi.out.sync (ks := ks) HWi.out.lin); clear hd hf))
      generalize syncM M = M0 at HD4 HW4 HT4
      clear HDi HWi HTi HOi HBi
      go_loopg [14] m (fun g v wr => ∃ (j : Nat) (M : SM) (L : List Int), j + g = m ∧ v = .int .i64 (j : Int) ∧ DskAt wA.heap.size wr wA.heap.size M ∧ Wel M (1 + i + 1 + j) ∧ S2 M L ks i j ∧ Mine W.heap.size wr q n5 L ∧ Below W.heap.size W wr)
      case atStart => exact ⟨0, M0, L, by omega, rfl, HD4.out, HW4.out, HT4.out, HO4.out, HB4.out⟩
      case round =>
        clear HW4 HT4 HO4 HB4 HD4
        obtain ⟨j, M, L, hj, rfl, hd, hw, ht, ho, hb⟩ := hrel
        have HDi := Lib.hid hd
        have HWi := Lib.hid hw
        have HTi := Lib.hid ht
        have HOi := Lib.hid ho
        have HBi := Lib.hid hb
        clear hd hw ht ho hb
        by_cases hlt : j < m
        · obtain ⟨g, rfl⟩ : ∃ g, gk = g + 1 := ⟨gk - 1, by omega⟩
          have hki : (j : Int) < (m : Int) := by omega
          obtain ⟨p2, o2, rfl, k2⟩ := (H2.out.below HBi.out.block).cellAt j (by have := HL2.out; omega)
          have hb2 := Byt.get Y2.out j
          obtain ⟨u, hu⟩ : ∃ u : Nat, l.getD j 0 = (u : Int) := ⟨(l.getD j 0).toNat, by omega⟩
          rw [hu] at k2 hb2
          clear hu
          obtain ⟨a, ha⟩ : ∃ a : Nat, (u : Int) % (i : Int) = (a : Int) := ⟨u % i, by simp⟩
          have hai : a < i := by have h : a = u % i := by have : ((u % i : Nat) : Int) = (a : Int) := by rw [← ha]; simp
                                                          omega
                                 rw [h]; exact Nat.mod_lt _ hn0
          have haii : (a : Int) < (i : Int) := by omega
          have hi0 : ¬ (i : Int) = 0 := by omega
          have hi0b : ((i : Int) == 0) = false := by simpa using hi0
          go_wp2_with (first
            | (go_at_call 12; have hs1 : Own8 wr.heap.size (wr.alloc (.cells #[.int .u8 (j : Int)] 5)) 1 (.slice (some ⟨wr.heap.size, 0, none⟩) 1 1) [(j : Int)] := lit_own wr wr.heap.size (Nat.le_refl _) [(j : Int)] (by simp [maxLen]); refine (full_any _ 640 _ 1 1 [(j : Int)] false hs1.seq (by decide)).mono ?_; rintro e w2 ⟨gf, kf, rfl, hof, hgf⟩; obtain rfl := full_own hof; have hg2 := gtrans (World.grownBy_alloc wr (.cells #[.int .u8 (j : Int)] 5) none) hgf; have HO2 : Hid (Own8 (wr.alloc (.cells #[.int .u8 (j : Int)] 5)).heap.size w2 640 (.slice (some ⟨gf, 0, none⟩) 640 640) (fullB 640 [(j : Int)] 640)) := Lib.hid hof; have HD2 := Lib.hid (HDi.out.new hg2); have HG2 := Lib.hid (dfr_new (B := wA.heap.size) hg2); clear hof hgf hs1 hg2)
            | (go_at_call 13; refine (HD2.out.writeN (i := a) HTi.out.sz (HWi.out.fine (by omega)) (by rw [HTi.out.pl]; exact hai) (by decide) (cE_calm HTi.out.fs) HO2.out (by have := HWi.out.lo; omega)).mono ?_; rintro e w3 ⟨rfl, hd, hf⟩; have HD3 := Lib.hid hd; have hg3 := HG2.out.trans hf; have HB3 : Hid (Below W.heap.size W w3) := Lib.hid (HBi.out.trans ((hg3.below (Nat.le_of_lt HDi.out.lt)).mono HSz.out)); have HW3 := Lib.hid (HWi.out.wr (i := a) (bs := fullB 640 [(j : Int)] 640) (by rw [HTi.out.pl]; exact hai)); have HT3 := Lib.hid (HTi.out.step (v := (j : Int)) hai); have HO3 : Hid (Mine W.heap.size w3 q n5 L) := Lib.hid (hg3.own HOi.out (by decide)); clear hd hf hg3 k2))
          by_cases hjk : j < n3
          · have hjki : (j : Int) < (n3 : Int) := by omega
            have hb3 := Byt.get Y3.out j
            obtain ⟨x, hx⟩ : ∃ x : Nat, ks.getD j 0 = (x : Int) := ⟨(ks.getD j 0).toNat, by omega⟩
            rw [hx] at hb3
            have hx256 : x < 256 := by omega
            rw [if_pos (by rw [← HL3.out]; exact hjk), hx, Int.toNat_natCast] at HT3
            have HX := Lib.hid hx
            clear hx
            go_loopg [16] 5 (fun g2 t wr2 => ∃ (s : Nat), s + g2 = 5 ∧ t = .int .i64 (s : Int) ∧ DskAt wA.heap.size wr2 wA.heap.size (wrM M a (fullB 640 [(j : Int)] 640)) ∧ Mine W.heap.size wr2 q n5 (upB L a (j : Int) x s) ∧ Below W.heap.size W wr2)
            case atStart => exact ⟨0, by omega, rfl, HD3.out, HO3.out, HB3.out⟩
            case round =>
              obtain ⟨s, hs, rfl, hd, ho, hb⟩ := hrel
              have HDs := Lib.hid hd
              have HOs := Lib.hid ho
              have HBs := Lib.hid hb
              clear hd ho hb HD3 HO3 HB3
              by_cases hs5 : s < 5
              · obtain ⟨g2, rfl⟩ : ∃ g2, gk = g2 + 1 := ⟨gk - 1, by omega⟩
                have hsi : (s : Int) < 5 := by omega
                obtain ⟨p3, o3, rfl, k3⟩ := (H3.out.below HBs.out.block).cellAt j (by have := HL3.out; omega)
                rw [HX.out] at k3
                obtain ⟨ix, hix⟩ : ∃ ix : Nat, ix = 5 * a + s := ⟨_, rfl⟩
                have HIx := Lib.hid hix
                have hx1 : (5 : Int) * (a : Int) + (s : Int) = (ix : Int) := by omega
                have hxn : ix < n5 := by have := HN5.out; omega
                have hxi : (ix : Int) < (n5 : Int) := by omega
                have kq := (mine_cell HOs.out hxn).1
                have fq := (mine_cell HOs.out hxn).2
                have HST := Lib.hid (mine_store (j := ix) (v := (j : Int)) HDs.out HOs.out (by show n5 < M.size; rw [HTi.out.sz]; omega) (Nat.le_refl _) HBs.out)
                clear hix
                generalize (upB L a (j : Int) x s).getD ix 0 = old at kq
                by_cases hbit : bitB x s = true
                · have hbb : (bits BinOp.and IntKind.u8 ((x : Int) / 2 ^ s) 1 == 1) = true := by rw [bitFact x s hx256]; exact hbit
                  have HU := Lib.hid (show upB L a (j : Int) x (s + 1) = (upB L a (j : Int) x s).set ix (j : Int) by rw [upB, if_pos hbit, HIx.out])
                  clear hbit
                  go_wp2
                  go_roundg g2
                  case measure => omega
                  case rel => exact ⟨s + 1, by omega, by go_num, HST.out.1, by rw [HU.out]; exact HST.out.2.1, HST.out.2.2⟩
                · have hb0 : bitB x s = false := by simpa using hbit
                  have hbb : (bits BinOp.and IntKind.u8 ((x : Int) / 2 ^ s) 1 == 1) = false := by rw [bitFact x s hx256]; exact hb0
                  have HU := Lib.hid (show upB L a (j : Int) x (s + 1) = upB L a (j : Int) x s by rw [upB, if_neg hbit])
                  clear hbit hb0
                  go_wp2
                  go_roundg g2
                  case measure => omega
                  case rel => exact ⟨s + 1, by omega, by go_num, HDs.out, by rw [HU.out]; exact HOs.out, HBs.out⟩
              · obtain rfl : s = 5 := by omega
                go_wp2
                go_roundg g
                case measure => omega
                case rel => exact ⟨j + 1, _, _, by omega, by go_num, HDs.out, HW3.out.mono (by omega), HT3.out, HOs.out, HBs.out⟩
          · have hjki : ¬ (j : Int) < (n3 : Int) := by omega
            have hjd : decide (j < n3) = false := by simp; omega
            have hjdi : decide ((j : Int) < (n3 : Int)) = false := by simp; omega
            rw [if_neg (by rw [← HL3.out]; exact hjk)] at HT3
            refine wp_loop_rounds 1 ?_; rw [rounds_succ]
            go_wp2
            go_roundg g
            case measure => omega
            case rel => exact ⟨j + 1, _, _, by omega, by go_num, HD3.out, HW3.out.mono (by omega), HT3.out, HO3.out, HB3.out⟩
        · obtain rfl : j = m := by omega
          have HSt : Hid (Stays wA.heap.size wr (.slice ao3 n3 c3) ks) := Lib.hid (stays_below (H3.out.below HBi.out.block) HSz.out HBi.out.size)
          go_wp2_with (first
            | (go_at_call 23; refine (HDi.out.crash HSt.out Y3.out (by rw [HTi.out.sz]; decide) (by rw [HTi.out.sz]) HWi.out.lin (by have := HWi.out.lo; omega) (by rw [HTi.out.pl]; omega)).mono ?_; rintro e w5 ⟨rfl, hd, hf⟩; have HD5 := Lib.hid hd; have HB5 : Hid (Below W.heap.size W w5) := Lib.hid (HBi.out.trans ((hf.below (Nat.le_of_lt HDi.out.lt)).mono HSz.out)); have HO5 : Hid (Mine W.heap.size w5 q n5 L) := Lib.hid (hf.own HOi.out (by decide)); have HW5 := Lib.hid (HWi.out.crash ks); have HT5 := Lib.hid (HTi.out.crash HWi.out.lin); clear hd hf))
          generalize crashM M ks = M5 at HD5 HW5 HT5
          clear HDi HWi HTi HOi HBi HSt
          have HLL := Lib.hid HT5.out.wl
          go_loopg [17] i (fun g v wr => ∃ (p : Nat) (M : SM), p + g = i ∧ v = .int .i64 (p : Int) ∧ DskAt wA.heap.size wr wA.heap.size M ∧ Wel M (1 + i + 1 + j + p) ∧ S3 M L i ∧ Mine W.heap.size wr q n5 L ∧ Below W.heap.size W wr)
          case atStart => exact ⟨0, M5, by omega, rfl, HD5.out, HW5.out, HT5.out, HO5.out, HB5.out⟩
          case round =>
            clear HW5 HT5 HO5 HB5 HD5
            obtain ⟨p, M, hp, rfl, hd, hw, ht, ho, hb⟩ := hrel
            have HDi := Lib.hid hd
            have HWi := Lib.hid hw
            have HTi := Lib.hid ht
            have HOi := Lib.hid ho
            have HBi := Lib.hid hb
            clear hd hw ht ho hb
            by_cases hlt : p < i
            · obtain ⟨g, rfl⟩ : ∃ g, gk = g + 1 := ⟨gk - 1, by omega⟩
              have hki : (p : Int) < (i : Int) := by omega
              go_wp2_with (first
                | (go_at_call 15; refine (HDi.out.readN (i := p) HTi.out.sz (HWi.out.fine (by omega)) (by rw [HTi.out.pl]; exact hlt) (by decide) (cE_calm HTi.out.fs)).mono ?_; rintro e w6 ⟨wc, ar, er, rfl, hd, hsz, hf, hg, hor⟩; have HD6 := Lib.hid (hd.new hg); have hf6 := hf.trans (dfr_new (B := wA.heap.size) hg); have HO6 : Hid (Mine W.heap.size w6 q n5 L) := Lib.hid (hf6.own HOi.out (by decide)); have HB6 : Hid (Below W.heap.size W w6) := Lib.hid (HBi.out.trans ((hf6.below (Nat.le_of_lt HDi.out.lt)).mono HSz.out)); obtain ⟨q6, rfl, -, -, k6⟩ := Own8.at hor (by decide); have HK6 := Lib.hid k6; have HW6 := Lib.hid HWi.out.cnt; have HT6 := Lib.hid HTi.out.cnt; clear hd hsz hf hg hor hf6 k6))
              go_loopg [20] 640 (fun g2 t wr2 => ∃ (k : Nat), k + g2 = 640 ∧ t = .int .i64 (k : Int) ∧ ∃ nd, wr2 = w6.drewN nd)
              case atStart => exact ⟨0, by omega, rfl, 0, rfl⟩
              case round =>
                obtain ⟨k, hk, rfl, nd, rfl⟩ := hrel
                by_cases hk6 : k < 640
                · obtain ⟨g2, rfl⟩ : ∃ g2, gk = g2 + 1 := ⟨gk - 1, by omega⟩
                  have hkki : (k : Int) < 640 := by omega
                  obtain ⟨tt, htt⟩ : ∃ tt : Nat, tt = k / 128 := ⟨_, rfl⟩
                  have htk : (k : Int) / 128 = (tt : Int) := by omega
                  obtain ⟨ix, hix⟩ : ∃ ix : Nat, ix = 5 * p + tt := ⟨_, rfl⟩
                  have hxn : ix < n5 := by have := HN5.out; omega
                  have hxi : (ix : Int) < (n5 : Int) := by omega
                  have kr := HK6.out k hk6
                  rw [HTi.out.ca p hlt k hk6, ← htt, ← hix] at kr
                  have kq := (mine_cell HO6.out hxn).1
                  have hp5 : (5 : Int) * (p : Int) = ((5 * p : Nat) : Int) := by omega
                  have hw5 : IntKind.i64.wrap ((5 : Int) * (p : Int)) = (5 : Int) * (p : Int) := IntWalk.i64_in _ (by omega)
                  have hx1 : (5 : Int) * (p : Int) + (tt : Int) = (ix : Int) := by omega
                  have hxw : IntKind.i64.wrap ((5 : Int) * (p : Int) + (tt : Int)) = (ix : Int) := (IntWalk.i64_in _ (by omega)).trans hx1
                  generalize L.getD ix 0 = z at kr kq
                  clear htt hix hp5
                  go_wp2
                  go_quiet (fail)
                  go_wp2
                  go_roundg g2
                  case measure => omega
                  case rel => exact ⟨k + 1, by omega, by go_num, _, rfl⟩
                · obtain rfl : k = 640 := by omega
                  go_wp2
                  go_roundg g
                  case measure => omega
                  case rel => exact ⟨p + 1, cntM M, by omega, by go_num, HD6.out.new (gdrewN _ _), HW6.out.mono (by omega), HT6.out, HO6.out, gbelow (gtrans (gof HB6.out none) (gdrewN _ _))⟩
            · obtain rfl : p = i := by omega
              obtain ⟨al, cl, hl⟩ := HDi.out.los
              rw [HTi.out.ll] at hl
              go_wp2_with (first
                | (go_at_call 27; refine (loose_any _ _ al 0 cl hl).mono ?_; rintro e w' ⟨rfl, rfl⟩))
              go_ret
              exact ⟨rfl, HBi.out⟩

set_option maxRecDepth 100000 in
set_option maxHeartbeats 4000000 in
theorem sectors_no (W : World) (ao1 ao2 ao3 : Option Addr) (n m n3 c1 c2 c3 : Nat) (h : n = 0 ∨ 6 < n ∨ 20 < m) (m1 : n ≤ maxLen) (m2 : m ≤ maxLen) :
    Calls Try.prog 5 #[.slice ao1 n c1, .slice ao2 m c2, .slice ao3 n3 c3] W fun r w' => r = .returned (.bool true) ∧ Below W.heap.size W w' := by
  have hnot : ∀ (x : Bool) (w : World), (Op.unary .not (.bool x)).run Try.prog w = .ok (.bool (!x)) w := fun _ _ => rfl
  unfold maxLen at m1 m2
  by_cases h0 : n = 0
  · subst h0
    clear h
    go_enter Try.func5, Try.ntmps5
    go_wp2_with (first
      | (go_at_call 9; refine (awake3_any _).mono ?_; rintro e wA ⟨rfl, hA⟩; have HA := Lib.hid (gbelow hA); clear hA))
    all_goals (go_ret; exact ⟨rfl, HA.out⟩)
  · have e0 : ((n : Int) == 0) = false := by simpa using (by omega : ¬ (n : Int) = 0)
    by_cases h1 : 6 < n
    · have h1i : (6 : Int) < (n : Int) := by omega
      clear h h0
      go_enter Try.func5, Try.ntmps5
      go_wp2_with (first
        | (go_at_call 9; refine (awake3_any _).mono ?_; rintro e wA ⟨rfl, hA⟩; have HA := Lib.hid (gbelow hA); clear hA))
      all_goals (go_ret; exact ⟨rfl, HA.out⟩)
    · have e1 : decide (6 < n) = false := by simp; omega
      have e1i : decide ((6 : Int) < (n : Int)) = false := by simp; omega
      have h2i : (20 : Int) < (m : Int) := by omega
      clear h h0 h1
      go_enter Try.func5, Try.ntmps5
      go_wp2_with (first
        | (go_at_call 9; refine (awake3_any _).mono ?_; rintro e wA ⟨rfl, hA⟩; have HA := Lib.hid (gbelow hA); clear hA))
      all_goals (go_ret; exact ⟨rfl, HA.out⟩)

theorem sectors_any (W : World) (ao1 : Option Addr) (n c1 : Nat) (f : List Int) (ao2 : Option Addr) (m c2 : Nat) (l : List Int) (ao3 : Option Addr) (n3 c3 : Nat) (ks : List Int)
    (h1 : Seq W.heap.size W (.slice ao1 n c1) f) (_ : Byt f) (h2 : Seq W.heap.size W (.slice ao2 m c2) l) (y2 : Byt l) (h3 : Seq W.heap.size W (.slice ao3 n3 c3) ks) (y3 : Byt ks) :
    Calls Try.prog 5 #[.slice ao1 n c1, .slice ao2 m c2, .slice ao3 n3 c3] W fun r w' => r = .returned (.bool true) ∧ Below W.heap.size W w' := by
  by_cases h : n = 0 ∨ 6 < n ∨ 20 < m
  · have g : ∀ {ao n c bs}, Seq W.heap.size W (.slice ao n c) bs → n ≤ maxLen := fun hs => by obtain ⟨_, _, hv, k1, k2, _⟩ := hs; cases hv; omega
    exact sectors_no W ao1 ao2 ao3 n m n3 c1 c2 c3 h (g h1) (g h2)
  · exact sectors_yes W ao1 ao2 ao3 n m n3 c1 c2 c3 f l ks h1 h2 h3 y2 y3 (by omega) (by omega) (by omega)

open Go.ChangeShapes Go.WideShapes Go.ChangeAt
set_option linter.unusedVariables false
set_option maxRecDepth 100000 in
theorem sectors_lifted (os : Os) (started : os.Started) (H : Type) (enc : TypeId × Value → H) :
    ReturnsInHanded {} Try.checked os 5 .any (Rows.diskSectorsSpec.pre6 enc Try.prog Try.f5 Rows.diskSectorsRow.domain false) (Rows.diskSectorsSpec.post enc Try.prog Try.f5 false true false false) := by
  refine returnsInHanded_of_change (C := Try.checked) ownKnob0 started (by kernel_rfl) Try.func5
    (ChangeSpec.witness6 (enc := enc) (C := Try.checked) false ⟨#[], #[.slice none 0 0, .slice none 0 0, .slice none 0 0], []⟩ 8 (by kernel_rfl) (by kernel_rfl) (by kernel_rfl) (by kernel_rfl)) ?_
  intro W base args ds gs before hval0 hW hcnd _
  have hval : ∀ (j : Nat) t v, Try.f5.params[j]? = some t → args[j]? = some v → Value.okWide Try.prog W .any base t v := hval0
  have hW' := hW
  obtain ⟨p, q, hA0, hV, rfl, hfz, hnd⟩ := hW
  have hA : DataW.TrodAll enc Try.prog W 0 (fun _ => true) true Try.f5.params.toList args.toList ds p := hA0
  rw [Try.params5] at hA hval
  obtain ⟨v0, vs0, d0, ds0, p0, q0, hargs, rfl, rfl, h0, r0⟩ := trodAll_cons hA
  obtain ⟨v1, vs1, d1, ds1, p1, q1, rfl, rfl, rfl, h1, r1⟩ := trodAll_cons r0
  obtain ⟨v2, vs2, d2, ds2, p2, q2, rfl, rfl, rfl, h2, r2⟩ := trodAll_cons r1
  obtain ⟨rfl, rfl, rfl⟩ := trodAll_nil r2
  obtain rfl : args = #[v0, v1, v2] := by cases args; simp_all
  obtain ⟨rfl, rfl⟩ := trodVars_none hV
  obtain ⟨a0, len0, cap0, rfl⟩ := okWide_slice Try.underlying22 (hval 0 22 v0 rfl rfl)
  have lt0 : ∀ x ∈ p0, x.block < W.heap.size := by obtain ⟨m, hm⟩ := h0; exact DataW.trod_lt m _ _ _ hm
  obtain ⟨z0, w0, y0⟩ := open_bytes h0
  obtain ⟨a1, len1, cap1, rfl⟩ := okWide_slice Try.underlying22 (hval 1 22 v1 rfl rfl)
  have lt1 : ∀ x ∈ p1, x.block < W.heap.size := by obtain ⟨m, hm⟩ := h1; exact DataW.trod_lt m _ _ _ hm
  obtain ⟨z1, w1, y1⟩ := open_bytes h1
  obtain ⟨a2, len2, cap2, rfl⟩ := okWide_slice Try.underlying22 (hval 2 22 v2 rfl rfl)
  have lt2 : ∀ x ∈ p2, x.block < W.heap.size := by obtain ⟨m, hm⟩ := h2; exact DataW.trod_lt m _ _ _ hm
  obtain ⟨z2, w2, y2⟩ := open_bytes h2
  clear hA0 hval0
  refine (sectors_any W a0 len0 cap0 z0 a1 len1 cap1 z1 a2 len2 cap2 z2 w0 y0 w1 y1 w2 y2).mono fun e W' ⟨he, bel⟩ => ?_
  subst he
  exact ⟨_, rfl, _, _, _, [], _, [], hW', trodAll_mk1 (shut_bool Try.underlying4 _), (trodAll_cons_mk (Below.trod laidOut0 (by kernel_rfl) (of_decide_eq_true (by kernel_rfl)) h0 bel lt0) (trodAll_cons_mk (Below.trod laidOut0 (by kernel_rfl) (of_decide_eq_true (by kernel_rfl)) h1 bel lt1) (trodAll_cons_mk (Below.trod laidOut0 (by kernel_rfl) (of_decide_eq_true (by kernel_rfl)) h2 bel lt2) trodAll_mk0))), rfl, bel.frame _, fun h => by cases h⟩

/-- DiskSectors, for every input. -/
theorem diskSectors_holds : Rows.DiskSectorsSaid :=
  OpenClaim.holds_of_wide 5 Try.f5 rfl rfl rfl rfl rfl rfl rfl ⟨rfl, rfl, rfl, rfl, rfl⟩ rfl rfl rfl rfl rfl (by kernel_rfl) Try.func5 (by kernel_rfl)
    (of_decide_eq_true (by kernel_rfl)) (by unfold Func.isWrapper; first | (rw [if_pos (by decide +kernel)]; kernel_rfl) | (rw [if_neg (by decide +kernel)]; exact ⟨rfl, rfl⟩))
    (fun os started H enc _ => sectors_lifted os started H enc)
#print axioms diskSectors_holds

end Go.Proofs.Ytkcadiiahbkmcaa
