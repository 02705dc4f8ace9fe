/-
  Layer 11: PagerOpens' walk. Own work.
-/
import Derived.Test.YtnnmpaenainogaaGreatPagerOpensAC
import Derived.Deep.LoopGhost
import Derived.Deep.CutBlock
import Derived.StillTailTactics
import Derived.ProofKit
import Derived.OpenShut
import Derived.ShutString
import Derived.ChangeOld

namespace Go.Proofs.YtnnmpaenainogaaGreat
open Go.RowKit Go.Maps

theorem Kfr.buf {B : Nat} {w w' w'' : World} (h : Kfr KT B w w') (g : w'.grownBy w'' none) : Kfr KT B w w'' := h.trans (kt_new g)
/-- What stands between the loops: bytes of the call's own. -/
def PoI (W0 : World) (g L : Nat) (w : World) : Prop := ∃ bs, Buf w g L L bs ∧ Kfr KT W0.heap.size W0 w

theorem PoI.set {W0 w : World} {g L : Nat} (h : PoI W0 g L w) (hg : W0.heap.size ≤ g) (j : Nat) (hj : j < L) (t : Int) (h0 : 0 ≤ t) (h1 : t ≤ 255) : PoI W0 g L (w.setCell ⟨g, j, none⟩ (.int .u8 t)) := by
  obtain ⟨bs, hb, hk⟩ := h
  exact ⟨_, hb.set j hj t h0 h1, hk.trans (Kfr.row (gset w ⟨g, j, none⟩ (.int .u8 t)) hg trivial)⟩
theorem PoI.new {W0 w w' : World} {g L : Nat} (h : PoI W0 g L w) (k : w.grownBy w' none) : PoI W0 g L w' := by
  obtain ⟨bs, hb, hk⟩ := h
  exact ⟨_, hb.grown k, hk.buf k⟩
theorem PoI.at {W0 w : World} {g L : Nat} (h : PoI W0 g L w) (j : Nat) (hj : j < L) : ∃ y, w.cell? ⟨g, j, none⟩ = some (.int .u8 y) ∧ w.frozen? ⟨g, j, none⟩ = false ∧ 0 ≤ y ∧ y ≤ 255 := by
  obtain ⟨bs, hb, hk⟩ := h
  have := hb.at j hj
  have y := hb.byt.get j
  exact ⟨_, this.1, this.2, y.1, y.2⟩
theorem cell_set {w : World} {q g i j : Nat} {u v : Value} (h : w.cell? ⟨q, i, none⟩ = some v) (hq : q ≠ g) (hl : q < w.heap.size) : (w.setCell ⟨g, j, none⟩ u).drew.cell? ⟨q, i, none⟩ = some v := by
  have k := (gset w ⟨g, j, none⟩ u).block q hl (fun e => hq (by injection e))
  rw [← h]
  show (w.setCell ⟨g, j, none⟩ u).cell? ⟨q, i, none⟩ = _
  simp only [World.cell?, k]
theorem PoI.glt {W0 w : World} {g L : Nat} (h : PoI W0 g L w) : g < w.heap.size := by
  obtain ⟨bs, hb, hk⟩ := h
  obtain ⟨cs, f, hq, _⟩ := hb.row
  exact lt_of_block hq
theorem own8_same {w w' : World} {base n : Nat} {ao : Option Addr} {c : Nat} {bs : List Int} (h : Own8 base w n (.slice ao n c) bs) (hb : ∀ b, ao = some ⟨b, 0, none⟩ → w'.heap[b]? = w.heap[b]?) (hs : w.heap.size ≤ w'.heap.size) : Own8 base w' n (.slice ao n c) bs := by
  refine ⟨h.1, ?_⟩
  rcases h.2 with ⟨hv, h2⟩ | ⟨g, cap, cur, hv, hbg, hg, hr⟩
  · exact .inl ⟨hv, h2⟩
  · cases hv
    exact .inr ⟨g, _, cur, rfl, hbg, (hb g rfl).trans hg, hr⟩
theorem lch_len {M : SM} {E : Nat} (hM : ∀ q, (lastM M q).length ≤ 4096) : ∀ {ls : List Nat} {p : Nat} {ps : List Pr}, LCh M E p ls ps → ps.length ≤ 341 * ls.length
  | [], _, _, h => by obtain ⟨_, rfl⟩ := h; simp
  | q :: ls, p, ps, h => by
    obtain ⟨rfl, _, _, l, x, rest, h1, rfl, h2⟩ := h
    have ih := lch_len hM h2
    have := (flaid_few h1).2
    have := hM p
    simp only [List.length_append, List.length_cons]
    omega

set_option maxRecDepth 1000000 in
set_option maxHeartbeats 16000000 in
theorem popens_walk (W : World) (a0 : Option Addr) (n0 c0 : Nat) (bs : List Int) (x : Int) (X : Mt) (a3 : Option Addr) (n3 c3 : Nat) (zs : List Int) (a4 : Option Addr) (n4 c4 : Nat) (ys : List Int)
    (h0 : Seq W.heap.size W (.slice a0 n0 c0) bs) (b0 : Byt bs) (x0 : 0 ≤ x) (x1 : x ≤ 255) (hX : MtOk X) (h3 : Seq16 W (.slice a3 n3 c3) zs) (h4 : Seq W.heap.size W (.slice a4 n4 c4) ys) (b4 : Byt ys) (g0 : n0 ≤ 3000) (g3 : n3 ≤ 20) (g4 : n3 ≤ n4) :
    Calls Tryz.prog 5 #[.slice a0 n0 c0, .int .u8 x, .agg (mtC X), .slice a3 n3 c3, .slice a4 n4 c4] W fun r w' => r = .returned (.bool true) ∧ Below W.heap.size W w' := by
  obtain ⟨i0, hi, hz0, hz1, hz2⟩ := info_parts infoU8
  have e0 : n0 = bs.length := by obtain ⟨_, _, hv, _⟩ := h0; injection hv
  have e3 : n3 = zs.length := by obtain ⟨_, _, hv, _⟩ := h3; injection hv
  have e4 : n4 = ys.length := by obtain ⟨_, _, hv, _⟩ := h4; injection hv
  have H0 := Lib.hid h0
  have B0 := Lib.hid b0
  have H3 := Lib.hid h3
  have H4 := Lib.hid h4
  have B4 := Lib.hid b4
  have E0 := Lib.hid e0
  have E4 := Lib.hid e4
  have HX := Lib.hid hX
  have d0 : decide ((3000 : Int) < (n0 : Int)) = false := by simp; omega
  have d0' : decide (3000 < n0) = false := by simp; omega
  have d1 : decide ((20 : Int) < (n3 : Int)) = false := by simp; omega
  have d1' : decide (20 < n3) = false := by simp; omega
  have d2 : decide ((n4 : Int) < (n3 : Int)) = false := by simp; omega
  have d2' : decide (n4 < n3) = false := by simp; omega
  obtain ⟨Y, rfl⟩ : ∃ Y : Nat, x = (Y : Int) := ⟨x.toNat, by omega⟩
  obtain ⟨m, hm⟩ : ∃ m : Nat, m = Y % 6 := ⟨_, rfl⟩
  have hm6 : m < 6 := by omega
  have hYm : (Y : Int).tmod 6 = (m : Int) := by rw [hm]; rfl
  have hwm : IntKind.u8.wrap (m : Int) = (m : Int) := by rw [show IntKind.u8.wrap (m : Int) = (m : Int) % 256 from rfl]; omega
  have hwm2 : IntKind.i64.wrap (m : Int) = (m : Int) := IntWalk.i64_in _ (by omega)
  obtain ⟨L, hL⟩ : ∃ L : Nat, L = 512 * m := ⟨_, rfl⟩
  have hLm : (512 : Int) * (m : Int) = (L : Int) := by omega
  have hwL : IntKind.i64.wrap (L : Int) = (L : Int) := IntWalk.i64_in _ (by omega)
  have HL := Lib.hid hL
  have hLL : L ≤ 2560 := by omega
  have HW0 := Lib.hid (World.grownBy_alloc W (.cells (mtC X) 44) none)
  have HQ := Lib.hid (heap_alloc_new W (.cells (mtC X) 44))
  clear h0 b0 h3 h4 b4 e0 e3 e4 hm hL hX
  go_enter Tryz.func5, Tryz.ntmps5
  go_upto_block 0 with (first
    | (go_at_call 14; ((with_reducible refine (awake11_any _).mono ?_); rintro r w1 ⟨rfl, hg⟩; have HG1 := Lib.hid hg; clear hg))
    | (at_make; refine wpList_make_full _ rfl _ _ 32 rfl w1.heap.size 5 i0 (.int .u8 0) 1 Tryz.underlying32 hi hz0 hz1 .i64 .i64 _ _ L rfl rfl ?c1 ?c2 ?c3 ?c4 (Nat.le_refl _) ?_; (case c1 => rfl); (case c2 => rfl); (case c3 => rw [hz2]; omega); (case c4 => unfold maxLen; omega); intro wM hown hgM; have HO := Lib.hid hown; have HgM := Lib.hid hgM; clear hown hgM))
  have HG2 := Lib.hid ((Kfr.of (P := KT) (B := (W.alloc (.cells (mtC X) 44)).heap.size) HG1.out).trans (kt_new HgM.out))
  have HS : Hid (PoI (W.alloc (.cells (mtC X) 44)) w1.heap.size L wM) := Lib.hid ⟨List.replicate L 0, (buf_make (by
    have h := HO.out
    rw [Nat.mul_one, show (Value.int .u8 0).cells = #[Value.int .u8 0] from rfl, toList_madeCells_one] at h
    rw [List.map_replicate]; exact h) (byt_zero L)).2, HG2.out⟩
  clear HO HgM HG2
  have HIN := Lib.hid (show ∀ w, PoI (W.alloc (.cells (mtC X) 44)) w1.heap.size L w → ∀ i, i < W.heap.size → w.heap[i]? = W.heap[i]? from fun w h i hi => by
    obtain ⟨_, _, hk⟩ := h
    have hlt : i < (W.alloc (.cells (mtC X) 44)).heap.size := Nat.lt_of_lt_of_le hi HW0.out.size
    exact (hk.block i hlt (.inl hlt)).trans (HW0.out.block i hi (by simp)))
  have HBX := Lib.hid (show ∀ w, PoI (W.alloc (.cells (mtC X) 44)) w1.heap.size L w → w.heap[W.heap.size]? = some (.cells (mtC X) 44 (0, 0)) from fun w h => by
    obtain ⟨_, _, hk⟩ := h
    have hlt : W.heap.size < (W.alloc (.cells (mtC X) 44)).heap.size := lt_of_block HQ.out
    exact (hk.block _ hlt (.inl hlt)).trans HQ.out)
  have HGL := Lib.hid HG1.out.size
  have HWL := Lib.hid (lt_of_block HQ.out)
  have HBE := Lib.hid (show ∀ w, PoI (W.alloc (.cells (mtC X) 44)) w1.heap.size L w → Below W.heap.size W w from fun w h => by
    obtain ⟨_, _, hk⟩ := h
    exact (gbelow HW0.out).trans ((hk.below (Nat.le_refl _)).mono HW0.out.size))
  generalize (W.alloc (.cells (mtC X) 44)) = W0 at HS HIN HBX HGL HBE HWL
  clear HG1 HQ HW0
  obtain ⟨g, hg⟩ : ∃ g, g = w1.heap.size := ⟨_, rfl⟩
  rw [← hg] at HS HIN HBX HGL HBE ⊢
  clear hg
  go_cut [13] from 24 (fun i wx => PoI W0 g L wx)
  case first =>
    go_wp2_with fail
    go_loopg [13] L (fun gk i wr => ∃ k : Nat, k + gk = L ∧ i = .int .i64 k ∧ Hid (PoI W0 g L wr))
    case atStart => exact ⟨0, by omega, rfl, HS⟩
    case round =>
      obtain ⟨k, hk, rfl, hp⟩ := hrel
      rcases (show (k < L ∧ 0 < n0) ∨ (k < L ∧ n0 = 0) ∨ k = L by omega) with hc | hc | hc
      · obtain ⟨f, rfl⟩ : ∃ f, gk = f + 1 := ⟨gk - 1, by omega⟩
        have hki : (k : Int) < (L : Int) := by omega
        have hni : (0 : Int) < (n0 : Int) := by omega
        obtain ⟨p, hp'⟩ : ∃ p : Nat, p = k % n0 := ⟨_, rfl⟩
        have hpi : (k : Int) % (n0 : Int) = (p : Int) := by rw [hp']; simp
        have hpt : (k : Int).tmod (n0 : Int) = (p : Int) := by rw [hp']; rfl
        have hpm : p < n0 := by rw [hp']; exact Nat.mod_lt _ hc.2
        have hpmi : (p : Int) < (n0 : Int) := by omega
        obtain ⟨b, o, y, rfl, hcell, hy0, hy1⟩ := seq_byte H0.out B0.out (fun i hi => HIN.out wr hp.out i hi) p hpm
        obtain ⟨y0, hcellg, hfrz, _, _⟩ := hp.out.at k hc.1
        have HSt := Lib.hid (hp.out.set HGL.out k hc.1 y hy0 hy1)
        clear hp'
        go_wp2
        go_roundg f
        case measure => omega
        case rel => exact ⟨k + 1, by omega, by go_num, HSt⟩
      · obtain rfl : n0 = 0 := hc.2
        have hki : (k : Int) < (L : Int) := by omega
        go_wp2
        go_meet
        case rel => exact hp.out
      · subst hc
        go_wp2
        go_meet
        case rel => exact hp.out
  case rest =>
    have HC := Lib.hid hcut
    clear hcut HS
    have hmc : mtC X = #[.int .u64 (X.t : Int), .int .u32 (X.e : Int), .int .u32 (X.m : Int), .int .u32 (X.f : Int)] := rfl
    obtain ⟨z0, z1, z2, z3⟩ := mt_cells (HBX.out wc HC.out)
    have HPM := Lib.hid (mput_or wc X HX.out)
    rw [hmc] at HPM
    go_upto_block 2 with (first
      | (go_at_call 31; ((with_reducible refine HPM.out.mono ?_); rintro r w3 ⟨hg3, hx⟩; have hx' : ∃ (ma : Option Addr) (mn mc : Nat) (e : Int), r = .returned (.tuple #[.slice ma mn mc, .int .i64 e]) ∧ (e = 0 → mn = 512 ∧ Own8 wc.heap.size w3 512 (.slice ma 512 mc) (mpage X 512)) := (by
          rcases hx with hx | ⟨ao, c, hx, ho⟩
          · exact ⟨none, 0, 0, 1, hx, fun k => absurd k (by decide)⟩
          · exact ⟨ao, 512, c, 0, hx, fun _ => ⟨rfl, ho⟩⟩); obtain ⟨ma, mn, mc, e, rfl, hme⟩ := hx'; have HME := Lib.hid hme; have HC3 := Lib.hid (HC.out.new hg3); have HS3 := Lib.hid hg3.size; clear hx hme hg3)))
    clear z0 z1 z2 z3 HPM
    go_cut [16] from 24 (fun i wx => PoI W0 g L wx)
    case first =>
      go_wp2_with fail
      go_loopg [16] 512 (fun gk i wr => ∃ k : Nat, k + gk = 512 ∧ i = .int .i64 k ∧ Hid (PoI W0 g L wr ∧ (e = 0 → Own8 wc.heap.size wr 512 (.slice ma 512 mc) (mpage X 512))))
      case atStart => exact ⟨0, by omega, rfl, Lib.hid ⟨HC3.out, fun h => (HME.out h).2⟩⟩
      case round =>
        obtain ⟨k, hk, rfl, hp⟩ := hrel
        rcases (show (k < 512 ∧ e = 0 ∧ 1024 ≤ L) ∨ (k < 512 ∧ e = 0 ∧ L < 1024) ∨ (k < 512 ∧ e ≠ 0) ∨ k = 512 by omega) with hc | hc | hc | hc
        · obtain ⟨f, rfl⟩ : ∃ f, gk = f + 1 := ⟨gk - 1, by omega⟩
          obtain rfl : e = 0 := hc.2.1
          obtain rfl : mn = 512 := (HME.out rfl).1
          have hki : (k : Int) < 512 := by omega
          have hLi : (1024 : Int) ≤ (L : Int) := by omega
          obtain ⟨z0, z1, z2, z3⟩ := mt_cells (HBX.out wr hp.out.1)
          have hom := hp.out.2 rfl
          obtain ⟨b, rfl, hb1, hb2, kb⟩ := hom.at (by decide)
          have HOM := Lib.hid hom
          clear hom
          have hbg : b ≠ g := by have := HC.out.glt; omega
          have hqg : W.heap.size ≠ g := by have := HWL.out; have := HGL.out; omega
          have hql : W.heap.size < wr.heap.size := lt_of_block (HBX.out wr hp.out.1)
          have hcell := kb k hc.1
          obtain ⟨y, hy⟩ : ∃ y, y = (mpage X 512).getD k 0 := ⟨_, rfl⟩
          have hyb := (mpage_byt X 512).get k
          rw [← hy] at hcell hyb
          obtain ⟨s, hs⟩ : ∃ s : Nat, s = X.t % 2 := ⟨_, rfl⟩
          have hs2 : s < 2 := by omega
          have HSL := Lib.hid (fun w => mslot_any X.t HX.out.t w)
          rw [← hs] at HSL
          obtain ⟨j, hj⟩ : ∃ j : Nat, j = 512 * s + k := ⟨_, rfl⟩
          have hjL : j < L := by omega
          have hjm : (512 : Int) * (s : Int) + (k : Int) = (j : Int) := by omega
          have hwj : IntKind.i64.wrap (j : Int) = (j : Int) := IntWalk.i64_in _ (by omega)
          obtain ⟨S5, hS5⟩ : ∃ S5 : Nat, S5 = 512 * s := ⟨_, rfl⟩
          have hS5m : (512 : Int) * (s : Int) = (S5 : Int) := by omega
          have hwS5 : IntKind.i64.wrap (S5 : Int) = (S5 : Int) := IntWalk.i64_in _ (by omega)
          have hjm2 : (S5 : Int) + (k : Int) = (j : Int) := by omega
          have hjLi : (j : Int) < (L : Int) := by omega
          obtain ⟨y0, hcellg, hfrz, _, _⟩ := hp.out.1.at j hjL
          have HSt := Lib.hid (hp.out.1.set HGL.out j hjL y hyb.1 hyb.2)
          clear hy hs hj hS5
          have z0d : wr.drew.cell? ⟨W.heap.size, 0, none⟩ = some (.int .u64 (X.t : Int)) := z0
          have hcd : wr.drew.cell? ⟨b, k, none⟩ = some (.int .u8 y) := hcell
          have hgd : wr.drew.cell? ⟨g, j, none⟩ = some (.int .u8 y0) := hcellg
          have hfd : wr.drew.frozen? ⟨g, j, none⟩ = false := hfrz
          have z0e := cell_set (g := g) (j := j) (u := .int .u8 y) z0 hqg hql
          have hce := cell_set (g := g) (j := j) (u := .int .u8 y) hcell hbg hb1
          go_wp2
          go_region_held3 (fun v => v.cell? ⟨W.heap.size, 0, none⟩ = some (.int .u64 (X.t : Int)) ∧ v.cell? ⟨b, k, none⟩ = some (.int .u8 y))
            (first | exact ⟨z0d, hcd⟩ | exact ⟨z0e, hce⟩)
            (first | (go_at_call 32; ((with_reducible refine (HSL.out _).mono ?_); rintro r w' ⟨rfl, rfl⟩)))
          clear z0e hce z0d hcd hgd hfd
          have HOE := Lib.hid (own8_same (w' := (wr.setCell ⟨g, j, none⟩ (.int .u8 y)).drew) HOM.out (fun q hq => (by
            have hqb : q = b := by injection hq with hq; injection hq with hq; exact hq.symm
            subst hqb
            exact (gset wr ⟨g, j, none⟩ (.int .u8 y)).block q hb1 (fun e => hbg (by injection e)))) (gset wr ⟨g, j, none⟩ (.int .u8 y)).size)
          have HSN := Lib.hid (HSt.out.new (gdrew _))
          try change K' .normal _ _
          go_wp2
          go_roundg f
          case measure => omega
          case rel => exact ⟨k + 1, by omega, by go_num, Lib.hid ⟨HSN.out, fun _ => HOE.out⟩⟩
        · have hLi : ¬ (1024 : Int) ≤ (L : Int) := by omega
          have hki : (k : Int) < 512 := by omega
          obtain rfl : e = 0 := hc.2.1
          go_wp2
          go_meet
          case rel => exact hp.out.1
        · have he0 : ¬ e = 0 := hc.2
          have hed : (e == 0) = false := by simpa using he0
          have hki : (k : Int) < 512 := by omega
          go_wp2
          go_meet
          case rel => exact hp.out.1
        · subst hc
          go_wp2
          go_meet
          case rel => exact hp.out.1
    case rest =>
      have HC4 := Lib.hid hcut
      clear hcut HC3 HME HS3 HC
      rename_i wc
      go_upto_block 4 with fail
      go_cut [17] from 24 (fun i wx => PoI W0 g L wx)
      case first =>
        go_wp2_with fail
        go_loopg [17] n3 (fun gk i wr => ∃ k : Nat, k + gk = n3 ∧ i = .int .i64 k ∧ Hid (PoI W0 g L wr))
        case atStart => exact ⟨0, by omega, rfl, HC4⟩
        case round =>
          obtain ⟨k, hk, rfl, hp⟩ := hrel
          rcases (show (k < n3 ∧ 0 < L) ∨ (k < n3 ∧ L = 0) ∨ k = n3 by omega) with hc | hc | hc
          · obtain ⟨q, rfl⟩ : ∃ q, gk = q + 1 := ⟨gk - 1, by omega⟩
            have hki : (k : Int) < (n3 : Int) := by omega
            have hk4 : (k : Int) < (n4 : Int) := by omega
            have hMi : (0 : Int) < (L : Int) := by omega
            have hM0 : ((L : Int) == 0) = false := by simp; omega
            have hM1 : ¬ (L : Int) = 0 := by omega
            have hMn : ¬ L = 0 := by omega
            obtain ⟨ba, oa, rfl, hba, A, hA, hA2⟩ := H3.out.at k hc.1
            obtain ⟨bx, ox, X1, rfl, hcx, hx0, hx1⟩ := seq_byte H4.out B4.out (fun i hi => HIN.out wr hp.out i hi) k (by omega)
            have hwA : IntKind.i64.wrap (A : Int) = (A : Int) := IntWalk.i64_in _ (by omega)
            obtain ⟨idx, hidx⟩ : ∃ i : Nat, i = A % L := ⟨_, rfl⟩
            have hil : idx < L := by rw [hidx]; exact Nat.mod_lt _ (by omega)
            have hrem : (A : Int) % (L : Int) = (idx : Int) := by rw [hidx]; rfl
            have htm : (A : Int).tmod (L : Int) = (idx : Int) := by rw [hidx]; rfl
            have hii : (idx : Int) < (L : Int) := by omega
            obtain ⟨X2, q1, f1, yb0, yb1⟩ := hp.out.at idx hil
            have z1 : wr.cell? ⟨ba, oa + k, none⟩ = some (.int .u16 (A : Int)) := by
              have := HIN.out wr hp.out ba hba
              rw [← hA]
              simp only [World.cell?, this]
            have hx := xor_byte yb0 yb1 hx0 hx1
            have HBS := Lib.hid (hp.out.set HGL.out idx hil _ hx.1 hx.2)
            have z1d : wr.drew.cell? ⟨ba, oa + k, none⟩ = some (.int .u16 (A : Int)) := z1
            have z2d : wr.drew.cell? ⟨bx, ox + k, none⟩ = some (.int .u8 X1) := hcx
            have q1d : wr.drew.cell? ⟨g, idx, none⟩ = some (.int .u8 X2) := q1
            have f1d : wr.drew.frozen? ⟨g, idx, none⟩ = false := f1
            have HEQ := Lib.hid (show wr.drew.setCell ⟨g, idx, none⟩ (.int .u8 (bits .xor .u8 X2 X1)) = (wr.setCell ⟨g, idx, none⟩ (.int .u8 (bits .xor .u8 X2 X1))).drew from rfl)
            clear hA hcx hidx z1 q1 f1 hx hba
            go_wp2
            go_still_tail 17, (by kernel_rfl)
            change wpList _ _ _ _ _ wr.drew
            generalize hw2 : wr.drew = w2 at *
            have HW2 := Lib.hid hw2
            clear hw2
            go_wp2
            go_roundg q
            case measure => omega
            case rel => exact ⟨k + 1, by omega, by go_num, by rw [HEQ.out]; exact Lib.hid (HBS.out.new (gdrew _))⟩
          · have hki : (k : Int) < (n3 : Int) := by omega
            obtain rfl : L = 0 := hc.2
            go_wp2
            go_meet
            case rel => exact hp.out
          · subst hc
            go_wp2
            go_meet
            case rel => exact hp.out
      case rest =>
        obtain ⟨bz, hbf, -⟩ := id hcut
        have HBF := Lib.hid hbf
        have HB9 := Lib.hid (HBE.out _ hcut)
        clear hcut HC4 hbf
        have hmay : May ((512 : Nat) : Int) ((9 : Nat) : Int) := by decide
        have hbl : bz.length = m * 512 := by rw [HBF.out.len, HL.out]; omega
        have HBL := Lib.hid hbl
        clear hbl
        go_upto_region 21 with (go_at_call 33; refine (from_ok _ _ L L bz 512 9 m hmay HBF.out.seq (by rw [HL.out]; omega) (by omega)).mono ?_; rintro r w1 ⟨rfl, hd, hg⟩; have HP1 : Hid (PD wc.heap.size w1 wc.heap.size (smF bz 9 m)) := Lib.hid hd.pd; have HG1 := Lib.hid (kt_new (B := wc.heap.size) hg); clear hd hg)
        have HOP := Lib.hid (open_any HP1.out (smF_wel (by decide) (by decide) (by omega)) (by decide) rfl (show (2 : Nat) ≤ 9 by decide) (show (9 : Nat) ≤ 290 by decide) (smF_byd HBF.out.byt HBL.out))
        go_wp2_with fail
        refine HOP.out.mono ?_
        rintro r w2 ⟨⟨q2, hq2, hpd⟩, hdf, hx⟩
        have HP2 := Lib.hid hpd
        have HG2 := Lib.hid (HG1.out.trans (kt_dfr hdf))
        clear hpd hdf HOP HP1 HG1
        rcases hx with ⟨F, f, hF, rfl, hfl⟩ | ⟨rfl, -⟩
        · have hB0 := smF_byd (l := 9) HBF.out.byt HBL.out
          have hW0 := smF_wel (bs := bz) (l := 9) (k := m) (by decide) (by decide) (by omega)
          obtain ⟨l1, l2, l3, l4⟩ := lm_len (hB0.sync hW0.lin) (sync_calm (M := smF bz 9 m) rfl) (show (2 : Nat) ≤ 9 by decide) hF.mt
          have l2 : F.mt.e ≤ 9 := l2
          obtain ⟨N, hN⟩ : ∃ N, N = (cntK (opM (smF bz 9 m)) q2).pg.length := ⟨_, rfl⟩
          have hNe : F.mt.e ≤ N := by rw [hN, (cntK_same _ q2).1]; exact l1
          have hN9 : N ≤ 9 := by
            have h1 := (cntK_wel (Wel.lm hW0.sync (sync_calm (M := smF bz 9 m) rfl) (show (2 : Nat) ≤ 9 by decide)) q2).p
            have h2 := (cntK_same (opM (smF bz 9 m)) q2).2.2.1
            have h3 : (opM (smF bz 9 m)).limit = 9 := (lm_same (syncM (smF bz 9 m))).2
            rw [hN]
            have h4 : (cntK (opM (smF bz 9 m)) q2).pg.length ≤ (cntK (opM (smF bz 9 m)) q2).limit := h1
            rw [h2, h3] at h4
            exact h4
          have HSZ : Hid ((cntK (opM (smF bz 9 m)) q2).size = 512) := Lib.hid (by
            rw [(cntK_same (opM (smF bz 9 m)) q2).2.1]
            exact (lm_same (syncM (smF bz 9 m))).1)
          have HN := Lib.hid hN
          have hrg := hF.ch.range
          have hnd := hF.nd
          have hok := hF.ok
          have hps := hF.ch
          have hpl : F.ps.length ≤ 100000 := by
            have h1 := lch_len (M := opM (smF bz 9 m)) (fun q => by
              have hb := (hB0.sync hW0.lin).lm hW0.sync (sync_calm (M := smF bz 9 m) rfl) (show (2 : Nat) ≤ 9 by decide)
              by_cases hq : q < (lmM (syncM (smF bz 9 m))).pg.length
              · have h2 := (hb.at hq).2.2
                have h3 : (lmM (syncM (smF bz 9 m))).size = 512 := (lm_same (syncM (smF bz 9 m))).1
                rw [h3] at h2
                show (lastM (lmM (syncM (smF bz 9 m))) q).length ≤ 4096
                omega
              · show ((lmM (syncM (smF bz 9 m))).pg.getD q ([], [])).2.length ≤ 4096
                rw [List.getD_eq_getElem?_getD, List.getElem?_eq_none (by omega)]
                simp) hps
            have h2 := nodup_len hnd (fun q hq => (hrg q hq).2)
            omega
          obtain ⟨⟨Tt, E, mn', fr⟩, ps, ls, st⟩ := F
          have hrg : ∀ q ∈ ls, 2 ≤ q ∧ q < E := hrg
          have hE9 : E ≤ 9 := l2
          have hEN : E ≤ N := hNe
          have hE2 : 2 ≤ E := by
            have h := l4
            unfold mright at h
            simp at h
            exact h.2.1
          have hll : ls.length ≤ 9 := by have := nodup_len (ps := ls) hnd (fun q hq => (hrg q hq).2); omega
          have HRG := Lib.hid hrg
          have HFL := Lib.hid hfl
          have HMR := Lib.hid l4
          have HMO := Lib.hid l3
          have HPL := Lib.hid hpl
          have hok1 : right (gatherL ps) E = true := by
            have h := hok
            unfold okRecsM at h
            simp only [Bool.and_eq_true] at h
            exact h.1
          have HOK := Lib.hid hok1
          clear hF hfl l1 l2 l3 l4 hN hrg hnd hok hok1 hps hpl hNe hB0 hW0
          have hf1 := (meta_fields (.int .u64 (Tt : Int)) (.int .u32 (E : Int)) (.int .u32 (mn' : Int)) (.int .u32 (fr : Int))).2.1
          go_wp2_with (go_at_call 34; refine (flists_any HFL.out (show ls.length ≤ 100000 by omega)).mono ?_; rintro r w3 ⟨ao, cc, rfl, ho, hg⟩; have HO3 := Lib.hid ho; have HFL3 := Lib.hid (HFL.out.new hg); have HP3 := Lib.hid (HP2.out.new hg); have HG3 := Lib.hid (HG2.out.trans (kt_new hg)); clear ho hg)
          go_loopg [23] ls.length (fun gk i wr => ∃ k : Nat, k + gk = ls.length ∧ i = .int .i64 k ∧ Hid (OwnP w2.heap.size wr (.slice ao ls.length cc) ls ∧ FileAt w1.heap.size wr f wc.heap.size ⟨⟨Tt, E, mn', fr⟩, ps, ls, st⟩ ∧ PD wc.heap.size wr wc.heap.size (cntK (opM (smF bz 9 m)) q2) ∧ Kfr KT wc.heap.size wc wr))
          case atStart => exact ⟨0, by omega, rfl, Lib.hid ⟨HO3.out, HFL3.out, HP3.out, HG3.out⟩⟩
          case round =>
            obtain ⟨k, hk, rfl, hh⟩ := hrel
            by_cases hlt : k < ls.length
            · obtain ⟨q, rfl⟩ : ∃ q, gk = q + 1 := ⟨gk - 1, by omega⟩
              have hki : (k : Int) < (ls.length : Int) := by omega
              obtain ⟨b, o, rfl, _, hcell⟩ := (hh.out.1.psq).at k hlt
              have hP := HRG.out (ls.getD k 0) (by rw [List.getD_eq_getElem?_getD, List.getElem?_eq_getElem hlt]; exact List.getElem_mem hlt)
              obtain ⟨P, hPe⟩ : ∃ P, P = ls.getD k 0 := ⟨_, rfl⟩
              rw [← hPe] at hcell hP
              clear hPe
              have hp1 : ¬ (P : Int) < 2 := by omega
              have hp2 : ¬ (E : Int) ≤ (P : Int) := by omega
              have hd1 : decide ((P : Int) < 2) = false := by simp; omega
              have hd1' : decide (P < 2) = false := by simp; omega
              have hd2 : decide ((E : Int) ≤ (P : Int)) = false := by simp; omega
              have hd2' : decide (E ≤ P) = false := by simp; omega
              have hcd : wr.drew.cell? ⟨b, o + k, none⟩ = some (.int .u32 (P : Int)) := hcell
              have HCN := Lib.hid (fun w' (g : wr.drew.grownBy w' none) => (OwnP.grown (hh.out.1.grown (gdrew wr)) g))
              have HCC := Lib.hid (fun w' (g : wr.drew.grownBy w' none) => (show w'.cell? ⟨b, o + k, none⟩ = some (.int .u32 (P : Int)) from by
                have hb : b < wr.drew.heap.size := by
                  have := World.block_lt_of_cell? _ _ hcd
                  exact this
                rw [← hcd]
                simp only [World.cell?, g.block b hb (by simp)]))
              have HFL4 := Lib.hid (hh.out.2.1.new (gdrew wr))
              go_wp2
              go_region_held3 (fun v => v.cell? ⟨b, o + k, none⟩ = some (.int .u32 (P : Int)))
                (first | exact hcd | exact HCC.out _ HG7.out)
                (first | (go_at_call 18; refine (fmeta_any HFL4.out).mono ?_; rintro r w7 ⟨he, hg⟩; obtain rfl : r = .returned (.agg #[.int .u64 (Tt : Int), .int .u32 (E : Int), .int .u32 (mn' : Int), .int .u32 (fr : Int)]) := he; have HG7 := Lib.hid hg; clear hg))
              go_wp2
              go_roundg q
              case measure => omega
              case rel => exact ⟨k + 1, by omega, by go_num, Lib.hid ⟨HCN.out _ HG7.out, HFL4.out.new HG7.out, (hh.out.2.2.1.new (gdrew wr)).new HG7.out, (hh.out.2.2.2.buf (gdrew wr)).buf HG7.out⟩⟩
            · obtain rfl : k = ls.length := by omega
              have HFL5 := Lib.hid hh.out.2.1
              have HP5 := Lib.hid hh.out.2.2.1
              have HG5 := Lib.hid hh.out.2.2.2
              have hwE : IntKind.i64.wrap (E : Int) = (E : Int) := IntWalk.i64_in _ (by omega)
              have hm1 : ¬ (N : Int) < 2 := by omega
              have hm2 : (E : Int) ≤ (N : Int) := by omega
              clear hh HFL HP2 HG2 HG3 HFL3 HP3 HO3
              go_wp2_with (first
                | (go_at_call 18; ((with_reducible refine (fmeta_any HFL5.out).mono ?_); rintro r w6 ⟨he, hg⟩; obtain rfl : r = .returned (.agg #[.int .u64 (Tt : Int), .int .u32 (E : Int), .int .u32 (mn' : Int), .int .u32 (fr : Int)]) := he; have HFL6 := Lib.hid (HFL5.out.new hg); have HP6 := Lib.hid (HP5.out.new hg); have HG6 := Lib.hid (HG5.out.buf hg); clear hg HFL5 HP5 HG5))
                | (go_at_call 35; refine (mright_any ⟨Tt, E, mn', fr⟩ _).mono ?_; rintro r w7 ⟨rfl, hg⟩; rw [HMR.out]; have HFL7 := Lib.hid (HFL6.out.new hg); have HP7 := Lib.hid (HP6.out.new hg); have HG7 := Lib.hid (HG6.out.buf hg); clear hg HFL6 HP6 HG6)
                | (go_at_call 37; refine (frecords_any HFL7.out HPL.out).mono ?_; rintro r w8 ⟨v, es, rfl, ho, hes, hg⟩; obtain ⟨va, vc, rfl⟩ := ho.rsqT.shape; have hrs := ho.rsqT; rw [hes] at hrs; have HRS := Lib.hid hrs; have HFL8 := Lib.hid (HFL7.out.new hg); have HP8 := Lib.hid (HP7.out.new hg); have HG8 := Lib.hid (HG7.out.buf hg); clear ho hg hrs HFL7 HP7 HG7)
                | (go_at_call 18; ((with_reducible refine (fmeta_any HFL8.out).mono ?_); rintro r w9 ⟨he, hg⟩; obtain rfl : r = .returned (.agg #[.int .u64 (Tt : Int), .int .u32 (E : Int), .int .u32 (mn' : Int), .int .u32 (fr : Int)]) := he; have HRS9 := Lib.hid (HRS.out.grown hg); have HFL9 := Lib.hid (HFL8.out.new hg); have HP9 := Lib.hid (HP8.out.new hg); have HG9 := Lib.hid (HG8.out.buf hg); clear hg HFL8 HP8 HG8))
                | (go_at_call 36; refine (right_any _ _ _ _ _ _ E HRS9.out (by omega)).mono ?_; rintro r wA ⟨rfl, hg⟩; rw [HOK.out]; have HFLA := Lib.hid (HFL9.out.new hg); have HPA := Lib.hid (HP9.out.new hg); have HGA := Lib.hid (HG9.out.buf hg); clear hg HFL9 HP9 HG9)
                | (go_at_call 18; ((with_reducible refine (fmeta_any HFLA.out).mono ?_); rintro r wB ⟨he, hg⟩; obtain rfl : r = .returned (.agg #[.int .u64 (Tt : Int), .int .u32 (E : Int), .int .u32 (mn' : Int), .int .u32 (fr : Int)]) := he; have HFLB := Lib.hid (HFLA.out.new hg); have HPB := Lib.hid (HPA.out.new hg); have HGB := Lib.hid (HGA.out.buf hg); clear hg HFLA HPA HGA))
                | (go_at_call 38; have hdl := HPB.out.dlen; rw [← HN.out] at hdl; ((with_reducible refine hdl.mono ?_); rintro r wC ⟨rfl, rfl⟩))
                | (go_at_call 39; have hfs := fsize_any HFLB.out HPB.out; rw [HSZ.out] at hfs; ((with_reducible refine hfs.mono ?_); rintro r wC ⟨rfl, rfl⟩)))
              go_ret
              exact ⟨rfl, HB9.out.trans ((HGB.out.below (Nat.le_refl _)).mono HB9.out.size)⟩
        · go_wp2
          go_ret
          exact ⟨rfl, HB9.out.trans ((HG2.out.below (Nat.le_refl _)).mono HB9.out.size)⟩

end Go.Proofs.YtnnmpaenainogaaGreat

namespace Go.Proofs.YtnnmpaenainogaaGreat
open Go.RowKit Go.Maps

set_option maxRecDepth 100000 in
set_option maxHeartbeats 4000000 in
theorem popens_any (W : World) (a0 : Option Addr) (n0 c0 : Nat) (bs : List Int) (x : Int) (X : Mt) (a3 : Option Addr) (n3 c3 : Nat) (zs : List Int) (a4 : Option Addr) (n4 c4 : Nat) (ys : List Int)
    (h0 : Seq W.heap.size W (.slice a0 n0 c0) bs) (b0 : Byt bs) (x0 : 0 ≤ x) (x1 : x ≤ 255) (hX : MtOk X) (h3 : Seq16 W (.slice a3 n3 c3) zs) (h4 : Seq W.heap.size W (.slice a4 n4 c4) ys) (b4 : Byt ys) :
    Calls Tryz.prog 5 #[.slice a0 n0 c0, .int .u8 x, .agg (mtC X), .slice a3 n3 c3, .slice a4 n4 c4] W fun r w' => r = .returned (.bool true) ∧ Below W.heap.size W w' := by
  by_cases hg : n0 ≤ 3000 ∧ n3 ≤ 20 ∧ n3 ≤ n4
  · exact popens_walk W a0 n0 c0 bs x X a3 n3 c3 zs a4 n4 c4 ys h0 b0 x0 x1 hX h3 h4 b4 hg.1 hg.2.1 hg.2.2
  · have HW0 := Lib.hid (World.grownBy_alloc W (.cells (mtC X) 44) none)
    clear h0 b0 hX h3 h4 b4
    rcases (show 3000 < n0 ∨ (n0 ≤ 3000 ∧ 20 < n3) ∨ (n0 ≤ 3000 ∧ n3 ≤ 20 ∧ n4 < n3) by omega) with h | h | h
    all_goals
      first
        | (have d0 : (3000 : Int) < (n0 : Int) := (by omega))
        | (have d0 : ¬ (3000 : Int) < (n0 : Int) := (by omega); have d1 : (20 : Int) < (n3 : Int) := (by omega))
        | (have d0 : ¬ (3000 : Int) < (n0 : Int) := (by omega); have d1 : ¬ (20 : Int) < (n3 : Int) := (by omega); have d2 : (n4 : Int) < (n3 : Int) := (by omega))
      go_enter Tryz.func5, Tryz.ntmps5
      go_wp2_with (go_at_call 14; ((with_reducible refine (awake11_any _).mono ?_); rintro r w1 ⟨rfl, hg⟩; have HG1 := Lib.hid hg; clear hg))
      go_ret
      exact ⟨rfl, gbelow (gtrans HW0.out HG1.out)⟩

end Go.Proofs.YtnnmpaenainogaaGreat
