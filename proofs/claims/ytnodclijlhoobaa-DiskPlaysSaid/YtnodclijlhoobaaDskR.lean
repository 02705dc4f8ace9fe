/-
  Layer 3: the contract of Crash. Own work.
-/
import Derived.Test.YtnodclijlhoobaaDskQ
namespace Go.Proofs.Ytnodclijlhoobaa
open Go.RowKit

def crashS (ks : List Int) (i : Nat) (x : Nat × List Int) (pg : List (List Int × List Int)) : List (List Int × List Int) :=
  pg.set x.1 (if i < ks.length then tornB (pg.getD x.1 ([], [])).1 x.2 (ks.getD i 0).toNat ((pg.getD x.1 ([], [])).1.length / 128) else (pg.getD x.1 ([], [])).1,
    if i < ks.length then tornB (pg.getD x.1 ([], [])).1 x.2 (ks.getD i 0).toNat ((pg.getD x.1 ([], [])).1.length / 128) else (pg.getD x.1 ([], [])).1)
/-- Behind a crash: of each loose write those sectors that are picked. -/
def crashP (ks : List Int) : Nat → List (List Int × List Int) → List (Nat × List Int) → List (List Int × List Int)
  | _, pg, [] => pg
  | i, pg, x :: l => crashP ks (i + 1) (crashS ks i x pg) l
theorem crashP_snoc (ks : List Int) : ∀ (l : List (Nat × List Int)) (i : Nat) (pg : List (List Int × List Int)) (x : Nat × List Int), crashP ks i pg (l ++ [x]) = crashS ks (i + l.length) x (crashP ks i pg l)
  | [], _, _, _ => rfl
  | y :: l, i, pg, x => by
    have h := crashP_snoc ks l (i + 1) (crashS ks i y pg) x
    rw [List.length_cons, show i + (l.length + 1) = i + 1 + l.length by omega]
    exact h
theorem crashS_len (ks : List Int) (i : Nat) (x : Nat × List Int) (pg : List (List Int × List Int)) : (crashS ks i x pg).length = pg.length := by simp [crashS]
theorem crashP_len (ks : List Int) : ∀ (l : List (Nat × List Int)) (i : Nat) (pg : List (List Int × List Int)), (crashP ks i pg l).length = pg.length
  | [], _, _ => rfl
  | y :: l, i, pg => by rw [crashP, crashP_len ks l, crashS_len]

theorem pcells_both : ∀ (ps : List PgV) (i : Nat) (v v' : Value) (z : List Int × List Int), i < ps.length → pcells (ps.set i ((v, v'), z)) = ((pcells ps).set (i * 2) v).set (i * 2 + 1) v'
  | [], i, v, v', z, h => by simp at h
  | x :: l, 0, v, v', z, h => rfl
  | x :: l, i + 1, v, v', z, h => by
    have ih := pcells_both l i v v' z (by simpa using h)
    rw [show (i + 1) * 2 = i * 2 + 1 + 1 by omega]
    show _ :: _ :: pcells (l.set i _) = _ :: _ :: ((pcells l).set _ _).set _ _
    rw [ih]

/-- What stays readable, whatever a disk does. -/
def Stays (B : Nat) (w : World) (v : Value) (bs : List Int) : Prop := ∀ w', Dfr B w w' → Seq w'.heap.size w' v bs
theorem stays_below {B b : Nat} {w : World} {v : Value} {bs : List Int} (h : Seq b w v bs) (hb : b ≤ B) (hs : b ≤ w.heap.size) : Stays B w v bs := fun w' hd =>
  (h.below (fun i hi => hd.block i (by omega) (.inl (by omega)))).mono (by have := hd.size; omega)
theorem stays_own {B b n : Nat} {w : World} {v : Value} {bs : List Int} (h : Own8 b w n v bs) : Stays B w v bs := fun w' hd => Own8.seq (hd.own (e := 5) h (by decide) : Own8 b w' n v bs)

set_option maxRecDepth 100000 in
set_option maxHeartbeats 4000000 in
theorem crash_rows (B : Nat) (w : World) (d n : Nat) (x1 x4 x5 x6 x7 x8 x9 pv lv nv : Value) (ps : List PgV) (ls : List LoV) (once : Bool) (ka : Option Addr) (kn kc : Nat) (ks : List Int) (hB : B ≤ d)
    (hb : w.heap[d]? = some (.cells #[.int .i64 (n : Int), x1, pv, lv, x4, x5, x6, x7, x8, x9, nv] 111 (0, 0))) (hr : Rws B w n pv lv nv ps ls once) (hks : Stays B w (.slice ka kn kc) ks) (hby : Byt ks)
    (hin : ∀ y ∈ ls, y.1 < ps.length) (hl : ls.length ≤ 100000) (hpl : ps.length ≤ 100000) (hn : n ≤ 4096) (hn2 : n % 128 = 0) :
    Calls Try.prog 24 #[.pointer (some ⟨d, 0, none⟩), .slice ka kn kc] w fun r w' => r = .returned (.tuple #[]) ∧
      w'.heap[d]? = some (.cells #[.int .i64 (n : Int), x1, pv, .slice none 0 0, x4, .bool false, .int .i64 (-1), x7, x8, x9, nv] 111 (0, 0)) ∧ (∃ ps', Rws B w' n pv (.slice none 0 0) nv ps' [] once ∧
      ps'.map (·.2) = crashP ks 0 (ps.map (·.2)) (ls.map fun y => (y.1, y.2.2))) ∧ Dfr B w w' := by
  have HB := Lib.hid hb
  have HR := Lib.hid hr
  have HIn := Lib.hid hin
  have HKs := Lib.hid hks
  have HBy := Lib.hid hby
  obtain ⟨m, hm⟩ : ∃ m, m = ps.length := ⟨_, rfl⟩
  obtain ⟨k0, hk0⟩ : ∃ k, k = ls.length := ⟨_, rfl⟩
  obtain ⟨la, lc, rfl⟩ := own_shape hr.lown
  obtain ⟨pa, pc, rfl⟩ := own_shape hr.pown
  have hkn := hks w (Dfr.refl _ _)
  have HKn := Lib.hid (show kn = ks.length by obtain ⟨_, _, hv, _⟩ := hkn; injection hv)
  have hkm : kn ≤ 9223372036854775807 := by obtain ⟨_, _, hv, h1, h2, _⟩ := hkn; injection hv with _ h3 h4; unfold maxLen at h2; omega
  rw [← hm] at hpl HB HR
  rw [← hk0] at hl HB HR
  rw [← hm]
  have HM := Lib.hid hm
  have HK := Lib.hid hk0
  have c3 := (cells11 HB.out).2.2.2.1
  clear hb hr hin hm hk0 hks hby hkn
  go_enter Try.func24, Try.ntmps24
  go_wp2
  go_loopg [14] k0 (fun g v wr => ∃ (k : Nat) (ps' : List PgV), k + g = k0 ∧ v = .int .i64 (k : Int) ∧
    wr.heap[d]? = some (.cells #[.int .i64 (n : Int), x1, .slice pa m pc, .slice la k0 lc, x4, x5, x6, x7, x8, x9, nv] 111 (0, 0)) ∧
    Rws B wr n (.slice pa m pc) (.slice la k0 lc) nv ps' ls once ∧ ps'.map (·.2) = crashP ks 0 (ps.map (·.2)) ((ls.take k).map fun y => (y.1, y.2.2)) ∧ Dfr B w wr)
  case atStart => exact ⟨0, ps, by omega, rfl, HB.out, HR.out, rfl, Dfr.refl _ _⟩
  case round =>
    obtain ⟨k, ps', hk, rfl, hb, hr, hps, hf⟩ := hrel
    have HBk := Lib.hid hb
    have HRk := Lib.hid hr
    have HPk := Lib.hid hps
    have HFk := Lib.hid hf
    have c2 := (cells11 hb).2.2.1
    clear hr hps hf c3
    by_cases hlt : k < k0
    · obtain ⟨g, rfl⟩ : ∃ g, gk = g + 1 := ⟨gk - 1, by omega⟩
      have hki : (k : Int) < (k0 : Int) := by omega
      have HL' := Lib.hid (show ps'.length = m by
        have := congrArg List.length HPk.out
        rw [crashP_len] at this; simp only [List.length_map] at this; rw [this, HM.out])
      obtain ⟨lb, lc', y, hv, hy, e1, e2, e3⟩ := HRk.out.wr (k := k) (by rw [← HK.out]; exact hlt)
      simp only [Value.slice.injEq] at hv
      obtain ⟨rfl, -, rfl⟩ := hv
      have HIy := Lib.hid (HIn.out y (List.mem_of_getElem? hy))
      obtain ⟨g', pc', z, hv, hz, z1, z2, z3, z4⟩ := HRk.out.page (i := y.1) (by rw [HL'.out, HM.out]; exact HIy.out)
      simp only [Value.slice.injEq] at hv
      obtain ⟨rfl, -, rfl⟩ := hv
      obtain ⟨at1, v1, b1⟩ := y
      obtain ⟨va, vc, rfl⟩ := own_shape e3
      have hp1 : wr.ownsRow B 115 2 (.slice (some ⟨g', 0, none⟩) m pc) m (pcells ps') := by have h := HRk.out.pown; rw [HL'.out] at h; exact h
      have hp2 := hp1.alloc (.cells #[.int .i64 (at1 : Int), .slice va n vc] 113)
      have cd : (wr.alloc (.cells #[.int .i64 (at1 : Int), .slice va n vc] 113)).cell? ⟨d, 2, none⟩ = some (.slice (some ⟨g', 0, none⟩) m pc) := cell_alloc c2
      have cz1 : (wr.alloc (.cells #[.int .i64 (at1 : Int), .slice va n vc] 113)).cell? ⟨g', at1 * 2, none⟩ = some z.1.1 := cell_alloc z1
      have cz2 : (wr.alloc (.cells #[.int .i64 (at1 : Int), .slice va n vc] 113)).cell? ⟨g', at1 * 2 + 1, none⟩ = some z.1.2 := cell_alloc z2
      have fz1 := hp2.frozenAt (at1 * 2)
      have fz2 := hp2.frozenAt (at1 * 2 + 1)
      have cw : (wr.alloc (.cells #[.int .i64 (at1 : Int), .slice va n vc] 113)).cell? ⟨wr.heap.size, 1, none⟩ = some (.slice va n vc) := by rw [World.cell?_alloc_mark]; rfl
      have hat : (at1 : Int) < (m : Int) := by have := HIy.out; have := HM.out; omega
      have hrA := HRk.out.new (World.grownBy_alloc wr (.cells #[.int .i64 (at1 : Int), .slice va n vc] 113) none)
      have hbA := keep_alloc1 HBk.out (.cells #[.int .i64 (at1 : Int), .slice va n vc] 113)
      have hfA := HFk.out.trans (dfr_new (World.grownBy_alloc wr (.cells #[.int .i64 (at1 : Int), .slice va n vc] 113) none))
      have HRA := Lib.hid hrA
      have HBA := Lib.hid hbA
      have HFA := Lib.hid hfA
      have HP2 := Lib.hid hp2
      obtain ⟨wA, hwA⟩ : ∃ wA, wA = wr.alloc (.cells #[.int .i64 (at1 : Int), .slice va n vc] 113) := ⟨_, rfl⟩
      have HW := Lib.hid hwA
      have HY := Lib.hid hy
      have HZ := Lib.hid hz
      have HK1 := Lib.hid (show crashP ks 0 (ps.map (·.2)) ((ls.take (k + 1)).map fun y => (y.1, y.2.2)) = crashS ks k (at1, b1) (ps'.map (·.2)) by
        have hkl : k < ls.length := by rw [← HK.out]; exact hlt
        have e : ls.take (k + 1) = ls.take k ++ [(at1, (.slice va n vc, b1))] := by
          rw [List.take_succ_eq_append_getElem hkl]
          have := HY.out
          rw [List.getElem?_eq_getElem hkl] at this
          injection this with this
          rw [this]
        rw [e, List.map_append, List.map_cons, List.map_nil, crashP_snoc, ← HPk.out]
        congr 1
        simp; omega)
      have hga := own_tag HP2.out g' rfl
      have hgd : g' ≠ d := fun e => by
        have h1 := hga.2.2
        rw [e] at h1
        exact absurd (h1.uniq ⟨_, _, hbA⟩) (by decide)
      have HGd := Lib.hid hgd
      have HGa := Lib.hid hga
      have hgw : g' ≠ wr.heap.size := by have := (own_tag hp1 g' rfl).2.1; omega
      have HGw := Lib.hid hgw
      clear hp1 hp2 hrA hbA hfA hb z1 z2 z3 z4 c2 hga hgd hy hz e3 hwA HW wA
      obtain ⟨z12, hz12⟩ : ∃ x, x = z.1.2 := ⟨_, rfl⟩
      rw [← hz12] at cz2
      clear hz12
      obtain ⟨gb, gc, hz11⟩ := own_shape (HRA.out.pall z (List.mem_of_getElem? HZ.out)).1
      rw [hz11] at cz1
      have HZ11 := Lib.hid hz11
      clear hz11
      by_cases hkk : k < kn
      · have hkki : (k : Int) < (kn : Int) := by omega
        have hSA := HKs.out _ (HFA.out.trans (dfr_new (gdrew _)))
        obtain ⟨kb, ko, rfl, hpick⟩ := hSA.cellAt k (by rw [← HKn.out]; exact hkk)
        have hbd := Byt.get HBy.out k
        obtain ⟨x, hx⟩ : ∃ x : Nat, ks.getD k 0 = (x : Int) := ⟨(ks.getD k 0).toNat, by omega⟩
        have HX := Lib.hid hx
        rw [hx] at hpick hbd
        have hx256 : x < 256 := by omega
        clear hx hSA
        have O1 : Hid (Own8 B (wr.alloc (.cells #[.int .i64 (at1 : Int), .slice va n vc] 113)).drew.drew n (.slice gb n gc) z.2.1) := Lib.hid (by
          have h := (HRA.out.pall z (List.mem_of_getElem? HZ.out)).1
          rw [HZ11.out] at h; exact h)
        have O2 : Hid (Own8 B (wr.alloc (.cells #[.int .i64 (at1 : Int), .slice va n vc] 113)).drew.drew n (.slice va n vc) b1) := Lib.hid (HRA.out.lall (at1, (.slice va n vc, b1)) (List.mem_of_getElem? HY.out))
        have HCS := Lib.hid (show crashS ks k (at1, b1) (ps'.map (·.2)) = (ps'.map (·.2)).set at1 (tornB z.2.1 b1 x (n / 128), tornB z.2.1 b1 x (n / 128)) by
          have hz : ps'[at1]? = some z := HZ.out
          have hl := O1.out.len
          unfold crashS
          rw [if_pos (by rw [← HKn.out]; exact hkk), HX.out, Int.toNat_natCast]
          simp [List.getD_eq_getElem?_getD, hz, hl])
        clear hkk
        go_wp2
        go_region
        go_wp2_with fail
        go_region_with (go_at_call 58; refine (torn_any B _ _ _ n _ _ x z.2.1 b1 O1.out O2.out hn hn2 hx256).mono ?_; rintro e w2 ⟨ta, tc, rfl, o3, g3⟩; have g4 := gtrans (gtrans (gdrew _) (gdrew _)) g3; have p3 := HP2.out.kept g4 (.inr (by simp [Value.ownBlock])); have k1 := g4.cell (row := none) cz1 (by simp); have k2 := g4.cell (row := none) cz2 (by simp); have l1 := p3.frozenAt (at1 * 2); have l2 := p3.frozenAt (at1 * 2 + 1); have HO3 := Lib.hid o3; have HG4 := Lib.hid g4; have HP3 := Lib.hid p3; have j1 : (w2.setCell ⟨g', at1 * 2, none⟩ (.slice ta n tc)).cell? ⟨g', at1 * 2, none⟩ = some (.slice ta n tc) := World.cell?_setCell_same w2 _ _ k1; have j2 := (p3.stored (at1 * 2) (.slice ta n tc)).1.frozenAt (at1 * 2 + 1); have j3 : (w2.setCell ⟨g', at1 * 2, none⟩ (.slice ta n tc)).cell? ⟨g', at1 * 2 + 1, none⟩ = some z12 := (World.cell?_setCell_other _ _ _ _ (by intro e; injection e with _ e; omega)).trans k2; clear o3 g3 g4 p3)
        all_goals
          go_wp2
          go_roundg g
          case measure => omega
          case rel =>
            obtain ⟨st1, st2⟩ := HP3.out.stored (at1 * 2) (.slice ta n tc)
            obtain ⟨st3, st4⟩ := st1.stored (at1 * 2 + 1) (.slice ta n tc)
            have st5 := gtrans st2 st4
            have htg : TagIs w2 g' 115 := (own_tag HP3.out g' rfl).2.2
            have hr2 := HRA.out.new HG4.out
            have hb2 := (HG4.out.block d (lt_of_block HBA.out) (by simp)).trans HBA.out
            have hsz := HFA.out.size
            refine ⟨k + 1, ps'.set at1 ((.slice ta n tc, .slice ta n tc), (tornB z.2.1 b1 x (n / 128), tornB z.2.1 b1 x (n / 128))), by omega, by go_num, ?_, ?_, ?_, ?_⟩
            · exact (st5.block d (lt_of_block hb2) (fun e => by injection e with e; exact HGd.out e.symm)).trans hb2
            · refine hr2.pages st5 (fun q e => by injection e with e; subst e; exact htg) (by rw [List.length_set, HL'.out, pcells_both ps' at1 _ _ _ (by rw [HL'.out]; omega)]; exact st3) (fun z' hz' => ?_)
              rcases List.mem_or_eq_of_mem_set hz' with hz' | rfl
              · exact .inl hz'
              · have ho := own_base HO3.out (show B ≤ _ from by have h1 := HGa.out.1; have h2 := HGa.out.2.1; show B ≤ (wr.alloc _).heap.size; omega)
                exact .inr ⟨ho, ho⟩
            · rw [HK1.out, HCS.out, List.map_set]
            · exact (HFA.out.trans (dfr_new HG4.out)).trans (dfr_row st5 fun q e => by injection e with e; subst e; exact ⟨HGa.out.1, Dtag.of htg (by decide)⟩)
      · have hkki : ¬ (k : Int) < (kn : Int) := by omega
        have HCS := Lib.hid (show crashS ks k (at1, b1) (ps'.map (·.2)) = (ps'.map (·.2)).set at1 (z.2.1, z.2.1) by
          have hz : ps'[at1]? = some z := HZ.out
          unfold crashS
          rw [if_neg (by rw [← HKn.out]; exact hkk)]
          simp [List.getD_eq_getElem?_getD, hz])
        clear hkk
        go_wp2
        go_region
        go_wp2
        go_roundg g
        case measure => omega
        case rel =>
          obtain ⟨st1, st2⟩ := HP2.out.stored (at1 * 2 + 1) (.slice gb n gc)
          have hzm := HRA.out.pall z (List.mem_of_getElem? HZ.out)
          refine ⟨k + 1, ps'.set at1 ((z.1.1, .slice gb n gc), (z.2.1, z.2.1)), by omega, by go_num, ?_, ?_, ?_, ?_⟩
          · exact (st2.block d (lt_of_block HBA.out) (fun e => by injection e with e; exact HGd.out e.symm)).trans HBA.out
          · refine HRA.out.pages (gtrans st2 (gwide (gdrew _))) (fun q e => by injection e with e; subst e; exact HGa.out.2.2) (by rw [List.length_set, HL'.out, pcells_last ps' at1 z _ _ HZ.out]; exact st1) (fun z' hz' => ?_)
            rcases List.mem_or_eq_of_mem_set hz' with hz' | rfl
            · exact .inl hz'
            · exact .inr ⟨hzm.1, by rw [← HZ11.out]; exact hzm.1⟩
          · rw [HK1.out, HCS.out, List.map_set]
          · exact HFA.out.trans (dfr_row (gtrans st2 (gwide (gdrew _))) fun q e => by injection e with e; subst e; exact ⟨HGa.out.1, Dtag.of HGa.out.2.2 (by decide)⟩)
    · obtain rfl : k = k0 := by omega
      have c3 := (cells11 hb).2.2.2.1
      have f3 := free11 hb 3
      have b3 : (wr.setCell ⟨d, 3, none⟩ (.slice none 0 0)).heap[d]? = some (.cells #[.int .i64 (n : Int), x1, .slice pa m pc, .slice none 0 0, x4, x5, x6, x7, x8, x9, nv] 111 (0, 0)) := set_box HBk.out 3 _
      have B3 := Lib.hid b3
      clear hb c2 b3
      go_wp2_with (first
        | (go_at_call 22; ((with_reducible refine (fail_any _ d _ x1 _ _ x4 x5 x6 x7 x8 x9 nv (-1) B3.out).mono ?_); rintro e w2 ⟨rfl, b4, g4, s4⟩; have B4 := Lib.hid b4; have G4 := Lib.hid g4; clear b4 g4 s4)))
      go_end0
      have ht3 : ∀ q, some d = some q → TagIs wr q 111 := fun q e => by injection e with e; subst e; exact ⟨_, _, HBk.out⟩
      have hgg := gtrans (gset wr ⟨d, 3, none⟩ (.slice none 0 0)) G4.out
      refine ⟨rfl, B4.out, ⟨ps', ?_, ?_⟩, HFk.out.trans (dfr_row hgg fun q e => by injection e with e; subst e; exact ⟨hB, Dtag.of (ht3 _ rfl) (by decide)⟩)⟩
      · have hr := HRk.out.far hgg ht3
        exact ⟨hr.pown, hr.pall, World.ownsRow_nil _ _ _ _, fun y hy => by simp at hy, hr.nown⟩
      · have h := HPk.out
        rw [HK.out, List.take_length] at h
        exact h

def crashM (M : SM) (ks : List Int) : SM := { M with pg := crashP ks 0 M.pg M.loose, loose := [], fails := false, ahead := -1 }
theorem DskAt.crash {B d : Nat} {w : World} {M : SM} {ka : Option Addr} {kn kc : Nat} {ks : List Int} (h : DskAt B w d M) (hks : Stays B w (.slice ka kn kc) ks) (hby : Byt ks) (hn : M.size ≤ 4096) (hn2 : M.size % 128 = 0) (hin : ∀ x ∈ M.loose, x.1 < M.pg.length) (hl : M.loose.length ≤ 100000) (hpl : M.pg.length ≤ 100000) :
    Calls Try.prog 24 #[.pointer (some ⟨d, 0, none⟩), .slice ka kn kc] w fun r w' => r = .returned (.tuple #[]) ∧ DskAt B w' d (crashM M ks) ∧ Dfr B w w' := by
  obtain ⟨pv, lv, nv, ps, ls, h1, h2, h3, h4, h5⟩ := h
  have hpn : M.pg.length = ps.length := by rw [h4]; simp
  refine (crash_rows B w d M.size _ _ _ _ _ _ _ pv lv nv ps ls M.once ka kn kc ks h1 h2 h3 hks hby (fun y hy => ?_) (by rw [h5] at hl; simpa using hl) (by omega) hn hn2).mono ?_
  · have := hin (y.1, y.2.2) (by rw [h5]; exact List.mem_map.2 ⟨y, hy, rfl⟩)
    rw [hpn] at this; exact this
  · rintro r w' ⟨rfl, a1, ⟨ps', a2, a3⟩, a4⟩
    exact ⟨rfl, ⟨pv, .slice none 0 0, nv, ps', [], h1, a1, a2, by rw [crashM, h4, h5]; exact a3.symm, rfl⟩, a4⟩
set_option maxHeartbeats 1000000 in
theorem crash_nil (w : World) (v : Value) : Calls Try.prog 24 #[.pointer none, v] w fun r w' => r = .returned (.tuple #[]) ∧ w = w' := by
  go_enter Try.func24, Try.ntmps24
  go_wp2
  refine bodyPost_ret (results_none rfl _ _ _) rfl ?_
  exact ⟨rfl, rfl⟩

/-- Fail. -/
theorem DskAt.fail {B d : Nat} {w : World} {M : SM} (h : DskAt B w d M) (n : Int) :
    Calls Try.prog 22 #[.pointer (some ⟨d, 0, none⟩), .int .i64 n] w fun r w' => r = .returned (.tuple #[]) ∧ DskAt B w' d { M with fails := decide (0 ≤ n), ahead := n } ∧ Dfr B w w' := by
  obtain ⟨pv, lv, nv, ps, ls, h1, h2, h3, h4, h5⟩ := h
  refine (fail_any w d _ _ _ _ _ _ _ _ _ _ _ n h2).mono ?_
  rintro r w' ⟨rfl, a1, a2, a3⟩
  have ht : ∀ k, some d = some k → TagIs w k 111 := fun k e => by injection e with e; subst e; exact ⟨_, _, h2⟩
  exact ⟨rfl, ⟨pv, lv, nv, ps, ls, h1, a1, h3.far a2 ht, h4, h5⟩, dfr_row a2 fun k e => by injection e with e; subst e; exact ⟨h1, Dtag.of (ht _ rfl) (by decide)⟩⟩

end Go.Proofs.Ytnodclijlhoobaa
