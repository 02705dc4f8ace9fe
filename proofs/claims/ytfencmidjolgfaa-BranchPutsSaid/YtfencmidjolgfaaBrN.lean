/-
  Layer 5: the contract of layout's Get of branch's entries. Own work.
-/
import Derived.Test.YtfencmidjolgfaaBrK
import Derived.Test.YtfencmidjolgfaaLayM
import Derived.Test.YtfencmidjolgfaaLayD
import Derived.Test.YtfencmidjolgfaaLayH
import Derived.Deep.LoopGhost
namespace Go.Proofs.Ytfencmidjolgfaa
open Go.RowKit

/-- What Get tells of a kind. -/
def BEntriesR (b : List Int) (w w' : World) (r : Ending) : Prop := ∃ (lv : Value) (es : List (Value × En)) (ok : Bool), r = .returned (.tuple #[lv, .bool ok]) ∧ (ok = true → b.length ≤ 65535 → Laid brY b (bxsOf es)) ∧ (∀ L, Laid brY b L → ok = true ∧ bxsOf es = L) ∧
  BEOwns w.heap.size w' lv es ∧ es.length ≤ 65535 ∧ w.grownBy w' none
theorem BEntriesR.no {b : List Int} {w w' : World} (h : ∀ L, ¬ Laid brY b L) (hg : w.grownBy w' none) : BEntriesR b w w' (.returned (.tuple #[.slice none 0 0, .bool false])) :=
  ⟨_, [], false, rfl, (fun e => by cases e), fun L hL => absurd hL (h L), BEOwns.nil _ _, by simp, hg⟩

/-- An append to the entries leaves the Reader. -/
theorem brs_row {g : Nat} {w0 w w' : World} {bs : List Int} {e : Int} {lv : Value} {n : Nat} {xs : List Value} (h : RS g w0 w bs e) (k : w.grownBy w' lv.ownBlock) (hr : w.ownsRow (g + 1) 79 2 lv n xs) : RS g w0 w' bs e := by
  have hq : ∀ q, lv.ownBlock = some q → g + 1 ≤ q := fun q hq => (hr.lt q hq).1
  refine ⟨h.rd.kept fun i hi => k.block i (by have := h.rd.lt; omega) (fun e => by have := hq i e.symm; omega), h.byt, h.len, h.g0, h.bel.grown k h.bel.size fun q e => by have := hq q e; have := h.g0; omega⟩
theorem bentry_yes {w : World} {B : Nat} {ao : Option Addr} {n c0 : Nat} {c : List Int} (h : Seq B w (.slice ao n c0) c) (hB : B ≤ w.heap.size) (hb : Byt c) (hl : c.length ≤ 140737488355328) (hx : ∃ x, EntOk brY c x) :
    Calls Try.prog 61 #[.slice ao n c0] w fun r w' => ∃ (k : Value) (x : En), r = .returned (.tuple #[.agg (bcs k x.first), .bool true]) ∧ EntOk brY c x ∧ OwnB w.heap.size w' k x.key ∧ w.grownBy w' none := by
  refine (bentryOf_any w B ao n c0 c h hB hb hl).mono ?_
  rintro r w' ⟨k, x, ok, e, h1, h2, h3⟩
  cases ok with
  | true => exact ⟨k, x, e, h1 rfl, h3⟩
  | false => obtain ⟨y, hy⟩ := hx; exact absurd hy (h2 rfl y)
theorem bentry_no {w : World} {B : Nat} {ao : Option Addr} {n c0 : Nat} {c : List Int} (h : Seq B w (.slice ao n c0) c) (hB : B ≤ w.heap.size) (hb : Byt c) (hl : c.length ≤ 140737488355328) (hx : ∀ x, ¬ EntOk brY c x) :
    Calls Try.prog 61 #[.slice ao n c0] w fun r w' => ∃ (a1 : Option Addr) (n1 d1 : Nat) (f : Int), r = .returned (.tuple #[.agg (bcs (.slice a1 n1 d1) f), .bool false]) ∧ w.grownBy w' none := by
  refine (bentryOf_any w B ao n c0 c h hB hb hl).mono ?_
  rintro r w' ⟨k, x, ok, e, h1, h2, h3, h5⟩
  cases ok with
  | true => exact absurd (h1 rfl) (hx x)
  | false =>
    obtain ⟨a1, d1, rfl⟩ := own_shape h3
    exact ⟨a1, _, d1, _, e, h5⟩

set_option maxRecDepth 100000 in
set_option maxHeartbeats 8000000 in
theorem bgetT_any (w : World) (B : Nat) (ao : Option Addr) (n c0 : Nat) (b : List Int) (h : Seq B w (.slice ao n c0) b) (hB : B ≤ w.heap.size) (hb : Byt b) (hl : b.length ≤ 140737488355328) :
    Calls Try.prog 60 #[.int .u8 2, .slice ao n c0, .func (.func 61) #[] #[]] w fun r w' => BEntriesR b w w' r := by
  obtain ⟨i0, hi, hz0, hz1, hz2⟩ := info_parts infoBEntry
  obtain ⟨b1, e1, o1, x1⟩ : ∃ a b' d, nx b 0 1 true = (a, b', d) := ⟨_, _, _, rfl⟩
  obtain ⟨b2, e2, o2, x2⟩ : ∃ a b' d, nx b1 e1 1 true = (a, b', d) := ⟨_, _, _, rfl⟩
  obtain ⟨b3, e3, o3, x3⟩ : ∃ a b' d, nx b2 e2 2 true = (a, b', d) := ⟨_, _, _, rfl⟩
  obtain ⟨c1, bo1, _, _⟩ := nx_both x1 hb
  obtain ⟨c2, bo2, _, _⟩ := nx_both x2 c1
  obtain ⟨c3, bo3, _, _⟩ := nx_both x3 c2
  have l3 := nx_outlen x3 (by decide)
  have hC0 := (beVal_bound o3 bo3).1
  have hC1 := beVal_lt o3 bo3 2 (by omega)
  have hnl : n = b.length := by obtain ⟨_, _, hv, _⟩ := h; injection hv
  have hcap : n ≤ c0 ∧ c0 ≤ 9223372036854775807 := by obtain ⟨_, _, hv, h1, h2, _⟩ := h; injection hv with _ h4 h5; unfold maxLen at h2; omega
  obtain ⟨hnc, hc9⟩ := hcap
  have hn47 : n ≤ 140737488355328 := by omega
  have H := Lib.hid h
  have HB := Lib.hid hb
  have HL := Lib.hid hl
  have HN := Lib.hid hnl
  have X1 := Lib.hid x1
  have X2 := Lib.hid x2
  have X3 := Lib.hid x3
  obtain ⟨A1, hA1⟩ : ∃ x, x = beVal o1 := ⟨_, rfl⟩
  obtain ⟨A2, hA2⟩ : ∃ x, x = beVal o2 := ⟨_, rfl⟩
  obtain ⟨C, hC⟩ : ∃ x : Nat, (x : Int) = beVal o3 := ⟨(beVal o3).toNat, by omega⟩
  have hCl : C ≤ 65535 := by omega
  have HA1 := Lib.hid hA1
  have HA2 := Lib.hid hA2
  have HC := Lib.hid hC
  clear x1 x2 x3 c1 bo1 c2 bo2 c3 bo3 l3 hC0 hC1 hnl h hb hl hA1 hA2 hC
  by_cases hh : e3 = 0 ∧ A1 = 2 ∧ A2 = 0
  · obtain ⟨he, ha1, ha2⟩ := hh
    subst he
    subst ha1
    subst ha2
    have HST := Lib.hid (RdTo.start (Y := brY) HB.out X1.out HA1.out.symm X2.out HA2.out.symm X3.out HC.out.symm)
    go_enter Try.func60, Try.ntmps60
    go_wp2_with (go_at_call 68; have Kc := rhead_yes H.out hB HB.out HL.out (by decide) (by decide) X1.out X2.out X3.out HA1.out.symm HA2.out.symm HC.out hCl; ((with_reducible refine Kc.mono ?_); clear Kc; rintro r wn3 ⟨g, rfl, hs⟩); have HR3 := Lib.hid hs; clear hs)
    have HST2 := Lib.hid (show RdTo brY b C 0 n [] b3 0 by rw [HN.out]; exact HST.out)
    clear HST HA1 HA2
    go_loopg [11, 12, 29] C (fun q v e i wr => ∃ (k E : Nat) (es : List (Value × En)) (bs : List Int) (er : Int), k + q = C ∧ i = .int .i64 (k : Int) ∧ e = .int .i64 (E : Int) ∧ E ≤ n ∧ Hid (RdTo brY b C k E (bxsOf es) bs er) ∧ RS g w wr bs er ∧ BEOwns (g + 1) wr v es)
    case atStart => exact ⟨0, n, [], b3, 0, by omega, rfl, rfl, Nat.le_refl _, HST2, HR3.out, BEOwns.nil _ _⟩
    case round =>
      obtain ⟨k, E, es, bs, er, hkq, rfl, rfl, hEn, HT, hrs, heo⟩ := hrel
      obtain ⟨la, lc, rfl⟩ := own_shape heo.row
      have HRS := Lib.hid hrs
      have HEO := Lib.hid heo
      clear hrs heo HST2 HR3
      by_cases hlt : k < C
      · obtain ⟨q, rfl⟩ : ∃ q, gk = q + 1 := ⟨gk - 1, by omega⟩
        have hki : (k : Int) < (C : Int) := by omega
        have HES := Lib.hid (show es.length ≤ 65535 by have := HT.out.len; rw [List.length_map] at this; omega)
        obtain ⟨bs', e', o, x⟩ : ∃ a b' d, nx bs er 2 true = (a, b', d) := ⟨_, _, _, rfl⟩
        obtain ⟨d1, bo, _, _⟩ := nx_both x HRS.out.byt
        have lo := nx_outlen x (by decide)
        have hA0 := (beVal_bound o bo).1
        have hA1 := beVal_lt o bo 2 (by omega)
        obtain ⟨A, hA⟩ : ∃ a : Nat, (a : Int) = beVal o := ⟨(beVal o).toNat, by omega⟩
        have hAl : A ≤ 65535 := by omega
        have HX := Lib.hid x
        have HA := Lib.hid hA
        clear x d1 bo lo hA0 hA1 hA
        by_cases hAE : A ≤ E
        · have hAi : (A : Int) ≤ (E : Int) := by omega
          have hEi : (E : Int) ≤ (c0 : Int) := by omega
          obtain ⟨aA, haA⟩ : ∃ a, (if E = A then ao else Option.map (fun x => x.add A) ao) = a := ⟨_, rfl⟩
          have HSC := Lib.hid (show Seq B w (.slice aA (E - A) (E - A)) ((b.drop A).take (E - A)) by rw [← haA]; exact H.out.sub3 hAE (by omega))
          have HCB := Lib.hid (show Byt ((b.drop A).take (E - A)) ∧ ((b.drop A).take (E - A)).length ≤ 140737488355328 from ⟨(HB.out.drop _).take _, by rw [List.length_take, List.length_drop]; have := HL.out; omega⟩)
          by_cases hP : ∃ x, EntOk brY ((b.drop A).take (E - A)) x
          · have HP := Lib.hid hP
            clear hP
            go_wp2_with (first
              | (go_at_call 69; have Kc := HRS.out.num 2 (by decide) (by decide) HX.out; ((with_reducible refine Kc.mono ?_); clear Kc; rintro r wn ⟨rfl, hs, hg⟩); rw [← HA.out]; have HR1 := Lib.hid hs; have HEO1 := Lib.hid (HEO.out.rd hg HRS.out.rd (Nat.lt_succ_self g)); clear hs hg)
              | (go_at_call 61; have Kc := bentry_yes (HSC.out.below (fun i hi => HR1.out.bel.block i (by omega))) (Nat.le_trans hB HR1.out.bel.size) HCB.out.1 HCB.out.2 HP.out; ((with_reducible refine Kc.mono ?_); clear Kc; rintro r w4 ⟨kv, x, rfl, hx, ok1, hg4⟩); obtain ⟨ak, ck, rfl⟩ := own_shape ok1; have HX4 := Lib.hid hx; have HO1 := Lib.hid (OwnB.base ok1 (show g + 1 ≤ wn.heap.size from HR1.out.rd.lt)); have HR2 := Lib.hid (HR1.out.far hg4); have HEO2 := Lib.hid (HEO1.out.grown hg4); clear hx ok1 hg4)
              | (at_builtin; refine wpList_append_own2 _ rfl _ _ 64 rfl (g + 1) 79 i0 (.agg #[.slice none 0 0, .int .u32 0]) 2 32 Try.underlying64 hi hz0 hz1 hz2 rfl (by decide) (.slice la es.length lc) es.length (es.flatMap becl) rfl (HEO2.out.grown (two_grown w4 (.cells (bcs (.slice ak x.key.length ck) x.first) 79) (.cells (bcs (.slice ak x.key.length ck) x.first) 79))).row ⟨w4.heap.size + 1, 0, none⟩ 1 1 (becl (.slice ak x.key.length ck, x)) rfl rfl (blit2 _ _ _ _) (bone2 _ _ _ _) (by have := HES.out; unfold maxLen; omega) (by have := HES.out; omega) (by have := HR2.out.rd.lt; simp; omega) ?_; intro v' w5 hown' hgrow _; have hg2 := two_grown w4 (.cells (bcs (.slice ak x.key.length ck) x.first) 79) (.cells (bcs (.slice ak x.key.length ck) x.first) 79); have HEO3 := Lib.hid ((HEO2.out.grown hg2).push (y := (.slice ak x.key.length ck, x)) (HO1.out.grown hg2) (BGot.ok HX4.out.2) hown' hgrow); have HR3 := Lib.hid (brs_row (HR2.out.far hg2) hgrow (HEO2.out.grown hg2).row); clear hown' hgrow hg2))
            go_roundg q
            case measure => omega
            case rel => exact ⟨k + 1, A, es ++ [(.slice ak x.key.length ck, x)], bs', e', by omega, by go_num, rfl, by omega, Lib.hid (by rw [show bxsOf (es ++ [(Value.slice ak x.key.length ck, x)]) = bxsOf es ++ [x] by simp]; exact HT.out.step HRS.out.byt hlt HX.out HA.out.symm hAE HX4.out), HR3.out, HEO3.out⟩
          · have HP := Lib.hid (show ∀ y, ¬ EntOk brY ((b.drop A).take (E - A)) y from fun y hy => hP ⟨y, hy⟩)
            have HNO := Lib.hid (fun L => HT.out.bad hlt HX.out HA.out.symm hAE HP.out L)
            clear hP
            go_wp2_with (first
              | (go_at_call 69; have Kc := HRS.out.num 2 (by decide) (by decide) HX.out; ((with_reducible refine Kc.mono ?_); clear Kc; rintro r wn ⟨rfl, hs, hg⟩); rw [← HA.out]; have HR1 := Lib.hid hs; have HEO1 := Lib.hid (HEO.out.rd hg HRS.out.rd (Nat.lt_succ_self g)); clear hs hg)
              | (go_at_call 61; have Kc := bentry_no (HSC.out.below (fun i hi => HR1.out.bel.block i (by omega))) (Nat.le_trans hB HR1.out.bel.size) HCB.out.1 HCB.out.2 HP.out; ((with_reducible refine Kc.mono ?_); clear Kc; rintro r w4 ⟨k1, m1, q1, xf, rfl, hg4⟩); have HG4 := Lib.hid hg4; clear hg4))
            go_ret2
            exact BEntriesR.no HNO.out (gtrans HR1.out.gr (gtrans HG4.out (World.grownBy_alloc _ _ _)))
        · have hAi : (E : Int) < (A : Int) := by omega
          have HNO := Lib.hid (fun L => HT.out.over hlt HX.out HA.out.symm (by omega) L)
          clear hAE
          go_wp2_with (go_at_call 69; have Kc := HRS.out.num 2 (by decide) (by decide) HX.out; ((with_reducible refine Kc.mono ?_); clear Kc; rintro r wn ⟨rfl, hs, hg⟩); rw [← HA.out]; have HR1 := Lib.hid hs; have HEO1 := Lib.hid (HEO.out.rd hg HRS.out.rd (Nat.lt_succ_self g)); clear hs hg)
          go_ret2
          exact BEntriesR.no HNO.out HR1.out.gr
      · obtain rfl : k = C := by omega
        have HES := Lib.hid (show es.length ≤ 65535 by have := HT.out.len; rw [List.length_map] at this; omega)
        obtain ⟨b', e', free, x⟩ : ∃ a b' d, nx bs er ((E : Int) - 4 - (k : Int) * 2) (decide (0 ≤ (E : Int) - 4 - (k : Int) * 2)) = (a, b', d) := ⟨_, _, _, rfl⟩
        have HFI := Lib.hid (HT.out.fin hCl rfl x)
        have HX := Lib.hid x
        clear x
        by_cases he : e' = 0
        · subst he
          by_cases hz : allZ free = true
          · have HS1 := Lib.hid (show b.length ≤ 65535 → Laid brY b (bxsOf es) from fun hs => HFI.out.1 ⟨rfl, hz⟩ hs)
            have HS2 := Lib.hid (show ∀ L, Laid brY b L → bxsOf es = L from fun L hL => (HFI.out.2 L hL).2)
            have HZ := Lib.hid hz
            clear hz HFI
            go_wp2_with (first
              | (go_at_call 70; have Kc := HRS.out.raw _ _ rfl HX.out; ((with_reducible refine Kc.mono ?_); clear Kc; rintro r w4 ⟨af, cf, rfl, ho, hs, hg⟩); have HR1 := Lib.hid hs; have HO := Lib.hid (OwnB.seq ho); have HEO1 := Lib.hid (HEO.out.rd hg HRS.out.rd (Nat.lt_succ_self g)); clear hs hg ho)
              | (go_at_call 71; refine (err_any _ g b' 0 HR1.out.rd).mono ?_; rintro r w5 ⟨rfl, rfl⟩)
              | (go_at_call 72; have Kc := noughts_any _ _ _ _ _ _ HO.out; rw [HZ.out] at Kc; ((with_reducible refine Kc.mono ?_); clear Kc; rintro r w5 ⟨rfl, rfl⟩)))
            go_ret2
            exact ⟨_, es, true, rfl, fun _ => HS1.out, fun L hL => ⟨rfl, HS2.out L hL⟩, HEO1.out.base (by have := HR1.out.g0; omega), HES.out, HR1.out.gr⟩
          · have hzb : allZ free = false := by simpa using hz
            have HNO := Lib.hid (show ∀ L, ¬ Laid brY b L from fun L hL => hz (HFI.out.2 L hL).1.2)
            have HZ := Lib.hid hzb
            clear hz hzb HFI
            go_wp2_with (first
              | (go_at_call 70; have Kc := HRS.out.raw _ _ rfl HX.out; ((with_reducible refine Kc.mono ?_); clear Kc; rintro r w4 ⟨af, cf, rfl, ho, hs, hg⟩); have HR1 := Lib.hid hs; have HO := Lib.hid (OwnB.seq ho); clear hs hg ho)
              | (go_at_call 71; refine (err_any _ g b' 0 HR1.out.rd).mono ?_; rintro r w5 ⟨rfl, rfl⟩)
              | (go_at_call 72; have Kc := noughts_any _ _ _ _ _ _ HO.out; rw [HZ.out] at Kc; ((with_reducible refine Kc.mono ?_); clear Kc; rintro r w5 ⟨rfl, rfl⟩)))
            go_ret2
            exact BEntriesR.no HNO.out HR1.out.gr
        · have heb : (e' != 0) = true := by simpa using he
          have HNO := Lib.hid (show ∀ L, ¬ Laid brY b L from fun L hL => he (HFI.out.2 L hL).1.1)
          clear he HFI
          go_wp2_with (first
            | (go_at_call 70; have Kc := HRS.out.raw _ _ rfl HX.out; ((with_reducible refine Kc.mono ?_); clear Kc; rintro r w4 ⟨af, cf, rfl, ho, hs, hg⟩); have HR1 := Lib.hid hs; clear hs hg ho)
            | (go_at_call 71; refine (err_any _ g b' e' HR1.out.rd).mono ?_; rintro r w5 ⟨rfl, rfl⟩))
          go_ret2
          exact BEntriesR.no HNO.out HR1.out.gr
  · have HNO := Lib.hid (show ∀ L, ¬ Laid brY b L from fun L hL => hh (by have h := laid_head X1.out X2.out X3.out hL; rw [← HA1.out, ← HA2.out] at h; exact h))
    rw [HA1.out, HA2.out] at hh
    have HH := Lib.hid hh
    clear hh
    go_enter Try.func60, Try.ntmps60
    go_wp2_with (go_at_call 68; have Kc := rhead_no (kind := 2) H.out hB HB.out HL.out (by decide) (by decide) X1.out X2.out X3.out HH.out; ((with_reducible refine Kc.mono ?_); clear Kc; rintro r wn3 ⟨rfl, hs⟩); have HR3 := Lib.hid hs; clear hs)
    go_ret2
    exact BEntriesR.no HNO.out HR3.out

end Go.Proofs.Ytfencmidjolgfaa
