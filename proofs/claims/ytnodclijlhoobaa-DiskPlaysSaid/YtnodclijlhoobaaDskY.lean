/-
  Layer 3: the contract of the reference's Crash. Own work.
-/
import Derived.Test.YtnodclijlhoobaaDskE
namespace Go.Proofs.Ytnodclijlhoobaa
open Go.RowKit

/-- An old page, but for those of its first k sectors that are picked. -/
def tornA (g b : ByteArray) (x : Nat) : Nat → ByteArray
  | 0 => ByteArray.empty
  | k + 1 => tornA g b x k ++ (if bitV x (k % 8) = true then b else g).extract (k * 128) (k * 128 + 128)
/-- Behind a crash: of each loose write those sectors that are picked. -/
def crashA (pk : ByteArray) (n : Nat) : Nat → List ByteArray → List (Nat × ByteArray) → List ByteArray
  | _, good, [] => good
  | i, good, x :: l => crashA pk n (i + 1) (good.set x.1 (tornA (good.getD x.1 ByteArray.empty) x.2 (pk.get! i).toNat n)) l
theorem crashA_snoc (pk : ByteArray) (n : Nat) : ∀ (l : List (Nat × ByteArray)) (i : Nat) (good : List ByteArray) (x : Nat × ByteArray),
    crashA pk n i good (l ++ [x]) = (crashA pk n i good l).set x.1 (tornA ((crashA pk n i good l).getD x.1 ByteArray.empty) x.2 (pk.get! (i + l.length)).toNat n)
  | [], _, _, _ => rfl
  | y :: l, i, good, x => by
    have h := crashA_snoc pk n l (i + 1) (good.set y.1 (tornA (good.getD y.1 ByteArray.empty) y.2 (pk.get! i).toNat n)) x
    rw [List.length_cons, show i + (l.length + 1) = i + 1 + l.length by omega]
    exact h
theorem crashA_len (pk : ByteArray) (n : Nat) : ∀ (l : List (Nat × ByteArray)) (i : Nat) (good : List ByteArray), (crashA pk n i good l).length = good.length
  | [], _, _ => rfl
  | y :: l, i, good => by rw [crashA, crashA_len pk n l]; simp
theorem tornA_size (g b : ByteArray) (x : Nat) : ∀ k, k * 128 ≤ g.size → k * 128 ≤ b.size → (tornA g b x k).size = k * 128
  | 0, _, _ => rfl
  | k + 1, h1, h2 => by
    rw [tornA, ByteArray.size_append, tornA_size g b x k (by omega) (by omega), ByteArray.size_extract]
    split <;> omega

set_option maxRecDepth 100000 in
set_option maxHeartbeats 4000000 in
theorem rcrash_ok (w : World) (s nn l : Nat) (ga : Option Addr) (gn gc : Nat) (la : Option Addr) (ln lc : Nat) (f : Int) (c : Nat) (good : List ByteArray) (loose : List (Nat × ByteArray)) (pk : ByteArray) (hp : pk.size ≤ 100000)
    (hg : Row w.heap.size w (.slice ga gn gc) good.length (good.map Value.string)) (hl : Row w.heap.size w (.slice la ln lc) loose.length (lcells loose)) (hn : loose.length ≤ 100000) (hgl : good.length ≤ 100000) (hin : ∀ x ∈ loose, x.1 < good.length)
    (hsz : ∀ x ∈ good, x.size = s) (hlz : ∀ x ∈ loose, x.2.size = s) (hs : s = nn * 128) (hs4 : s ≤ 4096) :
    Calls Try.prog 25 #[.agg (dcs s l ga gn gc la ln lc f c), .string pk] w fun r w' => ∃ ga' gc', r = .returned (.agg (dcs s l ga' gn gc' none 0 0 (-1) c)) ∧
      Row w'.heap.size w' (.slice ga' gn gc') gn ((crashA pk nn 0 good (loose.take pk.size)).map Value.string) ∧ w.grownBy w' none := by
  have hgn : gn = good.length := by obtain ⟨_, _, hv, _⟩ := hg; cases hv; rfl
  have hln : ln = loose.length := by obtain ⟨_, _, hv, _⟩ := hl; cases hv; rfl
  have hblk : good.map Value.string ≠ [] → ∀ b o, ga = some ⟨b, o, none⟩ → b ≠ w.heap.size ∧ b ≠ w.heap.size + 1 := fun hne b o e => by
    obtain ⟨b', o', hab, hlt, _⟩ := hg.at hne
    rw [e] at hab; cases hab; omega
  have HBlk := Lib.hid hblk
  have hg' : Row w.heap.size w (.slice ga gn gc) gn (good.map Value.string) := by rw [← hgn] at hg; exact hg
  have HG := Lib.hid hg'
  have HL := Lib.hid hl
  have HGn := Lib.hid hgn
  have HLn := Lib.hid hln
  have HIn := Lib.hid hin
  have hn1 : ln ≤ 100000 := by omega
  have hg1 : gn ≤ 100000 := by omega
  obtain ⟨pn, hpn⟩ : ∃ p, p = pk.size := ⟨_, rfl⟩
  obtain ⟨m, hm⟩ : ∃ m, m = min ln pn := ⟨_, rfl⟩
  have HPn := Lib.hid hpn
  have HM := Lib.hid hm
  have HS := Lib.hid hs
  have HSz := Lib.hid hsz
  have HLz := Lib.hid hlz
  clear hg hg' hl hgn hln hin hn hgl hblk hpn hm hsz hlz hs
  go_enter Try.func25, Try.ntmps25
  go_wp2
  go_loopg [5] m (fun g v wr => ∃ (k : Nat) (ga' : Option Addr) (gc' : Nat), k + g = m ∧ v = .int .i64 (k : Int) ∧ wr.heap[w.heap.size]? = some (.cells (dcs s l ga' gn gc' la ln lc f c) 32 (0, 0)) ∧ wr.heap[w.heap.size + 1]? = some (.cells (dcs 0 0 none 0 0 none 0 0 0 0) 32 (0, 0)) ∧
    Row wr.heap.size wr (.slice ga' gn gc') gn ((crashA pk nn 0 good (loose.take k)).map Value.string) ∧ ((crashA pk nn 0 good (loose.take k)).map Value.string ≠ [] → ∀ b o, ga' = some ⟨b, o, none⟩ → b ≠ w.heap.size ∧ b ≠ w.heap.size + 1) ∧
    (∀ x ∈ crashA pk nn 0 good (loose.take k), x.size = s) ∧ w.grownBy wr none)
  case atStart => exact ⟨0, ga, gc, by omega, rfl, two_lit0 _ _ _, two_lit1 _ _ _, HG.out.grown (two_grown _ _ _), HBlk.out, HSz.out, two_grown _ _ _⟩
  case round =>
    obtain ⟨k, ga', gc', hk, rfl, hbox, hres, hrow, hbl, hcs, hgr⟩ := hrel
    have HBl := Lib.hid hbl
    have HRow := Lib.hid hrow
    have HGr := Lib.hid hgr
    have HRes := Lib.hid hres
    have HBox := Lib.hid hbox
    have HCs := Lib.hid hcs
    obtain ⟨⟨b0, b1, b2, b3, b4, b5⟩, bf0, bf1, bf2, bf3, bf4, bf5⟩ := cells6 hbox
    clear hrow hgr hbox hres hbl hcs
    by_cases hlt : k < m
    · obtain ⟨g, rfl⟩ : ∃ g, gk = g + 1 := ⟨gk - 1, by omega⟩
      have hkl : k < ln := by have := HM.out; omega
      have hkp : k < pn := by have := HM.out; omega
      have hki : (k : Int) < (ln : Int) := by omega
      have hkpi : k < pk.size := by rw [← HPn.out]; exact hkp
      obtain ⟨x, hx⟩ : ∃ x, loose[k]? = some x := ⟨_, List.getElem?_eq_getElem (by have := HLn.out; omega)⟩
      have HT := Lib.hid (show crashA pk nn 0 good (loose.take (k + 1)) = (crashA pk nn 0 good (loose.take k)).set x.1 (tornA ((crashA pk nn 0 good (loose.take k)).getD x.1 ByteArray.empty) x.2 (pk.get! k).toNat nn) by
        have hkx : k < loose.length := by have := HLn.out; omega
        have e : loose.take (k + 1) = loose.take k ++ [x] := by
          rw [List.take_succ_eq_append_getElem hkx]; rw [List.getElem?_eq_getElem hkx] at hx; cases hx; rfl
        rw [e, crashA_snoc, Nat.zero_add, List.length_take, Nat.min_eq_left (by omega)])
      have HX := Lib.hid (HIn.out x (List.mem_of_getElem? hx))
      have HXz := Lib.hid (HLz.out x (List.mem_of_getElem? hx))
      have HAL := Lib.hid (crashA_len pk nn (loose.take k) 0 good)
      obtain ⟨lb, lo, rfl, hlb, hlc⟩ := (HL.out.below (fun i hi => HGr.out.block i hi (by simp))).at (fun e => by have := congrArg List.length e; rw [lcells_len, List.length_nil] at this; have := HLn.out; omega)
      obtain ⟨hx1, hx2⟩ := lcells_get loose k x hx
      have hc1 := hlc (2 * k) (by rw [lcells_len]; have := HLn.out; omega)
      have hc2 := hlc (2 * k + 1) (by rw [lcells_len]; have := HLn.out; omega)
      rw [hx1, Nat.mul_comm 2 k] at hc1
      rw [hx2, Nat.mul_comm 2 k, ← Nat.add_assoc] at hc2
      clear hlc hx1 hx2 hx
      obtain ⟨x1, x2⟩ := x
      generalize crashA pk nn 0 good (loose.take k) = cur at HRow HT HAL HBl HCs
      have HCur := Lib.hid (show cur.length = gn by rw [HAL.out, HGn.out])
      obtain ⟨gb, go, rfl, hgb, hgc⟩ := HRow.out.at (fun e => by have := congrArg List.length e; simp only [List.length_map, List.length_nil] at this; have := HX.out; have := HCur.out; have := HGn.out; omega)
      have hgx : wr.cell? ⟨gb, go + x1, none⟩ = some (.string (cur.getD x1 ByteArray.empty)) := by
        have hx1l : x1 < cur.length := by rw [HAL.out]; exact HX.out
        rw [hgc x1 (by simpa using hx1l)]; simp [List.getD_eq_getElem?_getD, List.getElem?_eq_getElem hx1l]
      have hgz : (cur.getD x1 ByteArray.empty).size = s := by
        have hx1l : x1 < cur.length := by rw [HAL.out]; exact HX.out
        rw [List.getD_eq_getElem?_getD, List.getElem?_eq_getElem hx1l]; exact HCs.out _ (List.getElem_mem hx1l)
      have hxz : x2.size = s := HXz.out
      have hx1n : (x1 : Int) < (gn : Int) := by have := HX.out; have := HGn.out; omega
      clear hgc
      generalize cur.getD x1 ByteArray.empty = old at hgx hgz HT
      have a0 := cell_alloc b0 (o := .cells #[.int .i64 (x1 : Int), .string x2] 117)
      have a2 := cell_alloc b2 (o := .cells #[.int .i64 (x1 : Int), .string x2] 117)
      have ax := cell_alloc hgx (o := .cells #[.int .i64 (x1 : Int), .string x2] 117)
      obtain ⟨xb, hxb⟩ : ∃ xb : Nat, xb = pk[k].toNat := ⟨_, rfl⟩
      have HXb := Lib.hid (show (pk.get! k).toNat = xb by rw [hxb]; simp [ByteArray.get!, hkpi]; rfl)
      have hxb8 : xb < 256 := by rw [hxb]; exact pk[k].toNat_lt
      have HXe := Lib.hid hxb
      clear hxb
      go_wp2
      go_loopg [7, 8] nn (fun g2 sv kv wr2 => ∃ j p : Nat, j + g2 = nn ∧ p = j * 128 ∧ sv = .string (tornA old x2 xb j) ∧ kv = .int .i64 (p : Int) ∧ wr2 = wr.alloc (.cells #[.int .i64 (x1 : Int), .string x2] 117))
      case atStart => exact ⟨0, 0, by omega, by omega, rfl, rfl, rfl⟩
      case round =>
        obtain ⟨j, p, hj, hp, rfl, rfl, rfl⟩ := hrel
        by_cases hjn : j < nn
        · obtain ⟨g2, rfl⟩ : ∃ g2, gk = g2 + 1 := ⟨gk - 1, by omega⟩
          have hps : p + 128 ≤ s := by have := HS.out; omega
          have hpi : (p : Int) < (s : Int) := by omega
          have hpd : (p : Int) / 128 = (j : Int) := by omega
          obtain ⟨r, hr⟩ : ∃ r, r = j % 8 := ⟨_, rfl⟩
          have hri : (j : Int) % 8 = (r : Int) := by omega
          have hr8 : r ≤ 1000 := by omega
          have HTs := Lib.hid (tornA_size old x2 xb j (by rw [hgz]; omega) (by rw [hxz]; omega))
          have HTn := Lib.hid (show tornA old x2 xb (j + 1) = tornA old x2 xb j ++ (if bitV xb r = true then x2 else old).extract p (p + 128) by rw [tornA, hr, hp])
          have HP := Lib.hid hp
          clear hp hr
          generalize tornA old x2 xb j = acc at HTs HTn ⊢
          cases hbv : bitV xb r with
          | true =>
            have K := fun W => rbit_any W xb r hxb8 hr8
            rw [hbv, HXe.out] at K
            have HK := Lib.hid K
            rw [hbv] at HTn
            clear hbv K
            have hacc : ¬ 9223372036854775807 < acc.size + 128 := by have := HTs.out; omega
            go_wp2_with (first | (go_at_call 59; refine (HK.out _).mono ?_; rintro e w' ⟨rfl, rfl⟩))
            go_roundg g2
            case measure => omega
            case rel => exact ⟨j + 1, p + 128, by omega, by rw [HP.out]; omega, by rw [HTn.out]; rfl, by go_num, rfl⟩
          | false =>
            have K := fun W => rbit_any W xb r hxb8 hr8
            rw [hbv, HXe.out] at K
            have HK := Lib.hid K
            rw [hbv] at HTn
            clear hbv K
            have hacc : ¬ 9223372036854775807 < acc.size + 128 := by have := HTs.out; omega
            go_wp2_with (first | (go_at_call 59; refine (HK.out _).mono ?_; rintro e w' ⟨rfl, rfl⟩))
            go_roundg g2
            case measure => omega
            case rel => exact ⟨j + 1, p + 128, by omega, by rw [HP.out]; omega, by rw [HTn.out]; rfl, by go_num, rfl⟩
        · obtain rfl : j = nn := by omega
          have HRw : Hid (Row (wr.alloc (.cells #[.int .i64 (x1 : Int), .string x2] 117)).heap.size (wr.alloc (.cells #[.int .i64 (x1 : Int), .string x2] 117)) (.slice (some ⟨gb, go, none⟩) gn gc') cur.length (cur.map Value.string)) := Lib.hid (by
            have h := HRow.out.grown (World.grownBy_alloc wr (.cells #[.int .i64 (x1 : Int), .string x2] 117) none)
            rw [HCur.out]; exact h)
          have HX1 := Lib.hid (show x1 < cur.length by rw [HAL.out]; exact HX.out)
          have HX2 := Lib.hid (show cur.length ≤ 100000 by rw [HCur.out]; exact hg1)
          have hsn : ¬ (p : Int) < (s : Int) := by have := HS.out; omega
          have hTz := tornA_size old x2 xb j (by rw [hgz]; have := HS.out; omega) (by rw [hxz]; have := HS.out; omega)
          have HTz := Lib.hid (show (tornA old x2 xb j).size = s by rw [hTz]; exact HS.out.symm)
          rw [HXb.out] at HT
          clear hp hTz
          generalize tornA old x2 xb j = ts at HT HTz ⊢
          go_wp2_with (first
            | (go_at_call 57; have K1 := rset_any _ (.slice (some ⟨gb, go, none⟩) gn gc') cur x1 ts HRw.out HX1.out HX2.out; rw [HCur.out] at K1; ((with_reducible refine K1.mono ?_); clear K1; rintro r w2 ⟨a3, c3, rfl, hr2, hg2, hnew⟩; have HNew := Lib.hid hnew; clear hnew; have hgw : wr.grownBy w2 none := gtrans (World.grownBy_alloc _ _ _) hg2; have hbox2 := (hgw.block w.heap.size (lt_of_block HBox.out) (by simp)).trans HBox.out; have hres2 := (hgw.block (w.heap.size + 1) (lt_of_block HRes.out) (by simp)).trans HRes.out; obtain ⟨⟨_, _, y2, _, _, _⟩, _, _, yf2, _, _, _⟩ := cells6 hbox2; have HB2 := Lib.hid hbox2; have HR2 := Lib.hid hres2; have HG2 := Lib.hid (gtrans HGr.out hgw); have HRow2 := Lib.hid hr2; clear hbox2 hres2 hg2 hr2 hgw)))
          go_roundg g
          case measure => omega
          case rel =>
            have h2 : w.heap.size + 1 < wr.heap.size := lt_of_block HRes.out
            have h3 : (wr.alloc (.cells #[.int .i64 (x1 : Int), .string x2] 117)).heap.size = wr.heap.size + 1 := by simp
            refine ⟨k + 1, a3, c3, by omega, by go_num, heap_setCell_same _ w.heap.size 2 _ _ _ HB2.out, (heap_setCell_other _ _ _ _ (by simp)).trans HR2.out, ?_, ?_, ?_, gnew HG2.out (gset _ _ _) (Nat.le_refl _)⟩
            · rw [HT.out]
              refine (HRow2.out.setCell ⟨w.heap.size, 2, none⟩ _ fun _ b o e => ?_).mono (by simp [World.setCell])
              have h1 := HNew.out b o e
              show b ≠ w.heap.size
              omega
            · intro _ b o e
              have h1 := HNew.out b o e
              omega
            · rw [HT.out]
              intro z hz
              rcases List.mem_or_eq_of_mem_set hz with hz | rfl
              · exact HCs.out z hz
              · exact HTz.out
    · obtain rfl : k = m := by omega
      have hor : ln ≤ k ∨ pn ≤ k := by have := HM.out; omega
      have HT := Lib.hid (show crashA pk nn 0 good (loose.take k) = crashA pk nn 0 good (loose.take pk.size) by
        congr 1
        rw [← HPn.out]
        rcases hor with h | h
        · rw [List.take_of_length_le (by rw [← HLn.out]; exact h), List.take_of_length_le (by have := HM.out; have := HLn.out; omega)]
        · have : k = pn := by have := HM.out; omega
          rw [this])
      rw [HT.out] at HRow HBl
      obtain ⟨⟨r0, r1, r2, r3, r4, r5⟩, rf0, rf1, rf2, rf3, rf4, rf5⟩ := cells6 HRes.out
      have hpp : pn = pk.size := HPn.out
      by_cases hc : k < ln
      · have hci : (k : Int) < (ln : Int) := by omega
        have hd1 : decide (k < pk.size) = false := by simp; omega
        have hd2 : ¬ k < pk.size := by omega
        have hd3 : ¬ (k : Int) < (pk.size : Int) := by omega
        clear hpp hor
        go_wp2
        all_goals
          have hr1 := (heap_setCell_other _ ⟨w.heap.size, 4, none⟩ (w.heap.size + 1) (.int .i64 (-1)) (by simp)).trans ((heap_setCell_other wr ⟨w.heap.size, 3, none⟩ (w.heap.size + 1) (.slice none 0 0) (by simp)).trans HRes.out)
          have k2 := grown6 ((wr.setCell ⟨w.heap.size, 3, none⟩ (.slice none 0 0)).setCell ⟨w.heap.size, 4, none⟩ (.int .i64 (-1))) (w.heap.size + 1) (.int .i64 (s : Int)) (.int .i64 (l : Int)) (.slice ga' gn gc') (.slice none 0 0) (.int .i64 (-1)) (.int .i64 (c : Int))
          refine bodyPost_ret (results_D1 rfl _ _ (w.heap.size + 1) _ rfl (store6 hr1 _ _ _ _ _ _) rfl) rfl ⟨ga', gc', rfl, ?_, gnew (gnew (gnew HGr.out (gset _ _ _) (Nat.le_refl _)) (gset _ _ _) (Nat.le_refl _)) k2 (by omega)⟩
          have h1 := (HRow.out.setCell ⟨w.heap.size, 3, none⟩ (.slice none 0 0) (fun hne b o e => (HBl.out hne b o e).1)).setCell ⟨w.heap.size, 4, none⟩ (.int .i64 (-1)) (fun hne b o e => (HBl.out hne b o e).1)
          have hq : ∀ hne : (crashA pk nn 0 good (loose.take pk.size)).map Value.string ≠ [], ∀ b o, ga' = some ⟨b, o, none⟩ → b ≠ w.heap.size + 1 := fun hne b o e => (HBl.out hne b o e).2
          have h2 := (((((h1.setCell ⟨w.heap.size + 1, 0, none⟩ (.int .i64 (s : Int)) hq).setCell ⟨w.heap.size + 1, 1, none⟩ (.int .i64 (l : Int)) hq).setCell ⟨w.heap.size + 1, 2, none⟩ (.slice ga' gn gc') hq).setCell ⟨w.heap.size + 1, 3, none⟩ (.slice none 0 0) hq).setCell ⟨w.heap.size + 1, 4, none⟩ (.int .i64 (-1)) hq).setCell ⟨w.heap.size + 1, 5, none⟩ (.int .i64 (c : Int)) hq
          exact h2.mono (Nat.le_trans (gtrans (gset wr ⟨w.heap.size, 3, none⟩ (.slice none 0 0)) (gset _ ⟨w.heap.size, 4, none⟩ (.int .i64 (-1)) : World.grownBy _ _ (some w.heap.size))).size k2.size)
      · have hci : ¬ (k : Int) < (ln : Int) := by omega
        have hcd : decide (k < ln) = false := by simp; omega
        clear hpp hor
        go_wp2
        all_goals
          have hr1 := (heap_setCell_other _ ⟨w.heap.size, 4, none⟩ (w.heap.size + 1) (.int .i64 (-1)) (by simp)).trans ((heap_setCell_other wr ⟨w.heap.size, 3, none⟩ (w.heap.size + 1) (.slice none 0 0) (by simp)).trans HRes.out)
          have k2 := grown6 ((wr.setCell ⟨w.heap.size, 3, none⟩ (.slice none 0 0)).setCell ⟨w.heap.size, 4, none⟩ (.int .i64 (-1))) (w.heap.size + 1) (.int .i64 (s : Int)) (.int .i64 (l : Int)) (.slice ga' gn gc') (.slice none 0 0) (.int .i64 (-1)) (.int .i64 (c : Int))
          refine bodyPost_ret (results_D1 rfl _ _ (w.heap.size + 1) _ rfl (store6 hr1 _ _ _ _ _ _) rfl) rfl ⟨ga', gc', rfl, ?_, gnew (gnew (gnew HGr.out (gset _ _ _) (Nat.le_refl _)) (gset _ _ _) (Nat.le_refl _)) k2 (by omega)⟩
          have h1 := (HRow.out.setCell ⟨w.heap.size, 3, none⟩ (.slice none 0 0) (fun hne b o e => (HBl.out hne b o e).1)).setCell ⟨w.heap.size, 4, none⟩ (.int .i64 (-1)) (fun hne b o e => (HBl.out hne b o e).1)
          have hq : ∀ hne : (crashA pk nn 0 good (loose.take pk.size)).map Value.string ≠ [], ∀ b o, ga' = some ⟨b, o, none⟩ → b ≠ w.heap.size + 1 := fun hne b o e => (HBl.out hne b o e).2
          have h2 := (((((h1.setCell ⟨w.heap.size + 1, 0, none⟩ (.int .i64 (s : Int)) hq).setCell ⟨w.heap.size + 1, 1, none⟩ (.int .i64 (l : Int)) hq).setCell ⟨w.heap.size + 1, 2, none⟩ (.slice ga' gn gc') hq).setCell ⟨w.heap.size + 1, 3, none⟩ (.slice none 0 0) hq).setCell ⟨w.heap.size + 1, 4, none⟩ (.int .i64 (-1)) hq).setCell ⟨w.heap.size + 1, 5, none⟩ (.int .i64 (c : Int)) hq
          exact h2.mono (Nat.le_trans (gtrans (gset wr ⟨w.heap.size, 3, none⟩ (.slice none 0 0)) (gset _ ⟨w.heap.size, 4, none⟩ (.int .i64 (-1)) : World.grownBy _ _ (some w.heap.size))).size k2.size)

end Go.Proofs.Ytnodclijlhoobaa
