/-
  SpaceFull: as many pages are taken as are usable, and up to the limit; then none, until one is given back. Proved for every input, no condition.
-/
import Derived.Test.YtdljclifjbnbjaaSpcX
namespace Go.Proofs.Ytdljclifjbnbjaa
open Go.RowKit Go.Maps

theorem OwnP.sfr {B base : Nat} {w w' : World} {v : Value} {ps : List Nat} (h : OwnP base w v ps) (k : Sfr B w w') (hb : B + 5 ≤ base) : OwnP base w' v ps := by
  refine ⟨⟨h.1.1, ?_⟩, h.2⟩
  rcases h.1.2 with hn | ⟨g, cap, cur, rfl, hg, hgg, r⟩
  · exact .inl hn
  · exact .inr ⟨g, cap, cur, rfl, hg, (k.block g (lt_of_block hgg) (.inr (by omega))).trans hgg, r⟩
theorem SpAt.own {B H base size n : Nat} {e : TypeId} {w w' : World} {M : Sp} {v : Value} {xs : List Value} (h : SpAt B H w M) (hr : w.ownsRow base e size v n xs) (k : w.grownBy w' v.ownBlock) (hH : H ≤ base) (hB : B + 5 ≤ base) : SpAt B H w' M := by
  cases hv : v.ownBlock with
  | none => rw [hv] at k; exact h.grown k
  | some r => rw [hv] at k; have := (hr.lt r hv).1; exact h.far k (by omega) (by omega)
theorem take_at {H : Nat} (w : World) (B : Nat) (M M' : Sp) (p : Nat) (e : Int) (h : SpAt B H w M) (hlow : ∀ x ∈ M.us, M.low ≤ x) (hen : M.en ≤ M.lim) (hlim : M.lim ≤ 65536) (ht : takeM M = (M', p, e)) :
    Calls Try.prog 15 #[.pointer (some ⟨B + 4, 0, none⟩)] w fun r w' => OpR B H w M' (.tuple #[.int .u32 (p : Int), .int .i64 e]) r w' := by
  have K := take_any w B M h hlow hen hlim
  rw [ht] at K
  exact K
theorem take_full {H : Nat} (w : World) (B : Nat) (M : Sp) (h : SpAt B H w M) (hlow : ∀ x ∈ M.us, M.low ≤ x) (hen : M.en ≤ M.lim) (hlim : M.lim ≤ 65536) (ht : takeM M = (M, 0, 21)) :
    Calls Try.prog 15 #[.pointer (some ⟨B + 4, 0, none⟩)] w fun r w' => OpR B H w M (.tuple #[.int .u32 0, .int .i64 21]) r w' := take_at w B M M 0 21 h hlow hen hlim ht
theorem give_at {H : Nat} (w : World) (B : Nat) (M M' : Sp) (p : Nat) (e : Int) (h : SpAt B H w M) (hp : p < 4294967296) (ht : giveM M p = (M', e)) :
    Calls Try.prog 17 #[.pointer (some ⟨B + 4, 0, none⟩), .int .u32 (p : Int)] w fun r w' => OpR B H w M' (.int .i64 e) r w' := by
  have K := give_any w B M h p hp
  rw [ht] at K
  exact K
theorem fresh_at {H : Nat} (w : World) (B : Nat) (M : Sp) (p : Nat) (b : Bool) (h : SpAt B H w M) (hp : p < 4294967296) (hb : decide (p ∈ M.fr) = b) :
    Calls Try.prog 19 #[.pointer (some ⟨B + 4, 0, none⟩), .int .u32 (p : Int)] w fun r w' => r = .returned (.bool b) ∧ w.grownBy w' none := by
  subst hb
  exact fresh_any w B M h p hp
theorem end_at {H : Nat} (w : World) (B : Nat) (M : Sp) (E : Nat) (h : SpAt B H w M) (hE : M.en = E) :
    Calls Try.prog 20 #[.pointer (some ⟨B + 4, 0, none⟩)] w fun r w' => r = .returned (.int .u32 (E : Int)) ∧ w = w' := by
  subst hE
  exact end_any w B M h
theorem usable_at {H : Nat} (w : World) (B : Nat) (M : Sp) (n : Nat) (h : SpAt B H w M) (hn : M.us.length = n) :
    Calls Try.prog 24 #[.pointer (some ⟨B + 4, 0, none⟩)] w fun r w' => r = .returned (.int .i64 (n : Int)) ∧ w = w' := by
  subst hn
  exact usable_any w B M h

theorem new_full (w : World) (R : Nat → Prop) (ao : Option Addr) (n0 c n mo : Nat) (L : List Nat) (hs : RSq R w (.slice ao n0 c) (fullR L)) (h1 : 2 ≤ n) (h3 : n + mo ≤ 65536) (hL : Srt L) (hr : ∀ x ∈ L, 2 ≤ x ∧ x < n) :
    Calls Try.prog 11 #[.int .u32 (n : Int), .int .u32 ((n : Int) + (mo : Int)), .slice ao n0 c, .int .u64 1] w fun r w' => ∃ B, r = .returned (.tuple #[.pointer (some ⟨B + 4, 0, none⟩), .int .i64 0]) ∧ w.heap.size ≤ B ∧ SpAt B w'.heap.size w' { en := n, lim := n + mo, low := 2, us := L, fr := [], go := [], wa := [], ws := [] } ∧ w.grownBy w' none := by
  have K := new_good w R ao n0 c n (n + mo) 1 (fullR L) hs h1 (by omega) h3 (fullR_right hL hr) (by decide)
  rw [show (((n + mo : Nat)) : Int) = (n : Int) + (mo : Int) by omega, show ((1 : Nat) : Int) = 1 from rfl] at K
  refine K.mono ?_
  rintro r w' ⟨B, wv, es, rfl, hB, hN, hg⟩
  have ha := hN.at
  rw [fullR_sp hL] at ha
  exact ⟨B, rfl, hB, ha, hg⟩
theorem recs_none {H : Nat} (w : World) (B : Nat) (M : Sp) (h : SpAt B H w M) (h1 : M.us = []) (h2 : M.go = []) (h3 : M.ws = []) (h4 : recsM M 9 = []) :
    Calls Try.prog 22 #[.pointer (some ⟨B + 4, 0, none⟩), .int .u64 9] w fun r w' => (∃ a c, r = .returned (.slice a 0 c)) ∧ w.grownBy w' none := by
  have K := records_any 12 sort_few (by decide) w B 9 M h (by rw [h1]; decide) (by rw [h2]; decide) (fun r hr => by rw [h3] at hr; cases hr) (by rw [h3]; decide) (by decide)
  refine K.mono ?_
  rintro r w' ⟨v, es, rfl, ho, he, hg⟩
  rw [h4] at he
  have he0 : es = [] := by simpa using he
  subst he0
  obtain ⟨a, c, rfl⟩ := own_shape ho.row
  exact ⟨⟨a, c, rfl⟩, hg⟩

set_option maxRecDepth 100000 in
set_option maxHeartbeats 8000000 in
theorem full_any (W : World) (a m : Int) (ao : Option Addr) (fn fc : Nat) (zs : List Nat) (ha0 : 0 ≤ a) (ha1 : a ≤ 255) (hm0 : 0 ≤ m) (hm1 : m ≤ 255) (h : PSq (fun b => b < W.heap.size) W (.slice ao fn fc) zs) :
    Calls Try.prog 5 #[.int .u8 a, .int .u8 m, .slice ao fn fc] W fun r w' => r = .returned (.bool true) ∧ Below W.heap.size W w' := by
  obtain ⟨hfn, hfm⟩ := h.len
  have Hz := Lib.hid h
  have HFN := Lib.hid hfn
  have hfm2 : (fn : Int) ≤ 9223372036854775807 := by have h9 : maxLen ≤ 9223372036854775807 := by decide
                                                     omega
  obtain ⟨U, hU⟩ : ∃ U : Nat, a % 30 = (U : Int) := ⟨(a % 30).toNat, by omega⟩
  obtain ⟨mo, hmo⟩ : ∃ mo : Nat, m % 30 = (mo : Int) := ⟨(m % 30).toNat, by omega⟩
  have hU30 : U < 30 := by omega
  have hmo30 : mo < 30 := by omega
  obtain ⟨n, hn⟩ : ∃ n : Nat, (U : Int) + 2 = (n : Int) := ⟨U + 2, by omega⟩
  have hn2 : 2 ≤ n := by omega
  have hn32 : n < 32 := by omega
  obtain ⟨i0, hi, hz0, hz1, hz2⟩ := info_parts infoPage
  obtain ⟨j0, hj, hw0, hw1, hw2⟩ := info_parts infoRec
  clear h hfn hfm
  go_enter Try.func5, Try.ntmps5
  go_wp2_with (first
    | (go_at_call 8; (with_reducible refine (awake8_any W).mono ?_); rintro r w1 ⟨rfl, hg⟩; have HG1 := Lib.hid hg; clear hg))
  simp only [hU, hmo]
  go_loopg [10, 11] (n - 2) (fun g lv pv wr => ∃ q : Nat, q + g = n ∧ 2 ≤ q ∧ pv = .int .u32 (q : Int) ∧ OwnP W.heap.size wr lv (fullL zs q) ∧ W.grownBy wr none)
  case atStart => exact ⟨2, by omega, Nat.le_refl _, rfl, ⟨World.ownsRow_nil _ _ _ _, fun p hp => by cases hp⟩, HG1.out⟩
  case round =>
    obtain ⟨q, hq, hq2, rfl, hop, hg⟩ := hrel
    have HOP := Lib.hid hop
    have HG := Lib.hid hg
    clear hop hg
    obtain ⟨wx, rfl⟩ : ∃ wx, wx = wr := ⟨_, rfl⟩
    obtain ⟨g1, rfl⟩ : ∃ g1, g1 = gk := ⟨_, rfl⟩
    obtain ⟨lv, rfl⟩ : ∃ lv, lv = u10 := ⟨_, rfl⟩
    by_cases hlt : q < n
    · have hqi : (q : Int) < (n : Int) := by omega
      go_wp2
      go_loopg [10, 12] 20 (fun g2 lv2 iv wr2 => ∃ i : Nat, i + g2 = 20 ∧ lv = lv2 ∧ iv = .int .i64 (i : Int) ∧ (∀ j, j < i → zs.getD j 0 % 30 ≠ q) ∧ i ≤ fn ∧ wx = wr2)
      case atStart => exact ⟨0, by omega, rfl, rfl, (fun j hj => absurd hj (Nat.not_lt_zero j)), Nat.zero_le _, rfl⟩
      case round =>
        obtain ⟨i, hi20, rfl, rfl, hno, hif, rfl⟩ := hrel
        have HNO := Lib.hid hno
        obtain ⟨g2, rfl⟩ : ∃ g2, g2 = gk := ⟨_, rfl⟩
        clear hno
        by_cases hlf : i < fn
        · have hli : (i : Int) < (fn : Int) := by omega
          by_cases h20 : i < 20
          · have h20i : (i : Int) < 20 := by omega
            have hiz : i < zs.length := by rw [← HFN.out]; exact hlf
            obtain ⟨b, o, rfl, _, c0⟩ := (Hz.out.grown HG.out).at i hiz
            have hz32 := Hz.out.u32 (zs.getD i 0) (by rw [List.getD_eq_getElem?_getD, List.getElem?_eq_getElem hiz]; exact List.getElem_mem _)
            obtain ⟨z, hz⟩ : ∃ z, z = zs.getD i 0 := ⟨_, rfl⟩
            rw [← hz] at c0 hz32
            have HZ := Lib.hid hz
            clear hz
            by_cases hzq : z % 30 = q
            · have hzi : (z : Int) % 30 = (q : Int) := by omega
              have HY := Lib.hid (fullL_yes hq2 (hit_yes (zs := zs) hiz h20 (by rw [← HZ.out]; exact hzq)))
              go_wp2_with (first
                | (at_builtin; refine wpList_append_own _ rfl _ _ 63 rfl W.heap.size 36 i0 (.int .u32 0) 1 4 Try.underlying63 hi hz0 hz1 hz2 rfl (by decide) _ (fullL zs q).length _ rfl (HOP.out.1.alloc _) ⟨wx.heap.size, 0, none⟩ 1 1 [encP q] rfl rfl (cell_one_new _ _ _) (by simp [Value.oneCell', encP]) (by have := fullL_len zs q; unfold maxLen; omega) (by have := fullL_len zs q; omega) (by have := HG.out.size; simp; omega) ?_; intro v' w6 hown' hgrow _; have HO6 := Lib.hid hown'; have HG6 := Lib.hid hgrow; clear hown' hgrow))
              go_roundg (g1 - 1)
              case rel =>
                have ga := World.grownBy_alloc wx (.cells #[encP q] 36) none
                refine ⟨q + 1, by omega, by omega, by simp, ?_, grow_own (gtrans HG.out ga) (World.ownsRow.alloc HOP.out.1 _) HG6.out (Nat.le_refl _)⟩
                rw [HY.out]
                refine ⟨by simpa using HO6.out, fun x hx => ?_⟩
                rcases List.mem_append.1 hx with e | e
                · exact HOP.out.2 x e
                · have : x = q := by simpa using e
                  omega
              case measure => omega
            · have hzi : ¬ (z : Int) % 30 = (q : Int) := by omega
              go_wp2
              go_roundg (g2 - 1)
              case rel =>
                refine ⟨i + 1, by omega, rfl, by simp, fun j hj => ?_, hlf, rfl⟩
                rcases Nat.lt_or_ge j i with e | e
                · exact HNO.out j e
                · obtain rfl : j = i := by omega
                  rw [← HZ.out]; exact hzq
              case measure => omega
          · have h20i : ¬ (i : Int) < 20 := by omega
            have HY := Lib.hid (fullL_no hq2 (hit_no (zs := zs) (.inr h20) HNO.out))
            go_wp2
            go_roundg (g1 - 1)
            case rel => exact ⟨q + 1, by omega, by omega, by simp, by rw [HY.out]; exact HOP.out, HG.out⟩
            case measure => omega
        · have hli : ¬ (i : Int) < (fn : Int) := by omega
          have HY := Lib.hid (fullL_no hq2 (hit_no (zs := zs) (.inl (by rw [← HFN.out]; exact hlf)) HNO.out))
          go_wp2
          go_roundg (g1 - 1)
          case rel => exact ⟨q + 1, by omega, by omega, by simp, by rw [HY.out]; exact HOP.out, HG.out⟩
          case measure => omega
    · have hqi : ¬ (q : Int) < (n : Int) := by omega
      obtain rfl : n = q := by omega
      have hLs := fullL_srt zs n
      have hLr : ∀ x ∈ fullL zs n, 2 ≤ x ∧ x < n := fun x hx => fullL_range hx
      have hLl := fullL_len zs n
      have hop := HOP.out
      obtain ⟨L, hL⟩ : ∃ L, L = fullL zs n := ⟨_, rfl⟩
      rw [← hL] at hLs hLr hLl hop
      obtain ⟨ta, tc, htv⟩ := own_shape hop.1
      obtain ⟨ln, hln⟩ : ∃ ln, ln = L.length := ⟨_, rfl⟩
      rw [← hln] at htv hLl
      subst htv
      have HO := Lib.hid hop
      have HLs := Lib.hid hLs
      have HLr := Lib.hid hLr
      have HLN := Lib.hid hln
      clear HOP hop hLs hLr hln hL
      by_cases hl0 : ln = 0
      · have hl0i : ¬ (0 : Int) < (ln : Int) := by omega
        have hL0 : L = [] := List.eq_nil_of_length_eq_zero (by rw [← HLN.out]; exact hl0)
        have HRS := Lib.hid (show RSq (fun _ => True) wx (.slice none 0 0) (fullR L) by rw [hL0]; exact rsq_nil _ _)
        have HO3 := HO
        have HG3 := HG
        obtain ⟨w3, hw3⟩ : ∃ w3, w3 = wx := ⟨_, rfl⟩
        subst hw3
        go_wp2_with (first
          | (go_at_call 11; (with_reducible refine (new_full w3 _ _ _ _ n mo L HRS.out hn2 (by omega) HLs.out HLr.out).mono ?_); rintro r w4 ⟨B, rfl, hB, hs1, hg⟩; have HG4 := Lib.hid (gtrans HG3.out hg); have HG34 := Lib.hid hg; have HS1 := Lib.hid hs1; have hWB := Lib.hid hB; clear hg hs1 hB)
          | (go_at_call 24; (with_reducible refine (usable_at w4 B _ _ HS1.out HLN.out.symm).mono ?_); rintro r wq ⟨rfl, rfl⟩))
        have hB := hWB.out
        have hW3 := HG3.out.size
        have KEEP : ∀ wx, Sfr B w4 wx → ∀ k, k < ln → ∃ b o, ta = some ⟨b, o, none⟩ ∧ wx.cell? ⟨b, o + k, none⟩ = some (.int .u32 ((L.getD k 0 : Nat) : Int)) := fun wx hx k hk => by
          obtain ⟨b, o, hta, _, c0⟩ := HO3.out.psq.at k (by have := HLN.out; omega)
          have hbl := World.block_lt_of_cell? _ _ c0
          exact ⟨b, o, hta, (World.cell?_of_block (w := w3) ((hx.block b (Nat.lt_of_lt_of_le hbl HG34.out.size) (.inl (Nat.lt_of_lt_of_le hbl hB))).trans (HG34.out.block b hbl (by simp)))).trans c0⟩
        have HKEEP := Lib.hid KEEP
        have HI := Lib.hid (full_start (mo := mo) HLr.out hn2)
        clear KEEP
        go_loopg [16, 17] (ln + mo) (fun g lastv iv wr => ∃ (k last : Nat) (M : Sp), k + g = ln + mo ∧ lastv = .int .u32 (last : Int) ∧ iv = .int .i64 (k : Int) ∧ FullInv n mo L k M last ∧ SpAt B w4.heap.size wr M ∧ Sfr B w4 wr)
        case atStart => exact ⟨0, 0, _, by omega, rfl, rfl, HI.out, HS1.out, Sfr.refl _ _⟩
        case round =>
          obtain ⟨k, last, M, hk, rfl, rfl, hfi, hS, hsf⟩ := hrel
          have HFI := Lib.hid hfi
          have HSx := Lib.hid hS
          have HSf := Lib.hid hsf
          obtain ⟨w5, rfl⟩ : ∃ wx, wx = wr := ⟨_, rfl⟩
          obtain ⟨g1, rfl⟩ : ∃ g1, g1 = gk := ⟨_, rfl⟩
          clear hfi hS hsf
          by_cases hlt : k < ln + mo
          · have hki : (k : Int) < (ln : Int) + (mo : Int) := by omega
            obtain ⟨M', p, hT, hlp, hLk, hfi2⟩ := full_step HFI.out HLs.out HLr.out (by rw [← HLN.out]; exact hlt)
            have HT := Lib.hid hT
            have HLK := Lib.hid hLk
            have HFI2 := Lib.hid hfi2
            have hlpi : ¬ (p : Int) ≤ (last : Int) := by omega
            clear hT hLk hfi2
            by_cases hkl : k < ln
            · omega
            · have hkli : ¬ (k : Int) < (ln : Int) := by omega
              go_wp2_with (first
                | (go_at_call 15; (with_reducible refine (take_at w5 B M M' p 0 HSx.out HFI.out.low (by rw [HFI.out.lim, HFI.out.en, ← HLN.out]; omega) (by rw [HFI.out.lim]; omega) HT.out).mono ?_); rintro r w6 ⟨rfl, hs, hsf⟩; have HS6 := Lib.hid hs; have HF6 := Lib.hid (HSf.out.trans hsf); clear hs hsf))
              go_roundg (g1 - 1)
              case rel => exact ⟨k + 1, p, M', by omega, rfl, by simp, HFI2.out, HS6.out, HF6.out⟩
              case measure => omega
          · have hki : ¬ (k : Int) < (ln : Int) + (mo : Int) := by omega
            have hke : k = L.length + mo := by have := HLN.out; omega
            obtain ⟨hT, hen⟩ := full_end HFI.out hke
            have HT := Lib.hid hT
            have HEN := Lib.hid hen
            have HKE := Lib.hid hke
            clear hT hen hke
            by_cases hl0 : last = 0
            · subst hl0
              go_wp2_with (first
                | (go_at_call 15; (with_reducible refine (take_full w5 B M HSx.out HFI.out.low (by rw [HEN.out, HFI.out.lim]; omega) (by rw [HFI.out.lim]; omega) HT.out).mono ?_); rintro r w6 ⟨rfl, hs, hsf⟩; have HS6 := Lib.hid hs; have HF6 := Lib.hid (HSf.out.trans hsf); clear hs hsf)
                | (go_at_call 20; (with_reducible refine (end_at w6 B M _ HS6.out HEN.out).mono ?_); rintro r wq ⟨rfl, rfl⟩))
              go_ret
              exact ⟨rfl, gbelow (HF6.out.grown HG4.out (Nat.le_trans HG3.out.size hWB.out))⟩
            · have hl0i : ¬ (last : Int) = 0 := by omega
              obtain ⟨M1, M2, hg0, hlow1, hen1, hlim1, ht2, hu2, hgo2, hws2, hr2⟩ := full_again HFI.out HKE.out hl0
              have HG0 := Lib.hid hg0
              have HLO1 := Lib.hid hlow1
              have HEN1 := Lib.hid hen1
              have HLIM1 := Lib.hid hlim1
              have HT2 := Lib.hid ht2
              have HU2 := Lib.hid hu2
              have HGO2 := Lib.hid hgo2
              have HWS2 := Lib.hid hws2
              have HR2 := Lib.hid hr2
              have hl32 : last < 4294967296 := by have h1 := HFI.out.top; have h2 := HEN.out; omega
              clear hg0 hlow1 hen1 hlim1 ht2 hu2 hgo2 hws2 hr2
              go_wp2_with (first
                | (go_at_call 15; (with_reducible refine (take_full w5 B M HSx.out HFI.out.low (by rw [HEN.out, HFI.out.lim]; omega) (by rw [HFI.out.lim]; omega) HT.out).mono ?_); rintro r w6 ⟨rfl, hs, hsf⟩; have HS6 := Lib.hid hs; have HF6 := Lib.hid (HSf.out.trans hsf); clear hs hsf)
                | (go_at_call 20; (with_reducible refine (end_at w6 B M _ HS6.out HEN.out).mono ?_); rintro r wq ⟨rfl, rfl⟩)
                | (go_at_call 17; (with_reducible refine (give_at w6 B M M1 last 0 HS6.out hl32 HG0.out).mono ?_); rintro r w7 ⟨rfl, hs, hsf⟩; have HS7 := Lib.hid hs; have HF7 := Lib.hid (HF6.out.trans hsf); clear hs hsf)
                | (go_at_call 15; (with_reducible refine (take_at w7 B M1 M2 last 0 HS7.out HLO1.out (by rw [HEN1.out, HLIM1.out]; omega) (by rw [HLIM1.out]; omega) HT2.out).mono ?_); rintro r w8 ⟨rfl, hs, hsf⟩; have HS8 := Lib.hid hs; have HF8 := Lib.hid (HF7.out.trans hsf); clear hs hsf)
                | (go_at_call 22; (with_reducible refine (recs_none w8 B M2 HS8.out HU2.out HGO2.out HWS2.out HR2.out).mono ?_); rintro r w9 ⟨⟨ra, rc, rfl⟩, hg⟩; have HF9 := Lib.hid (HF8.out.trans (Sfr.of hg)); clear hg))
              go_ret
              exact ⟨rfl, gbelow (HF9.out.grown HG4.out (Nat.le_trans HG3.out.size hWB.out))⟩
      · have hl0i : (0 : Int) < (ln : Int) := by omega
        have hLne := Lib.hid (show ¬ L = [] from fun e => hl0 (by rw [HLN.out, e]; rfl))
        go_wp2_with (first
          | (at_builtin; refine wpList_append_own _ rfl _ _ 28 rfl W.heap.size 65 j0 (.agg #[.int .u64 0, .slice none 0 0]) 2 32 Try.underlying28 hj hw0 hw1 hw2 rfl (by decide) _ 0 [] rfl ((World.ownsRow_nil _ _ _ _ : wx.ownsRow W.heap.size 65 2 (.slice none 0 0) 0 []).alloc _) ⟨wx.heap.size, 0, none⟩ 1 1 (rcl (.slice ta ln tc, (1, []))) rfl rfl (lit2 wx 1 (.slice ta ln tc)) (one2 ta ln tc 1) (by decide) (by omega) (by have := HG.out.size; simp; omega) ?_; intro v' w3 hown' hgrow _; have hp3 : OwnP W.heap.size (wx.alloc (.cells #[.int .u64 1, .slice ta ln tc] 65)) (.slice ta ln tc) L := HO.out.grown (World.grownBy_alloc wx _ none); have hRc := (RcOwns.nil W.heap.size (wx.alloc (.cells #[.int .u64 1, .slice ta ln tc] 65))).push (y := (.slice ta ln tc, (1, L))) hp3 (show (1 : Nat) < 18446744073709551616 by decide) hown' hgrow; have HO3 := Lib.hid (hRc.each _ (List.mem_singleton.2 rfl)).1; have hrs : RSq (fun b => W.heap.size ≤ b) w3 v' (fullR L) := (by rw [show fullR L = [(1, L)] from if_neg hLne.out]; exact hRc.rsq); have HRS := Lib.hid hrs; have HG3 := Lib.hid (gtrans HG.out (gtrans (World.grownBy_alloc wx (.cells #[.int .u64 1, .slice ta ln tc] 65) none) (show World.grownBy _ w3 none from hgrow))); obtain ⟨va, vc, rfl⟩ := hrs.shape; clear hown' hgrow hp3 hRc hrs)
          | (go_at_call 11; (with_reducible refine (new_full w3 _ _ _ _ n mo L HRS.out hn2 (by omega) HLs.out HLr.out).mono ?_); rintro r w4 ⟨B, rfl, hB, hs1, hg⟩; have HG4 := Lib.hid (gtrans HG3.out hg); have HG34 := Lib.hid hg; have HS1 := Lib.hid hs1; have hWB := Lib.hid hB; clear hg hs1 hB)
          | (go_at_call 24; (with_reducible refine (usable_at w4 B _ _ HS1.out HLN.out.symm).mono ?_); rintro r wq ⟨rfl, rfl⟩))
        have hB := hWB.out
        have hW3 := HG3.out.size
        have KEEP : ∀ wx, Sfr B w4 wx → ∀ k, k < ln → ∃ b o, ta = some ⟨b, o, none⟩ ∧ wx.cell? ⟨b, o + k, none⟩ = some (.int .u32 ((L.getD k 0 : Nat) : Int)) := fun wx hx k hk => by
          obtain ⟨b, o, hta, _, c0⟩ := HO3.out.psq.at k (by have := HLN.out; omega)
          have hbl := World.block_lt_of_cell? _ _ c0
          exact ⟨b, o, hta, (World.cell?_of_block (w := w3) ((hx.block b (Nat.lt_of_lt_of_le hbl HG34.out.size) (.inl (Nat.lt_of_lt_of_le hbl hB))).trans (HG34.out.block b hbl (by simp)))).trans c0⟩
        have HKEEP := Lib.hid KEEP
        have HI := Lib.hid (full_start (mo := mo) HLr.out hn2)
        clear KEEP
        go_loopg [16, 17] (ln + mo) (fun g lastv iv wr => ∃ (k last : Nat) (M : Sp), k + g = ln + mo ∧ lastv = .int .u32 (last : Int) ∧ iv = .int .i64 (k : Int) ∧ FullInv n mo L k M last ∧ SpAt B w4.heap.size wr M ∧ Sfr B w4 wr)
        case atStart => exact ⟨0, 0, _, by omega, rfl, rfl, HI.out, HS1.out, Sfr.refl _ _⟩
        case round =>
          obtain ⟨k, last, M, hk, rfl, rfl, hfi, hS, hsf⟩ := hrel
          have HFI := Lib.hid hfi
          have HSx := Lib.hid hS
          have HSf := Lib.hid hsf
          obtain ⟨w5, rfl⟩ : ∃ wx, wx = wr := ⟨_, rfl⟩
          obtain ⟨g1, rfl⟩ : ∃ g1, g1 = gk := ⟨_, rfl⟩
          clear hfi hS hsf
          by_cases hlt : k < ln + mo
          · have hki : (k : Int) < (ln : Int) + (mo : Int) := by omega
            obtain ⟨M', p, hT, hlp, hLk, hfi2⟩ := full_step HFI.out HLs.out HLr.out (by rw [← HLN.out]; exact hlt)
            have HT := Lib.hid hT
            have HLK := Lib.hid hLk
            have HFI2 := Lib.hid hfi2
            have hlpi : ¬ (p : Int) ≤ (last : Int) := by omega
            clear hT hLk hfi2
            by_cases hkl : k < ln
            · have hkli : (k : Int) < (ln : Int) := by omega
              obtain ⟨b, o, rfl, _⟩ := HKEEP.out w5 HSf.out k hkl
              go_wp2_with (first
                | (go_at_call 15; (with_reducible refine (take_at w5 B M M' p 0 HSx.out HFI.out.low (by rw [HFI.out.lim, HFI.out.en, ← HLN.out]; omega) (by rw [HFI.out.lim]; omega) HT.out).mono ?_); rintro r w6 ⟨rfl, hs, hsf⟩; have HS6 := Lib.hid hs; have HF6 := Lib.hid (HSf.out.trans hsf); obtain ⟨b', o', hbo, c6⟩ := HKEEP.out w6 HF6.out k hkl; cases hbo; rw [HLK.out (by rw [← HLN.out]; exact hkl)] at c6; clear hs hsf))
              go_roundg (g1 - 1)
              case rel => exact ⟨k + 1, p, M', by omega, rfl, by simp, HFI2.out, HS6.out, HF6.out⟩
              case measure => omega
            · have hkli : ¬ (k : Int) < (ln : Int) := by omega
              go_wp2_with (first
                | (go_at_call 15; (with_reducible refine (take_at w5 B M M' p 0 HSx.out HFI.out.low (by rw [HFI.out.lim, HFI.out.en, ← HLN.out]; omega) (by rw [HFI.out.lim]; omega) HT.out).mono ?_); rintro r w6 ⟨rfl, hs, hsf⟩; have HS6 := Lib.hid hs; have HF6 := Lib.hid (HSf.out.trans hsf); clear hs hsf))
              go_roundg (g1 - 1)
              case rel => exact ⟨k + 1, p, M', by omega, rfl, by simp, HFI2.out, HS6.out, HF6.out⟩
              case measure => omega
          · have hki : ¬ (k : Int) < (ln : Int) + (mo : Int) := by omega
            have hke : k = L.length + mo := by have := HLN.out; omega
            obtain ⟨hT, hen⟩ := full_end HFI.out hke
            have HT := Lib.hid hT
            have HEN := Lib.hid hen
            have HKE := Lib.hid hke
            clear hT hen hke
            by_cases hl0 : last = 0
            · subst hl0
              go_wp2_with (first
                | (go_at_call 15; (with_reducible refine (take_full w5 B M HSx.out HFI.out.low (by rw [HEN.out, HFI.out.lim]; omega) (by rw [HFI.out.lim]; omega) HT.out).mono ?_); rintro r w6 ⟨rfl, hs, hsf⟩; have HS6 := Lib.hid hs; have HF6 := Lib.hid (HSf.out.trans hsf); clear hs hsf)
                | (go_at_call 20; (with_reducible refine (end_at w6 B M _ HS6.out HEN.out).mono ?_); rintro r wq ⟨rfl, rfl⟩))
              go_ret
              exact ⟨rfl, gbelow (HF6.out.grown HG4.out (Nat.le_trans HG3.out.size hWB.out))⟩
            · have hl0i : ¬ (last : Int) = 0 := by omega
              obtain ⟨M1, M2, hg0, hlow1, hen1, hlim1, ht2, hu2, hgo2, hws2, hr2⟩ := full_again HFI.out HKE.out hl0
              have HG0 := Lib.hid hg0
              have HLO1 := Lib.hid hlow1
              have HEN1 := Lib.hid hen1
              have HLIM1 := Lib.hid hlim1
              have HT2 := Lib.hid ht2
              have HU2 := Lib.hid hu2
              have HGO2 := Lib.hid hgo2
              have HWS2 := Lib.hid hws2
              have HR2 := Lib.hid hr2
              have hl32 : last < 4294967296 := by have h1 := HFI.out.top; have h2 := HEN.out; omega
              clear hg0 hlow1 hen1 hlim1 ht2 hu2 hgo2 hws2 hr2
              go_wp2_with (first
                | (go_at_call 15; (with_reducible refine (take_full w5 B M HSx.out HFI.out.low (by rw [HEN.out, HFI.out.lim]; omega) (by rw [HFI.out.lim]; omega) HT.out).mono ?_); rintro r w6 ⟨rfl, hs, hsf⟩; have HS6 := Lib.hid hs; have HF6 := Lib.hid (HSf.out.trans hsf); clear hs hsf)
                | (go_at_call 20; (with_reducible refine (end_at w6 B M _ HS6.out HEN.out).mono ?_); rintro r wq ⟨rfl, rfl⟩)
                | (go_at_call 17; (with_reducible refine (give_at w6 B M M1 last 0 HS6.out hl32 HG0.out).mono ?_); rintro r w7 ⟨rfl, hs, hsf⟩; have HS7 := Lib.hid hs; have HF7 := Lib.hid (HF6.out.trans hsf); clear hs hsf)
                | (go_at_call 15; (with_reducible refine (take_at w7 B M1 M2 last 0 HS7.out HLO1.out (by rw [HEN1.out, HLIM1.out]; omega) (by rw [HLIM1.out]; omega) HT2.out).mono ?_); rintro r w8 ⟨rfl, hs, hsf⟩; have HS8 := Lib.hid hs; have HF8 := Lib.hid (HF7.out.trans hsf); clear hs hsf)
                | (go_at_call 22; (with_reducible refine (recs_none w8 B M2 HS8.out HU2.out HGO2.out HWS2.out HR2.out).mono ?_); rintro r w9 ⟨⟨ra, rc, rfl⟩, hg⟩; have HF9 := Lib.hid (HF8.out.trans (Sfr.of hg)); clear hg))
              go_ret
              exact ⟨rfl, gbelow (HF9.out.grown HG4.out (Nat.le_trans HG3.out.size hWB.out))⟩

open Go.ChangeShapes Go.WideShapes Go.ChangeAt
set_option linter.unusedVariables false
set_option maxRecDepth 100000 in
theorem full_lifted (os : Os) (started : os.Started) (H : Type) (enc : TypeId × Value → H) :
    ReturnsInHanded {} Try.checked os 5 .any (Rows.spaceFullSpec.pre6 enc Try.prog Try.f5 Rows.spaceFullRow.domain false) (Rows.spaceFullSpec.post enc Try.prog Try.f5 false true false false) := by
  refine returnsInHanded_of_change (C := Try.checked) ownKnob0 started (by kernel_rfl) Try.func5
    (ChangeSpec.witness6 (enc := enc) (C := Try.checked) false ⟨#[], #[.int .u8 0, .int .u8 0, .slice none 0 0], []⟩ 8 (by kernel_rfl) (by kernel_rfl) (by kernel_rfl) (by kernel_rfl)) ?_
  intro W base args ds gs before hval0 hW hcnd _
  have hval : ∀ (j : Nat) t v, Try.f5.params[j]? = some t → args[j]? = some v → Value.okWide Try.prog W .any base t v := hval0
  have hW' := hW
  obtain ⟨p, q, hA0, hV, rfl, hfz, hnd⟩ := hW
  have hA : DataW.TrodAll enc Try.prog W 0 (fun _ => true) true Try.f5.params.toList args.toList ds p := hA0
  rw [Try.params5] at hA hval
  obtain ⟨v0, vs0, d0, ds0, p0, q0, hargs, rfl, rfl, h0, r0⟩ := trodAll_cons hA
  obtain ⟨v1, vs1, d1, ds1, p1, q1, rfl, rfl, rfl, h1, r1⟩ := trodAll_cons r0
  obtain ⟨v2, vs2, d2, ds2, p2, q2, rfl, rfl, rfl, h2, r2⟩ := trodAll_cons r1
  obtain ⟨rfl, rfl, rfl⟩ := trodAll_nil r2
  obtain rfl : args = #[v0, v1, v2] := by cases args; simp_all
  obtain ⟨rfl, rfl⟩ := trodVars_none hV
  obtain ⟨a0, rfl, rfl, rfl, w0⟩ := open_int Try.underlying5 (hval 0 5 v0 rfl rfl) h0
  have b0 := bounds_u8 w0
  obtain ⟨a1, rfl, rfl, rfl, w1⟩ := open_int Try.underlying5 (hval 1 5 v1 rfl rfl) h1
  have b1 := bounds_u8 w1
  obtain ⟨a2, len2, cap2, rfl⟩ := okWide_slice Try.underlying45 (hval 2 45 v2 rfl rfl)
  have lt2 : ∀ x ∈ p2, x.block < W.heap.size := by obtain ⟨m, hm⟩ := h2; exact DataW.trod_lt m _ _ _ hm
  obtain ⟨z2, w2⟩ := open_u32l h2
  clear hA0 hval0
  refine (full_any W a0 a1 a2 len2 cap2 z2 b0.1 b0.2 b1.1 b1.2 w2).mono fun e W' ⟨he, bel⟩ => ?_
  subst he
  exact ⟨_, rfl, _, _, _, [], _, [], hW', trodAll_mk1 (shut_bool Try.underlying4 _), (trodAll_cons_mk (shut_int Try.underlying5 w0) (trodAll_cons_mk (shut_int Try.underlying5 w1) (trodAll_cons_mk (Below.trod laidOut0 (by kernel_rfl) (of_decide_eq_true (by kernel_rfl)) h2 bel lt2) trodAll_mk0))), rfl, bel.frame _, fun h => by cases h⟩

/-- SpaceFull, for every input. -/
theorem spaceFull_holds : Rows.SpaceFullSaid :=
  OpenClaim.holds_of_wide 5 Try.f5 rfl rfl rfl rfl rfl rfl rfl ⟨rfl, rfl, rfl, rfl, rfl⟩ rfl rfl rfl rfl rfl (by kernel_rfl) Try.func5 (by kernel_rfl)
    (of_decide_eq_true (by kernel_rfl)) (by unfold Func.isWrapper; first | (rw [if_pos (by decide +kernel)]; kernel_rfl) | (rw [if_neg (by decide +kernel)]; exact ⟨rfl, rfl⟩))
    (fun os started H enc _ => full_lifted os started H enc)
#print axioms spaceFull_holds

end Go.Proofs.Ytdljclifjbnbjaa
