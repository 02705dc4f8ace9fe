/-
  OctetPuts holds: for any script the law returns true, and its argument reads as it did. No condition beyond the row's own. Own work; the frame is the guide's.
-/
import Derived.Test.YtmphogmiobpkkaaOctN
import Derived.Test.YtmphogmiobpkkaaOctR
namespace Go.Proofs.Ytmphogmiobpkkaa
open Go.RowKit

/-- The cells of a block that is none of the Writer's stay through its calls. -/
theorem far_cell {g k : Nat} {w w' : World} {v : Value} {j : Nat} (h : Fw g w w') (hk : k < w.heap.size) (hg : k ≠ g) (hr : rowAt w g ≠ some k) (hc : w.cell? ⟨k, j, none⟩ = some v) : w'.cell? ⟨k, j, none⟩ = some v :=
  (World.cell?_of_block (w := w) (h.block k hk hg hr).1).trans hc

theorem four_new2 (w : World) (C : Array Value) (t : TypeId) (j : Nat) (v : Value) (h : C[j]? = some v) : (w.alloc (.cells C t)).cell? ⟨w.heap.size, j, none⟩ = some v := by
  rw [World.cell?_alloc_mark]; exact h

/-- One thing put: what the Writer holds, and the text beside it. -/
def Put (g : Nat) (w w' : World) (bs : List Int) (S : ByteArray) (S' : ByteArray) : Prop :=
  ∃ l : List Int, WrAt w' g (bs ++ l) ∧ l.length ≤ 310 ∧ S' = S ++ strOfNums l ∧ Below g w w'

set_option maxRecDepth 100000 in
set_option maxHeartbeats 8000000 in
theorem puts_any (w : World) (a2 : Option Addr) (n2 c2 : Nat) (h2 : Acts w (.slice a2 n2 c2) n2) (hn2 : n2 ≤ 9223372036854775807) :
    Calls Try.prog 3 #[.slice a2 n2 c2] w fun r w' => r = .returned (.bool true) ∧ Below w.heap.size w w' := by
  have H2 := Lib.hid h2
  clear h2
  go_enter Try.func3, Try.ntmps3
  go_wp2_with (first
    | (go_at_call 8; refine (awake_any _).mono ?_; rintro r wA ⟨rfl, hgA⟩; have HbA := Lib.hid (gbelow hgA); have hzA := hgA.size)
    | (go_at_call 9; refine (newW_any _).mono ?_; rintro r w1 ⟨rfl, hw1, hg1⟩; have HbB := Lib.hid (HbA.out.trans ((gbelow hg1).mono hzA))))
  have HW1 := Lib.hid hw1
  clear hw1 hg1 hgA
  generalize wA.heap.size = g at *
  have HGW := Lib.hid hzA
  clear hzA
  go_loopw [6, 7] (fun s i wr => ∃ (k : Nat) (bs : List Int) (S : ByteArray), k ≤ n2 ∧ k ≤ 40 ∧ i = .int .i64 k ∧ s = .string S ∧ S = strOfNums bs ∧ WrAt wr g bs ∧ bs.length ≤ 310 * k ∧ Below w.heap.size w wr) (fun _ i _ => n2 - (intOf i).toNat)
  case atStart => exact ⟨0, [], _, Nat.zero_le _, by omega, rfl, rfl, rfl, HW1.out, by simp, HbB.out⟩
  case round =>
    obtain ⟨k, bs, S, hk, hk40, rfl, rfl, hS, hwr, hbl, hbq⟩ := hrel
    have HS := Lib.hid hS
    clear hS
    by_cases hlt : k < n2 ∧ k < 40
    · obtain ⟨hlt, hlt40⟩ := hlt
      obtain ⟨ao, c, hv, hcs⟩ := H2.out
      obtain ⟨b, o, rfl, hbB, hacts⟩ := hcs (by omega)
      injection hv with hv1 hv2 hv3
      subst hv1
      obtain ⟨K, X, N, ya, yn, yc, ys, q0, q1, q2, q3, hKb, hXb, hNb, hys, hyb⟩ := hacts k hlt
      have cc0 := (hbq.cell (p := ⟨b, o + k * 4, none⟩) hbB).trans q0
      have cc1 := (hbq.cell (p := ⟨b, o + k * 4 + 1, none⟩) hbB).trans q1
      have cc2 := (hbq.cell (p := ⟨b, o + k * 4 + 2, none⟩) hbB).trans q2
      have cc3 := (hbq.cell (p := ⟨b, o + k * 4 + 3, none⟩) hbB).trans q3
      clear q0 q1 q2 q3 hacts hcs hv2 hv3
      have hyl : yn = ys.length := by obtain ⟨_, _, hv, _⟩ := hys; injection hv
      have HYL := Lib.hid hyl
      have HYS := Lib.hid hys
      have HWR := Lib.hid hwr
      have HBQ := Lib.hid hbq
      have HBL := Lib.hid hbl
      clear hwr hbq hyl hys hbl
      by_cases h300 : 300 < yn
      · go_wp2
        go_ret
        exact ⟨rfl, HBQ.out.alloc HBQ.out.size _⟩
      · have hyb300 : ys.length ≤ 300 := by rw [← HYL.out]; omega
        have hand := and3 K hKb.1 hKb.2
        obtain ⟨XN, rfl⟩ := Int.eq_ofNat_of_zero_le hXb.1
        have HXN := Lib.hid (show XN < 18446744073709551616 by omega)
        have hSz : S.size ≤ 12400 := by rw [HS.out, strOfNums_size]; have := HBL.out; omega
        have hbb : bs.length ≤ 12400 := by have := HBL.out; omega
        have d0 := four_new2 wr #[.int .u8 K, .int .u64 (XN : Int), .int .i64 N, .slice ya yn yc] 29 0 _ rfl
        have d1 := four_new2 wr #[.int .u8 K, .int .u64 (XN : Int), .int .i64 N, .slice ya yn yc] 29 1 _ rfl
        have d2 := four_new2 wr #[.int .u8 K, .int .u64 (XN : Int), .int .i64 N, .slice ya yn yc] 29 2 _ rfl
        have d3 := four_new2 wr #[.int .u8 K, .int .u64 (XN : Int), .int .i64 N, .slice ya yn yc] 29 3 _ rfl
        have HWA := Lib.hid (HWR.out.kept (World.grownBy_alloc wr (.cells #[.int .u8 K, .int .u64 (XN : Int), .int .i64 N, .slice ya yn yc] 29) none))
        have HBA := Lib.hid (HBQ.out.alloc HBQ.out.size (.cells #[.int .u8 K, .int .u64 (XN : Int), .int .i64 N, .slice ya yn yc] 29))
        have HKA := Lib.hid (show wr.heap.size < (wr.alloc (.cells #[.int .u8 K, .int .u64 (XN : Int), .int .i64 N, .slice ya yn yc] 29)).heap.size ∧ wr.heap.size ≠ g ∧ rowAt (wr.alloc (.cells #[.int .u8 K, .int .u64 (XN : Int), .int .i64 N, .slice ya yn yc] 29)) g ≠ some wr.heap.size from
          ⟨by simp, by have := HWR.out.lt; omega, by rw [rowAt_alloc HWR.out.lt]; intro e; have := HWR.out.row _ e; omega⟩)
        have D1 := Lib.hid d1
        have D2 := Lib.hid d2
        have D3 := Lib.hid d3
        clear HWR HBQ
        rcases (show K % 4 = 0 ∨ K % 4 = 1 ∨ K % 4 = 2 ∨ K % 4 = 3 by omega) with hq | hq | hq | hq
        · rw [hq] at hand
          clear hq hKb
          go_wp2_with fail
          generalize wr.alloc (.cells #[.int .u8 K, .int .u64 (XN : Int), .int .i64 N, .slice ya yn yc] 29) = WA at *
          clear cc0 cc1 cc2 cc3
          by_cases hN : 1 ≤ N ∧ N ≤ 8
          · obtain ⟨n, rfl⟩ := Int.eq_ofNat_of_zero_le (show 0 ≤ N by omega)
            have hn1 : 1 ≤ n := by omega
            have hn8 : n ≤ 8 := by omega
            clear hN hNb hXb
            have hT : (strOfNums (numB (XN : Int) n n)).size ≤ 310 := by rw [strOfNums_size]; (try simp only [List.length_append, numB_len, varB_len, List.length_nil]); omega
            have HT := Lib.hid (show (bs ++ (numB (XN : Int) n n)).length ≤ 310 * (k + 1) by have := HBL.out; simp only [List.length_append, numB_len, varB_len, List.length_nil]; omega)
            obtain ⟨m, hm⟩ : ∃ m, (bs ++ (numB (XN : Int) n n)).length = m := ⟨_, rfl⟩
            have hmb : m ≤ 13000 := by have := HT.out; omega
            have HM := Lib.hid hm
            clear hm
            go_wp2_with (first
              | (go_at_call 10; have K := wnum_in WA g n (XN : Int) bs HWA.out (by omega) (by have := HXN.out; omega) hn1 hn8 (by have := HBL.out; omega); ((with_reducible refine K.mono ?_); clear K; rintro r w2 ⟨rfl, hw2, hf2⟩; have HB2 := Lib.hid (HBA.out.trans ((hf2.below HWA.out).mono HGW.out)); have e1 := far_cell hf2 HKA.out.1 HKA.out.2.1 HKA.out.2.2 D1.out; have e2 := far_cell hf2 HKA.out.1 HKA.out.2.1 HKA.out.2.2 D2.out; clear d1 d2 hf2))
              | (go_at_call 10; ((with_reducible refine (wnum_nil w2 _ _).mono ?_); rintro r wz ⟨rfl, rfl⟩))
              | (go_at_call 11; have K := refNum_in w2 XN n HXN.out hn1 hn8; ((with_reducible refine K.mono ?_); clear K; rintro r w3 ⟨rfl, hg3⟩))
              | (go_at_call 17; have K := out_len (n := m) (hw2.kept hg3) HM.out (by omega); ((with_reducible refine K.mono ?_); clear K; rintro r w4 ⟨a4, c4, rfl, _, hs4, hg4⟩; have cv := seq_string hs4; rw [strOf_app2 bs, ← HS.out] at cv)))
            go_roundw
            case rel => exact ⟨k + 1, bs ++ (numB (XN : Int) n n), _, by omega, by omega, by go_num, rfl, by rw [strOf_app2 bs, ← HS.out], (hw2.kept hg3).kept hg4, HT.out, (HB2.out.grown hg3 HB2.out.size (by simp)).grown hg4 (by have := HB2.out.size; have := hg3.size; omega) (by simp)⟩
            case measure => simp [intOf]; omega
          · have HNO := Lib.hid (show N < 1 ∨ 8 < N by omega)
            clear hN hNb hXb
            have hT : (strOfNums (([] : List Int))).size ≤ 310 := by rw [strOfNums_size]; (try simp only [List.length_append, numB_len, varB_len, List.length_nil]); omega
            have HT := Lib.hid (show (bs ++ (([] : List Int))).length ≤ 310 * (k + 1) by have := HBL.out; simp only [List.length_append, numB_len, varB_len, List.length_nil]; omega)
            obtain ⟨m, hm⟩ : ∃ m, (bs ++ (([] : List Int))).length = m := ⟨_, rfl⟩
            have hmb : m ≤ 13000 := by have := HT.out; omega
            have HM := Lib.hid hm
            clear hm
            go_wp2_with (first
              | (go_at_call 10; have K := wnum_out WA g (XN : Int) N HNO.out; ((with_reducible refine K.mono ?_); clear K; rintro r wz ⟨rfl, rfl⟩))
              | (go_at_call 10; ((with_reducible refine (wnum_nil WA _ _).mono ?_); rintro r wz ⟨rfl, rfl⟩))
              | (go_at_call 11; have K := refNum_out WA (XN : Int) N HNO.out; ((with_reducible refine K.mono ?_); clear K; rintro r wz ⟨rfl, rfl⟩))
              | (go_at_call 17; have K := out_len (n := m) (show WrAt WA g (bs ++ []) by rw [List.append_nil]; exact HWA.out) HM.out (by omega); ((with_reducible refine K.mono ?_); clear K; rintro r w4 ⟨a4, c4, rfl, _, hs4, hg4⟩; have cv := seq_string hs4; rw [strOf_app2 bs, ← HS.out] at cv)))
            go_roundw
            case rel => exact ⟨k + 1, bs ++ (([] : List Int)), _, by omega, by omega, by go_num, rfl, by rw [strOf_app2 bs, ← HS.out], (show WrAt w4 g (bs ++ []) by rw [List.append_nil]; exact HWA.out.kept hg4), HT.out, HBA.out.grown hg4 HBA.out.size (by simp)⟩
            case measure => simp [intOf]; omega
        · rw [hq] at hand
          clear hq hKb
          go_wp2_with fail
          generalize wr.alloc (.cells #[.int .u8 K, .int .u64 (XN : Int), .int .i64 N, .slice ya yn yc] 29) = WA at *
          clear cc0 cc1 cc2 cc3 hNb hXb
          have hv10 : vlen XN ≤ 10 := vlen_le XN (by have := HXN.out; omega)
          have hT : (strOfNums (varB XN)).size ≤ 310 := by rw [strOfNums_size]; (try simp only [List.length_append, numB_len, varB_len, List.length_nil]); omega
          have HT := Lib.hid (show (bs ++ (varB XN)).length ≤ 310 * (k + 1) by have := HBL.out; simp only [List.length_append, numB_len, varB_len, List.length_nil]; omega)
          obtain ⟨m, hm⟩ : ∃ m, (bs ++ (varB XN)).length = m := ⟨_, rfl⟩
          have hmb : m ≤ 13000 := by have := HT.out; omega
          have HM := Lib.hid hm
          clear hm
          go_wp2_with (first
            | (go_at_call 12; have K := wvar_any WA g (XN : Int) bs HWA.out (by omega) (by have := HXN.out; omega) (by have := HBL.out; omega); ((with_reducible refine K.mono ?_); clear K; rintro r w2 ⟨rfl, hw2, hf2⟩; rw [Int.toNat_natCast] at hw2; have HB2 := Lib.hid (HBA.out.trans ((hf2.below HWA.out).mono HGW.out)); have e1 := far_cell hf2 HKA.out.1 HKA.out.2.1 HKA.out.2.2 D1.out; clear d1 d2 hf2))
            | (go_at_call 12; ((with_reducible refine (wvar_nil w2 _).mono ?_); rintro r wz ⟨rfl, rfl⟩))
            | (go_at_call 13; have K := refVar_any w2 XN HXN.out; ((with_reducible refine K.mono ?_); clear K; rintro r w3 ⟨rfl, hg3⟩))
            | (go_at_call 17; have K := out_len (n := m) (hw2.kept hg3) HM.out (by omega); ((with_reducible refine K.mono ?_); clear K; rintro r w4 ⟨a4, c4, rfl, _, hs4, hg4⟩; have cv := seq_string hs4; rw [strOf_app2 bs, ← HS.out] at cv)))
          go_roundw
          case rel => exact ⟨k + 1, bs ++ (varB XN), _, by omega, by omega, by go_num, rfl, by rw [strOf_app2 bs, ← HS.out], (hw2.kept hg3).kept hg4, HT.out, (HB2.out.grown hg3 HB2.out.size (by simp)).grown hg4 (by have := HB2.out.size; have := hg3.size; omega) (by simp)⟩
          case measure => simp [intOf]; omega
        · rw [hq] at hand
          clear hq hKb
          go_wp2_with fail
          generalize wr.alloc (.cells #[.int .u8 K, .int .u64 (XN : Int), .int .i64 N, .slice ya yn yc] 29) = WA at *
          clear cc0 cc1 cc2 cc3 hNb hXb
          have hv10 : vlen ys.length ≤ 10 := vlen_le _ (by omega)
          have hT : (strOfNums (varB ys.length ++ ys)).size ≤ 310 := by rw [strOfNums_size]; (try simp only [List.length_append, numB_len, varB_len, List.length_nil]); omega
          have HT := Lib.hid (show (bs ++ (varB ys.length ++ ys)).length ≤ 310 * (k + 1) by have := HBL.out; simp only [List.length_append, numB_len, varB_len, List.length_nil]; omega)
          obtain ⟨m, hm⟩ : ∃ m, (bs ++ (varB ys.length ++ ys)).length = m := ⟨_, rfl⟩
          have hmb : m ≤ 13000 := by have := HT.out; omega
          have HM := Lib.hid hm
          clear hm
          go_wp2_with (first
            | (go_at_call 14; have K := wbytes_any WA g w.heap.size bs ys (.slice ya yn yc) HWA.out (fun w' hf => HYS.out.below (HBA.out.trans ((hf.below HWA.out).mono HGW.out)).block) (by have := HBL.out; omega); ((with_reducible refine K.mono ?_); clear K; rintro r w2 ⟨rfl, hw2, hf2⟩; have HB2 := Lib.hid (HBA.out.trans ((hf2.below HWA.out).mono HGW.out)); have e3 := far_cell hf2 HKA.out.1 HKA.out.2.1 HKA.out.2.2 D3.out; have cy := seq_string (HYS.out.below HB2.out.block); clear d3 hf2))
            | (go_at_call 14; ((with_reducible refine (wbytes_nil w2 ya yn yc).mono ?_); rintro r wz ⟨rfl, rfl⟩))
            | (go_at_call 15; have K := refBytes_any w2 ys (by omega); ((with_reducible refine K.mono ?_); clear K; rintro r w3 ⟨rfl, hg3⟩))
            | (go_at_call 17; have K := out_len (n := m) (hw2.kept hg3) HM.out (by omega); ((with_reducible refine K.mono ?_); clear K; rintro r w4 ⟨a4, c4, rfl, _, hs4, hg4⟩; have cv := seq_string hs4; rw [strOf_app2 bs, ← HS.out] at cv)))
          go_roundw
          case rel => exact ⟨k + 1, bs ++ (varB ys.length ++ ys), _, by omega, by omega, by go_num, rfl, by rw [strOf_app2 bs, ← HS.out], (hw2.kept hg3).kept hg4, HT.out, (HB2.out.grown hg3 HB2.out.size (by simp)).grown hg4 (by have := HB2.out.size; have := hg3.size; omega) (by simp)⟩
          case measure => simp [intOf]; omega
        · rw [hq] at hand
          clear hq hKb
          go_wp2_with fail
          generalize wr.alloc (.cells #[.int .u8 K, .int .u64 (XN : Int), .int .i64 N, .slice ya yn yc] 29) = WA at *
          clear cc0 cc1 cc2 cc3 hNb hXb
          have hT : (strOfNums (ys)).size ≤ 310 := by rw [strOfNums_size]; (try simp only [List.length_append, numB_len, varB_len, List.length_nil]); omega
          have HT := Lib.hid (show (bs ++ (ys)).length ≤ 310 * (k + 1) by have := HBL.out; simp only [List.length_append, numB_len, varB_len, List.length_nil]; omega)
          obtain ⟨m, hm⟩ : ∃ m, (bs ++ (ys)).length = m := ⟨_, rfl⟩
          have hmb : m ≤ 13000 := by have := HT.out; omega
          have HM := Lib.hid hm
          clear hm
          go_wp2_with (first
            | (go_at_call 16; have K := wraw_any WA g w.heap.size bs ys (.slice ya yn yc) HWA.out (HYS.out.below HBA.out.block) (by have := HBL.out; omega); ((with_reducible refine K.mono ?_); clear K; rintro r w2 ⟨rfl, hw2, hf2⟩; have HB2 := Lib.hid (HBA.out.trans ((hf2.below HWA.out).mono HGW.out)); have e3 := far_cell hf2 HKA.out.1 HKA.out.2.1 HKA.out.2.2 D3.out; have cy := seq_string (HYS.out.below HB2.out.block); clear d3 hf2))
            | (go_at_call 16; ((with_reducible refine (wraw_nil w2 (.slice ya yn yc)).mono ?_); rintro r wz ⟨rfl, rfl⟩))
            | (go_at_call 17; have K := out_len (n := m) hw2 HM.out (by omega); ((with_reducible refine K.mono ?_); clear K; rintro r w4 ⟨a4, c4, rfl, _, hs4, hg4⟩; have cv := seq_string hs4; rw [strOf_app2 bs, ← HS.out] at cv)))
          go_roundw
          case rel => exact ⟨k + 1, bs ++ (ys), _, by omega, by omega, by go_num, rfl, by rw [strOf_app2 bs, ← HS.out], hw2.kept hg4, HT.out, HB2.out.grown hg4 HB2.out.size (by simp)⟩
          case measure => simp [intOf]; omega
    · have HBQ := Lib.hid hbq
      clear hbq hwr
      by_cases hlt2 : k < n2
      · have h40 : 40 ≤ k := by omega
        clear hlt
        go_wp2_with (go_at_call 17; ((with_reducible refine (out_nil _).mono ?_); rintro r w2 ⟨rfl, rfl⟩))
        go_ret
        exact ⟨rfl, HBQ.out⟩
      · obtain rfl : k = n2 := by omega
        clear hlt
        go_wp2_with (go_at_call 17; ((with_reducible refine (out_nil _).mono ?_); rintro r w2 ⟨rfl, rfl⟩))
        go_ret
        exact ⟨rfl, HBQ.out⟩

open Go.ChangeShapes Go.WideShapes Go.ChangeAt
set_option linter.unusedVariables false
set_option maxRecDepth 100000 in
theorem puts_lifted (os : Os) (started : os.Started) (H : Type) (enc : TypeId × Value → H) :
    ReturnsInHanded {} Try.checked os 3 .any (Rows.octetPutsSpec.pre6 enc Try.prog Try.f3 Rows.octetPutsRow.domain false) (Rows.octetPutsSpec.post enc Try.prog Try.f3 false true false false) := by
  refine returnsInHanded_of_change (C := Try.checked) ownKnob0 started (by kernel_rfl) Try.func3
    (ChangeSpec.witness6 (enc := enc) (C := Try.checked) false ⟨#[], #[.slice none 0 0], []⟩ 8 (by kernel_rfl) (by kernel_rfl) (by kernel_rfl) (by kernel_rfl)) ?_
  intro W base args ds gs before hval0 hW hcnd _
  have hval : ∀ (j : Nat) t v, Try.f3.params[j]? = some t → args[j]? = some v → Value.okWide Try.prog W .any base t v := hval0
  have hW' := hW
  obtain ⟨p, q, hA0, hV, rfl, hfz, hnd⟩ := hW
  have hA : DataW.TrodAll enc Try.prog W 0 (fun _ => true) true Try.f3.params.toList args.toList ds p := hA0
  rw [Try.params3] at hA hval
  obtain ⟨v1, vs1, d1, ds1, p1, q1, hargs, rfl, rfl, h1, r1⟩ := trodAll_cons hA
  obtain ⟨rfl, rfl, rfl⟩ := trodAll_nil r1
  obtain rfl : args = #[v1] := by cases args; simp_all
  obtain ⟨rfl, rfl⟩ := trodVars_none hV
  obtain ⟨a1, len1, cap1, rfl⟩ := okWide_slice Try.underlying22 (hval 0 22 v1 rfl rfl)
  have lt1 : ∀ x ∈ p1, x.block < W.heap.size := by obtain ⟨m, hm⟩ := h1; exact DataW.trod_lt m _ _ _ hm
  obtain ⟨w1, u1⟩ := open_acts h1
  clear hA0 hval0
  refine (puts_any W a1 len1 cap1 w1 u1).mono fun e W' ⟨he, bel⟩ => ?_
  subst he
  exact ⟨_, rfl, _, _, _, [], _, [], hW', trodAll_mk1 (shut_bool Try.underlying4 _), (trodAll_cons_mk (Below.trod laidOut0 (by kernel_rfl) (of_decide_eq_true (by kernel_rfl)) h1 bel lt1) trodAll_mk0), rfl, bel.frame _, fun h => by cases h⟩

/-- OctetPuts, for every input. -/
theorem octetPuts_holds : Rows.OctetPutsSaid :=
  OpenClaim.holds_of_wide 3 Try.f3 rfl rfl rfl rfl rfl rfl rfl ⟨rfl, rfl, rfl, rfl, rfl⟩ rfl rfl rfl rfl rfl (by kernel_rfl) Try.func3 (by kernel_rfl)
    (of_decide_eq_true (by kernel_rfl)) (by unfold Func.isWrapper; first | (rw [if_pos (by decide +kernel)]; kernel_rfl) | (rw [if_neg (by decide +kernel)]; exact ⟨rfl, rfl⟩))
    (fun os started H enc _ => puts_lifted os started H enc)
#print axioms octetPuts_holds

end Go.Proofs.Ytmphogmiobpkkaa
