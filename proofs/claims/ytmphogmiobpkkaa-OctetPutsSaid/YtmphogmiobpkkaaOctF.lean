/-
  The contracts of octet's varLen, Writer.Var, Writer.Bytes; of a nil Writer. Own work.
-/
import Derived.Test.YtmphogmiobpkkaaOctE
import Derived.Test.YtmphogmiobpkkaaOctV
import Derived.Test.YtmphogmiobpkkaaOctSh
namespace Go.Proofs.Ytmphogmiobpkkaa
open Go.RowKit

theorem vlen_int (x : Int) (h0 : 0 ≤ x) (h1 : x ≤ 18446744073709551615) : ((Lib.bitLen (bits BinOp.or IntKind.u64 x 1).toNat : Int) + 7 - 1) / 7 = (vlen x.toNat : Int) := by
  rw [u64_or _ _ h0 (by omega) (by omega) (by omega)]
  have := vlen_bits x.toNat (by omega)
  have e : ((1 : Int).toNat) = 1 := rfl
  rw [Int.toNat_natCast, e, ← this]
  omega
theorem or1_bounds (x : Int) (h0 : 0 ≤ x) (h1 : x ≤ 18446744073709551615) : 0 ≤ bits BinOp.or IntKind.u64 x 1 ∧ bits BinOp.or IntKind.u64 x 1 ≤ 18446744073709551615 := by
  rw [u64_or _ _ h0 (by omega) (by omega) (by omega)]
  have e : ((1 : Int).toNat) = 1 := rfl
  have := or_one x.toNat
  rw [e]
  omega

set_option maxHeartbeats 400000 in
theorem varLen_any (x : Int) (w : World) (h0 : 0 ≤ x) (h1 : x ≤ 18446744073709551615) :
    Calls Try.prog 27 #[.int .u64 x] w fun r w' => r = .returned (.int .i64 (vlen x.toNat)) ∧ w = w' := by
  have hb := or1_bounds x h0 h1
  have hv := vlen_int x h0 h1
  have hl : Lib.bitLen (bits BinOp.or IntKind.u64 x 1).toNat ≤ 64 := Lib.bitLen_le _ 64 (by omega) (by omega)
  generalize hy : bits BinOp.or IntKind.u64 x 1 = y at *
  generalize hm : Lib.bitLen y.toNat = m at *
  rw [← hv]
  have HV := Lib.hid hv
  have HM := Lib.hid hm
  clear hv hm
  go_enter Try.func27, Try.ntmps27
  go_wp2_with (go_at_call 33; refine (Try.bits_Len64 _ _ hb.1 hb.2).mono ?_; rintro r w1 ⟨rfl, rfl⟩; rw [HM.out])
  go_ret
  exact ⟨rfl, rfl⟩

set_option maxHeartbeats 800000 in
theorem wvar_any (w : World) (g : Nat) (x : Int) (bs : List Int) (h : WrAt w g bs) (hx0 : 0 ≤ x) (hx1 : x ≤ 18446744073709551615) (hl : bs.length + 10 ≤ 140737488355328) :
    Calls Try.prog 12 #[.pointer (some ⟨g, 0, none⟩), .int .u64 x] w fun r w' => r = .returned (.tuple #[]) ∧ WrAt w' g (bs ++ varB x.toNat) ∧ Fw g w w' := by
  obtain ⟨i0, hi, hz0, hz1, hz2⟩ := info_parts infoU8
  have hL := vlen_le x.toNat (by omega)
  obtain ⟨n, hn⟩ : ∃ n, vlen x.toNat = n + 1 := ⟨vlen x.toNat - 1, by have := vlen_pos x.toNat; omega⟩
  have hn9 : n ≤ 9 := by omega
  have HT := Lib.hid (hiT_all n x.toNat hn)
  have HN := Lib.hid hn
  clear hL hn
  go_enter Try.func12, Try.ntmps12
  go_wp2_with (go_at_call 27; refine (varLen_any x _ hx0 hx1).mono ?_; rintro r w1 ⟨rfl, rfl⟩; rw [HN.out])
  go_loopw [12] (fun i wr => ∃ k : Nat, k ≤ n ∧ i = .int .i64 k ∧ WrAt wr g (bs ++ hiT x.toNat n k) ∧ Fw g w wr) (fun i _ => n - (intOf i).toNat)
  case atStart => exact ⟨0, Nat.zero_le _, rfl, by simpa [hiT] using h, Fw.refl _ _⟩
  case round =>
    obtain ⟨k, hk, rfl, hwr, hbl⟩ := hrel
    by_cases hlt : k < n
    · have hlen : (bs ++ hiT x.toNat n k).length = bs.length + k := by simp [hiT]
      have hsn : bs ++ hiT x.toNat n (k + 1) = (bs ++ hiT x.toNat n k) ++ [128 + ((x.toNat / 128 ^ (n - k) % 128 : Nat) : Int)] := by rw [hiT_snoc, List.append_assoc]
      generalize bs ++ hiT x.toNat n k = l at *
      have HS := Lib.hid hsn
      have HL := Lib.hid hlen
      clear hsn hlen h
      have hgl := hwr.lt
      obtain ⟨ao, c, hown, hv⟩ := hwr.own
      have HR := Lib.hid (own_row hown (Nat.lt_succ_self g))
      have hc0 := cell_of_one hv
      have HO := Lib.hid hown
      have HV := Lib.hid hv
      clear hown hv hwr
      go_wp2
      have e2 : IntKind.i64.wrap ((n : Int) - (k : Int)) = (n : Int) - (k : Int) := IntWalk.i64_in _ (by omega)
      have e3 : IntKind.i64.wrap (7 * ((n : Int) - (k : Int))) = 7 * ((n : Int) - (k : Int)) := IntWalk.i64_in _ (by omega)
      have hs0 : 0 ≤ 7 * ((n : Int) - (k : Int)) := by omega
      have hs1 : 7 * ((n : Int) - (k : Int)) ≤ 64 := by omega
      have HX := Lib.hid (show bits BinOp.or IntKind.u8 128 (IntKind.u8.wrap (x / 2 ^ (7 * ((n : Int) - (k : Int))).toNat)) = 128 + ((x.toNat / 128 ^ (n - k) % 128 : Nat) : Int) by
        have hp : (2 : Int) ^ (7 * ((n : Int) - (k : Int))).toNat = ((128 ^ (n - k) : Nat) : Int) := by
          rw [show (7 * ((n : Int) - (k : Int))).toNat = 7 * (n - k) by omega, Int.pow_mul, Int.natCast_pow]; rfl
        have hq : x / 2 ^ (7 * ((n : Int) - (k : Int))).toNat = ((x.toNat / 128 ^ (n - k) : Nat) : Int) := by
          rw [hp, Int.natCast_ediv, Int.toNat_of_nonneg hx0]
        rw [hq, IntKind.wrap_u8', high7 _ (by omega) (by omega)]
        omega)
      go_region_law (refine step_append_own2 rfl (.tmp 19) (.tmp 28) 27 rfl (g + 1) 5 i0 (.int .u8 0) 1 1 Try.underlying27 hi hz0 hz1 hz2 rfl (by decide) _ _ _ rfl (HO.out.alloc _) ⟨wr.heap.size, 0, none⟩ 1 1 [.int .u8 (bits BinOp.or IntKind.u8 128 (IntKind.u8.wrap (x / 2 ^ (7 * ((n : Int) - (k : Int))).toNat)))] rfl rfl (cell_one_drew _ _ _) (one_cell _ rfl) (by rw [HL.out]; unfold maxLen; omega) (by rw [HL.out]; omega) (by simp; omega) ?_; intro v' w1 hown' hgrow hfr; obtain ⟨ao', c', rfl⟩ := own_shape hown'; have hv1 := wr_still (drew_still HV.out _) hgrow HR.out; have k0 := cell_of_one hv1; have e0 := free_of_one hv1; have R := Lib.hid (wr_put HO.out HV.out (g_alloc_drew wr _) (xs := [_]) hown' hgrow hfr (congrArg (fun y => [y]) HX.out)); clear hown' hgrow hv1 hfr)
      all_goals
        go_wp2
        go_roundw
        case rel => exact ⟨k + 1, by omega, by go_num, by rw [HS.out]; exact R.out.1, hbl.trans R.out.2⟩
        case measure => simp [intOf]; omega
    · obtain rfl : k = n := by omega
      have hlen : (bs ++ hiT x.toNat k k).length = bs.length + k := by simp [hiT]
      rw [HT.out] at hwr hlen
      have HS := Lib.hid (show bs ++ varB x.toNat = (bs ++ hiB x.toNat) ++ [((x.toNat % 128 : Nat) : Int)] by rw [varB, List.append_assoc])
      generalize bs ++ hiB x.toNat = l at *
      have HL := Lib.hid hlen
      clear hlen h
      have hgl := hwr.lt
      obtain ⟨ao, c, hown, hv⟩ := hwr.own
      have HR := Lib.hid (own_row hown (Nat.lt_succ_self g))
      have hc0 := cell_of_one hv
      have HO := Lib.hid hown
      have HV := Lib.hid hv
      clear hown hv hwr
      have HX := Lib.hid (show bits BinOp.andNot IntKind.u8 (x % 256) 128 = ((x.toNat % 128 : Nat) : Int) by
        rw [low7 _ (by omega) (by omega)]
        omega)
      go_wp2_with (at_builtin; refine wpList_append_own2 _ rfl (.tmp 37) (.tmp 41) 27 rfl (g + 1) 5 i0 (.int .u8 0) 1 1 Try.underlying27 hi hz0 hz1 hz2 rfl (by decide) _ _ _ rfl (HO.out.alloc _) ⟨wr.heap.size, 0, none⟩ 1 1 [.int .u8 (bits BinOp.andNot IntKind.u8 (x % 256) 128)] rfl rfl (cell_one_new _ _ _) (one_cell _ rfl) (by rw [HL.out]; unfold maxLen; omega) (by rw [HL.out]; omega) (by simp; omega) ?_)
      intro v' w1 hown' hgrow hfr
      obtain ⟨ao', c', rfl⟩ := own_shape hown'
      have hv1 := wr_still ((Below.heap_alloc wr _ g hgl).trans HV.out) hgrow HR.out
      have k0 := cell_of_one hv1
      have e0 := free_of_one hv1
      have R := Lib.hid (wr_put HO.out HV.out (World.grownBy_alloc wr _ none) (xs := [_]) hown' hgrow hfr (congrArg (fun y => [y]) HX.out))
      clear hown' hgrow hv1 hfr
      go_wp2
      go_end0
      exact ⟨rfl, by rw [HS.out]; exact R.out.1, hbl.trans R.out.2⟩

set_option maxHeartbeats 400000 in
theorem wvar_nil (w : World) (x : Int) :
    Calls Try.prog 12 #[.pointer none, .int .u64 x] w fun r w' => r = .returned (.tuple #[]) ∧ w = w' := by
  go_enter Try.func12, Try.ntmps12
  go_wp2
  exact bodyPost_ret (results_none rfl _ _ _) rfl ⟨rfl, rfl⟩

set_option maxHeartbeats 400000 in
theorem wnum_nil (w : World) (x n : Int) :
    Calls Try.prog 10 #[.pointer none, .int .u64 x, .int .i64 n] w fun r w' => r = .returned (.tuple #[]) ∧ w = w' := by
  go_enter Try.func10, Try.ntmps10
  go_wp2
  exact bodyPost_ret (results_none rfl _ _ _) rfl ⟨rfl, rfl⟩

set_option maxHeartbeats 400000 in
theorem wnum_out (w : World) (g : Nat) (x n : Int) (h : n < 1 ∨ 8 < n) :
    Calls Try.prog 10 #[.pointer (some ⟨g, 0, none⟩), .int .u64 x, .int .i64 n] w fun r w' => r = .returned (.tuple #[]) ∧ w = w' := by
  have H := Lib.hid h
  clear h
  go_enter Try.func10, Try.ntmps10
  go_wp2_with (go_at_call 26; refine (rightSize_no _ _ H.out).mono ?_; rintro r w1 ⟨rfl, rfl⟩)
  exact bodyPost_ret (results_none rfl _ _ _) rfl ⟨rfl, rfl⟩

set_option maxHeartbeats 400000 in
theorem wbytes_any (w : World) (g B : Nat) (bs xs : List Int) (v : Value) (h : WrAt w g bs) (hs : ∀ w', Fw g w w' → Seq B w' v xs) (hl : bs.length + xs.length + 10 ≤ 140737488355328) :
    Calls Try.prog 14 #[.pointer (some ⟨g, 0, none⟩), v] w fun r w' => r = .returned (.tuple #[]) ∧ WrAt w' g (bs ++ (varB xs.length ++ xs)) ∧ Fw g w w' := by
  have hv10 := vlen_le xs.length (by omega)
  have H := Lib.hid (wvar_any w g (xs.length : Int) bs h (by omega) (by omega) (by omega))
  have HS := Lib.hid hs
  obtain ⟨ao, c, rfl, _⟩ := hs w (Fw.refl _ _)
  clear h hs
  have hvl := varB_len xs.length
  have HL := Lib.hid (show (bs ++ varB (xs.length : Int).toNat).length + xs.length ≤ 140737488355328 by rw [List.length_append, Int.toNat_natCast]; omega)
  clear hvl hv10
  go_enter Try.func14, Try.ntmps14
  go_wp2_with (first | (go_at_call 12; refine H.out.mono ?_; rintro r w1 ⟨rfl, hw1, hb1⟩) | (go_at_call 16; refine (wraw_any _ g B _ xs _ hw1 (HS.out _ hb1) HL.out).mono ?_; rintro r w2 ⟨rfl, hw2, hb2⟩))
  go_end0
  exact ⟨rfl, by rw [← List.append_assoc]; simpa using hw2, hb1.trans hb2⟩

theorem Seq.fw {g : Nat} {w w' : World} {v : Value} {xs bs : List Int} (hs : Seq g w v xs) (hw : WrAt w g bs) (h : Fw g w w') : Seq g w' v xs := hs.below (h.below hw).block

set_option maxHeartbeats 400000 in
theorem wbytes_nil (w : World) (ao : Option Addr) (n c : Nat) :
    Calls Try.prog 14 #[.pointer none, .slice ao n c] w fun r w' => r = .returned (.tuple #[]) ∧ w = w' := by
  go_enter Try.func14, Try.ntmps14
  go_wp2_with (first | (go_at_call 12; refine (wvar_nil _ _).mono ?_; rintro r w1 ⟨rfl, rfl⟩) | (go_at_call 16; refine (wraw_nil _ _).mono ?_; rintro r w1 ⟨rfl, rfl⟩))
  go_end0
  exact ⟨rfl, rfl⟩

end Go.Proofs.Ytmphogmiobpkkaa
