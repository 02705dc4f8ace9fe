/-
  The power that digits tell: the code's loop over a text's bytes. Own work.
-/
import Derived.Test.YtpjepdnkolbdhaaDoorNuE
import Derived.Lib.ConvBytes
set_option linter.unusedVariables false
set_option linter.unusedSimpArgs false
namespace Go.Proofs.YtpjepdnkolbdhaaDoor
open Go.RowKit

theorem conv_str (l : Bs) (w : World) : ∃ W cap, (convert 9 43 (.string (Sx l))).run Tryd.prog w = .ok (.slice (some ⟨w.heap.size, 0, none⟩) l.length cap) W ∧ w.grownBy W none ∧ ∀ j, j < l.length → W.cell? ⟨w.heap.size, j, none⟩ = some (.int .u8 ((l.getD j 0).toNat : Int)) := by
  refine ⟨_, _, Lib.run_convert_string_bytes (P := Tryd.prog) w 9 43 5 (Sx l) Tryd.underlying9 Tryd.underlying43 Tryd.underlying5, ?_, ?_⟩
  · refine gof (Lib.below_freeze ((Below.drew (Below.refl _ w)).alloc (Nat.le_refl _) _) (p := ⟨w.heap.size, _, none⟩) (Nat.le_refl _) 1) none
  · intro j h
    have := Lib.bytesWorld_cell w 5 (Sx l) j h
    rw [this, Sx_data]

theorem dig_bd {b : UInt8} (h : dig b = true) : 48 ≤ b.toNat ∧ b.toNat ≤ 57 := by
  simp only [dig, Bool.and_eq_true, decide_eq_true_eq] at h; exact h
theorem powV_take (c : Nat) (l : Bs) (k : Nat) (h : k < l.length) : powV c (l.take (k + 1)) = min (10 * powV c (l.take k) + ((l.getD k 0).toNat - 48)) c := by
  have e : l.getD k 0 = l[k] := by rw [List.getD_eq_getElem?_getD, List.getElem?_eq_getElem h]; rfl
  rw [e]
  rw [List.take_succ_eq_append_getElem h, powV_snoc]
theorem dig_at {l : Bs} (hd : l.all dig = true) (k : Nat) (h : k < l.length) : 48 ≤ (l.getD k 0).toNat ∧ (l.getD k 0).toNat ≤ 57 := by
  have e : l.getD k 0 = l[k] := by rw [List.getD_eq_getElem?_getD, List.getElem?_eq_getElem h]; rfl
  rw [e]; exact dig_bd (List.all_eq_true.1 hd l[k] (List.getElem_mem h))
theorem powV_le (c : Nat) (l : Bs) : powV c l ≤ c := by
  rw [powV_val]; exact Nat.min_le_right _ _

set_option maxHeartbeats 1000000 in
theorem power_any (l : Bs) (w : World) (hd : l.all dig = true) (hl : l.length ≤ 1000000) :
    Calls Tryd.prog 44 #[.string (Sx l)] w fun r w' => r = .returned (.int .i64 (powV 1099511627776 l : Int)) ∧ w.grownBy w' none := by
  obtain ⟨W, cap, hcv, hg, hc⟩ := conv_str l w
  have HG := Lib.hid hg
  have HC := Lib.hid hc
  have HP := Lib.hid (fun k => powV_take 1099511627776 l k)
  have HD := Lib.hid (fun (k : Nat) (h : k < l.length) => dig_at hd k h)
  have HF := Lib.hid (show powV 1099511627776 l = powV 1099511627776 (l.take l.length) by rw [List.take_length])
  have HL := Lib.hid (powV_le 1099511627776)
  clear hg hc hd
  generalize hn : l.length = n at *
  have HN := Lib.hid hn
  clear hn
  generalize Sx l = B at *
  go_enter Tryd.func44, Tryd.ntmps44
  go_wp2
  go_loop [3, 9] (fun x i => ∃ (k X : Nat), k ≤ n ∧ i = .int .i64 k ∧ x = .int .i64 X ∧ X = powV 1099511627776 (l.take k)) (fun _ i => n - (intOf i).toNat)
  case atStart => exact ⟨0, 0, Nat.zero_le _, rfl, rfl, rfl⟩
  case round =>
    obtain ⟨k, X, hk, rfl, rfl, hX⟩ := hrel
    have hX1 : X ≤ 1099511627776 := by rw [hX]; exact HL.out _
    have HX := Lib.hid hX
    clear hX
    by_cases hlt : k < n
    · have hki : (k : Int) < (n : Int) := by omega
      have hcell := HC.out k hlt
      have hb := HD.out k hlt
      have hs := HP.out k hlt
      rw [← HX.out] at hs
      have HS := Lib.hid hs
      clear hs
      generalize (l.getD k 0).toNat = c at *
      obtain ⟨hb1, hb2⟩ := hb
      go_wp2
      go_round
      case rel =>
        refine ⟨k + 1, min (10 * X + (c - 48)) 1099511627776, by omega, by go_num, ?_, HS.out.symm⟩
        exact congrArg (Value.int .i64) (by omega)
      case measure => simp [intOf]; omega
    · obtain rfl : k = n := by omega
      go_wp2
      go_ret
      exact ⟨by rw [HX.out]; exact ret_int (by rw [HF.out]), HG.out⟩

end Go.Proofs.YtpjepdnkolbdhaaDoor
