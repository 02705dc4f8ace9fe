/-
  Layer 6: the reference's Put. Own work.
-/
import Derived.Test.YtpgpilalhbdidabChaD
import Derived.Test.YtpgpilalhbdidabTxt
import Derived.Test.YtpgpilalhbdidabRefN
namespace Go.Proofs.Ytpgpilalhbdidab
open Go.RowKit

set_option maxHeartbeats 4000000 in
theorem gput_arg (w : World) (p : List Int) (x S : Int) (hp : Byt p) (hl : p.length ≤ 140737488355328) (z0 : -9223372036854775808 ≤ S) (z1 : S ≤ 9223372036854775807) (hr : ¬ RightC (p.length : Int) S) :
    Calls Try.prog 15 #[.string (strOfNums p), .int .u32 x, .int .i64 S] w fun r w' => r = .returned (.tuple #[.string { data := #[] }, .int .i64 1]) ∧ w = w' := by
  by_cases h1 : 512 ≤ S
  · have hd0 : decide (S < 512) = false := by simp; omega
    by_cases h2 : S ≤ 4096
    · have hd1 : decide ((4096 : Int) < S) = false := by simp; omega
      by_cases hz : p = []
      · subst hz
        rw [show strOfNums [] = ({ data := #[] } : ByteArray) from rfl]
        clear hr hp hl
        go_enter Try.func15, Try.ntmps15
        go_wp2
        go_ret2
        exact ⟨rfl, rfl⟩
      · have hS2 := str_nil_no hp hz
        have hsz := strOfNums_size p
        obtain ⟨K, hK⟩ : ∃ K, K = strOfNums p := ⟨_, rfl⟩
        obtain ⟨L, hL⟩ : ∃ L, L = p.length := ⟨_, rfl⟩
        rw [← hK] at hS2 hsz ⊢
        rw [← hL] at hsz hr hl
        have hS3 : K.toList.isEmpty = false := by simpa using hS2
        have hS4 : (K.toList == []) = false := by simpa using hS2
        have hL1 : 1 ≤ L := by rw [hL]; rcases Nat.eq_zero_or_pos p.length with e | e; exact absurd (List.eq_nil_of_length_eq_zero e) hz; exact e
        have hd2 : decide (S - 8 < (L : Int)) = true := by
          simp
          rcases Int.lt_or_le (S - 8) (L : Int) with h | h
          · exact h
          · exact absurd ⟨h1, h2, by omega, h⟩ hr
        have hw1 : IntKind.i64.wrap (S - 8) = S - 8 := IntWalk.i64_in _ (by omega)
        clear hK hL hr hz hp
        go_enter Try.func15, Try.ntmps15
        go_wp2
        go_ret2
        exact ⟨rfl, rfl⟩
    · have hd1 : decide ((4096 : Int) < S) = true := by simp; omega
      obtain ⟨K, hK⟩ : ∃ K, K = strOfNums p := ⟨_, rfl⟩
      rw [← hK]
      clear hK hr hp hl
      go_enter Try.func15, Try.ntmps15
      go_wp2
      go_ret2
      exact ⟨rfl, rfl⟩
  · have hd0 : decide (S < 512) = true := by simp; omega
    obtain ⟨K, hK⟩ : ∃ K, K = strOfNums p := ⟨_, rfl⟩
    rw [← hK]
    clear hK hr hp hl
    go_enter Try.func15, Try.ntmps15
    go_wp2
    go_ret2
    exact ⟨rfl, rfl⟩

set_option maxHeartbeats 4000000 in
theorem gput_ok (w : World) (p : List Int) (x S : Nat) (hp : Byt p) (hx : x ≤ 4294967295) (hr : RightC (p.length : Int) (S : Int)) :
    Calls Try.prog 15 #[.string (strOfNums p), .int .u32 (x : Int), .int .i64 (S : Int)] w fun r w' => r = .returned (.tuple #[.string (strOfNums (chB p x S)), .int .i64 0]) ∧ w.grownBy w' none := by
  obtain ⟨i0, hi, hz0, hz1, hz2⟩ := info_parts infoU8
  obtain ⟨h1, h2, h3, h4⟩ := hr
  have hd0 : decide ((S : Int) < 512) = false := by simp; omega
  have hd1 : decide ((4096 : Int) < (S : Int)) = false := by simp; omega
  have hd0' : decide (S < 512) = false := by simp; omega
  have hd1' : decide (4096 < S) = false := by simp; omega
  have hpz : p ≠ [] := fun e => by subst e; simp at h3
  have hS2 := str_nil_no hp hpz
  have hsz := strOfNums_size p
  obtain ⟨K, hK⟩ : ∃ K, K = strOfNums p := ⟨_, rfl⟩
  obtain ⟨L, hL⟩ : ∃ L, L = p.length := ⟨_, rfl⟩
  obtain ⟨N2, hN2⟩ : ∃ N, N = strOfNums (numB (L : Int) 2 2) := ⟨_, rfl⟩
  obtain ⟨N4, hN4⟩ : ∃ N, N = strOfNums (numB (x : Int) 4 4) := ⟨_, rfl⟩
  have n2 : N2.size = 2 := by rw [hN2, strOfNums_size, numB_len]
  have n4 : N4.size = 4 := by rw [hN4, strOfNums_size, numB_len]
  obtain ⟨Z, hZ⟩ : ∃ Z, Z = S - 8 - L := ⟨_, rfl⟩
  obtain ⟨NZ, hNZ⟩ : ∃ N, N = strOfNums (List.replicate Z (0 : Int)) := ⟨_, rfl⟩
  have hNs : NZ.size = Z := by rw [hNZ, strOfNums_size, List.length_replicate]
  have HE := Lib.hid (show { data := #[3, 0] } ++ N2 ++ N4 ++ K ++ NZ = strOfNums (chB p x S) by
    rw [chB, hd8, ← hL, strOf_app2, strOf_app2, strOf_app2, strOf_app2, strOf_app2, strOf_app2, ← hN2, ← hN4, ← hK, ← hZ, ← hNZ, ← ByteArray.append_assoc]; rfl)
  rw [← hK] at hS2 hsz ⊢
  rw [← hL] at hsz h3 h4
  have hS3 : K.toList.isEmpty = false := by simpa using hS2
  have hS4 : (K.toList == []) = false := by simpa using hS2
  have hL9 : L ≤ 4096 := by omega
  have hS9 : S ≤ 4096 := by omega
  have hd2 : decide ((S : Int) - 8 < (L : Int)) = false := by simp; omega
  have hw1 : IntKind.i64.wrap ((S : Int) - 8) = (S : Int) - 8 := IntWalk.i64_in _ (by omega)
  have hu1 : IntKind.u64.wrap (L : Int) = (L : Int) := by rw [show IntKind.u64.wrap (L : Int) = (L : Int) % 18446744073709551616 from rfl]; omega
  have hu2 : IntKind.u64.wrap (x : Int) = (x : Int) := by rw [show IntKind.u64.wrap (x : Int) = (x : Int) % 18446744073709551616 from rfl]; omega
  have HZI := Lib.hid (show (S : Int) - (2 + 2 + 4 + (L : Int)) = (Z : Int) by omega)
  have HN2 := Lib.hid hN2
  have HN4 := Lib.hid hN4
  have HNZ := Lib.hid hNZ
  have hZ9 : Z ≤ 4096 := by omega
  have hz1' : ¬ 9223372036854775807 < 2 + 2 := by omega
  have hz3 : ¬ 9223372036854775807 < 2 + 2 + 4 := by omega
  have hz4 : ¬ 9223372036854775807 < 2 + 2 + 4 + L := by omega
  have hz5 : ¬ 9223372036854775807 < 2 + 2 + 4 + L + Z := by omega
  clear hK hL hN2 hN4 hNZ hZ hpz hp h3 h4
  go_enter Try.func15, Try.ntmps15
  go_wp2_with (first
    | (go_at_call 26; have Kc := refNum_of w L 2 2 rfl (by omega) (by omega) (by omega); rw [← HN2.out] at Kc; ((with_reducible refine Kc.mono ?_); clear Kc; rintro r w2 ⟨rfl, hg⟩); have G2 := Lib.hid hg; clear hg)
    | (go_at_call 26; have Kc := refNum_of w2 x 4 4 rfl (by omega) (by omega) (by omega); rw [← HN4.out] at Kc; ((with_reducible refine Kc.mono ?_); clear Kc; rintro r w3 ⟨rfl, hg⟩); have G3 := Lib.hid (gtrans G2.out hg); clear hg)
    | (at_make; refine wpList_make_full _ rfl _ _ 22 rfl 0 5 i0 (.int .u8 0) 1 Try.underlying22 hi hz0 hz1 .i64 .i64 _ _ Z rfl rfl ?c1 ?c2 ?c3 ?c4 (Nat.zero_le _) ?_; (case c1 => have := HZI.out; omega); (case c2 => have := HZI.out; omega); (case c3 => rw [hz2]; omega); (case c4 => unfold maxLen; omega); intro wM hown hgM; have hcv := seq_string (seq_made hown); rw [← HNZ.out] at hcv; have G4 := Lib.hid (gtrans G3.out hgM); clear hown hgM))
  go_ret2
  exact ⟨by rw [← HE.out]; rfl, G4.out⟩

end Go.Proofs.Ytpgpilalhbdidab
