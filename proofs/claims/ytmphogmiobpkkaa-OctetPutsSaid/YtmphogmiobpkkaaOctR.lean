/-
  The contracts of the document's answers for layer 1 (Num, Var, Bytes as texts). Own work.
-/
import Derived.Test.YtmphogmiobpkkaaOctY
import Derived.Test.YtmphogmiobpkkaaOctZ
namespace Go.Proofs.Ytmphogmiobpkkaa
open Go.RowKit

theorem strOf_app2 (a b : List Int) : strOfNums (a ++ b) = strOfNums a ++ strOfNums b := by
  apply ByteArray.ext
  simp [strOfNums, List.map_append]
theorem strOf_cons (x : Int) (b : List Int) : strOfNums (x :: b) = strOfNums [x] ++ strOfNums b := strOf_app2 [x] b

theorem conv_one (w : World) (y : Int) : (convert 27 9 (.slice (some ⟨w.heap.size, 0, none⟩) 1 1)).run Try.prog (w.alloc (.cells #[.int .u8 y] 5)) = .ok (.string (strOfNums [y])) (w.alloc (.cells #[.int .u8 y] 5)) :=
  run_convert_bytes_arg _ 27 5 Try.underlying27 Try.underlying5 w.heap.size 0 1 1 [y] rfl (fun i hi => by
    obtain rfl : i = 0 := by omega
    rw [World.cell?_alloc_mark]; rfl) 9 Try.underlying9

def lowB (X : Nat) : Nat → List Int
  | 0 => []
  | k + 1 => ((X / 256 ^ k % 256 : Nat) : Int) :: lowB X k
theorem lowB_len (X : Nat) : ∀ k, (lowB X k).length = k
  | 0 => rfl
  | k + 1 => by simp [lowB, lowB_len X k]
theorem lowB_num (X : Nat) : ∀ k, lowB X k = numB (X : Int) k k
  | 0 => rfl
  | k + 1 => by
    rw [lowB, lowB_num X k]
    simp only [numB]
    rw [List.range_succ_eq_map, List.map_cons, List.map_map]
    congr 1
    refine List.map_congr_left fun i hi => ?_
    have hi : i < k := by simpa using hi
    have e : k + 1 - 1 - (i + 1) = k - 1 - i := by omega
    simp only [Function.comp, Nat.succ_eq_add_one, e]

set_option maxHeartbeats 1000000 in
theorem refNum_in (w : World) (X n : Nat) (hX : X < 18446744073709551616) (h1 : 1 ≤ n) (h8 : n ≤ 8) :
    Calls Try.prog 11 #[.int .u64 X, .int .i64 n] w fun r w' => r = .returned (.string (strOfNums (numB (X : Int) n n))) ∧ w.grownBy w' none := by
  have cv := conv_one
  have one : ∀ y, (strOfNums [y]).size = 1 := fun y => by rw [strOfNums_size]; rfl
  go_enter Try.func11, Try.ntmps11
  go_wp2
  go_loopw [0, 5, 6] (fun x s i wr => ∃ (k Z : Nat) (S : ByteArray), k ≤ n ∧ i = .int .i64 k ∧ x = .int .u64 Z ∧ Z = X / 256 ^ k ∧ s = .string S ∧ S = strOfNums (lowB X k) ∧ w.grownBy wr none) (fun _ _ i _ => n - (intOf i).toNat)
  case atStart => exact ⟨0, X, _, Nat.zero_le _, rfl, rfl, by simp, rfl, rfl, grefl _ _⟩
  case round =>
    obtain ⟨k, Z, S, hk, rfl, rfl, hZ, rfl, hS, hg⟩ := hrel
    have HG := Lib.hid hg
    have hsz : S.size ≤ 8 := by rw [hS, strOfNums_size, lowB_len]; omega
    have HS := Lib.hid hS
    have hZ1 : Z < 18446744073709551616 := by rw [hZ]; exact Nat.lt_of_le_of_lt (Nat.div_le_self _ _) hX
    have HZ := Lib.hid hZ
    clear hS hZ hg
    by_cases hlt : k < n
    · go_wp2
      go_roundw
      case rel =>
        refine ⟨k + 1, Z / 256, _, by omega, by go_num, by go_num, ?_, rfl, ?_, gtrans HG.out (World.grownBy_alloc _ _ _)⟩
        · rw [HZ.out, Nat.div_div_eq_div_mul, Nat.pow_succ]
        · have e : ((X / 256 ^ k % 256 : Nat) : Int) = (Z : Int) % 256 := by rw [← HZ.out]; omega
          rw [lowB, e, strOf_cons ((Z : Int) % 256) (lowB X k), ← HS.out]
      case measure => simp [intOf]; omega
    · obtain rfl : k = n := by omega
      go_wp2
      go_ret
      exact ⟨by show Ending.returned (.string S) = _; rw [HS.out, lowB_num], HG.out⟩

set_option maxHeartbeats 1000000 in
theorem refNum_out (w : World) (x n : Int) (h : n < 1 ∨ 8 < n) :
    Calls Try.prog 11 #[.int .u64 x, .int .i64 n] w fun r w' => r = .returned (.string (strOfNums [])) ∧ w = w' := by
  rcases h with h | h
  · go_enter Try.func11, Try.ntmps11
    go_wp2
    go_ret
    exact ⟨rfl, rfl⟩
  · have h1 : ¬ n < 1 := by omega
    go_enter Try.func11, Try.ntmps11
    go_wp2
    go_ret
    exact ⟨rfl, rfl⟩

set_option maxHeartbeats 1000000 in
theorem refVar_any (w : World) (X : Nat) (hX : X < 18446744073709551616) :
    Calls Try.prog 13 #[.int .u64 X] w fun r w' => r = .returned (.string (strOfNums (varB X))) ∧ w.grownBy w' none := by
  have cv := conv_one
  have one : ∀ y, (strOfNums [y]).size = 1 := fun y => by rw [strOfNums_size]; rfl
  have H10 := Lib.hid (show (varB X).length ≤ 10 by rw [varB_len]; exact vlen_le X (by omega))
  go_enter Try.func13, Try.ntmps13
  go_wp2
  go_loopw [0, 3] (fun x s wr => ∃ (Z : Nat) (S : ByteArray) (l : List Int), x = .int .u64 Z ∧ Z < 18446744073709551616 ∧ s = .string S ∧ S = strOfNums l ∧ hiB Z ++ l = varB X ∧ w.grownBy wr none) (fun x _ _ => (intOf x).toNat)
  case atStart => exact ⟨X, _, [((X % 128 : Nat) : Int)], rfl, hX, rfl, by congr 2, rfl, World.grownBy_alloc _ _ _⟩
  case round =>
    obtain ⟨Z, S, l, rfl, hZ, rfl, hS, hl, hg⟩ := hrel
    have HG := Lib.hid hg
    have hsz : S.size ≤ 10 := by
      have := congrArg List.length hl
      rw [List.length_append] at this
      have := H10.out
      rw [hS, strOfNums_size]; omega
    have HS := Lib.hid hS
    have HL := Lib.hid hl
    clear hS hl hg
    by_cases hlt : 127 < Z
    · go_wp2
      go_roundw
      case rel =>
        refine ⟨Z / 128, _, ((Z : Int) / 128 % 128 + 128) :: l, by go_num, by omega, rfl, ?_, ?_, gtrans HG.out (World.grownBy_alloc _ _ _)⟩
        · rw [strOf_cons _ l, ← HS.out]
        · have h := HL.out
          rw [hiB_big (by omega), List.append_assoc, show (128 : Int) + ((Z / 128 % 128 : Nat) : Int) = (Z : Int) / 128 % 128 + 128 by omega] at h
          exact h
      case measure => simp [intOf]; omega
    · have HE := Lib.hid (show l = varB X by have := HL.out; rwa [hiB_small (by omega), List.nil_append] at this)
      go_wp2
      go_ret
      exact ⟨by show Ending.returned (.string S) = _; rw [HS.out, HE.out], HG.out⟩

set_option maxHeartbeats 1000000 in
theorem refBytes_core (w : World) (S V : ByteArray) (n : Nat) (hz : S.size = n) (hv : V.size ≤ 10) (hn : n ≤ 300)
    (HR : Hid (Calls Try.prog 13 #[.int .u64 n] w fun r w' => r = .returned (.string V) ∧ w.grownBy w' none)) :
    Calls Try.prog 15 #[.string S] w fun r w' => r = .returned (.string (V ++ S)) ∧ w.grownBy w' none := by
  go_enter Try.func15, Try.ntmps15
  go_wp2_with (go_at_call 13; ((with_reducible refine HR.out.mono ?_); rintro r w1 ⟨rfl, hg⟩))
  go_ret
  exact ⟨rfl, hg⟩
theorem refBytes_any (w : World) (xs : List Int) (hl : xs.length ≤ 300) :
    Calls Try.prog 15 #[.string (strOfNums xs)] w fun r w' => r = .returned (.string (strOfNums (varB xs.length ++ xs))) ∧ w.grownBy w' none := by
  rw [strOf_app2]
  exact refBytes_core w _ _ xs.length (strOfNums_size xs) (by rw [strOfNums_size, varB_len]; exact vlen_le _ (by omega)) hl (Lib.hid (refVar_any w xs.length (by omega)))

end Go.Proofs.Ytmphogmiobpkkaa
