/-
  The contract of the document's Num as a text, for seats without octet's own laws. Own work.
-/
import Derived.Test.YtpgpilalhbdidaaOctE
import Derived.Laws.IdiomStrings
namespace Go.Proofs.Ytpgpilalhbdidaa
open Go.RowKit

theorem strOf_app2 (a b : List Int) : strOfNums (a ++ b) = strOfNums a ++ strOfNums b := by
  apply ByteArray.ext
  simp [strOfNums, List.map_append]
theorem strOf_cons (x : Int) (b : List Int) : strOfNums (x :: b) = strOfNums [x] ++ strOfNums b := strOf_app2 [x] b

theorem conv_one (w : World) (y : Int) : (convert 49 9 (.slice (some ⟨w.heap.size, 0, none⟩) 1 1)).run Try.prog (w.alloc (.cells #[.int .u8 y] 5)) = .ok (.string (strOfNums [y])) (w.alloc (.cells #[.int .u8 y] 5)) :=
  run_convert_bytes_arg _ 49 5 Try.underlying49 Try.underlying5 w.heap.size 0 1 1 [y] rfl (fun i hi => by
    obtain rfl : i = 0 := by omega
    rw [World.cell?_alloc_mark]; rfl) 9 Try.underlying9

def lowB (X : Nat) : Nat → List Int
  | 0 => []
  | k + 1 => ((X / 256 ^ k % 256 : Nat) : Int) :: lowB X k
theorem lowB_len (X : Nat) : ∀ k, (lowB X k).length = k
  | 0 => rfl
  | k + 1 => by simp [lowB, lowB_len X k]
theorem lowB_num (X : Nat) : ∀ k, lowB X k = numB (X : Int) k k
  | 0 => rfl
  | k + 1 => by
    rw [lowB, lowB_num X k]
    simp only [numB]
    rw [List.range_succ_eq_map, List.map_cons, List.map_map]
    congr 1
    refine List.map_congr_left fun i hi => ?_
    have hi : i < k := by simpa using hi
    have e : k + 1 - 1 - (i + 1) = k - 1 - i := by omega
    simp only [Function.comp, Nat.succ_eq_add_one, e]

set_option maxHeartbeats 1000000 in
theorem refNum_in (w : World) (X n : Nat) (hX : X < 18446744073709551616) (h1 : 1 ≤ n) (h8 : n ≤ 8) :
    Calls Try.prog 45 #[.int .u64 X, .int .i64 n] w fun r w' => r = .returned (.string (strOfNums (numB (X : Int) n n))) ∧ w.grownBy w' none := by
  have cv := conv_one
  have one : ∀ y, (strOfNums [y]).size = 1 := fun y => by rw [strOfNums_size]; rfl
  go_enter Try.func45, Try.ntmps45
  go_wp2
  go_loopw [0, 5, 6] (fun x s i wr => ∃ (k Z : Nat) (S : ByteArray), k ≤ n ∧ i = .int .i64 k ∧ x = .int .u64 Z ∧ Z = X / 256 ^ k ∧ s = .string S ∧ S = strOfNums (lowB X k) ∧ w.grownBy wr none) (fun _ _ i _ => n - (intOf i).toNat)
  case atStart => exact ⟨0, X, _, Nat.zero_le _, rfl, rfl, by simp, rfl, rfl, grefl _ _⟩
  case round =>
    obtain ⟨k, Z, S, hk, rfl, rfl, hZ, rfl, hS, hg⟩ := hrel
    have HG := Lib.hid hg
    have hsz : S.size ≤ 8 := by rw [hS, strOfNums_size, lowB_len]; omega
    have HS := Lib.hid hS
    have hZ1 : Z < 18446744073709551616 := by rw [hZ]; exact Nat.lt_of_le_of_lt (Nat.div_le_self _ _) hX
    have HZ := Lib.hid hZ
    clear hS hZ hg
    by_cases hlt : k < n
    · go_wp2
      go_roundw
      case rel =>
        refine ⟨k + 1, Z / 256, _, by omega, by go_num, by go_num, ?_, rfl, ?_, gtrans HG.out (World.grownBy_alloc _ _ _)⟩
        · rw [HZ.out, Nat.div_div_eq_div_mul, Nat.pow_succ]
        · have e : ((X / 256 ^ k % 256 : Nat) : Int) = (Z : Int) % 256 := by rw [← HZ.out]; omega
          rw [lowB, e, strOf_cons ((Z : Int) % 256) (lowB X k), ← HS.out]
      case measure => simp [intOf]; omega
    · obtain rfl : k = n := by omega
      go_wp2
      go_ret
      exact ⟨by show Ending.returned (.string S) = _; rw [HS.out, lowB_num], HG.out⟩

theorem refNum_of (w : World) (X n : Nat) (i : Int) (hi : i = (n : Int)) (hX : X < 18446744073709551616) (h1 : 1 ≤ n) (h8 : n ≤ 8) :
    Calls Try.prog 45 #[.int .u64 X, .int .i64 i] w fun r w' => r = .returned (.string (strOfNums (numB (X : Int) n n))) ∧ w.grownBy w' none := by
  subst hi; exact refNum_in w X n hX h1 h8

end Go.Proofs.Ytpgpilalhbdidaa
