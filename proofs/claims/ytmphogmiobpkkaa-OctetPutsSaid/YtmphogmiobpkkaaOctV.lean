/-
  Plain numbers: a number as short as can be. Own work; of no program.
-/
import Derived.Test.YtmphogmiobpkkaaOctM
import Derived.Lib.BitFns
import Derived.Lib.ItoaNum
namespace Go.Proofs.Ytmphogmiobpkkaa
open Go.RowKit

/-- How many bytes a number has that is as short as can be. -/
def vlen (x : Nat) : Nat := if h : x < 128 then 1 else 1 + vlen (x / 128)
termination_by x
decreasing_by omega

theorem vlen_pos (x : Nat) : 1 ≤ vlen x := by rw [vlen]; split <;> omega
theorem vlen_small {x : Nat} (h : x < 128) : vlen x = 1 := by rw [vlen, dif_pos h]
theorem vlen_big {x : Nat} (h : 128 ≤ x) : vlen x = 1 + vlen (x / 128) := by rw [vlen, dif_neg (by omega)]

/-- The number of bytes is told by the powers of 128 about the number. -/
theorem vlen_of : ∀ (L x : Nat), x < 128 ^ (L + 1) → (0 < L → 128 ^ L ≤ x) → vlen x = L + 1
  | 0, x, h, _ => vlen_small (by simpa using h)
  | L + 1, x, h, k => by
    have k1 := k (by omega)
    have hp : 128 ^ (L + 1) = 128 ^ L * 128 := Nat.pow_succ ..
    have hq : 0 < 128 ^ L := Nat.pow_pos (by omega)
    rw [vlen_big (by omega), vlen_of L (x / 128) (by rw [Nat.pow_succ] at h; omega) (fun _ => by omega)]
    omega

theorem bitLen_bounds (y : Nat) (h : y < 2 ^ 64) (h0 : y ≠ 0) : 1 ≤ Lib.bitLen y ∧ 2 ^ (Lib.bitLen y - 1) ≤ y ∧ y < 2 ^ Lib.bitLen y := Lib.bitLenAux_bounds 64 y h h0

theorem or_one (x : Nat) : x ||| 1 = x + (1 - x % 2) := by
  have h : x ||| 1 = 2 * (x / 2) + 1 := by
    have := nat_join 1 (2 * (x / 2)) 1 (by omega) (by omega)
    have hx : x = 2 * (x / 2) ||| (x % 2) := by rw [nat_join 1 (2 * (x / 2)) (x % 2) (by omega) (by omega)]; omega
    rcases Nat.mod_two_eq_zero_or_one x with e | e
    · have h2 : x = 2 * (x / 2) := by omega
      rw [← this, ← h2]
    · rw [← this]
      conv => lhs; rw [hx, e, Nat.or_assoc, Nat.or_self]
  omega

/-- What varLen reckons is the number of bytes. -/
theorem vlen_bits (x : Nat) (h : x < 2 ^ 64) : (Lib.bitLen (x ||| 1) + 7 - 1) / 7 = vlen x := by
  have ho := or_one x
  have hy : x ||| 1 < 2 ^ 64 := by omega
  obtain ⟨b1, b2, b3⟩ := bitLen_bounds (x ||| 1) hy (by omega)
  generalize hm : Lib.bitLen (x ||| 1) = m at *
  generalize hyy : x ||| 1 = y at *
  obtain ⟨L, hL⟩ : ∃ L, (m + 7 - 1) / 7 = L + 1 := ⟨(m + 7 - 1) / 7 - 1, by omega⟩
  rw [hL]
  have e1 : (128 : Nat) ^ (L + 1) = 2 ^ (7 * (L + 1)) := by rw [Nat.pow_mul]
  have e2 : (128 : Nat) ^ L = 2 ^ (7 * L) := by rw [Nat.pow_mul]
  refine (vlen_of L x ?_ fun hp => ?_).symm
  · rw [e1]
    exact Nat.lt_of_le_of_lt (by omega) (Nat.lt_of_lt_of_le b3 (Nat.pow_le_pow_right (by omega) (by omega)))
  · have h1 : 2 ^ (7 * L) ≤ 2 ^ (m - 1) := Nat.pow_le_pow_right (by omega) (by omega)
    have h2 : 2 ^ (7 * L) % 2 = 0 := by
      obtain ⟨k, hk⟩ : ∃ k, 7 * L = k + 1 := ⟨7 * L - 1, by omega⟩
      rw [hk, Nat.pow_succ]; omega
    rw [e2]; omega

theorem vlen_le (x : Nat) (h : x < 2 ^ 64) : vlen x ≤ 10 := by
  rw [← vlen_bits x h]
  have ho := or_one x
  have := Lib.bitLen_le (x ||| 1) 64 (by omega) (by omega)
  omega

/-- The bytes ahead of the last one. -/
def hiB (x : Nat) : List Int := if _h : x < 128 then [] else hiB (x / 128) ++ [128 + ((x / 128 % 128 : Nat) : Int)]
termination_by x
decreasing_by omega
def varB (x : Nat) : List Int := hiB x ++ [((x % 128 : Nat) : Int)]

theorem hiB_small {x : Nat} (h : x < 128) : hiB x = [] := by rw [hiB, dif_pos h]
theorem hiB_big {x : Nat} (h : 128 ≤ x) : hiB x = hiB (x / 128) ++ [128 + ((x / 128 % 128 : Nat) : Int)] := by rw [hiB, dif_neg (by omega)]
theorem hiB_len (x : Nat) : (hiB x).length + 1 = vlen x := by
  induction x using Nat.strongRecOn with
  | ind x ih =>
    rcases Nat.lt_or_ge x 128 with h | h
    · rw [hiB_small h, vlen_small h]; rfl
    · rw [hiB_big h, vlen_big h, List.length_append, ← ih (x / 128) (by omega)]
      simp; omega
theorem varB_len (x : Nat) : (varB x).length = vlen x := by rw [varB, List.length_append, ← hiB_len]; rfl

/-- What the writer's loop has put after k rounds. -/
def hiT (x L k : Nat) : List Int := (List.range k).map fun i => 128 + ((x / 128 ^ (L - i) % 128 : Nat) : Int)
theorem hiT_snoc (x L k : Nat) : hiT x L (k + 1) = hiT x L k ++ [128 + ((x / 128 ^ (L - k) % 128 : Nat) : Int)] := by simp [hiT, List.range_succ]
theorem hiT_all : ∀ (L x : Nat), vlen x = L + 1 → hiT x L L = hiB x
  | 0, x, h => by
    have : x < 128 := by
      rcases Nat.lt_or_ge x 128 with k | k
      · exact k
      · rw [vlen_big k] at h; have := vlen_pos (x / 128); omega
    rw [hiB_small this]; rfl
  | L + 1, x, h => by
    have hx : 128 ≤ x := by
      rcases Nat.lt_or_ge x 128 with k | k
      · rw [vlen_small k] at h; omega
      · exact k
    have hv : vlen (x / 128) = L + 1 := by rw [vlen_big hx] at h; omega
    rw [hiB_big hx, ← hiT_all L (x / 128) hv, hiT_snoc]
    congr 1
    · simp only [hiT]
      refine List.map_congr_left fun i hi => ?_
      have hi : i < L := by simpa using hi
      rw [Nat.div_div_eq_div_mul, show L + 1 - i = (L - i) + 1 by omega, Nat.pow_succ, Nat.mul_comm 128]
    · simp

theorem hiB_high (x : Nat) : ∀ c ∈ hiB x, 128 ≤ c ∧ c ≤ 255 := by
  induction x using Nat.strongRecOn with
  | ind x ih =>
    rcases Nat.lt_or_ge x 128 with h | h
    · rw [hiB_small h]; intro c hc; simp at hc
    · rw [hiB_big h]
      intro c hc
      rcases List.mem_append.1 hc with hc | hc
      · exact ih _ (by omega) c hc
      · simp at hc; omega
theorem varB_byt (x : Nat) : Byt (varB x) := by
  intro c hc
  rcases List.mem_append.1 hc with hc | hc
  · have := hiB_high x c hc; omega
  · simp at hc; omega

end Go.Proofs.Ytmphogmiobpkkaa
