/-
  Plain: numbers and bytes one behind the other, as they are put and read. Own work; of no program.
-/
import Derived.Test.YtmphogmiobpkkaaOctX
import Derived.Test.YtmphogmiobpkkaaOctE
namespace Go.Proofs.Ytmphogmiobpkkaa
open Go.RowKit

theorem numB_len (x : Int) (n k : Nat) : (numB x n k).length = k := by simp [numB]
theorem numB_byt (x : Int) (n k : Nat) : Byt (numB x n k) := by
  intro c hc
  simp only [numB, List.mem_map] at hc
  obtain ⟨i, _, rfl⟩ := hc
  omega

theorem be_numB (X n : Nat) : ∀ k, k ≤ n → beVal (numB (X : Int) n k) = ((X / 256 ^ (n - k) % 256 ^ k : Nat) : Int)
  | 0, _ => by simp [numB, beVal, Nat.mod_one]
  | k + 1, h => by
    have ih := be_numB X n k (by omega)
    rw [numB_snoc, beVal_snoc, ih]
    have e1 : n - k = (n - 1 - k) + 1 := by omega
    have e2 : n - (k + 1) = n - 1 - k := by omega
    rw [e1, e2, Nat.pow_succ 256 (n - 1 - k), ← Nat.div_div_eq_div_mul]
    have hc : (X : Int) / 256 ^ (n - 1 - k) % 256 = ((X / 256 ^ (n - 1 - k) % 256 : Nat) : Int) := by
      rw [Int.natCast_emod, Int.natCast_ediv, Int.natCast_pow]; rfl
    rw [hc]
    generalize X / 256 ^ (n - 1 - k) = y
    have hm : y % (256 * 256 ^ k) = y % 256 + 256 * (y / 256 % 256 ^ k) := Nat.mod_mul
    rw [Nat.pow_succ, Nat.mul_comm (256 ^ k) 256, hm]
    omega
theorem be_num (X n : Nat) : beVal (numB (X : Int) n n) = ((X % 256 ^ n : Nat) : Int) := by
  have := be_numB X n n (Nat.le_refl _)
  simpa using this

theorem nx_app (l m : List Int) (n : Int) (r : Bool) (hn : n = (l.length : Int)) (hr : r = true) : nx (l ++ m) 0 n r = (m, 0, l) := by
  subst hn; subst hr
  have h : ¬ ((l ++ m).length : Int) < l.length := by rw [List.length_append]; omega
  have h2 : ¬ ((l.length : Int) + (m.length : Int) < (l.length : Int)) := by omega
  simp [nx, h2]

theorem bx_app (b m : List Int) (most : Int) (hb : (b.length : Int) ≤ most) (h : b.length < 18446744073709551616) : bx (varB b.length ++ (b ++ m)) 0 most = (m, 0, b) := by
  have hv := vx_varB b.length h (b ++ m)
  unfold bx
  rw [hv]
  have h1 : ¬ (most < 0 ∨ most < (b.length : Int)) := by omega
  simp only [ne_eq, not_true_eq_false, if_false, h1]
  exact nx_app b m _ _ rfl rfl

/-- What is put of one number. -/
def eB (b : List Int) (n : Nat) (x : Int) : List Int := varB x.toNat ++ (numB x n n ++ (varB b.length ++ b))
def encB (b : List Int) (n : Nat) (l : List Int) : List Int := l.flatMap (eB b n)

theorem encB_take (b : List Int) (n : Nat) (l : List Int) (k : Nat) (hk : k < l.length) : encB b n (l.take (k + 1)) = encB b n (l.take k) ++ eB b n (l.getD k 0) := by
  have e : l.take (k + 1) = l.take k ++ [l.getD k 0] := by rw [List.take_succ_eq_append_getElem hk]; simp [List.getElem?_eq_getElem hk]
  rw [e]
  simp only [encB, List.flatMap_append, List.flatMap_cons, List.flatMap_nil, List.append_nil]
theorem encB_drop (b : List Int) (n : Nat) (l : List Int) (k : Nat) (hk : k < l.length) : encB b n (l.drop k) = eB b n (l.getD k 0) ++ encB b n (l.drop (k + 1)) := by
  have e : l.drop k = l.getD k 0 :: l.drop (k + 1) := by rw [List.drop_eq_getElem_cons hk]; simp [List.getElem?_eq_getElem hk]
  rw [e]
  simp only [encB, List.flatMap_cons]
theorem eB_len (b : List Int) (n : Nat) (x : Int) (hx : x < 18446744073709551616) (hb : b.length ≤ 300) (hn : n ≤ 8) : (eB b n x).length ≤ 328 := by
  have h1 := vlen_le x.toNat (by omega)
  have h2 := vlen_le b.length (by omega)
  simp only [eB, List.length_append, varB_len, numB_len]
  omega
theorem encB_len (b : List Int) (n : Nat) (hb : b.length ≤ 300) (hn : n ≤ 8) : ∀ l : List Int, (∀ x ∈ l, x < 18446744073709551616) → (encB b n l).length ≤ 328 * l.length
  | [], _ => by simp [encB]
  | x :: l, h => by
    have h1 := eB_len b n x (h x (by simp)) hb hn
    have h2 := encB_len b n hb hn l (fun y hy => h y (by simp [hy]))
    have e : encB b n (x :: l) = eB b n x ++ encB b n l := by simp [encB]
    rw [e, List.length_append, List.length_cons]
    omega
theorem eB_byt (b : List Int) (n : Nat) (x : Int) (hb : Byt b) : Byt (eB b n x) :=
  Byt.app (varB_byt _) (Byt.app (numB_byt _ _ _) (Byt.app (varB_byt _) hb))
theorem encB_byt (b : List Int) (n : Nat) (hb : Byt b) (l : List Int) : Byt (encB b n l) := by
  intro c hc
  simp only [encB, List.mem_flatMap] at hc
  obtain ⟨x, _, hc⟩ := hc
  exact eB_byt b n x hb c hc

end Go.Proofs.Ytmphogmiobpkkaa
