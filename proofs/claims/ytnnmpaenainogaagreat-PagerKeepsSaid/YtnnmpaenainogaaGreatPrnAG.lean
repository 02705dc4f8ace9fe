/-
  Plain numbers: a bit more, a byte more, and sums of bytes as powers of one linear step on numbers without a bound. Own work; of no program.
-/
import Derived.WalkKit

set_option linter.unusedVariables false
set_option linter.unusedSimpArgs false
namespace Go.Proofs.YtnnmpaenainogaaGreat
open Go.RowKit
def bm (x : Nat) : Nat := if x % 2 = 1 then x / 2 ^^^ 3988292384 else x / 2
def bms : Nat→Nat→Nat
  | 0,x => x
  | n + 1,x => bms n (bm x)
theorem xor4 (a b c d : Nat) : (a ^^^ b) ^^^ (c ^^^ d) = (a ^^^ c) ^^^ (b ^^^ d) := by
  rw [Nat.xor_assoc,← Nat.xor_assoc b c d,Nat.xor_comm b c,Nat.xor_assoc c b d,← Nat.xor_assoc]
theorem bm_xor (x y : Nat) : bm (x ^^^ y) = bm x ^^^ bm y := by
  have h := Nat.xor_mod_two_eq_one (a := x) (b := y)
  unfold bm
  rw [Nat.xor_div_two]
  by_cases hx : x % 2 = 1 <;> by_cases hy : y % 2 = 1 <;> simp only [hx,hy,iff_true,iff_false,true_iff,false_iff,not_true_eq_false,not_false_eq_true,if_true,if_false] at h ⊢
  · rw [if_neg h,xor4,Nat.xor_self,Nat.xor_zero]
  · rw [if_pos h,Nat.xor_assoc,Nat.xor_assoc,Nat.xor_comm (y / 2)]
  · rw [if_pos h,Nat.xor_assoc]
  · rw [if_neg h]
theorem bms_xor : ∀ (n x y : Nat),bms n (x ^^^ y) = bms n x ^^^ bms n y
  | 0,_,_ => rfl
  | n + 1,x,y => by simp only [bms,bm_xor,bms_xor n]
theorem bms_add : ∀ (m n x : Nat),bms (m + n) x = bms n (bms m x)
  | 0,n,x => by simp [bms]
  | m + 1,n,x => by rw [Nat.succ_add]; simp only [bms]; exact bms_add m n _
theorem bms_succ (n x : Nat) : bms (n + 1) x = bm (bms n x) := bms_add n 1 x
theorem bm_even (y : Nat) : bm (2 * y) = y := by
  unfold bm
  rw [if_neg (by omega)]; omega
theorem bms_pow : ∀ (n y : Nat),bms n (2 ^ n * y) = y
  | 0,y => by simp [bms]
  | n + 1,y => by
    have : 2 ^ (n + 1) * y = 2 * (2 ^ n * y) := by rw [Nat.pow_succ,Nat.mul_comm (2 ^ n) 2,Nat.mul_assoc]
    rw [this]; simp only [bms,bm_even]; exact bms_pow n y
theorem bm_lt {x : Nat} (h : x < 4294967296) : bm x < 4294967296 := by
  unfold bm
  split
  · exact Nat.xor_lt_two_pow (n := 32) (by omega) (by decide)
  · omega
theorem bms_lt : ∀ (n : Nat) {x : Nat},x < 4294967296→bms n x < 4294967296
  | 0,_,h => h
  | n + 1,_,h => bms_lt n (bm_lt h)
theorem add_xor (n a b : Nat) (h : b < 2 ^ n) : 2 ^ n * a + b = 2 ^ n * a ^^^ b := by
  apply Nat.eq_of_testBit_eq
  intro j
  rw [Nat.testBit_two_pow_mul_add _ h,Nat.testBit_xor,Nat.testBit_two_pow_mul]
  by_cases hj : j < n
  · have : ¬ j ≥ n := by omega
    simp [hj,this]
  · have h2 : j ≥ n := by omega
    have h3 : b.testBit j = false := Nat.testBit_lt_two_pow (Nat.lt_of_lt_of_le h (Nat.pow_le_pow_right (by decide) h2))
    simp [hj,h2,h3]
theorem bm4 (x : Nat) : bms 4 x = x / 16 ^^^ bms 4 (x % 16) := by
  have h : x = 2 ^ 4 * (x / 16) ^^^ x % 16 := by
    rw [← add_xor 4 _ _ (by omega)]; omega
  calc bms 4 x = bms 4 (2 ^ 4 * (x / 16) ^^^ x % 16) := by rw [← h]
    _ = _ := by rw [bms_xor,bms_pow]
def more (x : Nat) (l : List Int) : Nat := l.foldl (fun x c => bms 8 (x ^^^ c.toNat)) x
def crcN (l : List Int) : Nat := more 4294967295 l ^^^ 4294967295
theorem more_app (x : Nat) (l m : List Int) : more x (l++m) = more (more x l) m := by simp [more]
def BytN (l : List Int) : Prop := ∀ x∈l,0≤x∧x≤255
theorem more_lt : ∀ (l : List Int) {x : Nat},BytN l→x < 4294967296→more x l < 4294967296
  | [],_,_,h => h
  | c :: l,x,hb,h => by
    have hc := hb c (by simp)
    exact more_lt l (fun y hy => hb y (by simp [hy])) (bms_lt 8 (Nat.xor_lt_two_pow (n := 32) h (by omega)))
theorem crcN_lt {l : List Int} (hb : BytN l) : crcN l < 4294967296 := Nat.xor_lt_two_pow (n := 32) (more_lt l hb (by decide)) (by decide)
end Go.Proofs.YtnnmpaenainogaaGreat

namespace Go.Proofs.YtnnmpaenainogaaGreat
open Go.RowKit
end Go.Proofs.YtnnmpaenainogaaGreat
