/-
  Bytes as texts: how two of them stand. Own work.
-/
import Derived.Test.YtnnmpaenainogaaGreatPrnAC
import Derived.Lib.Bytes

set_option linter.unusedVariables false
set_option linter.unusedSimpArgs false
namespace Go.Proofs.YtnnmpaenainogaaGreat
open Go.RowKit
theorem less_bytes : ∀ a b : List Int,Byt a→Byt b→Op.bytesLess (Lib.bytesOf a) (Lib.bytesOf b) = decide (cmpL a b < 0)
  | [],[],_,_ => by simp [Op.bytesLess,cmpL,Lib.bytesOf]
  | _ :: _,[],_,_ => by simp [Op.bytesLess,cmpL,Lib.bytesOf]
  | [],_ :: _,_,_ => by simp [Op.bytesLess,cmpL,Lib.bytesOf]
  | x :: a,y :: b,ha,hb => by
    have ih := less_bytes a b (fun z hz => ha z (by simp [hz])) (fun z hz => hb z (by simp [hz]))
    have hx := ha x (by simp)
    have hy := hb y (by simp)
    have e1 : (UInt8.ofNat x.toNat < UInt8.ofNat y.toNat)↔x < y := by
      rw [UInt8.lt_iff_toNat_lt,UInt8.toNat_ofNat',UInt8.toNat_ofNat']; omega
    have e2 : (UInt8.ofNat x.toNat = UInt8.ofNat y.toNat)↔x = y := by
      constructor
      · intro h
        have := congrArg UInt8.toNat h
        rw [UInt8.toNat_ofNat',UInt8.toNat_ofNat'] at this; omega
      · intro h; rw [h]
    show (decide (UInt8.ofNat x.toNat < UInt8.ofNat y.toNat) || ((UInt8.ofNat x.toNat == UInt8.ofNat y.toNat) && Op.bytesLess (Lib.bytesOf a) (Lib.bytesOf b))) = _
    rw [ih,cmpL]
    by_cases h1 : x < y
    · rw [if_pos h1]; simp [e1.2 h1]
    · rw [if_neg h1,decide_eq_false (fun h => h1 (e1.1 h)),Bool.false_or]
      by_cases h2 : y < x
      · rw [if_pos h2,beq_eq_false_iff_ne.2 (fun h => by have := e2.1 h; omega)]; simp
      · rw [if_neg h2,beq_iff_eq.2 (e2.2 (by omega)),Bool.true_and]
theorem less_str {a b : List Int} (ha : Byt a) (hb : Byt b) : Op.bytesLess (strOfNums a).toList (strOfNums b).toList = decide (cmpL a b < 0) := by
  rw [Lib.strOfNums_toList,Lib.strOfNums_toList,less_bytes a b ha hb]
theorem str_inj {a b : List Int} (ha : Byt a) (hb : Byt b) (h : strOfNums a = strOfNums b) : a = b := by
  have h1 := less_str ha hb
  have h2 := less_str hb ha
  rw [h] at h1
  have h3 := less_str hb hb
  rw [h1] at h3
  rw [← h] at h2
  have h4 := less_str ha ha
  rw [h2] at h4
  rw [cmpL_refl] at h3 h4
  have := cmpL_eq a b
  simp at h3 h4
  rcases cmpL_range a b with e | e | e
  · omega
  · exact this e
  · have := cmpL_eq b a
    rcases cmpL_range b a with e' | e' | e'
    · omega
    · exact (this e').symm
    · exact absurd e' (by have := cmpL_anti a b; omega)
theorem eq_str {a b : List Int} (ha : Byt a) (hb : Byt b) : ((strOfNums a).toList == (strOfNums b).toList) = decide (cmpL a b = 0) := by
  by_cases h : cmpL a b = 0
  · rw [cmpL_eq a b h,cmpL_refl]; simp
  · rw [decide_eq_false h,beq_eq_false_iff_ne]
    intro e
    apply h
    have e2 := less_str ha hb
    rw [e] at e2
    have e3 := less_str hb hb
    have e4 := less_str hb ha
    rw [← e] at e4
    have e5 := less_str ha ha
    rw [e2,cmpL_refl] at e3
    rw [e4,cmpL_refl] at e5
    simp at e3 e5
    rcases cmpL_range a b with k | k | k
    · omega
    · exact k
    · have := cmpL_anti a b; omega
end Go.Proofs.YtnnmpaenainogaaGreat
