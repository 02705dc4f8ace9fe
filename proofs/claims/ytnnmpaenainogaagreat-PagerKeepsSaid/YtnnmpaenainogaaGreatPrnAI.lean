/-
  Layout: the contracts of its smallest calls: a page's size, bytes that are noughts. Own work.
-/
import Derived.Test.YtnnmpaenainogaaGreatPrnAC
import Derived.Deep.QuietTactic
import Derived.BigQuiet
import Derived.Deep.LoopGhost

set_option linter.unusedVariables false
set_option linter.unusedSimpArgs false
namespace Go.Proofs.YtnnmpaenainogaaGreat
open Go.RowKit
set_option maxHeartbeats 400000 in
theorem lsize_any (n : Int) (w : World) :
    Calls Tryz.prog 73 #[.int .i64 n] w fun r w' => r = .returned (.bool (decide (512≤n) && decide (n≤4096)))∧w = w' := by
  by_cases h : 512≤n
  · go_enter Tryz.func73,Tryz.ntmps73
    go_wp2
    go_ret
    exact ⟨by simp [h],rfl⟩
  · go_enter Tryz.func73,Tryz.ntmps73
    go_wp2
    go_ret
    exact ⟨by simp; omega,rfl⟩
theorem lsize_yes (n : Int) (w : World) (h1 : 512≤n) (h2 : n≤4096) : Calls Tryz.prog 73 #[.int .i64 n] w fun r w' => r = .returned (.bool true)∧w = w' :=
  (lsize_any n w).mono fun r w' h => by simpa [h1,h2] using h
theorem lsize_no (n : Int) (w : World) (h : ¬ (512≤n∧n≤4096)) : Calls Tryz.prog 73 #[.int .i64 n] w fun r w' => r = .returned (.bool false)∧w = w' :=
  (lsize_any n w).mono fun r w' k => by
    have e : (decide (512≤n) && decide (n≤4096)) = false := by simp; omega
    rwa [e] at k
set_option maxHeartbeats 400000 in
theorem nought1_any (a : Int) (w : World) : Calls Tryz.prog 164 #[.int .u8 a] w fun r w' => r = .returned (.bool (a != 0))∧w = w' := by
  go_enter Tryz.func164,Tryz.ntmps164
  go_wp2
  go_ret
  exact ⟨rfl,rfl⟩
theorem allZ_drop {xs : List Int} {k : Nat} (h : k < xs.length) : allZ (xs.drop k) = (xs.getD k 0 == 0 && allZ (xs.drop (k + 1))) := by
  unfold allZ
  rw [List.drop_eq_getElem_cons h,List.all_cons,List.getD_eq_getElem?_getD,List.getElem?_eq_getElem h]
  rfl
theorem allZ_end {xs : List Int} {k : Nat} (h : xs.length≤k) : allZ (xs.drop k) = true := by rw [List.drop_eq_nil_of_le h]; rfl
def IdxR (xs : List Int) (w w' : World) (r : Ending) : Prop := ∃ i : Int,r = .returned (.int .i64 i)∧(i < 0↔allZ xs = true)∧w = w'
set_option maxHeartbeats 1000000 in
theorem index_any (w : World) (B : Nat) (a1 : Option Addr) (n1 c1 : Nat) (xs : List Int) (h1 : Seq B w (.slice a1 n1 c1) xs) :
    Calls Tryz.prog 208 #[.slice a1 n1 c1,.func (.func 164) #[] #[]] w fun r w' => IdxR xs w w' r := by
  have e1 : n1 = xs.length := by obtain ⟨_,_,hv,_⟩ := h1; injection hv
  have hm1 : n1≤9223372036854775807 := by obtain ⟨_,_,hv,h3,h4,_⟩ := h1; injection hv; unfold maxLen at h4; omega
  have E1 := Lib.hid e1
  have H1 := Lib.hid h1
  clear e1 h1
  go_enter Tryz.func208,Tryz.ntmps208
  go_wp2
  go_loop [8] (fun i => ∃ k : Nat,k≤n1∧i = .int .i64 k∧Hid (allZ xs = allZ (xs.drop k))) (fun i => n1 - (intOf i).toNat)
  case atStart => exact ⟨0,Nat.zero_le _,rfl,Lib.hid rfl⟩
  case round =>
    obtain ⟨k,hk1,rfl,HC⟩ := hrel
    by_cases hlt : k < n1
    · obtain ⟨b1,o1,rfl,hc1⟩ := H1.out.cellAt k (by have := E1.out; omega)
      have HD := Lib.hid (allZ_drop (xs := xs) (k := k) (by have := E1.out; omega))
      generalize xs.getD k 0 = x at *
      by_cases he : x = 0
      · subst he
        go_wp2_with (go_at_call 164; refine (nought1_any _ _).mono ?_; rintro r w1 ⟨rfl,rfl⟩)
        go_round
        case rel => exact ⟨k + 1,by omega,by go_num,Lib.hid (HC.out.trans (by rw [HD.out]; rfl))⟩
        case measure => simp [intOf]; omega
      · have hb : (x != 0) = true := by simpa using he
        have HF := Lib.hid (show ¬ allZ xs = true by rw [HC.out,HD.out]; simp [he])
        clear he
        go_wp2_with (go_at_call 164; refine (nought1_any _ _).mono ?_; rintro r w1 ⟨rfl,rfl⟩)
        go_ret
        exact ⟨k,rfl,⟨fun h => by omega,fun h => absurd h HF.out⟩,rfl⟩
    · obtain rfl : k = n1 := by omega
      have HF := Lib.hid (show allZ xs = true by rw [HC.out]; exact allZ_end (by have := E1.out; omega))
      go_wp2
      go_ret
      exact ⟨-1,rfl,⟨fun _ => HF.out,fun _ => by decide⟩,rfl⟩
theorem index_neg {w : World} {B : Nat} {a1 : Option Addr} {n1 c1 : Nat} {xs : List Int} (h1 : Seq B w (.slice a1 n1 c1) xs) (hz : allZ xs = true) :
    Calls Tryz.prog 208 #[.slice a1 n1 c1,.func (.func 164) #[] #[]] w fun r w' => ∃ i : Int,r = .returned (.int .i64 i)∧i < 0∧w = w' :=
  (index_any w B a1 n1 c1 xs h1).mono fun _ _ ⟨i,e,hi,hw⟩ => ⟨i,e,hi.2 hz,hw⟩
theorem index_pos {w : World} {B : Nat} {a1 : Option Addr} {n1 c1 : Nat} {xs : List Int} (h1 : Seq B w (.slice a1 n1 c1) xs) (hz : ¬ allZ xs = true) :
    Calls Tryz.prog 208 #[.slice a1 n1 c1,.func (.func 164) #[] #[]] w fun r w' => ∃ i : Int,r = .returned (.int .i64 i)∧0≤i∧w = w' :=
  (index_any w B a1 n1 c1 xs h1).mono fun _ _ ⟨i,e,hi,hw⟩ => ⟨i,e,Int.not_lt.1 (fun h => hz (hi.1 h)),hw⟩
set_option maxHeartbeats 1000000 in
theorem noughts_any (w : World) (B : Nat) (a1 : Option Addr) (n1 c1 : Nat) (xs : List Int) (h1 : Seq B w (.slice a1 n1 c1) xs) :
    Calls Tryz.prog 110 #[.slice a1 n1 c1] w fun r w' => r = .returned (.bool (allZ xs))∧w = w' := by
  have H1 := Lib.hid h1
  clear h1
  by_cases hz : allZ xs = true
  · have HZ := Lib.hid hz
    have HI := Lib.hid (index_neg H1.out hz)
    rw [hz]
    clear hz
    go_enter Tryz.func110,Tryz.ntmps110
    go_wp2_with (first
      | (go_at_call 208; refine HI.out.mono ?_; rintro r w1 ⟨i,rfl,hi,rfl⟩; have hi2 : decide (0≤i) = false := by simp; omega)
      | go_in)
    go_ret
    exact ⟨rfl,rfl⟩
  · have hz2 : allZ xs = false := by simpa using hz
    have HZ := Lib.hid hz
    have HI := Lib.hid (index_pos H1.out hz)
    rw [hz2]
    clear hz hz2
    go_enter Tryz.func110,Tryz.ntmps110
    go_wp2_with (first
      | (go_at_call 208; refine HI.out.mono ?_; rintro r w1 ⟨i,rfl,hi,rfl⟩; have hi2 : decide (0≤i) = true := by simpa using hi)
      | go_in)
    go_ret
    exact ⟨rfl,rfl⟩
end Go.Proofs.YtnnmpaenainogaaGreat
