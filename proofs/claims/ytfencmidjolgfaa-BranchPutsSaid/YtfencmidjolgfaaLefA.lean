/-
  Layer 4: the contracts of leaf's smallest calls. Own work.
-/
import Derived.Test.YtfencmidjolgfaaLefM
import Derived.Test.YtfencmidjolgfaaLayN
import Derived.Deep.QuietTactic
import Derived.BigQuiet
namespace Go.Proofs.Ytfencmidjolgfaa
open Go.RowKit

/-- The cells of an entry. -/
abbrev ecs (k v : Value) (l f : Int) : Array Value := #[k, v, .int .i64 l, .int .u32 f]

theorem ret_int {k : IntKind} {a b : Int} (h : a = b) : Ending.returned (.int k a) = .returned (.int k b) := by rw [h]

set_option maxHeartbeats 400000 in
theorem nan_any (a : Int) (w : World) : Calls Try.prog 77 #[.int .u8 a] w fun r w' => r = .returned (.bool false) ∧ w = w' := by
  go_enter Try.func77, Try.ntmps77
  go_wp2
  go_ret
  exact ⟨by simp, rfl⟩

set_option maxHeartbeats 400000 in
theorem cmp1_any (a b : Int) (w : World) : Calls Try.prog 67 #[.int .u8 a, .int .u8 b] w fun r w' => r = .returned (.int .i64 (cmpI a b)) ∧ w = w' := by
  unfold cmpI
  by_cases h1 : a < b
  · rw [if_pos h1]
    go_enter Try.func67, Try.ntmps67
    go_wp2_with (go_at_call 77; refine (nan_any _ _).mono ?_; rintro r w1 ⟨rfl, rfl⟩)
    go_ret
    exact ⟨rfl, rfl⟩
  · rw [if_neg h1]
    by_cases h2 : b < a
    · rw [if_pos h2]
      go_enter Try.func67, Try.ntmps67
      go_wp2_with (go_at_call 77; refine (nan_any _ _).mono ?_; rintro r w1 ⟨rfl, rfl⟩)
      go_ret
      exact ⟨rfl, rfl⟩
    · rw [if_neg h2]
      go_enter Try.func67, Try.ntmps67
      go_wp2_with (go_at_call 77; refine (nan_any _ _).mono ?_; rintro r w1 ⟨rfl, rfl⟩)
      go_ret
      exact ⟨rfl, rfl⟩

set_option maxHeartbeats 1000000 in
theorem compare_any (w : World) (B C : Nat) (a1 a2 : Option Addr) (n1 c1 n2 c2 : Nat) (xs ys : List Int) (h1 : Seq B w (.slice a1 n1 c1) xs) (h2 : Seq C w (.slice a2 n2 c2) ys) :
    Calls Try.prog 49 #[.slice a1 n1 c1, .slice a2 n2 c2] w fun r w' => r = .returned (.int .i64 (cmpL xs ys)) ∧ w = w' := by
  have e1 : n1 = xs.length := by obtain ⟨_, _, hv, _⟩ := h1; injection hv
  have e2 : n2 = ys.length := by obtain ⟨_, _, hv, _⟩ := h2; injection hv
  have hm1 : n1 ≤ 9223372036854775807 := by obtain ⟨_, _, hv, h3, h4, _⟩ := h1; injection hv; unfold maxLen at h4; omega
  have hm2 : n2 ≤ 9223372036854775807 := by obtain ⟨_, _, hv, h3, h4, _⟩ := h2; injection hv; unfold maxLen at h4; omega
  have E1 := Lib.hid e1
  have E2 := Lib.hid e2
  have H1 := Lib.hid h1
  have H2 := Lib.hid h2
  clear e1 e2 h1 h2
  go_enter Try.func49, Try.ntmps49
  go_wp2
  go_loop [11] (fun i => ∃ k : Nat, k ≤ n1 ∧ k ≤ n2 ∧ i = .int .i64 k ∧ Hid (cmpL xs ys = cmpL (xs.drop k) (ys.drop k))) (fun i => n1 - (intOf i).toNat)
  case atStart => exact ⟨0, Nat.zero_le _, Nat.zero_le _, rfl, Lib.hid rfl⟩
  case round =>
    obtain ⟨k, hk1, hk2, rfl, HC⟩ := hrel
    by_cases hlt : k < n1
    · obtain ⟨b1, o1, rfl, hc1⟩ := H1.out.cellAt k (by have := E1.out; omega)
      by_cases hl2 : k < n2
      · obtain ⟨b2, o2, rfl, hc2⟩ := H2.out.cellAt k (by have := E2.out; omega)
        have HD := Lib.hid (cmpL_drop (a := xs) (b := ys) (k := k) (by have := E1.out; omega) (by have := E2.out; omega))
        generalize xs.getD k 0 = x at *
        generalize ys.getD k 0 = y at *
        by_cases he : cmpI x y = 0
        · have HE := Lib.hid he
          clear he
          go_wp2_with (go_at_call 67; refine (cmp1_any _ _ _).mono ?_; rintro r w1 ⟨rfl, rfl⟩; rw [HE.out])
          go_round
          case rel => exact ⟨k + 1, by omega, by omega, by go_num, Lib.hid (HC.out.trans (by rw [HD.out, if_pos HE.out]))⟩
          case measure => simp [intOf]; omega
        · have HF := Lib.hid (HC.out.trans (HD.out.trans (if_neg he)))
          obtain ⟨z, hz⟩ : ∃ z, z = cmpI x y := ⟨_, rfl⟩
          have he' : ¬ z = 0 := by rw [hz]; exact he
          have he2 : (z != 0) = true := by simpa using he'
          have HZ := Lib.hid hz
          clear he hz
          go_wp2_with (go_at_call 67; refine (cmp1_any _ _ _).mono ?_; rintro r w1 ⟨rfl, rfl⟩; rw [← HZ.out])
          go_ret
          exact ⟨ret_int (HZ.out.trans HF.out.symm), rfl⟩
      · obtain rfl : k = n2 := by omega
        have HF := Lib.hid (HC.out.trans (cmpL_over (by have := E1.out; omega) (by have := E2.out; omega)))
        go_wp2
        go_ret
        exact ⟨ret_int HF.out.symm, rfl⟩
    · obtain rfl : k = n1 := by omega
      have HF := Lib.hid (HC.out.trans (cmpL_end (by have := E1.out; omega) (by have := E2.out; omega)))
      by_cases hl2 : k < n2
      · have HG := Lib.hid (show cmpL xs ys = -1 by rw [HF.out, if_neg (by have := E2.out; omega)])
        go_wp2
        go_ret
        exact ⟨ret_int HG.out.symm, rfl⟩
      · have HG := Lib.hid (show cmpL xs ys = 0 by rw [HF.out, if_pos (by have := E2.out; omega)])
        go_wp2
        go_ret
        exact ⟨ret_int HG.out.symm, rfl⟩

set_option maxHeartbeats 400000 in
theorem isFar_any (w : World) (k v : Value) (l f : Int) :
    Calls Try.prog 50 #[.agg (ecs k v l f)] w fun r w' => r = .returned (.bool (decide (0 < f))) ∧ w.alloc (.cells (ecs k v l f) 43) = w' := by
  go_enter Try.func50, Try.ntmps50
  go_wp2
  go_ret
  exact ⟨rfl, rfl⟩

set_option maxHeartbeats 400000 in
theorem cell_any (w : World) (a1 a2 : Option Addr) (c1 c2 : Nat) (x : En) (h : EnOk x) :
    Calls Try.prog 23 #[.agg (ecs (.slice a1 x.key.length c1) (.slice a2 x.val.length c2) x.long x.first)] w fun r w' => r = .returned (.int .i64 (cl x)) ∧
      (w.alloc (.cells (ecs (.slice a1 x.key.length c1) (.slice a2 x.val.length c2) x.long x.first) 43)).alloc (.cells (ecs (.slice a1 x.key.length c1) (.slice a2 x.val.length c2) x.long x.first) 43) = w' := by
  have h1 := h.kl
  have h2 := h.vl
  by_cases hf : 0 < x.first
  · have hd : decide (0 < x.first) = true := by simpa using hf
    have HC := Lib.hid (cl_far hf)
    go_enter Try.func23, Try.ntmps23
    go_wp2_with (go_at_call 50; refine (isFar_any _ _ _ _ _).mono ?_; rintro r w1 ⟨rfl, rfl⟩)
    go_ret
    exact ⟨by rw [HC.out]; rfl, rfl⟩
  · have hd : decide (0 < x.first) = false := by simpa using hf
    have HC := Lib.hid (cl_here hf)
    go_enter Try.func23, Try.ntmps23
    go_wp2_with (go_at_call 50; refine (isFar_any _ _ _ _ _).mono ?_; rintro r w1 ⟨rfl, rfl⟩)
    go_ret
    exact ⟨by rw [HC.out]; push_cast; rfl, rfl⟩

set_option maxHeartbeats 400000 in
theorem most_any (n : Int) (w : World) (h1 : -9223372036854775800 ≤ n) (h2 : n ≤ 9223372036854775807) :
    Calls Try.prog 29 #[.int .i64 n] w fun r w' => r = .returned (.int .i64 (mostI n)) ∧ w = w' := by
  have HM := Lib.hid (show n / 4 - 1 - 2 = mostI n by unfold mostI; omega)
  go_enter Try.func29, Try.ntmps29
  go_wp2
  go_ret
  exact ⟨ret_int HM.out, rfl⟩

set_option maxHeartbeats 400000 in
theorem rkey_any (w : World) (a1 : Option Addr) (n1 c1 : Nat) :
    Calls Try.prog 47 #[.slice a1 n1 c1] w fun r w' => r = .returned (.bool (decide (1 ≤ n1) && decide (n1 ≤ 96))) ∧ w = w' := by
  by_cases h : 1 ≤ n1
  · go_enter Try.func47, Try.ntmps47
    go_wp2
    go_ret
    exact ⟨by simp [h]; omega, rfl⟩
  · go_enter Try.func47, Try.ntmps47
    go_wp2
    go_ret
    exact ⟨by simp [h], rfl⟩

end Go.Proofs.Ytfencmidjolgfaa
