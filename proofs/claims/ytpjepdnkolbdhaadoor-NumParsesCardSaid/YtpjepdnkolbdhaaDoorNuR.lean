/-
  The document's small calls: is there a digit, noughts, which is greater, a small number's digits. Own work.
-/
import Derived.Test.YtpjepdnkolbdhaaDoorNuJ
set_option linter.unusedVariables false
set_option linter.unusedSimpArgs false
namespace Go.Proofs.YtpjepdnkolbdhaaDoor
open Go.RowKit

theorem Sx_at (l : Bs) (k : Nat) (h : k < (Sx l).size) : (Sx l)[k]'h = l[k]'(by rw [← Sx_size]; exact h) := Sx_get l k (by rw [← Sx_size]; exact h)
def digAt (l : Bs) (i : Nat) : Bool := match l[i]? with | some b => dig b | none => false
theorem digAt_in {l : Bs} {i : Nat} (h : i < l.length) : digAt l i = dig l[i] := by unfold digAt; rw [List.getElem?_eq_getElem h]
theorem digAt_out {l : Bs} {i : Nat} (h : l.length ≤ i) : digAt l i = false := by unfold digAt; rw [List.getElem?_eq_none h]
set_option maxHeartbeats 1000000 in
theorem digit_any (l : Bs) (i : Nat) (w : World) (hl : l.length ≤ 1000000) (hi : i ≤ 1000000) :
    Calls Tryd.prog 26 #[.string (Sx l), .int .i64 i] w fun r w' => r = .returned (.bool (digAt l i)) ∧ w = w' := by
  have hsz := Sx_size l
  by_cases h : i < l.length
  · rw [digAt_in h]
    have hlt : (i : Int) < (l.length : Int) := by omega
    go_enter Tryd.func26, Tryd.ntmps26
    go_wp2
    all_goals
      go_ret
      refine ⟨ret_bool ?_, rfl⟩
      rename_i hh
      simp only [Sx_at] at hh
      have h1 : (48 ≤ l[i].toNat) = (48 ≤ (l[i].toNat : Int)) := by apply propext; omega
      have h2 : (l[i].toNat ≤ 57) = ((l[i].toNat : Int) ≤ 57) := by apply propext; omega
      simp only [dig, Sx_at, h1, h2]
      first | (simp [hh]; done) | (simp [hh]; omega)
  · rw [digAt_out (by omega)]
    have hlt : ¬ (i : Int) < (l.length : Int) := by omega
    go_enter Tryd.func26, Tryd.ntmps26
    go_wp2
    go_ret
    exact ⟨rfl, rfl⟩

theorem greater_any (a b : Bs) (w : World) (ha : a.length ≤ 1000000) (hb : b.length ≤ 1000000) :
    Calls Tryd.prog 33 #[.string (Sx a), .string (Sx b)] w fun r w' => r = .returned (.bool (grM a b)) ∧ w = w' := by
  have hs1 := Sx_size a
  have hs2 := Sx_size b
  have e1 := Sx_toList a
  have e2 := Sx_toList b
  have l1 := less_cmpB a b
  have l2 := less_cmpB b a
  unfold grM
  by_cases h1 : b.length < a.length
  · have k1 : (b.length : Int) < (a.length : Int) := by omega
    rw [decide_eq_true h1]
    generalize a.length = n at *
    generalize b.length = m at *
    go_enter Tryd.func33, Tryd.ntmps33
    go_wp2
    go_ret
    exact ⟨rfl, rfl⟩
  · rw [decide_eq_false h1]
    by_cases h2 : a.length = b.length
    · rw [decide_eq_true h2]
      have hg : decide (cmpB b a < 0) = (!Op.bytesLess a b && !(a == b)) := by
        rw [l1, Bool.eq_iff_iff]
        simp only [decide_eq_true_eq, Bool.and_eq_true, Bool.not_eq_true', decide_eq_false_iff_not, beq_eq_false_iff_ne]
        have h3 := cmpB_anti a b
        rcases cmpB_range a b with h | h | h
        · simp only [h]; simp; omega
        · have := cmpB_eq a b h
          simp [this, cmpB_refl]
        · refine ⟨fun _ => ⟨by omega, fun e => ?_⟩, fun _ => by omega⟩
          rw [e, cmpB_refl] at h; omega
      rw [hg]
      have k1 : ¬ (b.length : Int) < (a.length : Int) := by omega
      have k2 : ((a.length : Int) == (b.length : Int)) = true := beq_iff_eq.2 (by omega)
      clear l1 l2 hg
      generalize hn : Op.bytesLess a b = x at *
      generalize hm : (a == b) = y at *
      cases x <;> cases y
      all_goals
        go_enter Tryd.func33, Tryd.ntmps33
        go_wp2
        go_ret
        exact ⟨rfl, rfl⟩
    · rw [decide_eq_false h2]
      have k1 : ¬ (b.length : Int) < (a.length : Int) := by omega
      have k2 : ((a.length : Int) == (b.length : Int)) = false := beq_eq_false_iff_ne.2 (by omega)
      clear l1 l2
      generalize a.length = n at *
      generalize b.length = m at *
      go_enter Tryd.func33, Tryd.ntmps33
      go_wp2
      go_ret
      exact ⟨rfl, rfl⟩

set_option maxHeartbeats 1000000 in
theorem noughts_any (n : Nat) (w : World) (hn : n ≤ 1000000) :
    Calls Tryd.prog 32 #[.int .i64 n] w fun r w' => r = .returned (.string (Sx (List.replicate n 48))) ∧ w = w' := by
  go_enter Tryd.func32, Tryd.ntmps32
  go_wp2
  go_loop [3, 4] (fun s i => ∃ k : Nat, k ≤ n ∧ i = .int .i64 k ∧ s = .string (Sx (List.replicate k 48))) (fun _ i => n - (intOf i).toNat)
  case atStart => exact ⟨0, Nat.zero_le _, rfl, rfl⟩
  case round =>
    obtain ⟨k, hk, rfl, rfl⟩ := hrel
    have hsz : (Sx (List.replicate k 48)).size = k := by rw [Sx_size, List.length_replicate]
    have f : Sx (List.replicate k 48) ++ (⟨#[48]⟩ : ByteArray) = Sx (List.replicate (k + 1) 48) := (Sx_app _ [48]).trans (by rw [List.replicate_succ'])
    by_cases hlt : k < n
    · have hki : (k : Int) < (n : Int) := by omega
      go_wp2
      go_round
      case rel => exact ⟨k + 1, by omega, by go_num, rfl⟩
      case measure => simp [intOf]; omega
    · obtain rfl : k = n := by omega
      go_wp2
      go_ret
      exact ⟨rfl, rfl⟩

theorem dec_small {k : Nat} (h : k < 10) : (⟨#[48, 49, 50, 51, 52, 53, 54, 55, 56, 57]⟩ : ByteArray).extract k (k + 1) = Sx [UInt8.ofNat (48 + k)] := by
  match k, h with
  | 0, _ | 1, _ | 2, _ | 3, _ | 4, _ | 5, _ | 6, _ | 7, _ | 8, _ | 9, _ => decide
set_option maxHeartbeats 2000000 in
theorem small_nat (n : Nat) (w : World) (hn : n ≤ 1000000) :
    Calls Tryd.prog 24 #[.int .i64 n] w fun r w' => r = .returned (.string (Sx (Lib.decDigits n))) ∧ w = w' := by
  go_enter Tryd.func24, Tryd.ntmps24
  go_wp2
  go_loop [0, 3] (fun v s => ∃ (m : Nat) (T : Bs), m ≤ 1000000 ∧ v = .int .i64 m ∧ s = .string (Sx T) ∧ T.length ≤ 1000000 - m ∧ Lib.decDigits n = Lib.decDigits m ++ T) (fun v _ => (intOf v).toNat)
  case atStart => exact ⟨n, [], hn, rfl, rfl, by simp, by simp⟩
  case round =>
    obtain ⟨m, T, hm, rfl, rfl, hT, hd⟩ := hrel
    have HD := Lib.hid hd
    clear hd
    obtain ⟨r, hr⟩ : ∃ r : Nat, r = m % 10 := ⟨_, rfl⟩
    have hr10 : r < 10 := by omega
    have hx := dec_small hr10
    have hq : (m : Int) % 10 = (r : Int) := by omega
    have hr1 : (r : Int) ≤ 9 := by omega
    have hsz : (Sx T).size = T.length := Sx_size T
    have hsz1 : (Sx [UInt8.ofNat (48 + r)]).size = 1 := rfl
    have f := Sx_app [UInt8.ofNat (48 + r)] T
    by_cases hlt : m < 10
    · have hv : (m : Int) / 10 = 0 := by omega
      have he : [UInt8.ofNat (48 + r)] ++ T = Lib.decDigits n := by rw [HD.out, Lib.decDigits_one hlt, hr, Nat.mod_eq_of_lt hlt]
      rw [he] at f
      clear he hr
      generalize Sx [UInt8.ofNat (48 + r)] = Y at *
      generalize Sx T = X at *
      generalize T.length = tl at *
      go_wp2
      go_ret
      exact ⟨rfl, rfl⟩
    · have hv : (m : Int) / 10 = ((m / 10 : Nat) : Int) := by omega
      have hne : (((m / 10 : Nat) : Int) == 0) = false := beq_eq_false_iff_ne.2 (by omega)
      have HN : Hid (Lib.decDigits n = Lib.decDigits (m / 10) ++ ([UInt8.ofNat (48 + r)] ++ T)) := Lib.hid (by rw [HD.out, Lib.decDigits, dif_neg hlt, List.append_assoc, hr])
      have HL : Hid (([UInt8.ofNat (48 + r)] ++ T).length ≤ 1000000 - m / 10) := Lib.hid (by rw [List.length_append, List.length_singleton]; omega)
      have HM : Hid (m / 10 < m) := Lib.hid (by omega)
      generalize m / 10 = m2 at *
      generalize hl : [UInt8.ofNat (48 + r)] ++ T = T2 at *
      generalize Sx [UInt8.ofNat (48 + r)] = Y at *
      generalize T.length = tl at *
      clear hr hl
      go_wp2
      go_round
      case rel => exact ⟨m2, T2, by have := HM.out; omega, rfl, rfl, HL.out, HN.out⟩
      case measure => have := HM.out; simp [intOf]; omega

theorem small_any (e : Int) (w : World) (h1 : -1000000 ≤ e) (h2 : e ≤ 1000000) :
    Calls Tryd.prog 24 #[.int .i64 e] w fun r w' => r = .returned (.string (Sx (Lib.itoa e))) ∧ w = w' := by
  by_cases h : e < 0
  · obtain ⟨n, hn⟩ : ∃ n : Nat, -e = (n : Int) := ⟨(-e).toNat, by omega⟩
    have K := small_nat n w (by omega)
    have hi : Lib.itoa e = 45 :: Lib.decDigits n := by rw [Lib.itoa, if_pos h]; congr 2; omega
    rw [hi]
    have f : (⟨#[45]⟩ : ByteArray) ++ Sx (Lib.decDigits n) = Sx (45 :: Lib.decDigits n) := Sx_app [45] _
    have hs : (Sx (Lib.decDigits n)).size ≤ 1000000 := by
      have h3 := Lib.itoa_length_le (n : Int) (by omega) (by omega)
      rw [show Lib.itoa (n : Int) = Lib.decDigits n by rw [Lib.itoa, if_neg (by omega)]; simp] at h3
      rw [Sx_size]; omega
    generalize Sx (45 :: Lib.decDigits n) = X at *
    generalize Sx (Lib.decDigits n) = Y at *
    obtain ⟨ys, hys⟩ : ∃ ys, Y.size = ys := ⟨_, rfl⟩
    rw [hys] at hs
    clear hi
    go_enter Tryd.func24, Tryd.ntmps24
    go_wp2_with (go_at_call 24; ((with_reducible refine K.mono ?_); rintro r w3 ⟨rfl, rfl⟩))
    go_ret
    exact ⟨rfl, rfl⟩
  · obtain ⟨n, rfl⟩ : ∃ n : Nat, e = (n : Int) := ⟨e.toNat, by omega⟩
    rw [Lib.itoa, if_neg h, Int.toNat_natCast]
    exact small_nat n w (by omega)

end Go.Proofs.YtpjepdnkolbdhaaDoor
