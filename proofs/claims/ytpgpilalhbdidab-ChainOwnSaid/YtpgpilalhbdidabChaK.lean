/-
  Layer 6: the reference's Many and Cut; both Many told as one number; how many parts there are. Own work.
-/
import Derived.Test.YtpgpilalhbdidabChaJ
import Derived.Test.YtpgpilalhbdidabChaF
import Derived.Test.YtpgpilalhbdidabOctL
namespace Go.Proofs.Ytpgpilalhbdidab
open Go.RowKit

/-- How many pages n bytes take, of so great a size. -/
def manyI (n S : Int) : Int := if 1 ≤ n ∧ 512 ≤ S ∧ S ≤ 4096 then (n - 1) / (S - 8) + 1 else 0

theorem up_div {n d Q : Int} (hd : 0 < d) (hQ : Q = n / d) : (Q * d < n → (n - 1) / d + 1 = Q + 1) ∧ (¬ Q * d < n → (n - 1) / d + 1 = Q) := by
  have h1 := Int.emod_nonneg n (show d ≠ 0 by omega)
  have h2 := Int.emod_lt_of_pos n hd
  have h3 := Int.emod_add_mul_ediv n d
  rw [← hQ] at h3
  generalize n % d = r at h1 h2 h3
  have hc : Q * d = d * Q := Int.mul_comm _ _
  refine ⟨fun h => ?_, fun h => ?_⟩
  · have e : n - 1 = (r - 1) + d * Q := by omega
    rw [e, Int.add_mul_ediv_left _ _ (by omega), Int.ediv_eq_zero_of_lt (by omega) (by omega)]; omega
  · have hr : r = 0 := by omega
    have e : n - 1 = (d - 1) + d * (Q - 1) := by rw [Int.mul_sub]; omega
    rw [e, Int.add_mul_ediv_left _ _ (by omega), Int.ediv_eq_zero_of_lt (by omega) (by omega)]; omega

theorem cmany_eq (w : World) (n S : Int) (h9 : n ≤ 9223372036854775807) :
    Calls Try.prog 12 #[.int .i64 n, .int .i64 S] w fun r w' => r = .returned (.int .i64 (manyI n S)) ∧ w = w' := by
  by_cases h : 1 ≤ n ∧ 512 ≤ S ∧ S ≤ 4096
  · exact cmany_yes w n S _ h.1 h9 h.2.1 h.2.2 (by rw [manyI, if_pos h])
  · rw [manyI, if_neg h]; exact cmany_no w n S h

set_option maxHeartbeats 1000000 in
theorem gmany_eq (w : World) (n S : Int) (h0 : -9223372036854775808 ≤ n) (h9 : n ≤ 9223372036854775807) (z0 : -9223372036854775808 ≤ S) (z1 : S ≤ 9223372036854775807) :
    Calls Try.prog 13 #[.int .i64 n, .int .i64 S] w fun r w' => r = .returned (.int .i64 (manyI n S)) ∧ w = w' := by
  by_cases h1 : 512 ≤ S
  · have hd0 : decide (S < 512) = false := by simp; omega
    by_cases h2 : S ≤ 4096
    · have hd1 : decide ((4096 : Int) < S) = false := by simp; omega
      by_cases hn : 1 ≤ n
      · have hd2 : decide (n < 1) = false := by simp; omega
        obtain ⟨Q, hQ⟩ : ∃ Q, Q = n / (S - 8) := ⟨_, rfl⟩
        obtain ⟨u1, u2⟩ := up_div (show 0 < S - 8 by omega) hQ
        have hqd : n.tdiv (S - 8) = Q := by rw [hQ, Int.tdiv_eq_ediv_of_nonneg (by omega)]
        have hQ0 : 0 ≤ Q := by rw [hQ]; exact Int.ediv_nonneg (by omega) (by omega)
        have hQ9 : Q ≤ n := by rw [hQ]; exact Int.ediv_le_self _ (by omega)
        have hQm : Q * (S - 8) ≤ n := by rw [hQ]; exact Int.ediv_mul_le _ (by omega)
        have hQm0 : 0 ≤ Q * (S - 8) := Int.mul_nonneg hQ0 (by omega)
        have hw1 : IntKind.i64.wrap (S - 8) = S - 8 := IntWalk.i64_in _ (by omega)
        have hw2 : IntKind.i64.wrap Q = Q := IntWalk.i64_in _ (by omega)
        have hw3 : IntKind.i64.wrap (Q * (S - 8)) = Q * (S - 8) := IntWalk.i64_in _ (by omega)
        have hne : ¬ S - 8 = 0 := by omega
        have hne2 : (S - 8 == 0) = false := by simp; omega
        rw [manyI, if_pos ⟨hn, h1, h2⟩]
        obtain ⟨M, hM⟩ : ∃ M, M = (n - 1) / (S - 8) + 1 := ⟨_, rfl⟩
        rw [← hM] at u1 u2 ⊢
        obtain ⟨D, hD⟩ : ∃ D, D = S - 8 := ⟨_, rfl⟩
        by_cases hl : Q * (S - 8) < n
        · obtain rfl := u1 hl
          have hd3 : decide (Q * (S - 8) < n) = true := by simpa using hl
          have hw4 : IntKind.i64.wrap (Q + 1) = Q + 1 := IntWalk.i64_in _ (by
            have : Q ≤ Q * (S - 8) := by have := Int.mul_le_mul_of_nonneg_left (show 1 ≤ S - 8 by omega) hQ0; omega
            omega)
          clear u1 u2 hQ hM hD hQm
          go_enter Try.func13, Try.ntmps13
          go_wp2
          go_ret
          exact ⟨by simp, rfl⟩
        · obtain rfl := u2 hl
          have hd3 : decide (M * (S - 8) < n) = false := by simpa using hl
          clear u1 u2 hQ hM hD hQm
          go_enter Try.func13, Try.ntmps13
          go_wp2
          go_ret
          exact ⟨by simp, rfl⟩
      · have hd2 : decide (n < 1) = true := by simp; omega
        rw [manyI, if_neg (fun k => hn k.1)]
        go_enter Try.func13, Try.ntmps13
        go_wp2
        go_ret
        exact ⟨rfl, rfl⟩
    · have hd1 : decide ((4096 : Int) < S) = true := by simp; omega
      rw [manyI, if_neg (fun k => h2 k.2.2)]
      go_enter Try.func13, Try.ntmps13
      go_wp2
      go_ret
      exact ⟨rfl, rfl⟩
  · have hd0 : decide (S < 512) = true := by simp; omega
    rw [manyI, if_neg (fun k => h1 k.2.1)]
    go_enter Try.func13, Try.ntmps13
    go_wp2
    go_ret
    exact ⟨rfl, rfl⟩

/-- The number of parts is one. -/
theorem parts_uniq {len m M M' : Nat} (h1 : len ≤ M * m) (h2 : ∀ k, k < M → k * m < len) (h3 : len ≤ M' * m) (h4 : ∀ k, k < M' → k * m < len) : M = M' := by
  rcases Nat.lt_trichotomy M M' with h | h | h
  · have := h4 M h; omega
  · exact h
  · have := h2 M' h; omega
theorem parts_many {len S M : Nat} (hS1 : 512 ≤ S) (hS2 : S ≤ 4096) (h1 : len ≤ M * (S - 8)) (h2 : ∀ k, k < M → k * (S - 8) < len) : manyI (len : Int) (S : Int) = (M : Int) := by
  have hm : 0 < S - 8 := by omega
  have hms : (S : Int) - 8 = ((S - 8 : Nat) : Int) := by omega
  generalize S - 8 = m at *
  rcases Nat.eq_zero_or_pos len with e | e
  · subst e
    rcases Nat.eq_zero_or_pos M with e | e
    · subst e; rw [manyI, if_neg (by omega)]; rfl
    · have := h2 0 e; omega
  · rw [manyI, if_pos (by omega), hms]
    have hd := Nat.div_add_mod (len - 1) m
    have hr := Nat.mod_lt (len - 1) hm
    have : M = (len - 1) / m + 1 := parts_uniq h1 h2 (by rw [Nat.succ_mul, Nat.mul_comm]; omega) (fun k hk => by
      have : k * m ≤ (len - 1) / m * m := Nat.mul_le_mul_right _ (by omega)
      rw [Nat.mul_comm ((len - 1) / m)] at this
      omega)
    rw [this, show (len : Int) - 1 = ((len - 1 : Nat) : Int) by omega]
    rfl

theorem infoStr6 : (Try.prog.info? 9).map (fun i => (i.zero, i.size, i.bytes)) = some (some (.string ByteArray.empty), 1, 16) := by kernel_rfl
/-- A slice of texts, all of the call's own. -/
def SOwns (base : Nat) (w : World) (v : Value) (l : List (List Int)) : Prop := w.ownsRow base 9 1 v l.length (l.map fun q => Value.string (strOfNums q))
theorem SOwns.grown {base : Nat} {w w' : World} {v : Value} {l : List (List Int)} (h : SOwns base w v l) (k : w.grownBy w' none) : SOwns base w' v l := own_nc h k (fun r e => by cases e)
theorem grow_own {w a b : World} {e : TypeId} {size n : Nat} {v : Value} {xs : List Value} (h : w.grownBy a none) (hr : a.ownsRow w.heap.size e size v n xs) (k : a.grownBy b v.ownBlock) : w.grownBy b none :=
  gof ((gbelow h).grown k h.size fun q e => (hr.lt q e).1) none
theorem SOwns.at {base : Nat} {w : World} {v : Value} {l : List (List Int)} (h : SOwns base w v l) {i : Nat} {q : List Int} (hq : l[i]? = some q) :
    ∃ g c, v = .slice (some ⟨g, 0, none⟩) l.length c ∧ w.cell? ⟨g, i, none⟩ = some (.string (strOfNums q)) := by
  have hi : i < l.length := (List.getElem?_eq_some_iff.1 hq).1
  have h1 := h
  rcases h.2 with ⟨_, h0⟩ | ⟨g, cap, cur, hv, _⟩
  · omega
  · have hc := World.ownsRow.cells h1 (g := g) (by rw [hv]; rfl) i (.string (strOfNums q)) (by rw [List.getElem?_map, hq]; rfl)
    rw [Addr.add_lit, Nat.zero_add] at hc
    exact ⟨g, cap, hv, hc⟩

theorem gcut_no (w : World) (T : ByteArray) (S : Int) (hs : ¬ (512 ≤ S ∧ S ≤ 4096)) :
    Calls Try.prog 11 #[.string T, .int .i64 S] w fun r w' => r = .returned (.slice none 0 0) ∧ w = w' := by
  by_cases h1 : 512 ≤ S
  · have hd0 : decide (S < 512) = false := by simp; omega
    have hd1 : decide ((4096 : Int) < S) = true := by simp; omega
    go_enter Try.func11, Try.ntmps11
    go_wp2
    go_ret
    exact ⟨rfl, rfl⟩
  · have hd0 : decide (S < 512) = true := by simp; omega
    go_enter Try.func11, Try.ntmps11
    go_wp2
    go_ret
    exact ⟨rfl, rfl⟩

theorem lit_str (w : World) (T : ByteArray) : (w.alloc (.cells #[.string T] 9)).cell? ⟨w.heap.size, 0 + 0, none⟩ = some (.string T) := by
  have key : ∀ (W : World) (B : Nat), W.heap[B]? = some (.cells #[.string T] 9 (0, 0)) → W.cell? ⟨B, 0 + 0, none⟩ = some (.string T) := fun W B h => by simp [World.cell?, h]
  exact key _ _ (heap_alloc_new w (.cells #[.string T] 9))

def strSz : Value → Nat
  | .string s => s.size
  | _ => 0

set_option maxHeartbeats 4000000 in
theorem gcut_any (w : World) (p : List Int) (S : Nat) (hp : Byt p) (hl : p.length ≤ 9000) (h1 : 512 ≤ S) (h2 : S ≤ 4096) :
    Calls Try.prog 11 #[.string (strOfNums p), .int .i64 (S : Int)] w fun r w' => ∃ v M, r = .returned v ∧ SOwns w.heap.size w' v ((List.range M).map (partC p (S - 8))) ∧ p.length ≤ M * (S - 8) ∧ (∀ k, k < M → k * (S - 8) < p.length) ∧ w.grownBy w' none := by
  obtain ⟨i0, hi, hz0, hz1, hz2⟩ := info_parts infoStr6
  have hd0 : decide ((S : Int) < 512) = false := by simp; omega
  have hd1 : decide ((4096 : Int) < (S : Int)) = false := by simp; omega
  have hd0' : decide (S < 512) = false := by simp; omega
  have hd1' : decide (4096 < S) = false := by simp; omega
  obtain ⟨m, hm⟩ : ∃ m, m = S - 8 := ⟨_, rfl⟩
  rw [← hm]
  have hm1 : 1 ≤ m := by omega
  have hw1 : IntKind.i64.wrap ((S : Int) - 8) = (S : Int) - 8 := IntWalk.i64_in _ (by omega)
  have HM := Lib.hid (show (S : Int) - 8 = (m : Int) by omega)
  have HP := Lib.hid hp
  have HL := Lib.hid hl
  clear hm hp hl
  go_enter Try.func11, Try.ntmps11
  go_wp2
  go_loopw [0, 5] (fun b v wr => ∃ k : Nat, b = .string (strOfNums (p.drop (k * m))) ∧ SOwns w.heap.size wr v ((List.range k).map (partC p m)) ∧ (∀ j, j < k → j * m < p.length) ∧ w.grownBy wr none) (fun b _ _ => strSz b)
  case atStart => exact ⟨0, by simp, World.ownsRow_nil w w.heap.size _ _, fun j hj => absurd hj (by omega), grefl _ _⟩
  case round =>
    obtain ⟨k, rfl, hov, hall, hg⟩ := hrel
    have HG := Lib.hid hg
    have HA := Lib.hid hall
    have HV := Lib.hid hov
    obtain ⟨va, vc, hvs⟩ := own_shape hov
    rw [List.length_map, List.length_range] at hvs
    subst hvs
    clear hov hall hg
    obtain ⟨R, hR⟩ : ∃ R, R = p.drop (k * m) := ⟨_, rfl⟩
    rw [← hR]
    have hsz := strOfNums_size R
    obtain ⟨E, hE⟩ : ∃ E, E = R.length := ⟨_, rfl⟩
    rw [← hE] at hsz
    have hEl : E = p.length - k * m := by rw [hE, hR, List.length_drop]
    by_cases hz : R = []
    · have HX := Lib.hid (show p.length ≤ k * m by subst hz; simp at hE; omega)
      subst hz
      rw [show strOfNums [] = ({ data := #[] } : ByteArray) from rfl]
      clear hE hEl hR hsz
      go_wp2
      go_ret
      exact ⟨_, k, rfl, HV.out, HX.out, HA.out, HG.out⟩
    · have hS2 := str_nil_no (show Byt R by rw [hR]; exact HP.out.drop _) hz
      have hE1 : 1 ≤ E := by rw [hE]; rcases Nat.eq_zero_or_pos R.length with e | e; exact absurd (List.eq_nil_of_length_eq_zero e) hz; exact e
      obtain ⟨C, hC⟩ : ∃ C, C = min m E := ⟨_, rfl⟩
      have hmn : (if (S : Int) - 8 < (E : Int) then (S : Int) - 8 else (E : Int)) = (C : Int) := by rw [HM.out]; split <;> omega
      have hCE : C ≤ E := by omega
      have x1 := strOf_take R C
      have x2 := strOf_drop R C (by omega)
      rw [hsz] at x2
      have HT := Lib.hid (show R.take C = partC p m k by rw [partC, ← hR, hC, hE, List.take_eq_take_iff]; omega)
      have HD := Lib.hid (show R.drop C = p.drop ((k + 1) * m) by
        rcases Nat.le_total m E with h | h
        · rw [show C = m by omega, hR, List.drop_drop, Nat.succ_mul]
        · rw [show C = E by omega, hE, List.drop_length, List.drop_eq_nil_of_le (by rw [Nat.succ_mul]; omega)])
      have HK := Lib.hid (show k * m < p.length by omega)
      have hC1 : 1 ≤ C := by omega
      have HS2 := Lib.hid (show (strOfNums (R.drop C)).size < E by rw [strOfNums_size, List.length_drop, ← hE]; omega)
      have hk9 : k ≤ 9000 := by have := Nat.le_mul_of_pos_right k hm1; have := HL.out; omega
      obtain ⟨T, hT⟩ : ∃ T, T = strOfNums R := ⟨_, rfl⟩
      obtain ⟨T1, hT1⟩ : ∃ T, T = strOfNums (R.take C) := ⟨_, rfl⟩
      obtain ⟨T2, hT2⟩ : ∃ T, T = strOfNums (R.drop C) := ⟨_, rfl⟩
      rw [← hT] at hsz x1 x2 hS2 ⊢
      rw [← hT1] at x1
      rw [← hT2] at x2
      have hS3 : T.toList.isEmpty = false := by simpa using hS2
      have hS4 : (T.toList == []) = false := by simpa using hS2
      have HT1 := Lib.hid (show T1 = strOfNums (partC p m k) by rw [hT1, HT.out])
      have HT2 := Lib.hid (show T2 = strOfNums (p.drop ((k + 1) * m)) by rw [hT2, HD.out])
      have HS := Lib.hid (show T2.size < T.size by rw [hT2, hsz]; exact HS2.out)
      have hE9 : E ≤ 9000 := by have := HL.out; omega
      have hCi : (C : Int) ≤ (E : Int) := by omega
      clear hT hT1 hT2 hR hE hEl hz hC HT HD HS2
      go_wp2_with (at_builtin; have hga := World.grownBy_alloc wr (.cells #[.string T1] 9) none; refine wpList_append_own2 _ rfl _ _ 26 rfl w.heap.size 9 i0 (.string ByteArray.empty) 1 16 Try.underlying26 hi hz0 hz1 hz2 rfl (by decide) (.slice va k vc) k (((List.range k).map (partC p m)).map fun q => Value.string (strOfNums q)) rfl (by have h := HV.out.grown hga; unfold SOwns at h; simpa using h) ⟨wr.heap.size, 0, none⟩ 1 1 [.string T1] rfl rfl (by
          intro j u hj
          cases j with
          | zero => obtain rfl : Value.string T1 = u := by simpa using hj
                    rw [Addr.add_lit]; exact lit_str wr T1
          | succ j => simp at hj) (by intro u hu; simp at hu; subst hu; rfl) (by unfold maxLen; omega) (by omega) (by have := HG.out.size; simp; omega) ?_; intro v' w4 hown' hgrow _; have HV4 := Lib.hid (show SOwns w.heap.size w4 v' ((List.range (k + 1)).map (partC p m)) by rw [List.range_succ, List.map_append]; unfold SOwns; rw [HT1.out] at hown'; simpa using hown'); have HG4 := Lib.hid (grow_own (gtrans HG.out hga) (HV.out.grown hga) hgrow); clear hown' hgrow hga)
      go_roundw
      case rel =>
        have HJ : ∀ j, j < k + 1 → j * m < p.length := fun j hj => by
          rcases Nat.lt_or_ge j k with h | h
          · exact HA.out j h
          · obtain rfl : j = k := by omega
            exact HK.out
        exact ⟨k + 1, by rw [HT2.out], HV4.out, HJ, HG4.out⟩
      case measure => exact HS.out

end Go.Proofs.Ytpgpilalhbdidab
