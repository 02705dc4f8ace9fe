/-
  Layer 10: the contracts of freed's smallest calls: how many pairs a page has, how two pairs stand, whether they rise. Own work.
-/
import Derived.Test.YtpgpilalhbdidaaFrA
import Derived.Deep.RegionHeld3
import Derived.Deep.QuietTactic
import Derived.BigQuiet
import Derived.Deep.LoopGhost
namespace Go.Proofs.Ytpgpilalhbdidaa
open Go.RowKit

theorem ret_int {k : IntKind} {a b : Int} (h : a = b) : Ending.returned (.int k a) = .returned (.int k b) := by rw [h]

set_option maxHeartbeats 400000 in
theorem zroom_in (S : Int) (w : World) (h1 : 512 ≤ S) (h2 : S ≤ 4096) : Calls Try.prog 33 #[.int .i64 S] w fun r w' => r = .returned (.int .i64 (roomI S)) ∧ w = w' := by
  go_enter Try.func33, Try.ntmps33
  go_wp2
  go_ret
  exact ⟨rfl, rfl⟩
set_option maxHeartbeats 400000 in
theorem vroom_in (S : Int) (w : World) (h1 : 512 ≤ S) (h2 : S ≤ 4096) : Calls Try.prog 34 #[.int .i64 S] w fun r w' => r = .returned (.int .i64 (roomI S)) ∧ w = w' := by
  go_enter Try.func34, Try.ntmps34
  go_wp2
  go_ret
  exact ⟨rfl, rfl⟩
theorem room_bd {S : Int} (h1 : 512 ≤ S) (h2 : S ≤ 4096) : 42 ≤ roomI S ∧ roomI S ≤ 340 := by unfold roomI; omega

/-- How many pages so many pairs need. -/
def manyF (n S : Int) : Int := if 1 ≤ n ∧ 512 ≤ S ∧ S ≤ 4096 then (n - 1) / roomI S + 1 else 0
set_option maxHeartbeats 1000000 in
theorem zmany_any (w : World) (n S : Int) (h9 : n ≤ 9223372036854775807) : Calls Try.prog 19 #[.int .i64 n, .int .i64 S] w fun r w' => r = .returned (.int .i64 (manyF n S)) ∧ w = w' := by
  by_cases hs : 512 ≤ S ∧ S ≤ 4096
  · obtain ⟨h1, h2⟩ := hs
    have hr := room_bd h1 h2
    by_cases hn : 1 ≤ n
    · have HM := Lib.hid (show (n - 1) / roomI S + 1 = manyF n S by unfold manyF; rw [if_pos ⟨hn, h1, h2⟩])
      go_enter Try.func19, Try.ntmps19
      go_wp2_with (first
        | (go_at_call 31; refine (lsize_yes _ _ h1 h2).mono ?_; rintro r w1 ⟨rfl, rfl⟩)
        | (go_at_call 33; refine (zroom_in _ _ h1 h2).mono ?_; rintro r w1 ⟨rfl, rfl⟩)
        | (go_at_call 32; refine (lmany_yes _ n (roomI S) _ hn h9 (by omega) HM.out).mono ?_; rintro r w1 ⟨rfl, rfl⟩))
      go_ret
      exact ⟨rfl, rfl⟩
    · have HM := Lib.hid (show manyF n S = 0 by unfold manyF; rw [if_neg (fun h => hn h.1)])
      go_enter Try.func19, Try.ntmps19
      go_wp2_with (first
        | (go_at_call 31; refine (lsize_yes _ _ h1 h2).mono ?_; rintro r w1 ⟨rfl, rfl⟩)
        | (go_at_call 33; refine (zroom_in _ _ h1 h2).mono ?_; rintro r w1 ⟨rfl, rfl⟩)
        | (go_at_call 32; refine (lmany_no _ n (roomI S) (by omega)).mono ?_; rintro r w1 ⟨rfl, rfl⟩))
      go_ret
      exact ⟨ret_int HM.out.symm, rfl⟩
  · have HM := Lib.hid (show manyF n S = 0 by unfold manyF; rw [if_neg (fun h => hs h.2)])
    go_enter Try.func19, Try.ntmps19
    go_wp2_with (go_at_call 31; refine (lsize_no _ _ hs).mono ?_; rintro r w1 ⟨rfl, rfl⟩)
    go_ret
    exact ⟨ret_int HM.out.symm, rfl⟩

theorem many_eq {n M : Int} (hn : 1 ≤ n) (hM : 1 ≤ M) : 0 ≤ n / M ∧ n / M ≤ n ∧ 0 ≤ n / M * M ∧ n / M * M ≤ n ∧ (n / M * M < n → (n - 1) / M + 1 = n / M + 1) ∧ (¬ n / M * M < n → (n - 1) / M + 1 = n / M) := by
  obtain ⟨q, hq⟩ : ∃ q, q = n / M := ⟨_, rfl⟩
  obtain ⟨r, hr⟩ : ∃ r, r = n % M := ⟨_, rfl⟩
  have e := Int.mul_ediv_add_emod n M
  have r0 := Int.emod_nonneg n (show M ≠ 0 by omega)
  have r1 := Int.emod_lt_of_pos n (show 0 < M by omega)
  have q0 : 0 ≤ n / M := Int.ediv_nonneg (by omega) (by omega)
  have q1 : n / M ≤ n := Int.ediv_le_self _ (by omega)
  rw [← hq, ← hr] at e
  rw [← hr] at r0 r1
  rw [← hq] at q0 q1 ⊢
  have hc : q * M = M * q := Int.mul_comm _ _
  have hp : 0 ≤ M * q := Int.mul_nonneg (by omega) q0
  rw [hc]
  refine ⟨q0, q1, hp, by omega, fun hlt => ?_, fun hge => ?_⟩
  · have : (n - 1) / M = q := by
      have e2 : n - 1 = (r - 1) + M * q := by omega
      rw [e2, Int.add_mul_ediv_left _ _ (by omega), Int.ediv_eq_zero_of_lt (by omega) (by omega)]; omega
    rw [this]
  · have hr0 : r = 0 := by omega
    have : (n - 1) / M = q - 1 := by
      have e2 : n - 1 = (M - 1) + M * (q - 1) := by rw [Int.mul_sub]; omega
      rw [e2, Int.add_mul_ediv_left _ _ (by omega), Int.ediv_eq_zero_of_lt (by omega) (by omega)]; omega
    rw [this]; omega
set_option maxHeartbeats 1000000 in
theorem vmany_any (w : World) (n S : Int) (h9 : n ≤ 9223372036854775807) : Calls Try.prog 20 #[.int .i64 n, .int .i64 S] w fun r w' => r = .returned (.int .i64 (manyF n S)) ∧ w = w' := by
  by_cases hn : 1 ≤ n
  · have d1 : ¬ n < 1 := by omega
    by_cases h1 : 512 ≤ S
    · have d2 : ¬ S < 512 := by omega
      by_cases h2 : S ≤ 4096
      · have d3 : ¬ 4096 < S := by omega
        have hr := room_bd h1 h2
        have HF := Lib.hid (show manyF n S = (n - 1) / roomI S + 1 by unfold manyF; rw [if_pos ⟨hn, h1, h2⟩])
        obtain ⟨M, hM⟩ : ∃ M, M = roomI S := ⟨_, rfl⟩
        rw [← hM] at hr HF
        obtain ⟨m1, m2, m3, m4, m5, m6⟩ := many_eq (n := n) (M := M) hn (by omega)
        have HM := Lib.hid hM
        have hne : ¬ M = 0 := by omega
        have hne2 : (M == 0) = false := by simp; omega
        have M5 := Lib.hid m5
        have M6 := Lib.hid m6
        obtain ⟨Q, hQ⟩ : ∃ Q, Q = n / M := ⟨_, rfl⟩
        rw [← hQ] at m1 m2 m3 m4 M5 M6
        have HQ := Lib.hid (show n.tdiv M = Q by rw [hQ]; exact Int.tdiv_eq_ediv_of_nonneg (by omega))
        obtain ⟨E, hE⟩ : ∃ E, E = Q * M := ⟨_, rfl⟩
        rw [← hE] at m3 m4 M5 M6
        have hqd := HQ.out
        have hw1 : IntKind.i64.wrap Q = Q := IntWalk.i64_in _ (by omega)
        have hw2 : IntKind.i64.wrap E = E := IntWalk.i64_in _ (by omega)
        have hE2 : Q * M = E := hE.symm
        have hQE : Q ≤ E := by
          have := Int.mul_le_mul_of_nonneg_left (show 1 ≤ M by omega) m1
          omega
        clear hM m5 m6 hQ hE
        by_cases hlt : E < n
        · have hw3 : IntKind.i64.wrap (Q + 1) = Q + 1 := IntWalk.i64_in _ (by omega)
          go_enter Try.func20, Try.ntmps20
          go_wp2_with (go_at_call 34; refine (vroom_in _ _ h1 h2).mono ?_; rintro r w1 ⟨rfl, rfl⟩; rw [← HM.out])
          go_ret
          exact ⟨ret_int (by rw [HF.out, M5.out hlt]), rfl⟩
        · go_enter Try.func20, Try.ntmps20
          go_wp2_with (go_at_call 34; refine (vroom_in _ _ h1 h2).mono ?_; rintro r w1 ⟨rfl, rfl⟩; rw [← HM.out])
          go_ret
          exact ⟨ret_int (by rw [HF.out, M6.out hlt]), rfl⟩
      · have d3 : 4096 < S := by omega
        have HF := Lib.hid (show manyF n S = 0 by unfold manyF; rw [if_neg (fun h => h2 h.2.2)])
        go_enter Try.func20, Try.ntmps20
        go_wp2
        go_ret
        exact ⟨ret_int HF.out.symm, rfl⟩
    · have d2 : S < 512 := by omega
      have HF := Lib.hid (show manyF n S = 0 by unfold manyF; rw [if_neg (fun h => h1 h.2.1)])
      go_enter Try.func20, Try.ntmps20
      go_wp2
      go_ret
      exact ⟨ret_int HF.out.symm, rfl⟩
  · have d1 : n < 1 := by omega
    have HF := Lib.hid (show manyF n S = 0 by unfold manyF; rw [if_neg (fun h => hn h.1)])
    go_enter Try.func20, Try.ntmps20
    go_wp2
    go_ret
    exact ⟨ret_int HF.out.symm, rfl⟩

/-! ### how two pairs stand -/
set_option maxHeartbeats 400000 in
theorem nan64_any (a : Int) (w : World) : Calls Try.prog 74 #[.int .u64 a] w fun r w' => r = .returned (.bool false) ∧ w = w' := by
  go_enter Try.func74, Try.ntmps74
  go_wp2
  go_ret
  exact ⟨by simp, rfl⟩
set_option maxHeartbeats 400000 in
theorem nanPg_any (a : Int) (w : World) : Calls Try.prog 75 #[.int .u32 a] w fun r w' => r = .returned (.bool false) ∧ w = w' := by
  go_enter Try.func75, Try.ntmps75
  go_wp2
  go_ret
  exact ⟨by simp, rfl⟩
set_option maxHeartbeats 400000 in
theorem cmp64_any (a b : Int) (w : World) : Calls Try.prog 66 #[.int .u64 a, .int .u64 b] w fun r w' => r = .returned (.int .i64 (cmpI a b)) ∧ w = w' := by
  unfold cmpI
  by_cases h1 : a < b
  · rw [if_pos h1]
    go_enter Try.func66, Try.ntmps66
    go_wp2_with (go_at_call 74; refine (nan64_any _ _).mono ?_; rintro r w1 ⟨rfl, rfl⟩)
    go_ret
    exact ⟨rfl, rfl⟩
  · rw [if_neg h1]
    by_cases h2 : b < a
    · rw [if_pos h2]
      go_enter Try.func66, Try.ntmps66
      go_wp2_with (go_at_call 74; refine (nan64_any _ _).mono ?_; rintro r w1 ⟨rfl, rfl⟩)
      go_ret
      exact ⟨rfl, rfl⟩
    · rw [if_neg h2]
      go_enter Try.func66, Try.ntmps66
      go_wp2_with (go_at_call 74; refine (nan64_any _ _).mono ?_; rintro r w1 ⟨rfl, rfl⟩)
      go_ret
      exact ⟨rfl, rfl⟩
set_option maxHeartbeats 400000 in
theorem cmpPg_any (a b : Int) (w : World) : Calls Try.prog 67 #[.int .u32 a, .int .u32 b] w fun r w' => r = .returned (.int .i64 (cmpI a b)) ∧ w = w' := by
  unfold cmpI
  by_cases h1 : a < b
  · rw [if_pos h1]
    go_enter Try.func67, Try.ntmps67
    go_wp2_with (go_at_call 75; refine (nanPg_any _ _).mono ?_; rintro r w1 ⟨rfl, rfl⟩)
    go_ret
    exact ⟨rfl, rfl⟩
  · rw [if_neg h1]
    by_cases h2 : b < a
    · rw [if_pos h2]
      go_enter Try.func67, Try.ntmps67
      go_wp2_with (go_at_call 75; refine (nanPg_any _ _).mono ?_; rintro r w1 ⟨rfl, rfl⟩)
      go_ret
      exact ⟨rfl, rfl⟩
    · rw [if_neg h2]
      go_enter Try.func67, Try.ntmps67
      go_wp2_with (go_at_call 75; refine (nanPg_any _ _).mono ?_; rintro r w1 ⟨rfl, rfl⟩)
      go_ret
      exact ⟨rfl, rfl⟩
def orI (x y : Int) : Int := if x = 0 then y else x
set_option maxHeartbeats 1000000 in
theorem or_two (w : World) (q : Nat) (x y : Int) (c0 : w.cell? ⟨q, 0, none⟩ = some (.int .i64 x)) (c1 : w.cell? ⟨q, 1, none⟩ = some (.int .i64 y)) :
    Calls Try.prog 65 #[.slice (some ⟨q, 0, none⟩) 2 2] w fun r w' => r = .returned (.int .i64 (orI x y)) ∧ w = w' := by
  unfold orI
  by_cases hx : x = 0
  · rw [if_pos hx]
    have hb : (x != 0) = false := by simpa using hx
    by_cases hy : y = 0
    · have hb2 : (y != 0) = false := by simpa using hy
      have HY := Lib.hid hy
      clear hx hy
      go_enter Try.func65, Try.ntmps65
      go_wp2
      refine wp_loop_rounds 3 ?_
      repeat any_goals (rw [rounds_succ]; go_wp2)
      go_ret
      exact ⟨ret_int HY.out.symm, rfl⟩
    · have hb2 : (y != 0) = true := by simpa using hy
      clear hx hy
      go_enter Try.func65, Try.ntmps65
      go_wp2
      refine wp_loop_rounds 3 ?_
      repeat any_goals (rw [rounds_succ]; go_wp2)
      go_ret
      exact ⟨rfl, rfl⟩
  · rw [if_neg hx]
    have hb : (x != 0) = true := by simpa using hx
    clear hx
    go_enter Try.func65, Try.ntmps65
    go_wp2
    refine wp_loop_rounds 3 ?_
    repeat any_goals (rw [rounds_succ]; go_wp2)
    go_ret
    exact ⟨rfl, rfl⟩

theorem orI_cmp (a b : Pr) : orI (cmpI (a.1 : Int) (b.1 : Int)) (cmpI (a.2 : Int) (b.2 : Int)) = cmpP a b := by
  unfold orI cmpP cmpI
  by_cases h1 : a.1 < b.1
  · have : (a.1 : Int) < (b.1 : Int) := by omega
    simp [this, h1]
  · by_cases h2 : b.1 < a.1
    · have k1 : ¬ (a.1 : Int) < (b.1 : Int) := by omega
      have k2 : (b.1 : Int) < (a.1 : Int) := by omega
      simp [k1, k2, h1, h2]
    · have k1 : ¬ (a.1 : Int) < (b.1 : Int) := by omega
      have k2 : ¬ (b.1 : Int) < (a.1 : Int) := by omega
      simp only [if_neg k1, if_neg k2, if_neg h1, if_neg h2, if_pos]
      by_cases h3 : a.2 < b.2
      · have : (a.2 : Int) < (b.2 : Int) := by omega
        simp [this, h3]
      · by_cases h4 : b.2 < a.2
        · have k3 : ¬ (a.2 : Int) < (b.2 : Int) := by omega
          have k4 : (b.2 : Int) < (a.2 : Int) := by omega
          simp [k3, k4, h3, h4]
        · have k3 : ¬ (a.2 : Int) < (b.2 : Int) := by omega
          have k4 : ¬ (b.2 : Int) < (a.2 : Int) := by omega
          simp [k3, k4, h3, h4]

theorem cells_new2 (W : World) (a b : Value) (t : TypeId) : ((W.alloc (.cells #[a, b] t)).drew).cell? ⟨W.heap.size, 0, none⟩ = some a ∧ ((W.alloc (.cells #[a, b] t)).drew).cell? ⟨W.heap.size, 1, none⟩ = some b := by
  obtain ⟨h1, h2, _, _⟩ := cells2 (heap_alloc_new W (.cells #[a, b] t (0, 0)))
  exact ⟨h1, h2⟩

set_option maxHeartbeats 1000000 in
theorem compareP_any (w : World) (a b : Pr) : Calls Try.prog 55 #[.agg #[.int .u64 (a.1 : Int), .int .u32 (a.2 : Int)], .agg #[.int .u64 (b.1 : Int), .int .u32 (b.2 : Int)]] w fun r w' => r = .returned (.int .i64 (cmpP a b)) ∧ w.grownBy w' none := by
  have HC := Lib.hid (orI_cmp a b)
  obtain ⟨a1, a2⟩ := a
  obtain ⟨b1, b2⟩ := b
  simp only at HC ⊢
  have k0 := two_lit0 w (.cells #[.int .u64 (a1 : Int), .int .u32 (a2 : Int)] 65) (.cells #[.int .u64 (b1 : Int), .int .u32 (b2 : Int)] 65)
  have k1 := two_lit1 w (.cells #[.int .u64 (a1 : Int), .int .u32 (a2 : Int)] 65) (.cells #[.int .u64 (b1 : Int), .int .u32 (b2 : Int)] 65)
  have HG := Lib.hid (two_grown w (.cells #[.int .u64 (a1 : Int), .int .u32 (a2 : Int)] 65) (.cells #[.int .u64 (b1 : Int), .int .u32 (b2 : Int)] 65))
  go_enter Try.func55, Try.ntmps55
  go_wp2_with fail
  obtain ⟨c0, c1, _, _⟩ := cells2 k0
  obtain ⟨d0, d1, _, _⟩ := cells2 k1
  clear k0 k1
  generalize (w.alloc (.cells #[.int .u64 (a1 : Int), .int .u32 (a2 : Int)] 65)).alloc (.cells #[.int .u64 (b1 : Int), .int .u32 (b2 : Int)] 65) = W at *
  go_region_held3 (fun W => W.cell? ⟨w.heap.size, 0, none⟩ = some (.int .u64 (a1 : Int)) ∧ W.cell? ⟨w.heap.size, 1, none⟩ = some (.int .u32 (a2 : Int)) ∧ W.cell? ⟨w.heap.size + 1, 0, none⟩ = some (.int .u64 (b1 : Int)) ∧ W.cell? ⟨w.heap.size + 1, 1, none⟩ = some (.int .u32 (b2 : Int))) (go_keep)
    (first
      | (go_at_call 66; (with_reducible refine (cmp64_any _ _ _).mono ?_); rintro r w1 ⟨rfl, rfl⟩)
      | (go_at_call 67; (with_reducible refine (cmpPg_any _ _ _).mono ?_); rintro r w1 ⟨rfl, rfl⟩)
      | (go_at_call 65; (refine (or_two _ _ _ _ (cells_new2 _ _ _ _).1 (cells_new2 _ _ _ _).2).mono ?_); rintro r w1 ⟨rfl, rfl⟩))
  all_goals
    go_wp2
    go_ret
    exact ⟨ret_int HC.out, gtrans HG.out (gtrans (World.grownBy_alloc _ _ none) (gdrew _))⟩

end Go.Proofs.Ytpgpilalhbdidaa
