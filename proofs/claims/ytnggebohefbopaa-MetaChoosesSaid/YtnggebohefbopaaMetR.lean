/-
  Layer 7: the document's Right, and a number within a text. Own work.
-/
import Derived.Test.YtnggebohefbopaaMetA
import Derived.Test.YtnggebohefbopaaChaF
namespace Go.Proofs.Ytnggebohefbopaa
open Go.RowKit

set_option maxHeartbeats 1000000 in
theorem kright_any (M : Mt) (w : World) :
    Calls Try.prog 15 #[.agg (mtC M)] w fun r w' => r = .returned (.bool (mright M)) ∧ w.grownBy w' none := by
  obtain ⟨t, e, m, f⟩ := M
  simp only [mtC, mright]
  by_cases h1 : 1 ≤ t
  · have h1i : (0 : Int) < (t : Int) := by omega
    by_cases h2 : 2 ≤ e
    · have h2i : (1 : Int) < (e : Int) := by omega
      cases h3 : rpg m e
      · go_enter Try.func15, Try.ntmps15
        go_wp2_with (go_at_call 33; refine (kpage_any _ _ _).mono ?_; rintro r w1 ⟨rfl, rfl⟩; rw [h3])
        go_ret
        exact ⟨by simp [h1, h2], World.grownBy_alloc _ _ _⟩
      · go_enter Try.func15, Try.ntmps15
        go_wp2_with (first
          | (go_at_call 33; with_reducible refine (kpage_any m e _).mono ?_; rintro r w1 ⟨rfl, rfl⟩; rw [h3])
          | (go_at_call 33; with_reducible refine (kpage_any f e _).mono ?_; rintro r w1 ⟨rfl, rfl⟩))
        go_ret
        exact ⟨by simp [h1, h2], World.grownBy_alloc _ _ _⟩
    · have h2i : ¬ (1 : Int) < (e : Int) := by omega
      go_enter Try.func15, Try.ntmps15
      go_wp2
      go_ret
      exact ⟨by simp [h2], World.grownBy_alloc _ _ _⟩
  · have h1i : ¬ (0 : Int) < (t : Int) := by omega
    go_enter Try.func15, Try.ntmps15
    go_wp2
    go_ret
    exact ⟨by simp [h1], World.grownBy_alloc _ _ _⟩

set_option maxHeartbeats 1000000 in
theorem knum_in (w : World) (b : List Int) (at' n : Nat) (i m : Int) (hi : i = (at' : Int)) (hm : m = (n : Int)) (hb : Byt b) (ha : at' + n ≤ b.length) (h1 : 1 ≤ n) (h8 : n ≤ 8) (hl : b.length ≤ 140737488355328) :
    Calls Try.prog 39 #[.string (strOfNums b), .int .i64 i, .int .i64 m] w fun r w' => r = .returned (.int .u64 (fld b at' n)) ∧ w.grownBy w' none := by
  subst hi hm
  have hsz := strOfNums_size b
  have hd := strOf_drop b at' (by omega)
  have KR := Lib.hid (fun w' => rnum_in w' (b.drop at') n (n : Int) rfl (hb.drop at') (by simp; omega) h1 h8 (by simp; omega))
  have HX := Lib.hid (show fld b at' n = beVal ((b.drop at').take n) from rfl)
  obtain ⟨B, hB⟩ : ∃ B, B = strOfNums b := ⟨_, rfl⟩
  obtain ⟨D, hD⟩ : ∃ B, B = strOfNums (b.drop at') := ⟨_, rfl⟩
  obtain ⟨D2, hD2⟩ : ∃ B, B = strOfNums ((b.drop at').drop n) := ⟨_, rfl⟩
  obtain ⟨L, hL⟩ : ∃ L, L = b.length := ⟨_, rfl⟩
  rw [← hD, ← hD2] at KR
  rw [← hB, ← hL] at hsz
  rw [← hB, ← hD, hsz] at hd
  rw [← hB, HX.out]
  rw [← hL] at ha hl
  generalize beVal ((b.drop at').take n) = x at *
  have hai : (at' : Int) ≤ (L : Int) := by omega
  clear hB hD hD2 hL HX hb
  go_enter Try.func39, Try.ntmps39
  go_wp2_with (go_at_call 46; ((with_reducible refine (KR.out _).mono ?_); rintro r w3 ⟨rfl, hg3⟩))
  go_ret
  exact ⟨rfl, gtrans hg3 (World.grownBy_alloc _ _ _)⟩

end Go.Proofs.Ytnggebohefbopaa
