/-
  Layer 8: are records the document's: the law's same. Own work.
-/
import Derived.BigQuiet
import Derived.Test.YtpgpilalhbdidaaFpT
namespace Go.Proofs.Ytpgpilalhbdidaa
open Go.RowKit

set_option maxRecDepth 100000 in
set_option maxHeartbeats 4000000 in
theorem same8_any (w : World) (R1 R2 : Nat → Prop) (la ra : Option Addr) (n lc rc : Nat) (rs : List Rc) (h1 : RSq R1 w (.slice la n lc) rs) (h2 : RSq R2 w (.slice ra n rc) rs) :
    Calls Try.prog 15 #[.slice la n lc, .slice ra n rc] w fun r w' => r = .returned (.bool true) ∧ w.grownBy w' none := by
  obtain ⟨hn, hnm⟩ := h1.len
  have hn9 : (n : Int) ≤ 9223372036854775807 := by have h9 : maxLen ≤ 9223372036854775807 := by decide
                                                   omega
  have H1 := Lib.hid h1
  have H2 := Lib.hid h2
  have HN := Lib.hid hn
  clear h1 h2 hn hnm
  go_enter Try.func15, Try.ntmps15
  go_wp2
  go_loopw [5] (fun i wr => ∃ k : Nat, k ≤ n ∧ i = .int .i64 (k : Int) ∧ w.grownBy wr none) (fun i _ => n - (intOf i).toNat)
  case atStart => exact ⟨0, Nat.zero_le _, rfl, grefl _ _⟩
  case round =>
    obtain ⟨k, hk, rfl, hg⟩ := hrel
    have HG := Lib.hid hg
    by_cases hkn : k < n
    · have hki : (k : Int) < (n : Int) := by omega
      obtain ⟨r, hr⟩ : ∃ r, rs[k]? = some r := ⟨rs[k]'(by rw [← HN.out]; exact hkn), List.getElem?_eq_getElem _⟩
      obtain ⟨b1, o1, rfl, _, c0, _, a1, q1, c1, hp1⟩ := (H1.out.grown hg).at k r hr
      obtain ⟨b2, o2, rfl, _, d0, _, a2, q2, d1, hp2⟩ := (H2.out.grown hg).at k r hr
      obtain ⟨m, hm⟩ : ∃ m, m = r.2.length := ⟨_, rfl⟩
      have hm9 : (m : Int) ≤ 9223372036854775807 := by
        have h9 : maxLen ≤ 9223372036854775807 := by decide
        have h8 := hp1.len.2
        omega
      rw [← hm] at c1 d1
      have HM := Lib.hid hm
      have HR := Lib.hid hr
      clear hp1 hp2 hm hr hg
      go_wp2_with fail
      go_quiet (fail)
      have HG2 := Lib.hid (gtrans HG.out (gdrewN wr nq))
      clear c0 c1 d0 d1
      generalize wr.drewN nq = W2 at HG2 ⊢
      go_wp2
      go_loopw [6] (fun i wr => ∃ j : Nat, j ≤ m ∧ i = .int .i64 (j : Int) ∧ w.grownBy wr none) (fun i _ => m - (intOf i).toNat)
      case atStart => exact ⟨0, Nat.zero_le _, rfl, HG2.out⟩
      case round =>
        obtain ⟨j, hj, rfl, hg3⟩ := hrel
        have HG3 := Lib.hid hg3
        obtain ⟨b3, o3, he, _, c0, _, a1', q1', c1, hp1⟩ := (H1.out.grown hg3).at k r HR.out
        cases he
        obtain ⟨b4, o4, he, _, d0, _, a2', q2', d1, hp2⟩ := (H2.out.grown hg3).at k r HR.out
        cases he
        rw [← HM.out] at c1 d1 hp1 hp2
        by_cases hjm : j < m
        · have hji : (j : Int) < (m : Int) := by omega
          have hjl : j < r.2.length := by rw [← HM.out]; exact hjm
          obtain ⟨b5, o5, rfl, _, cp⟩ := hp1.at j hjl
          obtain ⟨b6, o6, rfl, _, dp⟩ := hp2.at j hjl
          obtain ⟨p, hpv⟩ : ∃ p, p = r.2.getD j 0 := ⟨_, rfl⟩
          rw [← hpv] at cp dp
          clear hp1 hp2 hpv c0 d0 hg3 hjl
          go_wp2_with fail
          go_quiet (fail)
          have HG4 := Lib.hid (gtrans HG3.out (gdrewN wr nq))
          clear c1 d1 cp dp
          generalize wr.drewN nq = W4 at HG4 ⊢
          go_wp2
          go_roundw
          case rel => exact ⟨j + 1, by omega, by go_num, HG4.out⟩
          case measure => simp [intOf]; omega
        · have hji : ¬ (j : Int) < (m : Int) := by omega
          clear hp1 hp2 hg3 c0 d0 d1
          go_wp2
          go_roundw
          case rel => exact ⟨k + 1, by omega, by go_num, HG3.out⟩
          case measure => simp [intOf]; omega
    · have hki : ¬ (k : Int) < (n : Int) := by omega
      go_wp2
      go_ret
      exact ⟨rfl, hg⟩

end Go.Proofs.Ytpgpilalhbdidaa
