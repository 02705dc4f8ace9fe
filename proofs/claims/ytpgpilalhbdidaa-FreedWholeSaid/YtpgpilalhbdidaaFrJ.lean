/-
  Layer 10: the laws' own pairs and alike. Own work.
-/
import Derived.Test.YtpgpilalhbdidaaFrC
import Derived.RangeFuncBox
namespace Go.Proofs.Ytpgpilalhbdidaa
open Go.RowKit

def PairsR (w : World) (ps : List Pr) (r : Ending) (w' : World) : Prop := ∃ ao c, r = .returned (.slice ao ps.length c) ∧ POwn 65 w.heap.size w' (.slice ao ps.length c) ps ∧ w.grownBy w' none

theorem lit_pair_drew (w : World) (p : Pr) (t : TypeId) : ∀ j u, (prc p)[j]? = some u → ((w.alloc (.cells #[.int .u64 (p.1 : Int), .int .u32 (p.2 : Int)] t)).drew).cell? ((⟨w.heap.size, 0, none⟩ : Addr).add j) = some u := lit_pair w p t

set_option maxRecDepth 30000 in
set_option maxHeartbeats 4000000 in
theorem pairs10_any (w : World) (R : Nat → Prop) (ao : Option Addr) (n c : Nat) (ps : List Pr) (h : PrSq R w (.slice ao n c) ps) (hn9 : n ≤ 1000000) :
    Calls Try.prog 17 #[.slice ao n c] w fun r w' => PairsR w ps r w' := by
  obtain ⟨i0, hi, hz0, hz1, hz2⟩ := info_parts infoPair
  have hn := h.len.1
  have HN := Lib.hid hn
  have HS := Lib.hid h.low
  clear h hn
  go_enter Try.func17, Try.ntmps17
  go_wp2
  go_loopw [3, 4] (fun v i wr => ∃ (k : Nat) (va : Option Addr) (vc : Nat), k ≤ n ∧ i = .int .i64 (k : Int) ∧ v = .slice va k vc ∧ Hid (POwn 65 w.heap.size wr (.slice va k vc) (ps.take k) ∧ w.grownBy wr none)) (fun _ i _ => n - (intOf i).toNat)
  case atStart => exact ⟨0, none, 0, Nat.zero_le _, rfl, rfl, Lib.hid ⟨POwn.nil _ _ _, grefl _ _⟩⟩
  case round =>
    obtain ⟨k, va, vc, hk, rfl, rfl, HH⟩ := hrel
    by_cases hlt : k < n
    · have hki : (k : Int) < (n : Int) := by omega
      have hk0 : (0 : Int) ≤ (k : Int) := by omega
      have hkl : k < ps.length := by rw [← HN.out]; exact hlt
      obtain ⟨p, hp⟩ : ∃ p, ps[k]? = some p := ⟨ps[k], List.getElem?_eq_getElem hkl⟩
      have HOK := Lib.hid (HS.out.ok p (List.mem_of_getElem? hp))
      obtain ⟨b, o, rfl, _, e0, e1⟩ := HS.out.at k p hp
      have c0 := HH.out.2.cell e0 (by simp)
      have c1 := HH.out.2.cell e1 (by simp)
      have HT := Lib.hid (take_snoc hp)
      have HTL := Lib.hid (show (ps.take k).length = k by rw [List.length_take]; omega)
      obtain ⟨a1, a2⟩ := p
      simp only at c0 c1 e0 e1
      have E0 := Lib.hid e0
      have E1 := Lib.hid e1
      clear e0 e1
      have hgd := gtrans (World.grownBy_alloc wr (.cells #[.int .u64 (a1 : Int), .int .u32 (a2 : Int)] 65) none) (gdrew _)
      have HA := Lib.hid (HH.out.1.grown hgd)
      have HGD := Lib.hid (gtrans HH.out.2 hgd)
      have hsz : w.heap.size ≤ (wr.alloc (.cells #[.int .u64 (a1 : Int), .int .u32 (a2 : Int)] 65)).drew.heap.size := HGD.out.size
      clear hp hgd
      go_wp2_with fail
      go_region_held3 (fun W => W.cell? ⟨b, o + k * 2, none⟩ = some (.int .u64 (a1 : Int)) ∧ W.cell? ⟨b, o + k * 2 + 1, none⟩ = some (.int .u32 (a2 : Int))) (go_keep)
        ((refine step_append_own2 (by rfl) (.tmp 11) (.tmp 23) 31 (by rfl) w.heap.size 65 i0 (.agg #[.int .u64 0, .int .u32 0]) 2 16 Try.underlying31 hi hz0 hz1 hz2 rfl (by decide) (.slice va k vc) k ((ps.take k).flatMap prc) (by rfl) (by have h := HA.out.1; rw [HTL.out] at h; exact h) ⟨wr.heap.size, 0, none⟩ 1 1 (prc (a1, a2)) (by rfl) rfl (lit_pair_drew wr (a1, a2) 65) (one_pair (a1, a2)) (by unfold maxLen; omega) (by omega) hsz ?_; intro v' w4 hown hgrow hfr; have HW4 := Lib.hid hown; have HG4 := Lib.hid hgrow; have g5 := grow_own HGD.out HA.out.1 hgrow (Nat.le_refl _); have m0 := g5.cell E0.out (by simp); have m1 := g5.cell E1.out (by simp); clear g5 hown hgrow hfr))
      all_goals
        obtain ⟨g', cap', rfl⟩ := ownsRow_succ HW4.out
        have HP := Lib.hid (HA.out.push HOK.out HTL.out.symm HW4.out)
        have HG5 := Lib.hid (grow_own HGD.out HA.out.1 HG4.out (Nat.le_refl _))
        go_wp2
        go_roundw
        case rel => exact ⟨k + 1, _, _, by omega, by go_num, rfl, Lib.hid ⟨by rw [HT.out]; exact HP.out, HG5.out⟩⟩
        case measure => simp [intOf]; omega
    · have hki : ¬ (k : Int) < (n : Int) := by omega
      have HO := Lib.hid (show POwn 65 w.heap.size wr (.slice va k vc) ps by have h := HH.out.1; rw [show ps.take k = ps by rw [List.take_of_length_le (by rw [← HN.out]; omega)]] at h; exact h)
      have hkn : k = ps.length := by rw [← HN.out]; omega
      go_wp2
      go_ret
      subst hkn
      exact ⟨_, _, rfl, HO.out, HH.out.2⟩

set_option maxRecDepth 30000 in
set_option maxHeartbeats 4000000 in
theorem alike10_any (w : World) (R1 R2 : Nat → Prop) (ao : Option Addr) (n c : Nat) (bo : Option Addr) (d : Nat) (ps : List Pr) (h1 : PrSq R1 w (.slice ao n c) ps) (h2 : PrSq R2 w (.slice bo n d) ps) :
    Calls Try.prog 12 #[.slice ao n c, .slice bo n d] w fun r w' => r = .returned (.bool true) ∧ w.grownBy w' none := by
  obtain ⟨hn, hm, hm'⟩ := h1.len
  have hn9 : (n : Int) ≤ 9223372036854775807 := by have h9 : maxLen ≤ 9223372036854775807 := by decide
                                                   omega
  have H1 := Lib.hid h1
  have H2 := Lib.hid h2
  have HN := Lib.hid hn
  clear h1 h2 hn hm hm'
  go_enter Try.func12, Try.ntmps12
  go_wp2
  go_loopw [5] (fun i wr => ∃ k : Nat, k ≤ n ∧ i = .int .i64 (k : Int) ∧ w.grownBy wr none) (fun i _ => n - (intOf i).toNat)
  case atStart => exact ⟨0, Nat.zero_le _, rfl, grefl _ _⟩
  case round =>
    obtain ⟨k, hk, rfl, hg⟩ := hrel
    have HG := Lib.hid hg
    by_cases hkn : k < n
    · have hki : (k : Int) < (n : Int) := by omega
      obtain ⟨p, hp⟩ : ∃ p, ps[k]? = some p := ⟨ps[k]'(by rw [← HN.out]; exact hkn), List.getElem?_eq_getElem _⟩
      obtain ⟨b1, o1, rfl, _, c0, c1⟩ := (H1.out.grown hg).at k p hp
      obtain ⟨b2, o2, rfl, _, d0, d1⟩ := (H2.out.grown hg).at k p hp
      clear hp hg
      go_wp2_with fail
      go_quiet (fail)
      have HG2 := Lib.hid (gtrans HG.out (gdrewN wr nq))
      clear c0 c1 d0 d1
      generalize wr.drewN nq = W2 at HG2 ⊢
      go_wp2
      go_roundw
      case rel => exact ⟨k + 1, by omega, by go_num, HG2.out⟩
      case measure => simp [intOf]; omega
    · have hki : ¬ (k : Int) < (n : Int) := by omega
      go_wp2
      go_ret
      exact ⟨rfl, hg⟩

end Go.Proofs.Ytpgpilalhbdidaa
