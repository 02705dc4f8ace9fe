/-
  Layer 6: the library's iterator that cuts a slice of bytes (slices.Chunk): its contract, inside a fence. Own work; the frame is the guide's page on ranges over functions.
-/
import Derived.RangeFuncBox
import Derived.RangeFuncLeaves
import Derived.RangeFuncWrites
import Derived.Shelf.Abstract
import Derived.WalkKit
import Derived.OwnWalkIn
import Derived.TacticsInMore
import Derived.LoopNIn
import Derived.LoopIn
import Derived.BigRegionIn
import Derived.Sort.QuietIn
import Derived.Test.YtpgpilalhbdidabChaE
namespace Go.Proofs.Ytpgpilalhbdidab
open Go.RowKit Go.Shelf

attribute [local go_sem] Oper.semAt_some

set_option maxHeartbeats 1000000 in
theorem chunk_in (n : Nat) (a : Option Addr) (len cap : Nat) (m : Int) (hm : 1 ≤ m) (w : World) :
    CallsIn Fence.wide n Try.prog 19 #[.slice a len cap, .int .i64 m] w fun e w' => e = .returned (.func (.func 32) #[] #[.pointer (some ⟨w.heap.size, 0, none⟩), .pointer (some ⟨w.heap.size + 1, 0, none⟩)]) ∧ w' = (w.alloc (.cells #[.slice a len cap] 22)).alloc (.cells #[.int .i64 m] 3) := by
  have hd : decide (m < 1) = false := by simp; omega
  refine callsIn_of_wp Try.func19 rfl trivial ?_ rfl
  simp only [Try.ntmps19, List.size_toArray, List.length_cons, List.length_nil, Nat.reduceAdd, Nat.reduceSub, Array.replicate_succ, Array.replicate_zero, List.push_toArray, List.append_toArray, List.nil_append, List.cons_append]
  gi_wp2
  go_ret
  exact ⟨rfl, rfl⟩

/-- How many bytes the x-th part has. -/
def cutE (len m x : Nat) : Nat := min m (len - x * m)
/-- The boxes of the iterator lie as they lay. -/
def KpC (Bs Bn : Nat) (W W' : World) : Prop := W'.heap[Bs]? = W.heap[Bs]? ∧ W'.heap[Bn]? = W.heap[Bn]?

set_option maxRecDepth 100000 in
set_option maxHeartbeats 2000000 in
theorem chunk1_in (n : Nat) (hn : 1 ≤ n) (l Bs Bn b o len cap m : Nat) (ao : Option Addr) (hao : 0 < len → ao = some ⟨b, o, none⟩) (hm : 1 ≤ m) (hm9 : m ≤ 4096) (hlen : len ≤ 140737488355328) (hcap : len ≤ cap) (hcap9 : cap ≤ 9223372036854775807) (J Jx : List Nat → World → Prop) (hJd : ∀ pre (X : World) (N : Nat), J pre X → J pre (X.drewN N))
    (hY : ∀ pre (x : Nat) W, J pre W → pre.length < len → YieldAt Fence.wide (n - 1) Try.prog l #[.slice (some ⟨b, o + x * m, none⟩) (cutE len m x) (cutE len m x)] W fun e W' =>
      (e = .returned (.bool true) ∧ J (pre ++ [x]) W' ∧ KpC Bs Bn W W') ∨ (e = .returned (.bool false) ∧ Jx (pre ++ [x]) W'))
    (W : World) (hBs : W.heap[Bs]? = some (.cells #[.slice ao len cap] 22 (0, 0))) (hBn : W.heap[Bn]? = some (.cells #[.int .i64 (m : Int)] 3 (0, 0))) (h0 : J [] W) :
    CallsIn Fence.wide n Try.prog 32 #[.func (.yield l) #[] #[], .pointer (some ⟨Bs, 0, none⟩), .pointer (some ⟨Bn, 0, none⟩)] W fun e W' => (∃ v, e = .returned v) ∧
      ((∃ ys, (∃ M, ys = List.range M ∧ len ≤ M * m ∧ ∀ k, k < M → k * m < len) ∧ J ys W') ∨ (∃ pre, (∃ k : Nat, pre = List.range k) ∧ Jx pre W')) := by
  refine callsIn_of_wp Try.func32 rfl trivial ?_ rfl
  simp only [Try.ntmps32, List.size_toArray, List.length_cons, List.length_nil, Nat.reduceAdd, Nat.reduceSub, Array.replicate_succ, Array.replicate_zero, List.push_toArray, List.append_toArray, List.nil_append, List.cons_append]
  gi_wp2
  gi_loopw [4] (fun i wr => ∃ k : Nat, i = .int .i64 ((k * m : Nat) : Int) ∧ (∀ j, j < k → j * m < len) ∧ J (List.range k) wr ∧ wr.heap[Bs]? = some (.cells #[.slice ao len cap] 22 (0, 0)) ∧ wr.heap[Bn]? = some (.cells #[.int .i64 (m : Int)] 3 (0, 0)))
    (fun i _ => len + m - (intOf i).toNat)
  case atStart => exact ⟨0, by simp, (fun j hj => by omega), h0, hBs, hBn⟩
  case round =>
    obtain ⟨k, rfl, hall, hJs, hs, hb⟩ := hrel
    have hs1 : wr.cell? ⟨Bs, 0, none⟩ = some (.slice ao len cap) := by simp [World.cell?, hs]
    have hb1 : wr.cell? ⟨Bn, 0, none⟩ = some (.int .i64 (m : Int)) := by simp [World.cell?, hb]
    by_cases hlt : k * m < len
    · obtain rfl := hao (by omega)
      obtain ⟨I0, hI0⟩ : ∃ I0, I0 = k * m := ⟨_, rfl⟩
      have hpl : (List.range k).length < len := by rw [List.length_range]; exact Nat.lt_of_le_of_lt (Nat.le_mul_of_pos_right k hm) hlt
      obtain ⟨E, hE⟩ : ∃ E, E = cutE len m k := ⟨_, rfl⟩
      have hE' := hE
      unfold cutE at hE'
      rw [← hI0] at hlt hE' ⊢
      have hki : (I0 : Int) < (len : Int) := by omega
      have hki2 : (I0 : Int) ≤ (len : Int) := by omega
      have hki3 : (I0 : Int) ≤ (cap : Int) := by omega
      have hm2 : min (m : Int) ((len - I0 : Nat) : Int) = (E : Int) := by rw [hE']; omega
      have hm3 : min (m : Int) ((len : Int) - (I0 : Int)) = (E : Int) := by rw [hE']; omega
      have hmx : Try.prog.follows .mixedOrders = true := by kernel_rfl
      have hIe : I0 + E ≤ len := by omega
      have HI := Lib.hid hI0
      have HE := Lib.hid hE
      have hE9 : E ≤ 4096 := by omega
      have hIe2 : (I0 : Int) + (E : Int) ≤ (cap : Int) := by omega
      clear hI0 hE
      by_cases hmn : (m : Int) ≤ ((len - I0 : Nat) : Int)
      · have hEm : E = m := by omega
        rw [hEm] at hIe hIe2 hE9
        rw [hEm] at HE
        clear hE' hm2 hm3 hEm
        gi_wp2
        gi_quiet (fail)
        obtain ⟨fn, tmps, assign, body, hy, hR⟩ := hY _ k (wr.drewN nq) (hJd _ _ _ hJs) hpl
        rw [← HE.out, ← HI.out] at hy
        gi_wp2
        refine hR.mono ?_
        rintro e W3 (⟨rfl, hJ3, hk3⟩ | ⟨rfl, hJx3⟩)
        · have hs3 := hk3.1.trans hs
          have hb3 : W3.heap[Bn]? = some (.cells #[.int .i64 (m : Int)] 3 (0, 0)) := hk3.2.trans hb
          have hb4 : W3.cell? ⟨Bn, 0, none⟩ = some (.int .i64 (m : Int)) := by simp [World.cell?, hb3]
          have hJ4 : J (List.range (k + 1)) W3 := by rw [List.range_succ]; exact hJ3
          gi_wp2
          go_roundw
          case rel => exact ⟨k + 1, by rw [Nat.succ_mul, ← HI.out]; simp, (fun j hj => by
            by_cases e : j = k
            · subst e; rw [← HI.out]; exact hlt
            · exact hall j (by omega)), hJ4, hs3, hb3⟩
          case measure => simp [intOf]; omega
        · gi_wp2
          refine bodyPost_ret (results_none rfl _ _ _) rfl ?_
          exact ⟨⟨_, rfl⟩, .inr ⟨_, ⟨k + 1, List.range_succ.symm⟩, hJx3⟩⟩
      · have hle : len - I0 = E := by omega
        have hEm1 : (E : Int) ≤ (m : Int) := by omega
        have hEm2 : ¬ (m : Int) ≤ (E : Int) := by omega
        have hEm3 : E ≤ m := by omega
        have hEm4 : ¬ m ≤ E := by omega
        have hmin : min (m : Int) (E : Int) = (E : Int) := by omega
        clear hE' hm2 hm3
        gi_wp2
        gi_quiet (fail)
        obtain ⟨fn, tmps, assign, body, hy, hR⟩ := hY _ k (wr.drewN nq) (hJd _ _ _ hJs) hpl
        rw [← HE.out, ← HI.out] at hy
        gi_wp2
        refine hR.mono ?_
        rintro e W3 (⟨rfl, hJ3, hk3⟩ | ⟨rfl, hJx3⟩)
        · have hs3 := hk3.1.trans hs
          have hb3 : W3.heap[Bn]? = some (.cells #[.int .i64 (m : Int)] 3 (0, 0)) := hk3.2.trans hb
          have hb4 : W3.cell? ⟨Bn, 0, none⟩ = some (.int .i64 (m : Int)) := by simp [World.cell?, hb3]
          have hJ4 : J (List.range (k + 1)) W3 := by rw [List.range_succ]; exact hJ3
          gi_wp2
          go_roundw
          case rel => exact ⟨k + 1, by rw [Nat.succ_mul, ← HI.out]; simp, (fun j hj => by
            by_cases e : j = k
            · subst e; rw [← HI.out]; exact hlt
            · exact hall j (by omega)), hJ4, hs3, hb3⟩
          case measure => simp [intOf]; omega
        · gi_wp2
          refine bodyPost_ret (results_none rfl _ _ _) rfl ?_
          exact ⟨⟨_, rfl⟩, .inr ⟨_, ⟨k + 1, List.range_succ.symm⟩, hJx3⟩⟩
    · have HKM := Lib.hid (show len ≤ k * m by omega)
      obtain ⟨I0, hI0⟩ : ∃ I0, I0 = k * m := ⟨_, rfl⟩
      rw [← hI0] at hlt ⊢
      have hki : ¬ (I0 : Int) < (len : Int) := by omega
      clear hI0
      gi_wp2
      go_end0
      exact ⟨⟨_, rfl⟩, .inl ⟨_, ⟨k, rfl, HKM.out, hall⟩, hJs⟩⟩

/-- What slices.Chunk hands back: the parts, by their numbers. -/
theorem chunk_stops (n : Nat) (hn : 1 ≤ n) (Bs Bn b o len cap m : Nat) (ao : Option Addr) (hao : 0 < len → ao = some ⟨b, o, none⟩) (hm : 1 ≤ m) (hm9 : m ≤ 4096) (hlen : len ≤ 140737488355328) (hcap : len ≤ cap) (hcap9 : cap ≤ 9223372036854775807) (w : World) (hBs : w.heap[Bs]? = some (.cells #[.slice ao len cap] 22 (0, 0))) (hBn : w.heap[Bn]? = some (.cells #[.int .i64 (m : Int)] 3 (0, 0))) :
    SeqStopsK Fence.wide n Try.prog 32 #[.pointer (some ⟨Bs, 0, none⟩), .pointer (some ⟨Bn, 0, none⟩)] (fun x : Nat => #[.slice (some ⟨b, o + x * m, none⟩) (cutE len m x) (cutE len m x)]) (KpC Bs Bn)
      (fun ys => ∃ M, ys = List.range M ∧ len ≤ M * m ∧ ∀ k, k < M → k * m < len) (fun pre => ∃ k : Nat, pre = List.range k) len w := fun l J Jx W hW hJ _ hY h0 =>
  chunk1_in n hn l Bs Bn b o len cap m ao hao hm hm9 hlen hcap hcap9 J Jx (fun pre X N h => hJ pre X _ none h ⟨rfl, rfl, rfl, Nat.le_refl _, fun _ _ _ => rfl⟩ (fun r e => by cases e)) hY W ((hW.block Bs (lt_of_block hBs)).trans hBs) ((hW.block Bn (lt_of_block hBn)).trans hBn) h0

end Go.Proofs.Ytpgpilalhbdidab
