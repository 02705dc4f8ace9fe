/-
  The contracts of octet's Writer.Out and Writer.Raw. Own work.
-/
import Derived.Test.YtpgpilalhbdidaaOctL
namespace Go.Proofs.Ytpgpilalhbdidaa
open Go.RowKit

set_option maxHeartbeats 400000 in
theorem out_any (w : World) (g : Nat) (bs : List Int) (h : WrAt w g bs) (hl : bs.length ≤ 140737488355328) :
    Calls Try.prog 44 #[.pointer (some ⟨g, 0, none⟩)] w fun r w' => ∃ ao c, r = .returned (.slice ao bs.length c) ∧
      w'.ownsRow w.heap.size 5 1 (.slice ao bs.length c) bs.length (bs.map (Value.int .u8)) ∧ w.grownBy w' none := by
  obtain ⟨v, hown, hv⟩ := h
  obtain ⟨ao, c, rfl⟩ := own_shape hown
  have hc0 := cell_of_one hv
  have H := Lib.hid (clone_any w _ _ bs (Seq.owned hown) (Nat.le_refl _) hl)
  clear hown hv
  go_enter Try.func44, Try.ntmps44
  go_wp2_with (go_at_call 58; refine H.out.mono ?_; rintro r w2 ⟨ao, c, rfl, ho2, hg2⟩)
  go_ret
  exact ⟨_, _, rfl, ho2, hg2⟩

set_option maxHeartbeats 400000 in
theorem out_nil (w : World) :
    Calls Try.prog 44 #[.pointer none] w fun r w' => r = .returned (.slice none 0 0) ∧ w = w' := by
  go_enter Try.func44, Try.ntmps44
  go_wp2
  go_ret
  exact ⟨rfl, rfl⟩

/-- Behind an append onto the writer's row: its own cell still holds what it held. -/
theorem wr_still {w w' : World} {g : Nat} {t : TypeId} {u : Value} {row : Option Nat} (hv : w.heap[g]? = some (.cells #[u] t (0, 0))) (hg : w.grownBy w' row) (hr : row ≠ some g) : w'.heap[g]? = some (.cells #[u] t (0, 0)) :=
  (hg.block g (lt_of_block hv) (fun e => hr e.symm)).trans hv

theorem own_row {w : World} {base size n : Nat} {e : TypeId} {v : Value} {xs : List Value} (h : w.ownsRow base e size v n xs) {g : Nat} (hg : g < base) : v.ownBlock ≠ some g := by
  intro e
  have := (h.lt g e).1
  omega

theorem rightSize_yes (n : Int) (w : World) (h1 : 1 ≤ n) (h2 : n ≤ 8) :
    Calls Try.prog 57 #[.int .i64 n] w fun r w' => r = .returned (.bool true) ∧ w = w' :=
  (rightSize_any n w).mono fun r w' h => by simpa [h1, h2] using h
theorem rightSize_no (n : Int) (w : World) (h : n < 1 ∨ 8 < n) :
    Calls Try.prog 57 #[.int .i64 n] w fun r w' => r = .returned (.bool false) ∧ w = w' :=
  (rightSize_any n w).mono fun r w' k => by
    have e : (decide (1 ≤ n) && decide (n ≤ 8)) = false := by simp; omega
    simpa [e] using k

/-- The bytes of a number, k of size many. -/
def numB (x : Int) (size k : Nat) : List Int := (List.range k).map fun i => x / 256 ^ (size - 1 - i) % 256

theorem numB_snoc (x : Int) (n k : Nat) : numB x n (k + 1) = numB x n k ++ [x / 256 ^ (n - 1 - k) % 256] := by simp [numB, List.range_succ]

theorem cell_one_drew (w : World) (v : Value) (t : TypeId) : ∀ j u, [v][j]? = some u → ((w.alloc (.cells #[v] t)).drew).cell? ((⟨w.heap.size, 0, none⟩ : Addr).add j) = some u := cell_one_new w v t
theorem one_cell (v : Value) (h : v.oneCell' = true) : ∀ u ∈ [v], u.oneCell' = true := by intro u hu; simp at hu; subst hu; exact h

theorem drew_still {w : World} {g : Nat} {x : Obj} (hv : w.heap[g]? = some x) (o : Obj) : ((w.alloc o).drew).heap[g]? = some x :=
  (Below.heap_alloc w o g (lt_of_block hv)).trans hv

theorem WrAt.own {w : World} {g : Nat} {bs : List Int} (h : WrAt w g bs) : ∃ ao c, w.ownsRow (g + 1) 5 1 (.slice ao bs.length c) bs.length (bs.map (Value.int .u8)) ∧ w.heap[g]? = some (.cells #[.slice ao bs.length c] 114 (0, 0)) := by
  obtain ⟨u, hown, hv⟩ := h
  obtain ⟨ao, c, rfl⟩ := own_shape hown
  exact ⟨ao, c, hown, hv⟩

set_option maxHeartbeats 800000 in
theorem wnum_in (w : World) (g n : Nat) (x : Int) (bs : List Int) (h : WrAt w g bs) (_hx0 : 0 ≤ x) (_hx1 : x ≤ 18446744073709551615) (h1 : 1 ≤ n) (h8 : n ≤ 8) (hl : bs.length + n ≤ 140737488355328) :
    Calls Try.prog 42 #[.pointer (some ⟨g, 0, none⟩), .int .u64 x, .int .i64 n] w fun r w' => r = .returned (.tuple #[]) ∧ WrAt w' g (bs ++ numB x n n) ∧ Fw g w w' := by
  obtain ⟨i0, hi, hz0, hz1, hz2⟩ := info_parts infoU8
  go_enter Try.func42, Try.ntmps42
  go_wp2_with (go_at_call 57; refine (rightSize_yes _ _ (by omega) (by omega)).mono ?_; rintro r w1 ⟨rfl, rfl⟩)
  go_loopw [15] (fun i wr => ∃ k : Nat, k ≤ n ∧ i = .int .i64 k ∧ WrAt wr g (bs ++ numB x n k) ∧ Fw g w wr) (fun i _ => n - (intOf i).toNat)
  case atStart => exact ⟨0, Nat.zero_le _, rfl, by simpa [numB] using h, Fw.refl _ _⟩
  case round =>
    obtain ⟨k, hk, rfl, hwr, hbl⟩ := hrel
    by_cases hlt : k < n
    · have hlen : (bs ++ numB x n k).length = bs.length + k := by simp [numB]
      have hsn : bs ++ numB x n (k + 1) = (bs ++ numB x n k) ++ [x / 256 ^ (n - 1 - k) % 256] := by rw [numB_snoc, List.append_assoc]
      generalize bs ++ numB x n k = l at *
      have HS := Lib.hid hsn
      have HL := Lib.hid hlen
      clear hsn hlen h
      have hgl := hwr.lt
      obtain ⟨ao, c, hown, hv⟩ := hwr.own
      have HR := Lib.hid (own_row hown (Nat.lt_succ_self g))
      have hc0 := cell_of_one hv
      have HO := Lib.hid hown
      have HV := Lib.hid hv
      clear hown hv hwr
      go_wp2
      have e1 : IntKind.i64.wrap ((n : Int) - 1) = (n : Int) - 1 := IntWalk.i64_in _ (by omega)
      have e2 : IntKind.i64.wrap ((n : Int) - 1 - (k : Int)) = (n : Int) - 1 - (k : Int) := IntWalk.i64_in _ (by omega)
      have e3 : IntKind.i64.wrap (8 * ((n : Int) - 1 - (k : Int))) = 8 * ((n : Int) - 1 - (k : Int)) := IntWalk.i64_in _ (by omega)
      have hs0 : 0 ≤ 8 * ((n : Int) - 1 - (k : Int)) := by omega
      have HX := Lib.hid (show IntKind.u8.wrap (x / 2 ^ (8 * ((n : Int) - 1 - (k : Int))).toNat) = x / 256 ^ (n - 1 - k) % 256 by
        rw [IntKind.wrap_u8', show (8 * ((n : Int) - 1 - (k : Int))).toNat = 8 * (n - 1 - k) by omega, Int.pow_mul]; rfl)
      have hs1 : 8 * ((n : Int) - 1 - (k : Int)) ≤ 64 := by omega
      go_region_law (refine step_append_own2 rfl (.tmp 22) (.tmp 31) 49 rfl (g + 1) 5 i0 (.int .u8 0) 1 1 Try.underlying49 hi hz0 hz1 hz2 rfl (by decide) _ _ _ rfl (HO.out.alloc _) ⟨wr.heap.size, 0, none⟩ 1 1 [.int .u8 (IntKind.u8.wrap (x / 2 ^ (8 * ((n : Int) - 1 - (k : Int))).toNat))] rfl rfl (cell_one_drew _ _ _) (one_cell _ rfl) (by rw [HL.out]; unfold maxLen; omega) (by rw [HL.out]; omega) (by simp; omega) ?_; intro v' w1 hown' hgrow hfr; obtain ⟨ao', c', rfl⟩ := own_shape hown'; have hv1 := wr_still (drew_still HV.out _) hgrow HR.out; have k0 := cell_of_one hv1; have e0 := free_of_one hv1; have R := Lib.hid (wr_put HO.out HV.out (g_alloc_drew wr _) (xs := [_]) hown' hgrow hfr (congrArg (fun y => [y]) HX.out)); clear hown' hgrow hv1 hfr)
      all_goals
        go_wp2
        go_roundw
        case rel => exact ⟨k + 1, by omega, by go_num, by rw [HS.out]; exact R.out.1, hbl.trans R.out.2⟩
        case measure => simp [intOf]; omega
    · obtain rfl : k = n := by omega
      go_wp2
      go_end0
      exact ⟨rfl, hwr, hbl⟩

end Go.Proofs.Ytpgpilalhbdidaa
