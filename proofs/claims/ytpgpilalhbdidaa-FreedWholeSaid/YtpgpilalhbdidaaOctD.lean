/-
  The contracts of octet's Reader.Raw, Reader.Num, Reader.End. Own work.
-/
import Derived.Test.YtpgpilalhbdidaaOctC
namespace Go.Proofs.Ytpgpilalhbdidaa
open Go.RowKit

theorem own_base {w : World} {base base' size n : Nat} {e : TypeId} {v : Value} {xs : List Value} (h : w.ownsRow base e size v n xs) (k : base' ≤ base) : w.ownsRow base' e size v n xs := by
  refine ⟨h.1, ?_⟩
  rcases h.2 with h2 | ⟨g, cap, cur, a, b, c⟩
  · exact .inl h2
  · exact .inr ⟨g, cap, cur, a, by omega, c⟩

set_option maxHeartbeats 400000 in
theorem raw_any (w : World) (g : Nat) (bs : List Int) (e n : Int) (h : RdAt w g bs e) (hl : bs.length ≤ 140737488355328) :
    Calls Try.prog 49 #[.pointer (some ⟨g, 0, none⟩), .int .i64 n] w fun r w' => ∃ ao c, r = .returned (.slice ao (nx bs e n (decide (0 ≤ n))).2.2.length c) ∧
      w'.ownsRow w.heap.size 5 1 (.slice ao (nx bs e n (decide (0 ≤ n))).2.2.length c) (nx bs e n (decide (0 ≤ n))).2.2.length ((nx bs e n (decide (0 ≤ n))).2.2.map (Value.int .u8)) ∧
      RdAt w' g (nx bs e n (decide (0 ≤ n))).1 (nx bs e n (decide (0 ≤ n))).2.1 ∧ w.grownBy w' (some g) := by
  have hxl := nx_len bs e n (decide (0 ≤ n))
  have HN := Lib.hid (next_any w g bs e n (decide (0 ≤ n)) h (by simp) hl)
  have hgs := h.lt
  clear h
  generalize hx : nx bs e n (decide (0 ≤ n)) = x at *
  clear hx
  obtain ⟨r1, e1, out⟩ := x
  simp only at hxl HN ⊢
  go_enter Try.func49, Try.ntmps49
  go_wp2_with (first | (go_at_call 63; refine HN.out.mono ?_; rintro r w1 ⟨v, rfl, hs1, hr1, hg1⟩; have hw1 := hg1.size) | (go_at_call 58; refine (clone_any w1 _ v out hs1 (by omega) (by omega)).mono ?_; rintro r w2 ⟨ao, c, rfl, ho2, hg2⟩))
  go_ret
  exact ⟨_, _, rfl, own_base ho2 hw1, hr1.kept (fun i hi => hg2.block i (by omega) (by simp)), gtrans hg1 (gwide hg2)⟩

theorem raw_nil (w : World) (n : Int) :
    Calls Try.prog 49 #[.pointer none, .int .i64 n] w fun r w' => r = .returned (.slice none 0 0) ∧ w = w' := by
  have heq : ∀ w : World, (binOp .eql 49 (.slice none 0 0) (.slice none 0 0)).run Try.prog w = .ok (.bool true) w := fun w => Lib.run_eql_slice_nil w _ _ _ _ _ _ _ Try.underlying49
  go_enter Try.func49, Try.ntmps49
  go_wp2
  go_ret
  exact ⟨rfl, rfl⟩

set_option maxHeartbeats 400000 in
theorem num_any (w : World) (g : Nat) (bs : List Int) (e n : Int) (h : RdAt w g bs e) (hb : Byt bs) (hl : bs.length ≤ 140737488355328) :
    Calls Try.prog 60 #[.pointer (some ⟨g, 0, none⟩), .int .i64 n] w fun r w' =>
      r = .returned (.int .u64 (beVal (nx bs e n (decide (1 ≤ n) && decide (n ≤ 8))).2.2)) ∧
      RdAt w' g (nx bs e n (decide (1 ≤ n) && decide (n ≤ 8))).1 (nx bs e n (decide (1 ≤ n) && decide (n ≤ 8))).2.1 ∧ w.grownBy w' (some g) := by
  have hxl : (nx bs e n (decide (1 ≤ n) && decide (n ≤ 8))).2.2.length ≤ 8 := by
    unfold nx; split
    · simp
    · split
      · simp
      · split
        · simp
        · rename_i h1 _; simp at h1 ⊢; omega
  have hxb := (nx_byt hb e n (decide (1 ≤ n) && decide (n ≤ 8))).2
  have HN := Lib.hid (next_any w g bs e n (decide (1 ≤ n) && decide (n ≤ 8)) h (by simp; omega) hl)
  clear h hb
  generalize hx : nx bs e n (decide (1 ≤ n) && decide (n ≤ 8)) = x at *
  clear hx
  obtain ⟨r1, e1, out⟩ := x
  simp only at hxl hxb HN ⊢
  go_enter Try.func60, Try.ntmps60
  go_wp2_with (first | (go_at_call 57; refine (rightSize_any _ _).mono ?_; rintro r w1 ⟨rfl, rfl⟩) | (go_at_call 63; refine HN.out.mono ?_; rintro r w1 ⟨v, rfl, ⟨ao, c, rfl, h1, h2, h3, h4⟩, hr1, hg1⟩))
  go_loop [5, 14] (fun x i => ∃ k : Nat, k ≤ out.length ∧ i = .int .i64 k ∧ x = .int .u64 (beVal (out.take k))) (fun _ i => out.length - (intOf i).toNat)
  case atStart => exact ⟨0, Nat.zero_le _, rfl, rfl⟩
  case round =>
    obtain ⟨k, hk, rfl, rfl⟩ := hrel
    by_cases hlt : k < out.length
    · obtain ⟨b, o, rfl, hb, hc⟩ := h4 (by rintro rfl; simp at hlt)
      have hck := hc k hlt
      clear hc h4
      have hsn : out.take (k + 1) = out.take k ++ [out.getD k 0] := by rw [List.take_succ_eq_append_getElem hlt]; simp [List.getElem?_eq_getElem hlt]
      have hv := beVal_snoc (out.take k) (out.getD k 0)
      rw [← hsn] at hv
      have hx := beVal_bound _ (hxb.take k)
      have hx2 := beVal_lt _ (hxb.take k) 7 (by simp; omega)
      have hy := hxb.get k
      have HJ := Lib.hid ((join8 _ _ hx.1 (by simpa using hx2) hy.1 hy.2).trans hv.symm)
      clear hsn hv hx hx2 hy
      go_wp2
      go_round
      case rel => exact ⟨k + 1, by omega, by go_num, by have := HJ.out; simp [List.getElem?_eq_getElem hlt] at this; rw [this]⟩
      case measure => simp [intOf]; omega
    · obtain rfl : k = out.length := by omega
      go_wp2
      go_ret
      exact ⟨rfl, hr1, hg1⟩

set_option maxHeartbeats 400000 in
theorem num_nil (w : World) (n : Int) :
    Calls Try.prog 60 #[.pointer none, .int .i64 n] w fun r w' => r = .returned (.int .u64 0) ∧ w = w' := by
  go_enter Try.func60, Try.ntmps60
  go_wp2_with (first | (go_at_call 57; refine (rightSize_any _ _).mono ?_; rintro r w1 ⟨rfl, rfl⟩) | (go_at_call 70; refine (err_nil _).mono ?_; rintro r w1 ⟨rfl, rfl⟩) | go_in)
  refine wp_loop_rounds 1 ?_; rw [rounds_succ]
  go_wp2
  go_ret
  exact ⟨rfl, rfl⟩

/-- What End tells. -/
def endOf (bs : List Int) (e : Int) : Int := if e ≠ 0 then e else if bs.length = 0 then 0 else 12

end Go.Proofs.Ytpgpilalhbdidaa
