/-
  The contract of octet's Reader.Bytes. Own work.
-/
import Derived.Test.YtmphogmiobpkkaaOctG
namespace Go.Proofs.Ytmphogmiobpkkaa
open Go.RowKit

set_option maxHeartbeats 800000 in
theorem rbytes_any (w : World) (g : Nat) (bs : List Int) (e most : Int) (h : RdAt w g bs e) (hb : Byt bs) (hl : bs.length ≤ 140737488355328) (hm0 : -9223372036854775808 ≤ most) (hm1 : most ≤ 9223372036854775807) :
    Calls Try.prog 21 #[.pointer (some ⟨g, 0, none⟩), .int .i64 most] w fun r w' => ∃ ao c, r = .returned (.slice ao (bx bs e most).2.2.length c) ∧
      w'.ownsRow w.heap.size 5 1 (.slice ao (bx bs e most).2.2.length c) (bx bs e most).2.2.length ((bx bs e most).2.2.map (Value.int .u8)) ∧
      RdAt w' g (bx bs e most).1 (bx bs e most).2.1 ∧ w.grownBy w' (some g) := by
  have hV := rvar_any w g bs e h hb hl
  have hr := vx_rest bs e
  have hn := vx_num bs e
  have hB : bx bs e most = if (vx bs e).2.1 ≠ 0 then ((vx bs e).1, (vx bs e).2.1, []) else if most < 0 ∨ most < (vx bs e).2.2 then ((vx bs e).1, 13, []) else nx (vx bs e).1 0 (vx bs e).2.2 true := rfl
  generalize bx bs e most = R at *
  generalize vx bs e = x at *
  obtain ⟨b1, e1, n⟩ := x
  simp only at hV hr hn hB
  have HV := Lib.hid hV
  clear hV h hb
  by_cases he : e1 = 0
  · subst he
    by_cases hneg : most < 0
    · have hB : R = (b1, 13, []) := by rw [hB]; simp [hneg]
      subst hB
      go_enter Try.func21, Try.ntmps21
      go_wp2_with (first | (go_at_call 19; refine HV.out.mono ?_; rintro r w1 ⟨rfl, hr1, hg1⟩; have H1 := Lib.hid hr1; obtain ⟨v, _, hv⟩ := hr1; have hf1 := two_free1 hv; have hc1 := two_cell1 hv; clear hv) | (go_at_call 23; refine (err_any _ _ _ _ H1.out).mono ?_; rintro r w2 ⟨rfl, rfl⟩))
      go_ret
      exact ⟨_, _, rfl, World.ownsRow_nil _ _ _ _, H1.out.set1 _, gtrans hg1 (gset _ _ _)⟩
    · have hmw : IntKind.u64.wrap most = most := IntWalk.u64_in _ (by omega)
      by_cases hbig : most < n
      · have hB : R = (b1, 13, []) := by rw [hB]; simp [hbig]
        subst hB
        go_enter Try.func21, Try.ntmps21
        go_wp2_with (first | (go_at_call 19; refine HV.out.mono ?_; rintro r w1 ⟨rfl, hr1, hg1⟩; have H1 := Lib.hid hr1; obtain ⟨v, _, hv⟩ := hr1; have hf1 := two_free1 hv; have hc1 := two_cell1 hv; clear hv) | (go_at_call 23; refine (err_any _ _ _ _ H1.out).mono ?_; rintro r w2 ⟨rfl, rfl⟩))
        go_ret
        exact ⟨_, _, rfl, World.ownsRow_nil _ _ _ _, H1.out.set1 _, gtrans hg1 (gset _ _ _)⟩
      · have hB : R = nx b1 0 n true := by rw [hB]; simp [hneg, hbig]
        subst hB
        have HD := Lib.hid (show decide (0 ≤ n) = true by simpa using hn.1)
        have HL := Lib.hid (show b1.length ≤ 140737488355328 by omega)
        have hn0 := hn.1
        have hn2 : n ≤ most := by omega
        clear hn hm0 hneg hbig hl hr
        have HRaw := Lib.hid (show ∀ w1, RdAt w1 g b1 0 → Calls Try.prog 25 #[.pointer (some ⟨g, 0, none⟩), .int .i64 n] w1 fun r w' => ∃ ao c, r = .returned (.slice ao (nx b1 0 n true).2.2.length c) ∧
            w'.ownsRow w1.heap.size 5 1 (.slice ao (nx b1 0 n true).2.2.length c) (nx b1 0 n true).2.2.length ((nx b1 0 n true).2.2.map (Value.int .u8)) ∧
            RdAt w' g (nx b1 0 n true).1 (nx b1 0 n true).2.1 ∧ w1.grownBy w' (some g) from fun w1 hr1 => by
          have hR := raw_any w1 g b1 0 n hr1 HL.out
          rw [HD.out] at hR
          exact hR)
        generalize nx b1 0 n true = N at *
        clear HL HD
        obtain ⟨b2, e2, out⟩ := N
        simp only at HRaw ⊢
        go_enter Try.func21, Try.ntmps21
        go_wp2_with (first | (go_at_call 19; refine HV.out.mono ?_; rintro r w1 ⟨rfl, hr1, hg1⟩; have H1 := Lib.hid hr1; have hw1 := hg1.size; clear hr1) | (go_at_call 23; refine (err_any _ _ _ _ H1.out).mono ?_; rintro r w2 ⟨rfl, rfl⟩) | (go_at_call 25; refine (HRaw.out _ H1.out).mono ?_; rintro r w3 ⟨ao, c, rfl, ho, hr3, hg3⟩))
        go_ret
        exact ⟨_, _, rfl, own_base ho hw1, hr3, gtrans hg1 hg3⟩
  · have hB : R = (b1, e1, []) := by rw [hB]; simp [he]
    subst hB
    go_enter Try.func21, Try.ntmps21
    go_wp2_with (first | (go_at_call 19; refine HV.out.mono ?_; rintro r w1 ⟨rfl, hr1, hg1⟩) | (go_at_call 23; refine (err_any _ _ _ _ hr1).mono ?_; rintro r w2 ⟨rfl, rfl⟩))
    go_ret
    exact ⟨_, _, rfl, World.ownsRow_nil _ _ _ _, hr1, hg1⟩

theorem rvar_at {w : World} {g : Nat} {bs b1 : List Int} {e e1 x : Int} (h : RdAt w g bs e) (hx : vx bs e = (b1, e1, x)) (hb : Byt bs) (hl : bs.length ≤ 140737488355328) :
    Calls Try.prog 19 #[.pointer (some ⟨g, 0, none⟩)] w fun r w' => r = .returned (.int .u64 x) ∧ RdAt w' g b1 e1 ∧ w.grownBy w' (some g) := by
  have := rvar_any w g bs e h hb hl
  rw [hx] at this; exact this
theorem rbytes_at {w : World} {g : Nat} {bs b1 out : List Int} {e e1 most : Int} (h : RdAt w g bs e) (hx : bx bs e most = (b1, e1, out)) (hb : Byt bs) (hl : bs.length ≤ 140737488355328) (hm0 : -9223372036854775808 ≤ most) (hm1 : most ≤ 9223372036854775807) :
    Calls Try.prog 21 #[.pointer (some ⟨g, 0, none⟩), .int .i64 most] w fun r w' => ∃ ao c, r = .returned (.slice ao out.length c) ∧
      w'.ownsRow w.heap.size 5 1 (.slice ao out.length c) out.length (out.map (Value.int .u8)) ∧ RdAt w' g b1 e1 ∧ w.grownBy w' (some g) := by
  have := rbytes_any w g bs e most h hb hl hm0 hm1
  rw [hx] at this; exact this
theorem raw_at {w : World} {g : Nat} {bs b1 out : List Int} {e e1 n : Int} (h : RdAt w g bs e) (hx : nx bs e n (decide (0 ≤ n)) = (b1, e1, out)) (hl : bs.length ≤ 140737488355328) :
    Calls Try.prog 25 #[.pointer (some ⟨g, 0, none⟩), .int .i64 n] w fun r w' => ∃ ao c, r = .returned (.slice ao out.length c) ∧
      w'.ownsRow w.heap.size 5 1 (.slice ao out.length c) out.length (out.map (Value.int .u8)) ∧ RdAt w' g b1 e1 ∧ w.grownBy w' (some g) := by
  have := raw_any w g bs e n h hl
  rw [hx] at this; exact this
theorem num_at {w : World} {g : Nat} {bs b1 out : List Int} {e e1 n : Int} (h : RdAt w g bs e) (hx : nx bs e n (decide (1 ≤ n) && decide (n ≤ 8)) = (b1, e1, out)) (hb : Byt bs) (hl : bs.length ≤ 140737488355328) :
    Calls Try.prog 20 #[.pointer (some ⟨g, 0, none⟩), .int .i64 n] w fun r w' => r = .returned (.int .u64 (beVal out)) ∧ RdAt w' g b1 e1 ∧ w.grownBy w' (some g) := by
  have := num_any w g bs e n h hb hl
  rw [hx] at this; exact this

end Go.Proofs.Ytmphogmiobpkkaa
