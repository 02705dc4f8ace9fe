/-
  Layer 6: the contract of Many; a page is got as it was put; the document's example is what it says. Own work.
-/
import Derived.Test.YtpgpilalhbdidabChaC
import Derived.Lib.SlBytesConst
namespace Go.Proofs.Ytpgpilalhbdidab
open Go.RowKit

set_option maxHeartbeats 1000000 in
theorem cmany_yes (w : World) (n S : Int) (M : Int) (hn : 1 ≤ n) (hn9 : n ≤ 9223372036854775807) (h1 : 512 ≤ S) (h2 : S ≤ 4096) (hM : (n - 1) / (S - 8) + 1 = M) :
    Calls Try.prog 12 #[.int .i64 n, .int .i64 S] w fun r w' => r = .returned (.int .i64 M) ∧ w = w' := by
  have HM := Lib.hid hM
  clear hM
  go_enter Try.func12, Try.ntmps12
  go_wp2_with (first
    | (go_at_call 18; refine (lsize_yes _ _ h1 h2).mono ?_; rintro r w1 ⟨rfl, rfl⟩)
    | (go_at_call 20; refine (most_in _ _ (by omega) (by omega)).mono ?_; rintro r w1 ⟨rfl, rfl⟩)
    | (go_at_call 22; refine (lmany_yes _ n (S - 8) M hn hn9 (by omega) HM.out).mono ?_; rintro r w1 ⟨rfl, rfl⟩))
  go_ret
  exact ⟨rfl, rfl⟩
set_option maxHeartbeats 1000000 in
theorem cmany_no (w : World) (n S : Int) (h : ¬ (1 ≤ n ∧ 512 ≤ S ∧ S ≤ 4096)) :
    Calls Try.prog 12 #[.int .i64 n, .int .i64 S] w fun r w' => r = .returned (.int .i64 0) ∧ w = w' := by
  by_cases hs : 512 ≤ S ∧ S ≤ 4096
  · have hn : n < 1 := by
      rcases Int.lt_or_le n 1 with k | k
      · exact k
      · exact absurd ⟨k, hs.1, hs.2⟩ h
    obtain ⟨h1, h2⟩ := hs
    clear h
    go_enter Try.func12, Try.ntmps12
    go_wp2_with (first
      | (go_at_call 18; refine (lsize_yes _ _ h1 h2).mono ?_; rintro r w1 ⟨rfl, rfl⟩)
      | (go_at_call 20; refine (most_in _ _ (by omega) (by omega)).mono ?_; rintro r w1 ⟨rfl, rfl⟩)
      | (go_at_call 22; refine (lmany_no _ n (S - 8) hn).mono ?_; rintro r w1 ⟨rfl, rfl⟩))
    go_ret
    exact ⟨rfl, rfl⟩
  · clear h
    go_enter Try.func12, Try.ntmps12
    go_wp2_with (go_at_call 18; refine (lsize_no _ _ hs).mono ?_; rintro r w1 ⟨rfl, rfl⟩)
    go_ret
    exact ⟨rfl, rfl⟩

/-- A page is got as it was put. -/
theorem cget_back {w : World} {B : Nat} {ao : Option Addr} {n c0 S : Nat} {p : List Int} {x : Int} (h : Seq B w (.slice ao n c0) (chB p x S)) (hB : B ≤ w.heap.size) (hp : Byt p) (hx0 : 0 ≤ x) (hx1 : x ≤ 4294967295) (hr : RightC (p.length : Int) (S : Int)) :
    Calls Try.prog 16 #[.slice ao n c0] w fun r w' => ∃ pv, r = .returned (.tuple #[pv, .int .u32 x, .int .i64 0]) ∧ OwnB w.heap.size w' pv p ∧ w.grownBy w' none := by
  have hr' := hr
  obtain ⟨h1, h2, h3, h4⟩ := hr
  have hl : (chB p x S).length = S := chB_len (by omega)
  have hL : CLaid (chB p x S) p x := ⟨by rw [hl], by rw [hl]; exact hr', hx0, hx1⟩
  refine (cget_any w B ao n c0 _ h hB (chB_byt hp) (by omega)).mono ?_
  rintro r w' (⟨pv, q, y, e, hq, ho, hb, hg⟩ | ⟨_, hno, _⟩)
  · obtain ⟨k1, k2, k3, k4⟩ := hq
    rw [hl] at k1 k2
    obtain ⟨e1, e2⟩ := chB_inj (by omega) (by have := k2.2.2.2; have := k2.2.1; omega) hx0 hx1 k3 k4 k1
    subst e1; subst e2
    exact ⟨pv, e, ho, hg⟩
  · exact absurd hL (hno p x)

theorem cput_at (w : World) (B : Nat) (ao : Option Addr) (n c : Nat) (p : List Int) (x : Int) (S : Nat) (Si : Int) (hSi : Si = (S : Int)) (hs : Seq B w (.slice ao n c) p) (hB : B ≤ w.heap.size) (hx0 : 0 ≤ x) (hx1 : x ≤ 4294967295) (hr : RightC (n : Int) (S : Int)) :
    Calls Try.prog 14 #[.slice ao n c, .int .u32 x, .int .i64 Si] w fun r w' => ∃ b, r = .returned (.tuple #[.slice (some ⟨b, 0, none⟩) S S, .int .i64 0]) ∧ w.heap.size ≤ b ∧
      w'.heap[b]? = some (.cells ((chB p x S).map (Value.int .u8)).toArray 5 (0, 0)) ∧ w.grownBy w' none := by
  subst hSi; exact cput_ok w B ao n c p x S hs hB hx0 hx1 hr
theorem page_cells {w : World} {b S : Nat} {bs : List Int} (h : w.heap[b]? = some (.cells (bs.map (Value.int .u8)).toArray 5 (0, 0))) (hl : bs.length = S) (j : Nat) (hj : j < S) (v : Int) (hv : bs.getD j 0 = v) : w.cell? ⟨b, j, none⟩ = some (.int .u8 v) := by
  subst hv; subst hl
  simp [World.cell?, h, hj, List.getD_eq_getElem?_getD]

set_option maxHeartbeats 4000000 in
theorem awake6_any (w : World) : Calls Try.prog 9 #[] w fun r w' => r = .returned (.bool true) ∧ w.grownBy w' none := by
  have kc := fun (w : World) (C : Array Value) (n c : Nat) => Lib.run_convert_bytes_const (P := Try.prog) w 22 5 C n c Try.underlying22 Try.underlying5
  have hr : RightC ((2 : Nat) : Int) ((512 : Nat) : Int) := by decide
  have HR := Lib.hid hr
  have HB := Lib.hid (show Byt [97, 98] from fun y hy => by simp at hy; omega)
  have HST := Lib.hid (show strOfNums [97, 98] = ({ data := #[97, 98] } : ByteArray) from rfl)
  clear hr
  go_enter Try.func9, Try.ntmps9
  go_wp2_with fail
  have HGA := Lib.hid (World.grownBy_alloc w (.cells #[.int .u8 97, .int .u8 98] 5 (2, 3)) none)
  have hna := heap_alloc_new w (.cells #[.int .u8 97, .int .u8 98] 5 (2, 3))
  generalize w.alloc (.cells #[.int .u8 97, .int .u8 98] 5 (2, 3)) = WA at *
  have HSA := Lib.hid (seq_lit (n := 2) (xs := [97, 98]) hna rfl rfl (by decide))
  generalize w.heap.size = qa at *
  clear hna
  go_wp2_with (first
    | (go_at_call 14; have Kc := cput_at WA WA.heap.size _ 2 2 [97, 98] 7 512 512 rfl HSA.out (Nat.le_refl _) (by decide) (by decide) HR.out; ((with_reducible refine Kc.mono ?_); clear Kc; rintro r w2 ⟨gb, rfl, hgb, hp, hg⟩); have HP := Lib.hid hp; have HG2 := Lib.hid hg; clear hgb hp hg)
    | (go_at_call 16; have Kc := cget_back (w := w2) (B := w2.heap.size) (p := [97, 98]) (x := 7) (S := 512) (n := 512) (c0 := 512) (seq_page HP.out (chB_len (by decide)) (by decide)) (Nat.le_refl _) HB.out (by decide) (by decide) HR.out; ((with_reducible refine Kc.mono ?_); clear Kc; rintro r w3 ⟨pv, rfl, ho, hg⟩); obtain ⟨la, lc, rfl⟩ := own_shape ho; have hcv := seq_string (Seq.owned ho); rw [HST.out, show ([97, 98] : List Int).length = 2 from rfl] at hcv; have hp3 := (hg.block _ (lt_of_block HP.out) (by simp)).trans HP.out; have q0 := page_cells hp3 (chB_len (by decide)) 0 (by decide) 3 (by decide +kernel); have q7 := page_cells hp3 (chB_len (by decide)) 7 (by decide) 7 (by decide +kernel); have q9 := page_cells hp3 (chB_len (by decide)) 9 (by decide) 98 (by decide +kernel); have HG3 := Lib.hid (gtrans HG2.out hg); clear hp3 ho hg)
    | (go_at_call 12; have Kc := cmany_yes w3 505 512 2 (by decide) (by decide) (by decide) (by decide) (by decide); ((with_reducible refine Kc.mono ?_); clear Kc; rintro r w4 ⟨rfl, rfl⟩))
    | (go_at_call 12; have Kc := cmany_yes w3 504 512 1 (by decide) (by decide) (by decide) (by decide) (by decide); ((with_reducible refine Kc.mono ?_); clear Kc; rintro r w4 ⟨rfl, rfl⟩)))
  go_ret
  exact ⟨rfl, gtrans HGA.out HG3.out⟩

end Go.Proofs.Ytpgpilalhbdidab
