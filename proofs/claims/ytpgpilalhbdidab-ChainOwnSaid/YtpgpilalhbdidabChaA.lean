/-
  Layer 6: the contracts of chain's smallest calls, and of Put. Own work.
-/
import Derived.Test.YtpgpilalhbdidabChaM
import Derived.Test.YtpgpilalhbdidabLnk
namespace Go.Proofs.Ytpgpilalhbdidab
open Go.RowKit

set_option maxHeartbeats 400000 in
theorem most_in (S : Int) (w : World) (h0 : -9223372036854775800 ≤ S) (h1 : S ≤ 9223372036854775807) : Calls Try.prog 20 #[.int .i64 S] w fun r w' => r = .returned (.int .i64 (S - 8)) ∧ w = w' := by
  go_enter Try.func20, Try.ntmps20
  go_wp2
  go_ret
  exact ⟨by simp, rfl⟩
set_option maxHeartbeats 400000 in
theorem cright_yes {n S : Int} (w : World) (h : RightC n S) : Calls Try.prog 23 #[.int .i64 n, .int .i64 S] w fun r w' => r = .returned (.bool true) ∧ w = w' := by
  obtain ⟨h1, h2, h3, h4⟩ := h
  have hd1 : decide (1 ≤ n) = true := by simpa using h3
  have hd2 : decide (n ≤ S - 8) = true := by simpa using h4
  go_enter Try.func23, Try.ntmps23
  go_wp2_with (first
    | (go_at_call 18; refine (lsize_yes _ _ h1 h2).mono ?_; rintro r w1 ⟨rfl, rfl⟩)
    | (go_at_call 20; refine (most_in _ _ (by omega) (by omega)).mono ?_; rintro r w1 ⟨rfl, rfl⟩))
  go_ret
  exact ⟨rfl, rfl⟩
set_option maxHeartbeats 400000 in
theorem cright_no {n S : Int} (w : World) (h : ¬ RightC n S) : Calls Try.prog 23 #[.int .i64 n, .int .i64 S] w fun r w' => r = .returned (.bool false) ∧ w = w' := by
  by_cases h1 : 512 ≤ S ∧ S ≤ 4096
  · by_cases h3 : 1 ≤ n
    · have h4 : ¬ n ≤ S - 8 := fun h4 => h ⟨h1.1, h1.2, h3, h4⟩
      obtain ⟨h1, h2⟩ := h1
      have hd1 : decide (1 ≤ n) = true := by simpa using h3
      have hd2 : decide (n ≤ S - 8) = false := by simpa using h4
      clear h
      go_enter Try.func23, Try.ntmps23
      go_wp2_with (first
        | (go_at_call 18; refine (lsize_yes _ _ h1 h2).mono ?_; rintro r w1 ⟨rfl, rfl⟩)
        | (go_at_call 20; refine (most_in _ _ (by omega) (by omega)).mono ?_; rintro r w1 ⟨rfl, rfl⟩))
      go_ret
      exact ⟨rfl, rfl⟩
    · obtain ⟨h1, h2⟩ := h1
      have hd1 : decide (1 ≤ n) = false := by simpa using h3
      clear h
      go_enter Try.func23, Try.ntmps23
      go_wp2_with (first
        | (go_at_call 18; refine (lsize_yes _ _ h1 h2).mono ?_; rintro r w1 ⟨rfl, rfl⟩)
        | (go_at_call 20; refine (most_in _ _ (by omega) (by omega)).mono ?_; rintro r w1 ⟨rfl, rfl⟩))
      go_ret
      exact ⟨rfl, rfl⟩
  · clear h
    go_enter Try.func23, Try.ntmps23
    go_wp2_with (go_at_call 18; refine (lsize_no _ _ h1).mono ?_; rintro r w1 ⟨rfl, rfl⟩)
    go_ret
    exact ⟨rfl, rfl⟩

/-- A copy out of a slice that came in, into a row of the call's own. -/
theorem copy_seq {w : World} {B gb off dLen dCap n cc : Nat} {ac : Option Addr} {bs xs : List Int} (hp : w.heap[gb]? = some (.cells (bs.map (Value.int .u8)).toArray 5 (0, 0)))
    (ho : Seq B w (.slice ac n cc) xs) (h0 : 0 < n) (hd : n ≤ dLen) (hf : off + n ≤ bs.length) :
    ∀ ty, (Builtin.copy_ #[22, 22] ty #[.slice (some ⟨gb, off, none⟩) dLen dCap, .slice ac n cc]).run Try.prog w = .ok (goInt (n : Int)) (w.setRow gb ((bs.take off ++ xs ++ bs.drop (off + n)).map (Value.int .u8)).toArray) := by
  intro ty
  obtain ⟨ao, c, hv, h1, h2, h3, h4⟩ := ho
  injection hv with e1 e2 e3
  subst e1 e2 e3
  obtain ⟨b, o, rfl, hb, hc⟩ := h4 (by rintro rfl; simp at h0)
  have hl : (xs.map (Value.int .u8)).length = xs.length := by simp
  have h := run_copy_row (P := Try.prog) w 22 22 ty 5 gb off dLen dCap ⟨b, o, none⟩ xs.length cc (bs.map (Value.int .u8)).toArray 5 (xs.map (Value.int .u8)) Try.underlying22 (by kernel_rfl) hp (by rw [hl]; exact (Nat.min_eq_left hd).symm)
    (fun j v hj => by
      obtain ⟨hj1, hj2⟩ := List.getElem?_eq_some_iff.1 hj
      rw [hl] at hj1
      rw [Addr.add_lit, hc j hj1, ← hj2]
      simp [List.getD_eq_getElem?_getD, List.getElem?_eq_getElem hj1]) (by simp; omega) bcell1
  rw [hl] at h
  rw [h]
  simp [List.map_append, List.map_take, List.map_drop]

set_option maxHeartbeats 1000000 in
theorem cput_arg (w : World) (ao : Option Addr) (n c : Nat) (x S : Int) (hr : ¬ RightC (n : Int) S) :
    Calls Try.prog 14 #[.slice ao n c, .int .u32 x, .int .i64 S] w fun r w' => r = .returned (.tuple #[.slice none 0 0, .int .i64 1]) ∧ w = w' := by
  have HR := Lib.hid hr
  clear hr
  go_enter Try.func14, Try.ntmps14
  go_wp2_with (go_at_call 23; refine (cright_no _ HR.out).mono ?_; rintro r w1 ⟨rfl, rfl⟩)
  go_ret2
  exact ⟨rfl, rfl⟩

theorem HW.grown {w0 w w' : World} {g : Nat} {hd : List Int} (h : HW w0 g hd w) (k : w.grownBy w' none) : HW w0 g hd w' := ⟨h.wr.kept k, h.bel.trans ((gbelow k).mono h.bel.size), h.g0⟩

set_option maxHeartbeats 4000000 in
theorem cput_ok (w : World) (B : Nat) (ao : Option Addr) (n c : Nat) (p : List Int) (x : Int) (S : Nat) (hs : Seq B w (.slice ao n c) p) (hB : B ≤ w.heap.size) (hx0 : 0 ≤ x) (hx1 : x ≤ 4294967295) (hr : RightC (n : Int) (S : Int)) :
    Calls Try.prog 14 #[.slice ao n c, .int .u32 x, .int .i64 S] w fun r w' => ∃ b, r = .returned (.tuple #[.slice (some ⟨b, 0, none⟩) S S, .int .i64 0]) ∧ w.heap.size ≤ b ∧
      w'.heap[b]? = some (.cells ((chB p x S).map (Value.int .u8)).toArray 5 (0, 0)) ∧ w.grownBy w' none := by
  obtain ⟨i0, hi, hz0, hz1, hz2⟩ := info_parts infoU8
  have hn : n = p.length := by obtain ⟨_, _, hv, _⟩ := hs; injection hv
  have HS := Lib.hid hs
  have HN := Lib.hid hn
  have HR := Lib.hid hr
  obtain ⟨h1, h2, h3, h4⟩ := hr
  have hS1 : 512 ≤ S := by omega
  have hS2 : S ≤ 4096 := by omega
  have hn9 : n ≤ 4096 := by omega
  have hn1 : 0 < n := by omega
  have hnS : n ≤ S - 8 := by omega
  have hne : ¬ S = 8 := by omega
  have h8S : (8 : Int) ≤ (S : Int) := by omega
  have h08 : 0 < 8 := by omega
  have hw64 : IntKind.u64.wrap x = x := by rw [show IntKind.u64.wrap x = x % 18446744073709551616 from rfl]; omega
  clear hs hn h1 h2 h3 h4
  go_enter Try.func14, Try.ntmps14
  go_wp2_with (first
    | (go_at_call 23; refine (cright_yes _ HR.out).mono ?_; rintro r w1 ⟨rfl, rfl⟩)
    | (at_make; refine wpList_make_full _ rfl _ _ 22 rfl w.heap.size 5 i0 (.int .u8 0) 1 Try.underlying22 hi hz0 hz1 .i64 .i64 _ _ S rfl rfl ?c1 ?c2 ?c3 ?c4 (Nat.le_refl _) ?_; (case c1 => rfl); (case c2 => rfl); (case c3 => rw [hz2]; omega); (case c4 => unfold maxLen; omega); intro wM hown hgM; have HO := Lib.hid (made_heap hown); have HGM := Lib.hid hgM; clear hown hgM)
    | (go_at_call 24; have K := wlinked_any wM 3 n (n : Int) rfl x (by decide) (by decide) (by omega) hx0 hx1; ((with_reducible refine K.mono ?_); clear K; rintro r w2 ⟨g, rfl, hh⟩); have HP2 := Lib.hid hh; clear hh)
    | (go_at_call 25; have K := out_len (n := 8) HP2.out.wr (hdK_len 3 n x) (by omega); ((with_reducible refine K.mono ?_); clear K; rintro r w5 ⟨ac, cc, rfl, ho, hg5⟩); rw [show hdK 3 n x = hd8 n x from rfl] at ho; have HB5 := Lib.hid ((gbelow HGM.out).trans ((HP2.out.bel.mono HGM.out.size).trans ((gbelow hg5).mono (Nat.le_trans HGM.out.size HP2.out.bel.size)))); have HO5 := Lib.hid (((hg5.block _ (Nat.lt_of_lt_of_le (lt_of_block HO.out) HP2.out.bel.size) (by simp)).trans (HP2.out.bel.block _ (lt_of_block HO.out))).trans HO.out); have HCP := Lib.hid (copy_run (off := 0) (dLen := S) (dCap := S) HO5.out ho h08 (by omega) (by rw [List.length_replicate]; omega)); rw [chB_first (n := n) (x := x) (by omega)] at HCP; have HO6 := Lib.hid (setRow_heap w5 w.heap.size _ ((hd8 n x ++ List.replicate (S - 8) 0).map (Value.int .u8)).toArray 5 _ HO5.out); have HB6 := Lib.hid (below_setRow HB5.out (Nat.le_refl _) ((hd8 n x ++ List.replicate (S - 8) 0).map (Value.int .u8)).toArray); have HS6 := Lib.hid (HS.out.below (w' := w5.setRow w.heap.size ((hd8 n x ++ List.replicate (S - 8) 0).map (Value.int .u8)).toArray) (fun i hi => HB6.out.block i (by omega))); have HCP2 := Lib.hid (copy_seq (off := 8) (dLen := S - 8) (dCap := S - 8) HO6.out HS6.out hn1 hnS (by rw [List.length_append, hd8_len, List.length_replicate]; omega)); rw [show (hd8 n x ++ List.replicate (S - 8) (0 : Int)).take 8 ++ p ++ (hd8 n x ++ List.replicate (S - 8) (0 : Int)).drop (8 + n) = chB p x S by rw [HN.out]; exact chB_second (by rw [← HN.out]; omega)] at HCP2; have HO7 := Lib.hid (setRow_heap (w5.setRow w.heap.size ((hd8 n x ++ List.replicate (S - 8) 0).map (Value.int .u8)).toArray) w.heap.size _ ((chB p x S).map (Value.int .u8)).toArray 5 _ HO6.out); have HB7 := Lib.hid (below_setRow HB6.out (Nat.le_refl _) ((chB p x S).map (Value.int .u8)).toArray); clear ho hg5)
    | (refine wpList_copy_at rfl (.tmp 16) (.tmp 21) 22 22 rfl (.slice (some ⟨w.heap.size, 0, none⟩) S S) (.slice ac 8 cc) 8 (by simp [go_sem]) (by simp [go_sem]) HCP.out ?_; generalize w5.setRow w.heap.size ((hd8 n x ++ List.replicate (S - 8) 0).map (Value.int .u8)).toArray = w6 at *)
    | (refine wpList_copy_at rfl (.tmp 24) (.tmp 25) 22 22 rfl (.slice (some ⟨w.heap.size, 8, none⟩) (S - 8) (S - 8)) (.slice ao n c) n (by simp [go_sem]) (by simp [go_sem]) HCP2.out ?_))
  go_ret2
  exact ⟨w.heap.size, rfl, Nat.le_refl _, HO7.out, gof HB7.out none⟩

end Go.Proofs.Ytpgpilalhbdidab
