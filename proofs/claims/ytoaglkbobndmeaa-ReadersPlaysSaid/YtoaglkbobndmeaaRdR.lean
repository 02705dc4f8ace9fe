/-
  Layer 9: the document's own End, Dead, Clear, Oldest, Live. Own work.
-/
import Derived.Test.YtoaglkbobndmeaaRdQ
import Derived.Test.YtoaglkbobndmeaaRdE
namespace Go.Proofs.Ytoaglkbobndmeaa
open Go.RowKit

/-- What an act leaves: slots, and what is told. -/
def ROp (B : Nat) (w : World) (L : List Sl) (x : Value) (r : Ending) (w' : World) : Prop := ∃ v, r = .returned (.tuple #[v, x]) ∧ SO B w' v L ∧ w.grownBy w' none

set_option maxHeartbeats 2000000 in
theorem rend_no (w : World) (B : Nat) (ao : Option Addr) (n c : Nat) (L : List Sl) (i : Int) (t : Nat) (h : SO B w (.slice ao n c) L) (hl : L.length ≤ 126) (hx : goodM L i t = none) :
    Calls Try.prog 14 #[.slice ao n c, .int .i64 i, .int .u64 (t : Int)] w fun r w' => ROp B w L (.int .i64 25) r w' := by
  have H := Lib.hid h
  have HL := Lib.hid hl
  have HX := Lib.hid (show (goodM L i t).isSome = false by rw [hx]; rfl)
  clear h hl hx
  go_enter Try.func14, Try.ntmps14
  go_wp2_with (first
    | (go_at_call 20; (with_reducible refine (rgood_any w B ao n c L i t H.out HL.out false HX.out).mono ?_); rintro r w1 ⟨rfl, rfl⟩)
    | go_in)
  go_ret2
  exact ⟨_, rfl, H.out, grefl _ _⟩
set_option maxHeartbeats 2000000 in
theorem rend_yes (w : World) (B : Nat) (ao : Option Addr) (n c : Nat) (L : List Sl) (i : Int) (t : Nat) (s : Sl) (h : SO B w (.slice ao n c) L) (hB : B ≤ w.heap.size) (hl : L.length ≤ 126) (hx : goodM L i t = some s) :
    Calls Try.prog 14 #[.slice ao n c, .int .i64 i, .int .u64 (t : Int)] w fun r w' => ROp B w (L.set i.toNat (send s)) (.int .i64 0) r w' := by
  obtain ⟨y1, y2⟩ := goodM_some hx
  obtain ⟨q0, q1, q2⟩ := takenM_some y1
  obtain ⟨k, rfl⟩ : ∃ k : Nat, i = (k : Int) := ⟨i.toNat, by omega⟩
  rw [show ((k : Int)).toNat = k by omega] at q1 ⊢
  have hn := h.len
  have hkn : k < n := by have := (List.getElem?_eq_some_iff.1 q1).1; omega
  have hki : (k : Int) < (n : Int) := by omega
  obtain ⟨g, rfl, -, e0, e1, e2, e3⟩ := h.at q1
  have H := Lib.hid h
  have HL := Lib.hid hl
  have HX := Lib.hid (show (goodM L (k : Int) t).isSome = true by rw [hx]; rfl)
  have Q1 := Lib.hid q1
  have hbd := Lib.hid hB
  clear h hl hx y1 y2 q1 q2 hn hB
  go_enter Try.func14, Try.ntmps14
  go_wp2_with (first
    | (go_at_call 20; (with_reducible refine (rgood_any w B _ n c L _ t H.out HL.out true HX.out).mono ?_); rintro r w1 ⟨rfl, rfl⟩)
    | (go_at_call 26; (with_reducible refine (rset_any w B _ n c L k s false false 0 (s.turn : Int) (send s) H.out Q1.out HL.out rfl rfl rfl rfl).mono ?_); rintro r w7 ⟨v7, rfl, hs7, hg7⟩; have HS7 := Lib.hid (hs7.base hbd.out); have HG7 := Lib.hid hg7; clear hs7 hg7)
    | go_in)
  go_ret2
  exact ⟨_, rfl, HS7.out, HG7.out⟩

set_option maxHeartbeats 2000000 in
theorem rdead_no (w : World) (B : Nat) (ao : Option Addr) (n c : Nat) (L : List Sl) (i : Int) (h : SO B w (.slice ao n c) L) (hl : L.length ≤ 126) (hx : takenM L i = none) :
    Calls Try.prog 16 #[.slice ao n c, .int .i64 i] w fun r w' => ROp B w L (.bool false) r w' := by
  have hn := h.len
  have hn2 : n ≤ 126 := by omega
  have H := Lib.hid h
  by_cases h0 : i < 0
  · clear h hx hn
    go_enter Try.func16, Try.ntmps16
    go_wp2
    go_ret2
    exact ⟨_, rfl, H.out, grefl _ _⟩
  by_cases h1 : (n : Int) ≤ i
  · clear h hx hn
    go_enter Try.func16, Try.ntmps16
    go_wp2
    go_ret2
    exact ⟨_, rfl, H.out, grefl _ _⟩
  obtain ⟨k, rfl⟩ : ∃ k : Nat, i = (k : Int) := ⟨i.toNat, by omega⟩
  have hki : (k : Int) < (n : Int) := by omega
  obtain ⟨s, hs⟩ : ∃ s, L[k]? = some s := ⟨L[k]'(by omega), List.getElem?_eq_getElem _⟩
  obtain ⟨g, rfl, -, e0, e1, e2, e3⟩ := h.at hs
  rw [taken_k hs] at hx
  have hz : s.st = 0 := by
    by_cases z : s.st = 0
    · exact z
    · rw [if_neg z] at hx; cases hx
  rw [show (s.st != 0) = false by simp [hz]] at e0
  clear h hx hn hs
  go_enter Try.func16, Try.ntmps16
  go_wp2
  go_ret2
  exact ⟨_, rfl, H.out, grefl _ _⟩
set_option maxHeartbeats 2000000 in
theorem rdead_yes (w : World) (B : Nat) (ao : Option Addr) (n c : Nat) (L : List Sl) (i : Int) (s : Sl) (h : SO B w (.slice ao n c) L) (hB : B ≤ w.heap.size) (hl : L.length ≤ 126) (hx : takenM L i = some s) :
    Calls Try.prog 16 #[.slice ao n c, .int .i64 i] w fun r w' => ROp B w (L.set i.toNat (sdead s)) (.bool true) r w' := by
  obtain ⟨q0, q1, q2⟩ := takenM_some hx
  obtain ⟨k, rfl⟩ : ∃ k : Nat, i = (k : Int) := ⟨i.toNat, by omega⟩
  rw [show ((k : Int)).toNat = k by omega] at q1 ⊢
  have hn := h.len
  have hkn : k < n := by have := (List.getElem?_eq_some_iff.1 q1).1; omega
  have hki : (k : Int) < (n : Int) := by omega
  obtain ⟨g, rfl, -, e0, e1, e2, e3⟩ := h.at q1
  rw [show (s.st != 0) = true by simpa using q2] at e0
  have H := Lib.hid h
  have HL := Lib.hid hl
  have Q1 := Lib.hid q1
  have hbd := Lib.hid hB
  obtain ⟨fl, hfl⟩ : ∃ fl, (s.st == 2) = fl := ⟨_, rfl⟩
  rw [hfl] at e3
  clear h hl hx q1 q2 hn hB hfl
  go_enter Try.func16, Try.ntmps16
  go_wp2_with (first
    | (go_at_call 26; (with_reducible refine (rset_any _ B _ n c L k s true true (s.rd : Int) (s.turn : Int) (sdead s) (H.out.grown (World.grownBy_alloc w _ none)) Q1.out HL.out rfl rfl rfl rfl).mono ?_); rintro r w7 ⟨v7, rfl, hs7, hg7⟩; have HS7 := Lib.hid (hs7.base (Nat.le_trans hbd.out (World.grownBy_alloc w _ none).size)); have HG7 := Lib.hid (gtrans (World.grownBy_alloc w _ none) hg7); clear hs7 hg7)
    | go_in)
  go_ret2
  exact ⟨_, rfl, HS7.out, HG7.out⟩

set_option maxHeartbeats 4000000 in
theorem rlive_any (w : World) (B : Nat) (ao : Option Addr) (n c : Nat) (L : List Sl) (h : SO B w (.slice ao n c) L) (hl : L.length ≤ 126) :
    Calls Try.prog 24 #[.slice ao n c] w fun r w' => r = .returned (.int .i64 (liveN L : Int)) ∧ w = w' := by
  have hn := h.len
  have hn2 : n ≤ 126 := by omega
  have H := Lib.hid h
  have HN := Lib.hid hn
  clear h hn hl
  go_enter Try.func24, Try.ntmps24
  go_wp2
  go_loopw [3, 4] (fun v i wr => ∃ (k m : Nat), k ≤ n ∧ i = .int .i64 (k : Int) ∧ v = .int .i64 (m : Int) ∧ m = liveN (L.take k) ∧ m ≤ k ∧ w = wr) (fun _ i _ => n - (intOf i).toNat)
  case atStart => exact ⟨0, 0, Nat.zero_le _, rfl, rfl, rfl, Nat.le_refl _, rfl⟩
  case round =>
    obtain ⟨k, m, hk, rfl, rfl, hm, hmk, rfl⟩ := hrel
    have HM := Lib.hid hm
    clear hm
    by_cases hlt : k < n
    · have hki : (k : Int) < (n : Int) := by omega
      obtain ⟨s, hs⟩ : ∃ s, L[k]? = some s := ⟨L[k]'(by have := HN.out; omega), List.getElem?_eq_getElem _⟩
      obtain ⟨g, rfl, -, e0, -⟩ := H.out.at hs
      by_cases hz : s.st = 0
      · have HQ := Lib.hid (show m = liveN (L.take (k + 1)) by rw [take_more hs, HM.out]; simp [liveN, hz])
        rw [show (s.st != 0) = false by simp [hz]] at e0
        clear hs
        go_wp2
        go_roundw
        case rel => exact ⟨k + 1, m, by omega, by go_num, rfl, HQ.out, by omega, trivial⟩
        case measure => simp [intOf]; omega
      · have HQ := Lib.hid (show m + 1 = liveN (L.take (k + 1)) by rw [take_more hs, HM.out]; simp [liveN, hz])
        rw [show (s.st != 0) = true by simpa using hz] at e0
        clear hs
        go_wp2
        go_roundw
        case rel => exact ⟨k + 1, m + 1, by omega, by go_num, by go_num, HQ.out, by omega, trivial⟩
        case measure => simp [intOf]; omega
    · have hki : ¬ (k : Int) < (n : Int) := by omega
      have HQ := Lib.hid (show m = liveN L by rw [HM.out, List.take_of_length_le (by have := HN.out; omega)])
      go_wp2
      go_ret
      exact ⟨by rw [← HQ.out]; rfl, rfl⟩

set_option maxHeartbeats 4000000 in
theorem roldest_any (w : World) (B : Nat) (ao : Option Addr) (n c : Nat) (L : List Sl) (x : Nat) (h : SO B w (.slice ao n c) L) (hl : L.length ≤ 126) :
    Calls Try.prog 22 #[.slice ao n c, .int .u64 (x : Int)] w fun r w' => r = .returned (.int .u64 (oldM L x : Int)) ∧ w = w' := by
  have hn := h.len
  have hn2 : n ≤ 126 := by omega
  have H := Lib.hid h
  have HN := Lib.hid hn
  clear h hn hl
  go_enter Try.func22, Try.ntmps22
  go_wp2
  go_loopw [1, 5] (fun v i wr => ∃ (k m : Nat), k ≤ n ∧ i = .int .i64 (k : Int) ∧ v = .int .u64 (m : Int) ∧ m = oldM (L.take k) x ∧ w = wr) (fun _ i _ => n - (intOf i).toNat)
  case atStart => exact ⟨0, x, Nat.zero_le _, rfl, rfl, rfl, rfl⟩
  case round =>
    obtain ⟨k, m, hk, rfl, rfl, hm, rfl⟩ := hrel
    have HM := Lib.hid hm
    clear hm
    by_cases hlt : k < n
    · have hki : (k : Int) < (n : Int) := by omega
      obtain ⟨s, hs⟩ : ∃ s, L[k]? = some s := ⟨L[k]'(by have := HN.out; omega), List.getElem?_eq_getElem _⟩
      obtain ⟨g, rfl, -, e0, e1, -⟩ := H.out.at hs
      by_cases hz : s.st = 0
      · have HQ := Lib.hid (show m = oldM (L.take (k + 1)) x by rw [take_more hs, HM.out]; simp [oldM, hz])
        rw [show (s.st != 0) = false by simp [hz]] at e0
        clear hs
        go_wp2
        go_roundw
        case rel => exact ⟨k + 1, m, by omega, by go_num, rfl, HQ.out, trivial⟩
        case measure => simp [intOf]; omega
      · rw [show (s.st != 0) = true by simpa using hz] at e0
        by_cases hlt2 : s.rd < m
        · have hi2 : (s.rd : Int) < (m : Int) := by omega
          have HQ := Lib.hid (show s.rd = oldM (L.take (k + 1)) x by rw [take_more hs, HM.out] at *; simp [oldM, hz] at hlt2 ⊢; omega)
          clear hs
          go_wp2
          go_roundw
          case rel => exact ⟨k + 1, s.rd, by omega, by go_num, rfl, HQ.out, trivial⟩
          case measure => simp [intOf]; omega
        · have hi2 : ¬ (s.rd : Int) < (m : Int) := by omega
          have HQ := Lib.hid (show m = oldM (L.take (k + 1)) x by rw [take_more hs]; have := HM.out; simp [oldM, hz] at this hlt2 ⊢; omega)
          clear hs
          go_wp2
          go_roundw
          case rel => exact ⟨k + 1, m, by omega, by go_num, rfl, HQ.out, trivial⟩
          case measure => simp [intOf]; omega
    · have hki : ¬ (k : Int) < (n : Int) := by omega
      have HQ := Lib.hid (show m = oldM L x by rw [HM.out, List.take_of_length_le (by have := HN.out; omega)])
      go_wp2
      go_ret
      exact ⟨by rw [← HQ.out]; rfl, rfl⟩

set_option maxHeartbeats 4000000 in
theorem rclear_any (w : World) (B : Nat) (ao : Option Addr) (n c : Nat) (L : List Sl) (h : SO B w (.slice ao n c) L) (hB : B ≤ w.heap.size) (hl : L.length ≤ 126) :
    Calls Try.prog 18 #[.slice ao n c] w fun r w' => ROp B w (L.map clrM) (.int .i64 (deadN L : Int)) r w' := by
  have hn := h.len
  have hn2 : n ≤ 126 := by omega
  have H := Lib.hid h
  have HN := Lib.hid hn
  have HL := Lib.hid hl
  have hbd := Lib.hid hB
  clear h hn hl hB
  go_enter Try.func18, Try.ntmps18
  go_wp2
  go_loopw [0, 4, 5] (fun lv v i wr => ∃ (k m : Nat), k ≤ n ∧ i = .int .i64 (k : Int) ∧ v = .int .i64 (m : Int) ∧ m = deadN (L.take k) ∧ m ≤ k ∧ SO B wr lv (partM L k) ∧ w.grownBy wr none) (fun _ _ i _ => n - (intOf i).toNat)
  case atStart => exact ⟨0, 0, Nat.zero_le _, rfl, rfl, rfl, Nat.le_refl _, by rw [partM_zero]; exact H.out, grefl _ _⟩
  case round =>
    obtain ⟨k, m, hk, rfl, rfl, hm, hmk, hs0, hg0⟩ := hrel
    have hsh := hs0.shape
    rw [partM_len, ← HN.out] at hsh
    obtain ⟨a1, c1, rfl⟩ := hsh
    have HM := Lib.hid hm
    have HS := Lib.hid hs0
    have HG := Lib.hid hg0
    have HPL := Lib.hid (show (partM L k).length ≤ 126 by rw [partM_len]; exact HL.out)
    clear hm hs0 hg0
    by_cases hlt : k < n
    · have hki : (k : Int) < (n : Int) := by omega
      obtain ⟨s, hs⟩ : ∃ s, L[k]? = some s := ⟨L[k]'(by have := HN.out; omega), List.getElem?_eq_getElem _⟩
      have hp := (partM_at L k).trans hs
      obtain ⟨g, rfl, -, e0, e1, e2, e3⟩ := HS.out.at hp
      by_cases hz : s.st = 2
      · have HQ := Lib.hid (show m + 1 = deadN (L.take (k + 1)) by rw [take_more hs, HM.out]; simp [deadN, hz])
        rw [show (s.st != 0) = true by simp [hz]] at e0
        rw [show (s.st == 2) = true by simp [hz]] at e3
        have HP := Lib.hid hp
        have HX := Lib.hid (show (partM L k).set k (send s) = partM L (k + 1) by rw [← partM_set L k s hs]; simp [clrM, hz])
        clear hs hp
        go_wp2_with (first
          | (go_at_call 26; (with_reducible refine (rset_any _ B _ n _ (partM L k) k s false false 0 (s.turn : Int) (send s) HS.out HP.out HPL.out rfl rfl rfl rfl).mono ?_); rintro r w7 ⟨v7, rfl, hs7, hg7⟩; rw [HX.out] at hs7; have HS7 := Lib.hid (hs7.base (Nat.le_trans hbd.out HG.out.size)); have HG7 := Lib.hid (gtrans HG.out hg7); clear hs7 hg7)
          | go_in)
        go_roundw
        case rel => exact ⟨k + 1, m + 1, by omega, by go_num, by go_num, HQ.out, by omega, HS7.out, HG7.out⟩
        case measure => simp [intOf]; omega
      · have HQ := Lib.hid (show m = deadN (L.take (k + 1)) by rw [take_more hs, HM.out]; simp [deadN, hz])
        have HX := Lib.hid (partM_same L k s hs hz)
        rw [show (s.st == 2) = false by simpa using hz] at e3
        cases hq : (s.st != 0) with
        | true =>
          rw [hq] at e0
          clear hs hp hq
          go_wp2
          go_roundw
          case rel => exact ⟨k + 1, m, by omega, by go_num, rfl, HQ.out, by omega, by rw [HX.out]; exact HS.out, HG.out⟩
          case measure => simp [intOf]; omega
        | false =>
          rw [hq] at e0
          clear hs hp hq
          go_wp2
          go_roundw
          case rel => exact ⟨k + 1, m, by omega, by go_num, rfl, HQ.out, by omega, by rw [HX.out]; exact HS.out, HG.out⟩
          case measure => simp [intOf]; omega
    · have hki : ¬ (k : Int) < (n : Int) := by omega
      have hke : k = L.length := by have := HN.out; omega
      have HQ := Lib.hid (show m = deadN L by rw [HM.out, List.take_of_length_le (by omega)])
      have hq := HS.out
      rw [hke, partM_all] at hq
      have HZ := Lib.hid hq
      clear hq
      go_wp2
      go_ret2
      exact ⟨_, by rw [← HQ.out]; rfl, HZ.out, HG.out⟩

end Go.Proofs.Ytoaglkbobndmeaa
