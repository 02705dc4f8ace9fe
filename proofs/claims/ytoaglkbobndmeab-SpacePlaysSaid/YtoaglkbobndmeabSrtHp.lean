/-
  slices.heapSortOrdered at pages: it is the library's plain function. Own work.
-/
import Derived.Test.YtoaglkbobndmeabSrtG
namespace Go.Proofs.Ytoaglkbobndmeab
open Go.RowKit Go.Maps

theorem size_sift (hi first root : Nat) (d : Array Nat) : (Sort.siftDown ltN hi first root d).size = d.size := by
  fun_induction Sort.siftDown ltN hi first root d <;> simp_all [Sort.size_swp]

set_option maxRecDepth 100000 in
set_option maxHeartbeats 8000000 in
theorem heap_any (w0 w : World) (blk cap a b : Nat) (d : Array Nat) (h : RowAt w0 blk cap w d) (hb : b ≤ d.size) (hsz : d.size ≤ 100000) (hab : a + 12 < b) :
    Calls Try.prog 43 #[.slice (some ⟨blk, 0, none⟩) d.size cap, .int .i64 (a : Int), .int .i64 (b : Int)] w fun r w' => r = .returned (.tuple #[]) ∧ RowAt w0 blk cap w' (Sort.heapSort ltN d a b) := by
  obtain ⟨n, hn⟩ : ∃ n, n = d.size := ⟨_, rfl⟩
  have HN := Lib.hid hn
  rw [← hn] at hb hsz ⊢
  have HR := Lib.hid h
  have HB := Lib.hid hb
  obtain ⟨hi, hhi⟩ : ∃ hi : Nat, (b : Int) - (a : Int) = (hi : Int) := ⟨b - a, by omega⟩
  have HHI := Lib.hid (show hi = b - a by omega)
  have HAH := Lib.hid (show a + hi = b by omega)
  have hhi5 : (hi : Int) ≤ 100000 := by omega
  have hhi1 : (12 : Int) < (hi : Int) := by omega
  have ha5 : (a : Int) ≤ 100000 := by omega
  have hb5 : (b : Int) ≤ 100000 := by omega
  obtain ⟨m1, hm1⟩ : ∃ m1 : Nat, (hi : Int) - 1 = (m1 : Int) := ⟨hi - 1, by omega⟩
  obtain ⟨q, hq⟩ : ∃ q : Nat, Int.tdiv (m1 : Int) 2 = (q : Int) := ⟨m1 / 2, by rw [Int.tdiv_eq_ediv_of_nonneg (by omega)]; omega⟩
  have HQ := Lib.hid (show q = (hi - 1) / 2 by rw [Int.tdiv_eq_ediv_of_nonneg (by omega)] at hq; omega)
  have hq5 : (q : Int) ≤ 100000 := by have := HQ.out; omega
  have hm5 : (m1 : Int) ≤ 100000 := by omega
  have HM1 := Lib.hid (show m1 + 1 = hi by omega)
  have HHS := Lib.hid (show Sort.heapSort ltN d a b = Sort.heapPop ltN a hi (Sort.heapBuild ltN hi a (q + 1) d) by rw [HQ.out, HHI.out]; rfl)
  clear h hn hb
  go_enter Try.func43, Try.ntmps43
  go_wp2
  go_loopg [9] (q + 1) (fun g iv wr => ∃ (k : Nat) (z : Int) (dk : Array Nat), iv = .int .i64 z ∧ z = (k : Int) - 1 ∧ k ≤ g ∧ k ≤ hi ∧ RowAt w0 blk cap wr dk ∧ Hid (dk.size = n ∧ Sort.heapBuild ltN hi a k dk = Sort.heapBuild ltN hi a (q + 1) d))
  case atStart => exact ⟨q + 1, _, d, rfl, by omega, Nat.le_refl _, by have := HQ.out; omega, HR.out, Lib.hid ⟨HN.out.symm, rfl⟩⟩
  case round =>
    obtain ⟨k, z, dk, rfl, hz, hg, hkh, hrow, HK⟩ := hrel
    have HRW := Lib.hid hrow
    clear hrow
    rcases Nat.eq_zero_or_pos k with hk0 | hk0
    · subst hk0
      obtain rfl : z = -1 := by omega
      clear hz
      have HD := Lib.hid (show Sort.heapSort ltN d a b = Sort.heapPop ltN a hi dk by rw [HHS.out, ← HK.out.2]; rfl)
      have HS := Lib.hid HK.out.1
      clear HK
      go_wp2
      go_loopg [10] hi (fun g iv wr => ∃ (k : Nat) (z : Int) (dk : Array Nat), iv = .int .i64 z ∧ z = (k : Int) - 1 ∧ k ≤ g ∧ k ≤ hi ∧ RowAt w0 blk cap wr dk ∧ Hid (dk.size = n ∧ Sort.heapPop ltN a k dk = Sort.heapSort ltN d a b))
      case atStart => exact ⟨hi, _, dk, rfl, by have := HM1.out; omega, Nat.le_refl _, Nat.le_refl _, HRW.out, Lib.hid ⟨HS.out, HD.out.symm⟩⟩
      case round =>
        obtain ⟨k, z, dj, rfl, hz, hg, hkh, hrow, HK⟩ := hrel
        have HRV := Lib.hid hrow
        rcases Nat.eq_zero_or_pos k with hk0 | hk0
        · subst hk0
          obtain rfl : z = -1 := by omega
          clear hz
          have HE := Lib.hid (show Sort.heapSort ltN d a b = dj by rw [← HK.out.2]; rfl)
          go_wp2
          go_end0
          exact ⟨rfl, by rw [HE.out]; exact HRV.out⟩
        · obtain ⟨m, rfl⟩ : ∃ m, k = m + 1 := ⟨k - 1, by omega⟩
          obtain rfl : z = (m : Int) := by omega
          clear hz
          have hm0 : (0 : Int) ≤ (m : Int) := by omega
          obtain ⟨p1, hp1⟩ : ∃ p1 : Nat, (a : Int) + (m : Int) = (p1 : Int) := ⟨a + m, by omega⟩
          have HP1 := Lib.hid (show p1 = a + m by omega)
          have hp1n : (p1 : Int) < (n : Int) := by have := HB.out; have := HAH.out; omega
          have han : (a : Int) < (n : Int) := by have := HB.out; have := HAH.out; omega
          have e1 := hrow.cell (j := p1) (by rw [HK.out.1]; omega)
          have e2 := hrow.cell (j := a) (by rw [HK.out.1]; omega)
          have g1 := hrow.froz p1
          have g2 := hrow.froz a
          obtain ⟨x, hx⟩ : ∃ x, dj[p1]! = x := ⟨_, rfl⟩
          obtain ⟨y, hy⟩ : ∃ y, dj[a]! = y := ⟨_, rfl⟩
          rw [hx] at e1
          rw [hy] at e2
          have HX := Lib.hid hx
          have HY := Lib.hid hy
          have HKP := Lib.hid (show Sort.heapPop ltN a (m + 1) dj = Sort.heapPop ltN a m (Sort.siftDown ltN m a 0 (Sort.swp dj a p1)) by rw [HP1.out]; rfl)
          have HSW := Lib.hid ((hrow.swap (i := a) (j := p1) (by rw [HK.out.1]; omega) (by rw [HK.out.1]; omega) HX.out HY.out).drew)
          clear hx hy hrow
          rcases Nat.eq_zero_or_pos m with hm | hm
          · subst hm
            obtain rfl : a = p1 := by omega
            obtain rfl : x = y := by rw [← HX.out, ← HY.out]
            clear e2 g2
            go_wp2_with fail
            go_region
            all_goals
              clear e1 g1
              generalize ((wr.setCell ⟨blk, a, none⟩ (.int .u32 (x : Int))).setCell ⟨blk, a, none⟩ (.int .u32 (x : Int))).drew = WS at HSW ⊢
              go_wp2_with (first
                | (go_at_call 53; have K := sift_any w0 WS blk cap 0 0 a (Sort.swp dj a a) HSW.out (by rw [size_swp', HK.out.1]; have := HB.out; have := HAH.out; omega) (by rw [size_swp', HK.out.1]; exact hsz) (by omega); rw [size_swp', HK.out.1, show ((0 : Nat) : Int) = 0 from rfl] at K; (with_reducible refine K.mono ?_); clear K; rintro r w2 ⟨rfl, hr2⟩; have HR2 := Lib.hid hr2; clear hr2))
              go_roundg 0
              case rel => exact ⟨0, _, _, rfl, rfl, Nat.le_refl _, by omega, HR2.out, Lib.hid ⟨by rw [size_sift, size_swp']; exact HK.out.1, by rw [← HKP.out]; exact HK.out.2⟩⟩
              case measure => omega
          · have hne : a ≠ p1 := by omega
            go_wp2_with fail
            go_region
            all_goals
              clear e1 e2 g1 g2
              generalize ((wr.setCell ⟨blk, a, none⟩ (.int .u32 (x : Int))).setCell ⟨blk, p1, none⟩ (.int .u32 (y : Int))).drew = WS at HSW ⊢
              go_wp2_with (first
                | (go_at_call 53; have K := sift_any w0 WS blk cap 0 m a (Sort.swp dj a p1) HSW.out (by rw [size_swp', HK.out.1]; have := HB.out; have := HAH.out; omega) (by rw [size_swp', HK.out.1]; exact hsz) (by omega); rw [size_swp', HK.out.1, show ((0 : Nat) : Int) = 0 from rfl] at K; (with_reducible refine K.mono ?_); clear K; rintro r w2 ⟨rfl, hr2⟩; have HR2 := Lib.hid hr2; clear hr2))
              go_roundg m
              case rel => exact ⟨m, _, _, rfl, rfl, Nat.le_refl _, by omega, HR2.out, Lib.hid ⟨by rw [size_sift, size_swp']; exact HK.out.1, by rw [← HKP.out]; exact HK.out.2⟩⟩
              case measure => omega
    · obtain ⟨m, rfl⟩ : ∃ m, k = m + 1 := ⟨k - 1, by omega⟩
      obtain rfl : z = (m : Int) := by omega
      clear hz
      have hm0 : (0 : Int) ≤ (m : Int) := by omega
      have HKP := Lib.hid (show Sort.heapBuild ltN hi a (m + 1) dk = Sort.heapBuild ltN hi a m (Sort.siftDown ltN hi a m dk) from rfl)
      go_wp2_with (first
        | (go_at_call 53; have K := sift_any w0 wr blk cap m hi a dk HRW.out (by rw [HK.out.1]; have := HB.out; have := HAH.out; omega) (by rw [HK.out.1]; exact hsz) (by omega); rw [HK.out.1] at K; (with_reducible refine K.mono ?_); clear K; rintro r w2 ⟨rfl, hr2⟩; have HR2 := Lib.hid hr2; clear hr2))
      go_roundg m
      case rel => exact ⟨m, _, _, rfl, rfl, Nat.le_refl _, by omega, HR2.out, Lib.hid ⟨by rw [size_sift]; exact HK.out.1, by rw [← HKP.out]; exact HK.out.2⟩⟩
      case measure => omega

end Go.Proofs.Ytoaglkbobndmeab
