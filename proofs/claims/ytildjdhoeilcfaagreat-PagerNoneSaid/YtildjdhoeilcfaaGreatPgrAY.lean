/-
  slices.siftDownOrdered at pages: it is the library's plain function. Own work; printed by tools/sort/mksift.py.
-/
import Derived.Test.YtildjdhoeilcfaaGreatPgrAX

namespace Go.Proofs.YtildjdhoeilcfaaGreat
open Go.RowKit Go.Maps

theorem sift_stop {hi first root : Nat} {d : Array Nat} (h : hi ≤ 2 * root + 1) : Sort.siftDown ltN hi first root d = d := by
  unfold Sort.siftDown
  rw [dif_pos h]
theorem sift_r {hi first root c c2 p0 p1 p2 : Nat} {d : Array Nat} (hc : c = 2 * root + 1) (hc2 : c2 = c + 1) (hp0 : p0 = first + root) (hp1 : p1 = first + c) (hp2 : p2 = p1 + 1) (h : c2 < hi) (h1 : ltN d[p1]! d[p2]! = true) (h2 : ltN d[p0]! d[p2]! = true) :
    Sort.siftDown ltN hi first root d = Sort.siftDown ltN hi first c2 (Sort.swp d p0 p2) := by
  subst hc hc2 hp0 hp1 hp2
  conv => lhs; unfold Sort.siftDown
  rw [dif_neg (by omega), if_pos (by rw [h1]; simp; omega), if_neg, dif_pos (by omega)]
  · rfl
  · rw [show first + (2 * root + 2) = first + (2 * root + 1) + 1 by omega, h2]; simp
theorem sift_r0 {hi first root c c2 p0 p1 p2 : Nat} {d : Array Nat} (hc : c = 2 * root + 1) (hc2 : c2 = c + 1) (hp0 : p0 = first + root) (hp1 : p1 = first + c) (hp2 : p2 = p1 + 1) (h : c2 < hi) (h1 : ltN d[p1]! d[p2]! = true) (h2 : ltN d[p0]! d[p2]! = false) :
    Sort.siftDown ltN hi first root d = d := by
  subst hc hc2 hp0 hp1 hp2
  conv => lhs; unfold Sort.siftDown
  rw [dif_neg (by omega), if_pos (by rw [h1]; simp; omega), if_pos]
  rw [show first + (2 * root + 2) = first + (2 * root + 1) + 1 by omega, h2]; simp
theorem sift_l {hi first root c c2 p0 p1 p2 : Nat} {d : Array Nat} (hc : c = 2 * root + 1) (hc2 : c2 = c + 1) (hp0 : p0 = first + root) (hp1 : p1 = first + c) (hp2 : p2 = p1 + 1) (h : c < hi) (h1 : ¬ (c2 < hi ∧ ltN d[p1]! d[p2]! = true)) (h2 : ltN d[p0]! d[p1]! = true) :
    Sort.siftDown ltN hi first root d = Sort.siftDown ltN hi first c (Sort.swp d p0 p1) := by
  subst hc hc2 hp0 hp1 hp2
  conv => lhs; unfold Sort.siftDown
  rw [dif_neg (by omega), if_neg (by simpa using h1), if_neg (by rw [h2]; simp)]
theorem sift_l0 {hi first root c c2 p0 p1 p2 : Nat} {d : Array Nat} (hc : c = 2 * root + 1) (hc2 : c2 = c + 1) (hp0 : p0 = first + root) (hp1 : p1 = first + c) (hp2 : p2 = p1 + 1) (h : c < hi) (h1 : ¬ (c2 < hi ∧ ltN d[p1]! d[p2]! = true)) (h2 : ltN d[p0]! d[p1]! = false) :
    Sort.siftDown ltN hi first root d = d := by
  subst hc hc2 hp0 hp1 hp2
  conv => lhs; unfold Sort.siftDown
  rw [dif_neg (by omega), if_neg (by simpa using h1), if_pos (by rw [h2]; simp)]

set_option maxRecDepth 100000 in
set_option maxHeartbeats 8000000 in
theorem sift_any (w0 w : World) (blk cap lo hi first : Nat) (d : Array Nat) (h : RowAt w0 blk cap w d) (hb : first + hi ≤ d.size) (hsz : d.size ≤ 100000) (hlo : lo ≤ 100000) :
    Calls Tryz.prog 277 #[.slice (some ⟨blk, 0, none⟩) d.size cap, .int .i64 (lo : Int), .int .i64 (hi : Int), .int .i64 (first : Int)] w fun r w' => r = .returned (.tuple #[]) ∧ RowAt w0 blk cap w' (Sort.siftDown ltN hi first lo d) := by
  obtain ⟨n, hn⟩ : ∃ n, n = d.size := ⟨_, rfl⟩
  have HN := Lib.hid hn
  rw [← hn] at hb hsz ⊢
  have HR := Lib.hid h
  have HB := Lib.hid hb
  have hhi5 : (hi : Int) ≤ 100000 := by omega
  have hfi5 : (first : Int) ≤ 100000 := by omega
  clear h hn hb
  go_enter Tryz.func277, Tryz.ntmps277
  go_wp2
  go_loopg [8] (hi + 1 + lo) (fun g rv wr => ∃ (root : Nat) (dk : Array Nat), rv = .int .i64 (root : Int) ∧ hi + 1 ≤ g + root + 0 ∧ root ≤ 100000 ∧ RowAt w0 blk cap wr dk ∧ Hid (dk.size = n ∧ Sort.siftDown ltN hi first root dk = Sort.siftDown ltN hi first lo d))
  case atStart => exact ⟨lo, d, rfl, by omega, hlo, HR.out, Lib.hid ⟨HN.out.symm, rfl⟩⟩
  case round =>
    obtain ⟨root, dk, rfl, hg, hr5, hrow, HK⟩ := hrel
    have HRW := Lib.hid hrow
    obtain ⟨c, hc⟩ : ∃ c : Nat, 2 * (root : Int) + 1 = (c : Int) := ⟨2 * root + 1, by omega⟩
    have HC := Lib.hid (show c = 2 * root + 1 by omega)
    have hc5 : (c : Int) ≤ 200001 := by omega
    by_cases hch : hi ≤ c
    · have hchi : (hi : Int) ≤ (c : Int) := by omega
      go_wp2
      go_end0
      exact ⟨rfl, by rw [← HK.out.2, sift_stop (by rw [← HC.out]; exact hch)]; exact HRW.out⟩
    · have hchi : ¬ (hi : Int) ≤ (c : Int) := by omega
      obtain ⟨c2, hc2⟩ : ∃ c2 : Nat, (c : Int) + 1 = (c2 : Int) := ⟨c + 1, by omega⟩
      have HC2 := Lib.hid (show c2 = c + 1 by omega)
      obtain ⟨p0, hp0⟩ : ∃ p0 : Nat, (first : Int) + (root : Int) = (p0 : Int) := ⟨first + root, by omega⟩
      have HP0 := Lib.hid (show p0 = first + root by omega)
      obtain ⟨p1, hp1⟩ : ∃ p1 : Nat, (first : Int) + (c : Int) = (p1 : Int) := ⟨first + c, by omega⟩
      have HP1 := Lib.hid (show p1 = first + c by omega)
      obtain ⟨p2, hp2⟩ : ∃ p2 : Nat, (p1 : Int) + 1 = (p2 : Int) := ⟨p1 + 1, by omega⟩
      have HP2 := Lib.hid (show p2 = p1 + 1 by omega)
      have hp2' : (first : Int) + (c2 : Int) = (p2 : Int) := by omega
      have hp1n : (p1 : Int) < (n : Int) := by have := HB.out; omega
      have hp0n : (p0 : Int) < (n : Int) := by have := HB.out; omega
      by_cases hch2 : c2 < hi
      · have hch2i : (c2 : Int) < (hi : Int) := by omega
        have hp2n : (p2 : Int) < (n : Int) := by have := HB.out; omega
        have c1 := hrow.cell (j := p1) (by rw [HK.out.1]; omega)
        have c2' := hrow.cell (j := p2) (by rw [HK.out.1]; omega)
        obtain ⟨x, hx⟩ : ∃ x, dk[p1]! = x := ⟨_, rfl⟩
        obtain ⟨y, hy⟩ : ∃ y, dk[p2]! = y := ⟨_, rfl⟩
        rw [hx] at c1
        rw [hy] at c2'
        have HX := Lib.hid hx
        have HY := Lib.hid hy
        obtain ⟨lb, hlb⟩ : ∃ lb, ltN x y = lb := ⟨_, rfl⟩
        have HL := Lib.hid hlb
        clear hx hy hlb hrow
        go_wp2_with fail
        go_quiet (first | (go_at_call 264; refine Calls.quiet_of_same (less_any x y lb HL.out _)))
        have HRV := Lib.hid (HRW.out.drewN nq)
        clear c1 c2'
        generalize wr.drewN nq = W at HRV ⊢
        cases lb with
        | true =>
          have HLT := Lib.hid (show ltN dk[p1]! dk[p2]! = true by rw [HX.out, HY.out]; exact HL.out)
          have e1 := HRV.out.cell (j := p0) (by rw [HK.out.1]; omega)
          have e2 := HRV.out.cell (j := p2) (by rw [HK.out.1]; omega)
          obtain ⟨xs, hxs⟩ : ∃ x, dk[p0]! = x := ⟨_, rfl⟩
          obtain ⟨ys, hys⟩ : ∃ y, dk[p2]! = y := ⟨_, rfl⟩
          rw [hxs] at e1
          rw [hys] at e2
          have HXS := Lib.hid hxs
          have HYS := Lib.hid hys
          obtain ⟨ls, hls⟩ : ∃ lb, ltN xs ys = lb := ⟨_, rfl⟩
          have HLS := Lib.hid hls
          clear hxs hys hls
          go_wp2_with fail
          go_quiet (first | (go_at_call 264; refine Calls.quiet_of_same (less_any xs ys ls HLS.out _)))
          have HRU := Lib.hid (HRV.out.drewN nq)
          have e3 : (W.drewN nq).cell? ⟨blk, p0, none⟩ = _ := e1
          have e4 : (W.drewN nq).cell? ⟨blk, p2, none⟩ = _ := e2
          have g3 := HRU.out.froz p0
          have g4 := HRU.out.froz p2
          clear e1 e2
          generalize W.drewN nq = WU at HRU e3 e4 g3 g4 ⊢
          cases ls with
          | true =>
            have hne : p0 ≠ p2 := by have := HC.out; omega
            have HSW := Lib.hid (HRU.out.drew.swap (i := p0) (j := p2) (by rw [HK.out.1]; omega) (by rw [HK.out.1]; omega) HYS.out HXS.out)
            have HEQ := Lib.hid (sift_r HC.out HC2.out HP0.out HP1.out HP2.out hch2 HLT.out (show ltN dk[p0]! dk[p2]! = true by rw [HXS.out, HYS.out]; exact HLS.out))
            go_wp2_with fail
            go_region
            all_goals
              go_wp2
              go_roundg (hi + 1 - c2)
              case rel => exact ⟨c2, Sort.swp dk p0 p2, rfl, by omega, by omega, HSW.out, Lib.hid ⟨(size_swp' dk p0 p2).trans HK.out.1, by rw [← HEQ.out]; exact HK.out.2⟩⟩
              case measure => have := HC.out; omega
          | false =>
            have HEQ := Lib.hid (sift_r0 HC.out HC2.out HP0.out HP1.out HP2.out hch2 HLT.out (show ltN dk[p0]! dk[p2]! = false by rw [HXS.out, HYS.out]; exact HLS.out))
            go_wp2
            (try simp only [Exit.inBlock, Exit.then])
            refine bodyPost_ret (results_none rfl _ _ _) rfl ?_
            exact ⟨rfl, by rw [← HK.out.2, HEQ.out]; exact HRU.out⟩
        | false =>
          have HLF := Lib.hid (show ¬ (c2 < hi ∧ ltN dk[p1]! dk[p2]! = true) by rw [HX.out, HY.out, HL.out]; simp)
          have e1 := HRV.out.cell (j := p0) (by rw [HK.out.1]; omega)
          have e2 := HRV.out.cell (j := p1) (by rw [HK.out.1]; omega)
          obtain ⟨xs, hxs⟩ : ∃ x, dk[p0]! = x := ⟨_, rfl⟩
          obtain ⟨ys, hys⟩ : ∃ y, dk[p1]! = y := ⟨_, rfl⟩
          rw [hxs] at e1
          rw [hys] at e2
          have HXS := Lib.hid hxs
          have HYS := Lib.hid hys
          obtain ⟨ls, hls⟩ : ∃ lb, ltN xs ys = lb := ⟨_, rfl⟩
          have HLS := Lib.hid hls
          clear hxs hys hls
          go_wp2_with fail
          go_quiet (first | (go_at_call 264; refine Calls.quiet_of_same (less_any xs ys ls HLS.out _)))
          have HRU := Lib.hid (HRV.out.drewN nq)
          have e3 : (W.drewN nq).cell? ⟨blk, p0, none⟩ = _ := e1
          have e4 : (W.drewN nq).cell? ⟨blk, p1, none⟩ = _ := e2
          have g3 := HRU.out.froz p0
          have g4 := HRU.out.froz p1
          clear e1 e2
          generalize W.drewN nq = WU at HRU e3 e4 g3 g4 ⊢
          cases ls with
          | true =>
            have hne : p0 ≠ p1 := by have := HC.out; omega
            have HSW := Lib.hid (HRU.out.drew.swap (i := p0) (j := p1) (by rw [HK.out.1]; omega) (by rw [HK.out.1]; omega) HYS.out HXS.out)
            have HEQ := Lib.hid (sift_l HC.out HC2.out HP0.out HP1.out HP2.out (by omega) HLF.out (show ltN dk[p0]! dk[p1]! = true by rw [HXS.out, HYS.out]; exact HLS.out))
            go_wp2_with fail
            go_region
            all_goals
              go_wp2
              go_roundg (hi + 1 - c)
              case rel => exact ⟨c, Sort.swp dk p0 p1, rfl, by omega, by omega, HSW.out, Lib.hid ⟨(size_swp' dk p0 p1).trans HK.out.1, by rw [← HEQ.out]; exact HK.out.2⟩⟩
              case measure => have := HC.out; omega
          | false =>
            have HEQ := Lib.hid (sift_l0 HC.out HC2.out HP0.out HP1.out HP2.out (by omega) HLF.out (show ltN dk[p0]! dk[p1]! = false by rw [HXS.out, HYS.out]; exact HLS.out))
            go_wp2
            (try simp only [Exit.inBlock, Exit.then])
            refine bodyPost_ret (results_none rfl _ _ _) rfl ?_
            exact ⟨rfl, by rw [← HK.out.2, HEQ.out]; exact HRU.out⟩
      · have hch2i : ¬ (c2 : Int) < (hi : Int) := by omega
        have HLF := Lib.hid (show ¬ (c2 < hi ∧ ltN dk[p1]! dk[p2]! = true) from fun k => hch2 k.1)
        clear hrow
        go_wp2_with fail
        go_quiet (first | (go_at_call 264; refine Calls.quiet_of_same (less_any 0 0 false rfl _)))
        have HRV := Lib.hid (HRW.out.drewN nq)
        generalize wr.drewN nq = W at HRV ⊢
        have e1 := HRV.out.cell (j := p0) (by rw [HK.out.1]; omega)
        have e2 := HRV.out.cell (j := p1) (by rw [HK.out.1]; omega)
        obtain ⟨xs, hxs⟩ : ∃ x, dk[p0]! = x := ⟨_, rfl⟩
        obtain ⟨ys, hys⟩ : ∃ y, dk[p1]! = y := ⟨_, rfl⟩
        rw [hxs] at e1
        rw [hys] at e2
        have HXS := Lib.hid hxs
        have HYS := Lib.hid hys
        obtain ⟨ls, hls⟩ : ∃ lb, ltN xs ys = lb := ⟨_, rfl⟩
        have HLS := Lib.hid hls
        clear hxs hys hls
        go_wp2_with fail
        go_quiet (first | (go_at_call 264; refine Calls.quiet_of_same (less_any xs ys ls HLS.out _)))
        have HRU := Lib.hid (HRV.out.drewN nq)
        have e3 : (W.drewN nq).cell? ⟨blk, p0, none⟩ = _ := e1
        have e4 : (W.drewN nq).cell? ⟨blk, p1, none⟩ = _ := e2
        have g3 := HRU.out.froz p0
        have g4 := HRU.out.froz p1
        clear e1 e2
        generalize W.drewN nq = WU at HRU e3 e4 g3 g4 ⊢
        cases ls with
        | true =>
          have hne : p0 ≠ p1 := by have := HC.out; omega
          have HSW := Lib.hid (HRU.out.drew.swap (i := p0) (j := p1) (by rw [HK.out.1]; omega) (by rw [HK.out.1]; omega) HYS.out HXS.out)
          have HEQ := Lib.hid (sift_l HC.out HC2.out HP0.out HP1.out HP2.out (by omega) HLF.out (show ltN dk[p0]! dk[p1]! = true by rw [HXS.out, HYS.out]; exact HLS.out))
          go_wp2_with fail
          go_region
          all_goals
            go_wp2
            go_roundg (hi + 1 - c)
            case rel => exact ⟨c, Sort.swp dk p0 p1, rfl, by omega, by omega, HSW.out, Lib.hid ⟨(size_swp' dk p0 p1).trans HK.out.1, by rw [← HEQ.out]; exact HK.out.2⟩⟩
            case measure => have := HC.out; omega
        | false =>
          have HEQ := Lib.hid (sift_l0 HC.out HC2.out HP0.out HP1.out HP2.out (by omega) HLF.out (show ltN dk[p0]! dk[p1]! = false by rw [HXS.out, HYS.out]; exact HLS.out))
          go_wp2
          (try simp only [Exit.inBlock, Exit.then])
          refine bodyPost_ret (results_none rfl _ _ _) rfl ?_
          exact ⟨rfl, by rw [← HK.out.2, HEQ.out]; exact HRU.out⟩

end Go.Proofs.YtildjdhoeilcfaaGreat

namespace Go.Proofs.YtildjdhoeilcfaaGreat
open Go.RowKit Go.Maps

theorem size_sift (hi first root : Nat) (d : Array Nat) : (Sort.siftDown ltN hi first root d).size = d.size := by
  fun_induction Sort.siftDown ltN hi first root d <;> simp_all [Sort.size_swp]

set_option maxRecDepth 100000 in
set_option maxHeartbeats 8000000 in
theorem heap_any (w0 w : World) (blk cap a b : Nat) (d : Array Nat) (h : RowAt w0 blk cap w d) (hb : b ≤ d.size) (hsz : d.size ≤ 100000) (hab : a + 12 < b) :
    Calls Tryz.prog 259 #[.slice (some ⟨blk, 0, none⟩) d.size cap, .int .i64 (a : Int), .int .i64 (b : Int)] w fun r w' => r = .returned (.tuple #[]) ∧ RowAt w0 blk cap w' (Sort.heapSort ltN d a b) := by
  obtain ⟨n, hn⟩ : ∃ n, n = d.size := ⟨_, rfl⟩
  have HN := Lib.hid hn
  rw [← hn] at hb hsz ⊢
  have HR := Lib.hid h
  have HB := Lib.hid hb
  obtain ⟨hi, hhi⟩ : ∃ hi : Nat, (b : Int) - (a : Int) = (hi : Int) := ⟨b - a, by omega⟩
  have HHI := Lib.hid (show hi = b - a by omega)
  have HAH := Lib.hid (show a + hi = b by omega)
  have hhi5 : (hi : Int) ≤ 100000 := by omega
  have hhi1 : (12 : Int) < (hi : Int) := by omega
  have ha5 : (a : Int) ≤ 100000 := by omega
  have hb5 : (b : Int) ≤ 100000 := by omega
  obtain ⟨m1, hm1⟩ : ∃ m1 : Nat, (hi : Int) - 1 = (m1 : Int) := ⟨hi - 1, by omega⟩
  obtain ⟨q, hq⟩ : ∃ q : Nat, Int.tdiv (m1 : Int) 2 = (q : Int) := ⟨m1 / 2, by rw [Int.tdiv_eq_ediv_of_nonneg (by omega)]; omega⟩
  have HQ := Lib.hid (show q = (hi - 1) / 2 by rw [Int.tdiv_eq_ediv_of_nonneg (by omega)] at hq; omega)
  have hq5 : (q : Int) ≤ 100000 := by have := HQ.out; omega
  have hm5 : (m1 : Int) ≤ 100000 := by omega
  have HM1 := Lib.hid (show m1 + 1 = hi by omega)
  have HHS := Lib.hid (show Sort.heapSort ltN d a b = Sort.heapPop ltN a hi (Sort.heapBuild ltN hi a (q + 1) d) by rw [HQ.out, HHI.out]; rfl)
  clear h hn hb
  go_enter Tryz.func259, Tryz.ntmps259
  go_wp2
  go_loopg [9] (q + 1) (fun g iv wr => ∃ (k : Nat) (z : Int) (dk : Array Nat), iv = .int .i64 z ∧ z = (k : Int) - 1 ∧ k ≤ g ∧ k ≤ hi ∧ RowAt w0 blk cap wr dk ∧ Hid (dk.size = n ∧ Sort.heapBuild ltN hi a k dk = Sort.heapBuild ltN hi a (q + 1) d))
  case atStart => exact ⟨q + 1, _, d, rfl, by omega, Nat.le_refl _, by have := HQ.out; omega, HR.out, Lib.hid ⟨HN.out.symm, rfl⟩⟩
  case round =>
    obtain ⟨k, z, dk, rfl, hz, hg, hkh, hrow, HK⟩ := hrel
    have HRW := Lib.hid hrow
    clear hrow
    rcases Nat.eq_zero_or_pos k with hk0 | hk0
    · subst hk0
      obtain rfl : z = -1 := by omega
      clear hz
      have HD := Lib.hid (show Sort.heapSort ltN d a b = Sort.heapPop ltN a hi dk by rw [HHS.out, ← HK.out.2]; rfl)
      have HS := Lib.hid HK.out.1
      clear HK
      go_wp2
      go_loopg [10] hi (fun g iv wr => ∃ (k : Nat) (z : Int) (dk : Array Nat), iv = .int .i64 z ∧ z = (k : Int) - 1 ∧ k ≤ g ∧ k ≤ hi ∧ RowAt w0 blk cap wr dk ∧ Hid (dk.size = n ∧ Sort.heapPop ltN a k dk = Sort.heapSort ltN d a b))
      case atStart => exact ⟨hi, _, dk, rfl, by have := HM1.out; omega, Nat.le_refl _, Nat.le_refl _, HRW.out, Lib.hid ⟨HS.out, HD.out.symm⟩⟩
      case round =>
        obtain ⟨k, z, dj, rfl, hz, hg, hkh, hrow, HK⟩ := hrel
        have HRV := Lib.hid hrow
        rcases Nat.eq_zero_or_pos k with hk0 | hk0
        · subst hk0
          obtain rfl : z = -1 := by omega
          clear hz
          have HE := Lib.hid (show Sort.heapSort ltN d a b = dj by rw [← HK.out.2]; rfl)
          go_wp2
          go_end0
          exact ⟨rfl, by rw [HE.out]; exact HRV.out⟩
        · obtain ⟨m, rfl⟩ : ∃ m, k = m + 1 := ⟨k - 1, by omega⟩
          obtain rfl : z = (m : Int) := by omega
          clear hz
          have hm0 : (0 : Int) ≤ (m : Int) := by omega
          obtain ⟨p1, hp1⟩ : ∃ p1 : Nat, (a : Int) + (m : Int) = (p1 : Int) := ⟨a + m, by omega⟩
          have HP1 := Lib.hid (show p1 = a + m by omega)
          have hp1n : (p1 : Int) < (n : Int) := by have := HB.out; have := HAH.out; omega
          have han : (a : Int) < (n : Int) := by have := HB.out; have := HAH.out; omega
          have e1 := hrow.cell (j := p1) (by rw [HK.out.1]; omega)
          have e2 := hrow.cell (j := a) (by rw [HK.out.1]; omega)
          have g1 := hrow.froz p1
          have g2 := hrow.froz a
          obtain ⟨x, hx⟩ : ∃ x, dj[p1]! = x := ⟨_, rfl⟩
          obtain ⟨y, hy⟩ : ∃ y, dj[a]! = y := ⟨_, rfl⟩
          rw [hx] at e1
          rw [hy] at e2
          have HX := Lib.hid hx
          have HY := Lib.hid hy
          have HKP := Lib.hid (show Sort.heapPop ltN a (m + 1) dj = Sort.heapPop ltN a m (Sort.siftDown ltN m a 0 (Sort.swp dj a p1)) by rw [HP1.out]; rfl)
          have HSW := Lib.hid ((hrow.swap (i := a) (j := p1) (by rw [HK.out.1]; omega) (by rw [HK.out.1]; omega) HX.out HY.out).drew)
          clear hx hy hrow
          rcases Nat.eq_zero_or_pos m with hm | hm
          · subst hm
            obtain rfl : a = p1 := by omega
            obtain rfl : x = y := by rw [← HX.out, ← HY.out]
            clear e2 g2
            go_wp2_with fail
            go_region
            all_goals
              clear e1 g1
              generalize ((wr.setCell ⟨blk, a, none⟩ (.int .u32 (x : Int))).setCell ⟨blk, a, none⟩ (.int .u32 (x : Int))).drew = WS at HSW ⊢
              go_wp2_with (first
                | (go_at_call 277; have K := sift_any w0 WS blk cap 0 0 a (Sort.swp dj a a) HSW.out (by rw [size_swp', HK.out.1]; have := HB.out; have := HAH.out; omega) (by rw [size_swp', HK.out.1]; exact hsz) (by omega); rw [size_swp', HK.out.1, show ((0 : Nat) : Int) = 0 from rfl] at K; (with_reducible refine K.mono ?_); clear K; rintro r w2 ⟨rfl, hr2⟩; have HR2 := Lib.hid hr2; clear hr2))
              go_roundg 0
              case rel => exact ⟨0, _, _, rfl, rfl, Nat.le_refl _, by omega, HR2.out, Lib.hid ⟨by rw [size_sift, size_swp']; exact HK.out.1, by rw [← HKP.out]; exact HK.out.2⟩⟩
              case measure => omega
          · have hne : a ≠ p1 := by omega
            go_wp2_with fail
            go_region
            all_goals
              clear e1 e2 g1 g2
              generalize ((wr.setCell ⟨blk, a, none⟩ (.int .u32 (x : Int))).setCell ⟨blk, p1, none⟩ (.int .u32 (y : Int))).drew = WS at HSW ⊢
              go_wp2_with (first
                | (go_at_call 277; have K := sift_any w0 WS blk cap 0 m a (Sort.swp dj a p1) HSW.out (by rw [size_swp', HK.out.1]; have := HB.out; have := HAH.out; omega) (by rw [size_swp', HK.out.1]; exact hsz) (by omega); rw [size_swp', HK.out.1, show ((0 : Nat) : Int) = 0 from rfl] at K; (with_reducible refine K.mono ?_); clear K; rintro r w2 ⟨rfl, hr2⟩; have HR2 := Lib.hid hr2; clear hr2))
              go_roundg m
              case rel => exact ⟨m, _, _, rfl, rfl, Nat.le_refl _, by omega, HR2.out, Lib.hid ⟨by rw [size_sift, size_swp']; exact HK.out.1, by rw [← HKP.out]; exact HK.out.2⟩⟩
              case measure => omega
    · obtain ⟨m, rfl⟩ : ∃ m, k = m + 1 := ⟨k - 1, by omega⟩
      obtain rfl : z = (m : Int) := by omega
      clear hz
      have hm0 : (0 : Int) ≤ (m : Int) := by omega
      have HKP := Lib.hid (show Sort.heapBuild ltN hi a (m + 1) dk = Sort.heapBuild ltN hi a m (Sort.siftDown ltN hi a m dk) from rfl)
      go_wp2_with (first
        | (go_at_call 277; have K := sift_any w0 wr blk cap m hi a dk HRW.out (by rw [HK.out.1]; have := HB.out; have := HAH.out; omega) (by rw [HK.out.1]; exact hsz) (by omega); rw [HK.out.1] at K; (with_reducible refine K.mono ?_); clear K; rintro r w2 ⟨rfl, hr2⟩; have HR2 := Lib.hid hr2; clear hr2))
      go_roundg m
      case rel => exact ⟨m, _, _, rfl, rfl, Nat.le_refl _, by omega, HR2.out, Lib.hid ⟨by rw [size_sift]; exact HK.out.1, by rw [← HKP.out]; exact HK.out.2⟩⟩
      case measure => omega

end Go.Proofs.YtildjdhoeilcfaaGreat
