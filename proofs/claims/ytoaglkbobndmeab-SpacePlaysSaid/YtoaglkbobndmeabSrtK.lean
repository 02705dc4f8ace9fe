/-
  slices.breakPatternsOrdered at pages: it turns places within the range alone. Own work; printed by tools/sort/mkbreak.py.
-/
import Derived.Test.YtoaglkbobndmeabSrtJ
namespace Go.Proofs.Ytoaglkbobndmeab
open Go.RowKit Go.Maps

theorem rnd_new {w0 w : World} {blk cap : Nat} {d : Array Nat} (h : RowAt w0 blk cap w d) : RndAt w0 blk cap (w.alloc (.cells #[.int .u64 0] 103)) d w.heap.size 0 :=
  ⟨h.grown (World.grownBy_alloc _ _ _), h.gr.size, heap_alloc_new _ _, by decide⟩
theorem rnd_lit {w0 w : World} {blk cap : Nat} {d : Array Nat} (h : RowAt w0 blk cap w d) (x : Nat) (hx : x < 18446744073709551616) : RndAt w0 blk cap (w.alloc (.cells #[.int .u64 (x : Int)] 103)) d w.heap.size x :=
  ⟨h.grown (World.grownBy_alloc _ _ _), h.gr.size, heap_alloc_new _ _, hx⟩
theorem RndAt.swap {w0 w : World} {blk cap g s : Nat} {d : Array Nat} (h : RndAt w0 blk cap w d g s) {i j x y : Nat} (hi : i < d.size) (hj : j < d.size) (hx : d[j]! = x) (hy : d[i]! = y) :
    RndAt w0 blk cap ((w.setCell ⟨blk, i, none⟩ (.int .u32 (x : Int))).setCell ⟨blk, j, none⟩ (.int .u32 (y : Int))).drew (Sort.swp d i j) g s := by
  have hne : g ≠ blk := by have := h.hg; have := h.row.lt; omega
  exact ⟨(h.row.swap hi hj hx hy).drew, h.hg, (set_other _ _ _ hne).trans ((set_other _ _ _ hne).trans h.box), h.lt⟩

set_option maxRecDepth 100000 in
set_option maxHeartbeats 8000000 in
theorem break_any (w0 w : World) (blk cap a b : Nat) (d : Array Nat) (h : RowAt w0 blk cap w d) (hb : b ≤ d.size) (hsz : d.size ≤ 100000) (hab : a + 12 < b) :
    Calls Try.prog 44 #[.slice (some ⟨blk, 0, none⟩) d.size cap, .int .i64 (a : Int), .int .i64 (b : Int)] w fun r w' => Turned w0 blk cap d a b r w' := by
  obtain ⟨n, hn⟩ : ∃ n, n = d.size := ⟨_, rfl⟩
  have HN := Lib.hid hn
  rw [← hn] at hb hsz ⊢
  have HR := Lib.hid h
  have HB := Lib.hid hb
  have HAB := Lib.hid hab
  obtain ⟨l, hl⟩ : ∃ l : Nat, (b : Int) - (a : Int) = (l : Int) := ⟨b - a, by omega⟩
  have hl12 : (12 : Int) < (l : Int) := by omega
  have hl8 : (8 : Int) ≤ (l : Int) := by omega
  have hl5 : (l : Int) ≤ 100000 := by omega
  obtain ⟨q, hq⟩ : ∃ q : Nat, Int.tdiv (l : Int) 4 = (q : Int) := ⟨l / 4, by rw [Int.tdiv_eq_ediv_of_nonneg (by omega)]; omega⟩
  have HQ := Lib.hid (show q = l / 4 by rw [Int.tdiv_eq_ediv_of_nonneg (by omega)] at hq; omega)
  obtain ⟨e, he⟩ : ∃ e : Nat, (a : Int) + (q : Int) * 2 = (e : Int) := ⟨a + q * 2, by omega⟩
  have hq5 : (q : Int) ≤ 25000 := by have := HQ.out; omega
  have HE := Lib.hid (show e = a + q * 2 by omega)
  obtain ⟨i0, hi0⟩ : ∃ i0 : Nat, (e : Int) - 1 = (i0 : Int) := ⟨e - 1, by have := HQ.out; omega⟩
  obtain ⟨i2, hi2⟩ : ∃ i2 : Nat, (e : Int) + 1 = (i2 : Int) := ⟨e + 1, by omega⟩
  have HI0 := Lib.hid (show i0 + 1 = e by omega)
  have HI2 := Lib.hid (show i2 = e + 1 by omega)
  have HLB := Lib.hid (show b = a + l by omega)
  have he5 : (e : Int) ≤ 200000 := by have := HQ.out; omega
  have ha5 : (a : Int) ≤ 100000 := by omega
  have hb5 : (b : Int) ≤ 100000 := by omega
  have hn5 : (n : Int) ≤ 100000 := by omega
  have HRG := Lib.hid (show a < i0 ∧ i2 < b by have := HQ.out; have := HE.out; have := HLB.out; omega)
  have HR0 := Lib.hid (rnd_lit h l (by omega))
  have HR1 := Lib.hid ((rnd_new h).put l (by omega))
  clear h hn hb hab
  go_enter Try.func44, Try.ntmps44
  go_wp2_with (first
    | (go_at_call 54; (with_reducible refine (nextPow_any l (by omega) (by omega) _).mono ?_); rintro r w1 ⟨⟨M, rfl, hM⟩, rfl⟩; have HM := Lib.hid hM; clear hM))
  have hM1 : (1 : Int) ≤ (M : Int) := by have := HM.out; omega
  have hM2 : (M : Int) ≤ 200000 := by have := HM.out; omega
  obtain ⟨g, hg⟩ : ∃ g, g = w.heap.size := ⟨_, rfl⟩
  rw [← hg] at HR0
  simp only [← hg]
  generalize w.alloc (.cells #[.int .u64 (l : Int)] 103) = W0 at HR0 ⊢
  clear hg HR1
  go_loopg [9] 3 (fun gg iv wr => ∃ (i x : Nat) (dk : Array Nat), iv = .int .i64 (i : Int) ∧ e + 2 ≤ gg + i ∧ i0 ≤ i ∧ i ≤ i2 + 1 ∧ RndAt w0 blk cap wr dk g x ∧ Hid (dk.size = n ∧ Sort.PermIn a b d dk))
  case atStart => exact ⟨i0, l, d, rfl, by have := HI0.out; omega, Nat.le_refl _, by have := HI0.out; have := HI2.out; omega, HR0.out, Lib.hid ⟨HN.out.symm, Sort.permIn_refl _ _ _⟩⟩
  case round =>
    obtain ⟨i, x, dk, rfl, hgg, hi0i, hi2i, hrow, HK⟩ := hrel
    have HRW := Lib.hid hrow
    clear hrow
    by_cases hlt : i ≤ i2
    · have hlti : (i : Int) ≤ (i2 : Int) := by omega
      have HIB := Lib.hid (show a ≤ i ∧ i < b by have := HRG.out; omega)
      go_wp2_with fail
      (with_reducible refine (next_any w0 wr blk cap g x dk HRW.out).mono ?_)
      rintro r w1 ⟨y, rfl, h1⟩
      have H1 := Lib.hid h1
      obtain ⟨O, hO⟩ : ∃ O : Nat, O = y &&& (M - 1) := ⟨_, rfl⟩
      have lO : O ≤ M - 1 := by rw [hO]; exact Nat.and_le_right
      have eAnd : bits .and .u64 (y : Int) ((M : Int) - 1) = (O : Int) := by
        rw [show ((M : Int) - 1) = ((M - 1 : Nat) : Int) by omega, bits_and_u64_nat _ _ h1.lt (by omega), hO]
      have hO5 : (O : Int) ≤ 200000 := by omega
      have HO2 := Lib.hid (show O < 2 * l by have := HM.out; omega)
      clear hO h1
      by_cases hOl : l ≤ O
      · have hOli : (l : Int) ≤ (O : Int) := by omega
        obtain ⟨o, ho⟩ : ∃ o : Nat, (O : Int) - (l : Int) = (o : Int) := ⟨O - l, by omega⟩
        have HOL := Lib.hid (show o < l by have := HO2.out; omega)
        obtain ⟨p, hp⟩ : ∃ p : Nat, (a : Int) + (o : Int) = (p : Int) := ⟨a + o, by omega⟩
        have HPB := Lib.hid (show a ≤ p ∧ p < b by have := HOL.out; have := HLB.out; omega)
        have hpn : (p : Int) < (n : Int) := by have := HPB.out; have := HB.out; omega
        have hin : (i : Int) < (n : Int) := by have := HIB.out; have := HB.out; omega
        have e1 := H1.out.row.cell (j := i) (by rw [HK.out.1]; omega)
        have e2 := H1.out.row.cell (j := p) (by rw [HK.out.1]; omega)
        have g1 := H1.out.row.froz i
        have g2 := H1.out.row.froz p
        obtain ⟨x2, hx2⟩ : ∃ x, dk[i]! = x := ⟨_, rfl⟩
        obtain ⟨y2, hy2⟩ : ∃ x, dk[p]! = x := ⟨_, rfl⟩
        rw [hx2] at e1
        rw [hy2] at e2
        have HX2 := Lib.hid hx2
        have HY2 := Lib.hid hy2
        have HSW := Lib.hid (H1.out.swap (i := i) (j := p) (by rw [HK.out.1]; omega) (by rw [HK.out.1]; omega) HY2.out HX2.out)
        clear hx2 hy2
        by_cases hip : i = p
        · subst hip
          obtain rfl : x2 = y2 := by rw [← HX2.out, ← HY2.out]
          clear e2 g2
          go_wp2_with fail
          go_region
          all_goals
            clear e1 g1
            generalize ((w1.setCell ⟨blk, i, none⟩ (.int .u32 (x2 : Int))).setCell ⟨blk, i, none⟩ (.int .u32 (x2 : Int))).drew = W2 at HSW ⊢
            go_wp2
            go_roundg (e + 2 - (i + 1))
            case rel => exact ⟨i + 1, y, Sort.swp dk i i, by simp, by omega, by omega, by omega, HSW.out, Lib.hid ⟨by rw [size_swp']; exact HK.out.1, permIn_swp HK.out.2 HIB.out.1 HIB.out.2 HPB.out.1 HPB.out.2 (by rw [← HN.out]; exact HB.out)⟩⟩
            case measure => have := HI2.out; omega
        · have hne : p ≠ i := fun h => hip h.symm
          go_wp2_with fail
          go_region
          all_goals
            clear e1 g1 e2 g2
            generalize ((w1.setCell ⟨blk, i, none⟩ (.int .u32 (y2 : Int))).setCell ⟨blk, p, none⟩ (.int .u32 (x2 : Int))).drew = W2 at HSW ⊢
            go_wp2
            go_roundg (e + 2 - (i + 1))
            case rel => exact ⟨i + 1, y, Sort.swp dk i p, by simp, by omega, by omega, by omega, HSW.out, Lib.hid ⟨by rw [size_swp']; exact HK.out.1, permIn_swp HK.out.2 HIB.out.1 HIB.out.2 HPB.out.1 HPB.out.2 (by rw [← HN.out]; exact HB.out)⟩⟩
            case measure => have := HI2.out; omega
      · have hOli : ¬ (l : Int) ≤ (O : Int) := by omega
        obtain ⟨o, ho⟩ : ∃ o : Nat, o = O := ⟨_, rfl⟩
        have HOL := Lib.hid (show o < l by omega)
        subst ho
        obtain ⟨p, hp⟩ : ∃ p : Nat, (a : Int) + (o : Int) = (p : Int) := ⟨a + o, by omega⟩
        have HPB := Lib.hid (show a ≤ p ∧ p < b by have := HOL.out; have := HLB.out; omega)
        have hpn : (p : Int) < (n : Int) := by have := HPB.out; have := HB.out; omega
        have hin : (i : Int) < (n : Int) := by have := HIB.out; have := HB.out; omega
        have e1 := H1.out.row.cell (j := i) (by rw [HK.out.1]; omega)
        have e2 := H1.out.row.cell (j := p) (by rw [HK.out.1]; omega)
        have g1 := H1.out.row.froz i
        have g2 := H1.out.row.froz p
        obtain ⟨x2, hx2⟩ : ∃ x, dk[i]! = x := ⟨_, rfl⟩
        obtain ⟨y2, hy2⟩ : ∃ x, dk[p]! = x := ⟨_, rfl⟩
        rw [hx2] at e1
        rw [hy2] at e2
        have HX2 := Lib.hid hx2
        have HY2 := Lib.hid hy2
        have HSW := Lib.hid (H1.out.swap (i := i) (j := p) (by rw [HK.out.1]; omega) (by rw [HK.out.1]; omega) HY2.out HX2.out)
        clear hx2 hy2
        by_cases hip : i = p
        · subst hip
          obtain rfl : x2 = y2 := by rw [← HX2.out, ← HY2.out]
          clear e2 g2
          go_wp2_with fail
          go_region
          all_goals
            clear e1 g1
            generalize ((w1.setCell ⟨blk, i, none⟩ (.int .u32 (x2 : Int))).setCell ⟨blk, i, none⟩ (.int .u32 (x2 : Int))).drew = W2 at HSW ⊢
            go_wp2
            go_roundg (e + 2 - (i + 1))
            case rel => exact ⟨i + 1, y, Sort.swp dk i i, by simp, by omega, by omega, by omega, HSW.out, Lib.hid ⟨by rw [size_swp']; exact HK.out.1, permIn_swp HK.out.2 HIB.out.1 HIB.out.2 HPB.out.1 HPB.out.2 (by rw [← HN.out]; exact HB.out)⟩⟩
            case measure => have := HI2.out; omega
        · have hne : p ≠ i := fun h => hip h.symm
          go_wp2_with fail
          go_region
          all_goals
            clear e1 g1 e2 g2
            generalize ((w1.setCell ⟨blk, i, none⟩ (.int .u32 (y2 : Int))).setCell ⟨blk, p, none⟩ (.int .u32 (x2 : Int))).drew = W2 at HSW ⊢
            go_wp2
            go_roundg (e + 2 - (i + 1))
            case rel => exact ⟨i + 1, y, Sort.swp dk i p, by simp, by omega, by omega, by omega, HSW.out, Lib.hid ⟨by rw [size_swp']; exact HK.out.1, permIn_swp HK.out.2 HIB.out.1 HIB.out.2 HPB.out.1 HPB.out.2 (by rw [← HN.out]; exact HB.out)⟩⟩
            case measure => have := HI2.out; omega
    · have hlti : ¬ (i : Int) ≤ (i2 : Int) := by omega
      go_wp2
      (try simp only [Exit.inBlock, Exit.then])
      first
        | (refine bodyPost_ret (results_none rfl _ _ _) rfl ?_; exact ⟨dk, rfl, HRW.out.row, HK.out.2⟩)
        | (go_end0; exact ⟨dk, rfl, HRW.out.row, HK.out.2⟩)

end Go.Proofs.Ytoaglkbobndmeab
