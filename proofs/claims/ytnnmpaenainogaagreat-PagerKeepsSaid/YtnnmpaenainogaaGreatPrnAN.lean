/-
  A row of pages of the call's own, as it is sorted; cmp.Less at pages; insertionSort. Own work; what is sorted, and that it is, is said by the library's plain functions.
-/
import Derived.Test.YtnnmpaenainogaaGreatPrnAM
import Derived.Sort.AssemblyPlain
import Derived.Sort.Row
import Derived.Deep.QuietTactic
import Derived.BigQuiet
import Derived.Deep.LoopGhost

set_option linter.unusedVariables false
set_option linter.unusedSimpArgs false
namespace Go.Proofs.YtnnmpaenainogaaGreat
open Go.RowKit Go.Maps
def ltN (x y : Nat) : Bool := decide (x < y)
theorem swo_ltN : Sort.SWO ltN :=
  ⟨fun x => by simp [ltN],fun x y z h k => by simp only [ltN,decide_eq_true_eq] at *; omega,fun x y z h k => by simp only [ltN,decide_eq_false_iff_not] at *; omega⟩
structure RowAt (w0 : World) (blk cap : Nat) (w : World) (d : Array Nat) : Prop where
  row : ∃ c : Array Value,w.heap[blk]? = some (.cells c 42 (0,0))∧c.size = cap∧∀ j,j < d.size→c[j]? = some (encP d[j]!)
  gr : w0.grownBy w (some blk)
  lt : blk < w0.heap.size
  fit : d.size≤cap
theorem RowAt.cell {w0 w : World} {blk cap : Nat} {d : Array Nat} (h : RowAt w0 blk cap w d) {j : Nat} (hj : j < d.size) : w.cell? ⟨blk,j,none⟩ = some (.int .u32 ((d[j]! : Nat) : Int)) := by
  obtain ⟨c,hb,hs,hc⟩ := h.row
  simp only [World.cell?,hb]
  exact hc j hj
theorem RowAt.froz {w0 w : World} {blk cap : Nat} {d : Array Nat} (h : RowAt w0 blk cap w d) (j : Nat) : w.frozen? ⟨blk,j,none⟩ = false := by
  obtain ⟨c,hb,hs,hc⟩ := h.row
  exact free_row hb j
theorem RowAt.grown {w0 w w' : World} {blk cap : Nat} {d : Array Nat} (h : RowAt w0 blk cap w d) (k : w.grownBy w' none) : RowAt w0 blk cap w' d := by
  obtain ⟨c,hb,hs,hc⟩ := h.row
  exact ⟨⟨c,(k.block blk (lt_of_block hb) (by simp)).trans hb,hs,hc⟩,gtrans h.gr (gwide k),h.lt,h.fit⟩
theorem RowAt.drewN {w0 w : World} {blk cap : Nat} {d : Array Nat} (h : RowAt w0 blk cap w d) (n : Nat) : RowAt w0 blk cap (w.drewN n) d := h.grown (gdrewN w n)
theorem RowAt.drew {w0 w : World} {blk cap : Nat} {d : Array Nat} (h : RowAt w0 blk cap w d) : RowAt w0 blk cap w.drew d := h.grown (gdrew w)
theorem RowAt.beside {w0 w : World} {blk cap g : Nat} {d : Array Nat} (h : RowAt w0 blk cap w d) (hg : w0.heap.size≤g) (k : Nat) (u : Value) : RowAt w0 blk cap (w.setCell ⟨g,k,none⟩ u) d := by
  obtain ⟨c,hb,hs,hc⟩ := h.row
  have hne : blk≠g := by have := h.lt; omega
  exact ⟨⟨c,(set_other _ _ _ (by simpa using hne)).trans hb,hs,hc⟩,gnew h.gr (gset w ⟨g,k,none⟩ u) hg,h.lt,h.fit⟩
theorem RowAt.put {w0 w : World} {blk cap : Nat} {d : Array Nat} (h : RowAt w0 blk cap w d) {i : Nat} (hi : i < d.size) (x : Nat) : RowAt w0 blk cap (w.setCell ⟨blk,i,none⟩ (encP x)) (d.setIfInBounds i x) := by
  obtain ⟨c,hb,hs,hc⟩ := h.row
  refine ⟨⟨c.setIfInBounds i (encP x),?_,by simpa using hs,fun j hj => ?_⟩,gtrans h.gr (gset w ⟨blk,i,none⟩ _),h.lt,by simpa using h.fit⟩
  · simp [World.setCell,Array.getElem?_modify,hb]
  · have hj' : j < d.size := by simpa using hj
    by_cases e : j = i
    · subst e
      rw [Sort.getElem!_set_same d j x hi]
      have := hc j hi
      have hjc : j < c.size := (Array.getElem?_eq_some_iff.1 this).1
      simp [hjc]
    · rw [Sort.getElem!_set_other d i j x e,Array.getElem?_setIfInBounds,if_neg (fun e' => e e'.symm)]
      exact hc j hj'
theorem RowAt.swap {w0 w : World} {blk cap : Nat} {d : Array Nat} (h : RowAt w0 blk cap w d) {i j x y : Nat} (hi : i < d.size) (hj : j < d.size) (hx : d[j]! = x) (hy : d[i]! = y) :
    RowAt w0 blk cap ((w.setCell ⟨blk,i,none⟩ (.int .u32 (x : Int))).setCell ⟨blk,j,none⟩ (.int .u32 (y : Int))) (Sort.swp d i j) := by
  subst hx; subst hy
  exact (h.put hi d[j]!).put (by simpa using hj) d[i]!
theorem size_swp' (d : Array Nat) (i j : Nat) : (Sort.swp d i j).size = d.size := by simp [Sort.swp]
set_option maxHeartbeats 400000 in
theorem nan_any (a : Int) (w : World) : Calls Tryz.prog 262 #[.int .u32 a] w fun r w' => r = .returned (.bool false)∧w = w' := by
  go_enter Tryz.func262,Tryz.ntmps262
  go_wp2
  go_ret
  exact ⟨rfl,rfl⟩
set_option maxHeartbeats 400000 in
theorem less_any (x y : Nat) (b : Bool) (hb : ltN x y = b) (w : World) : Calls Tryz.prog 271 #[.int .u32 (x : Int),.int .u32 (y : Int)] w fun r w' => r = .returned (.bool b)∧w' = w := by
  by_cases h : x < y
  · have hi : (x : Int) < (y : Int) := by omega
    have HB := Lib.hid (show b = true by rw [← hb]; simpa [ltN] using h)
    go_enter Tryz.func271,Tryz.ntmps271
    go_wp2_with (first
      | (go_at_call 262; refine (nan_any _ w).mono ?_; rintro r w1 ⟨rfl,rfl⟩))
    go_ret
    exact ⟨by rw [HB.out]; rfl,rfl⟩
  · have hi : ¬ (x : Int) < (y : Int) := by omega
    have HB := Lib.hid (show b = false by rw [← hb]; simpa [ltN] using h)
    go_enter Tryz.func271,Tryz.ntmps271
    go_wp2_with (first
      | (go_at_call 262; refine (nan_any _ w).mono ?_; rintro r w1 ⟨rfl,rfl⟩))
    go_ret
    exact ⟨by rw [HB.out]; rfl,rfl⟩
end Go.Proofs.YtnnmpaenainogaaGreat

namespace Go.Proofs.YtnnmpaenainogaaGreat
open Go.RowKit Go.Maps
theorem insInner_go (a j : Nat) (d : Array Nat) (h : a < j + 1) (hl : ltN d[j + 1]! d[j]! = true) : Sort.insInner ltN a (j + 1) d = Sort.insInner ltN a j (Sort.swp d (j + 1) j) := by
  conv => lhs; unfold Sort.insInner
  rw [if_pos (by simp [hl]; omega)]
theorem insInner_stop (a j : Nat) (d : Array Nat) (h : ¬ (a < j + 1∧ltN d[j + 1]! d[j]! = true)) : Sort.insInner ltN a (j + 1) d = d := by
  conv => lhs; unfold Sort.insInner
  rw [if_neg]
  intro k
  simp only [Bool.and_eq_true,decide_eq_true_eq] at k
  exact h ⟨k.1,k.2⟩
theorem insInner_low (a j : Nat) (d : Array Nat) (h : j≤a) : Sort.insInner ltN a j d = d := by
  cases j with
  | zero => rfl
  | succ j => exact insInner_stop a j d (fun k => by omega)
theorem insOuter_go (a b i : Nat) (d : Array Nat) (h : i < b) : Sort.insOuter ltN a b i d = Sort.insOuter ltN a b (i + 1) (Sort.insInner ltN a i d) := by
  conv => lhs; unfold Sort.insOuter
  rw [if_pos h]
set_option maxHeartbeats 4000000 in
set_option maxRecDepth 100000 in
theorem insertion_any (w0 w : World) (blk cap a b : Nat) (d : Array Nat) (h : RowAt w0 blk cap w d) (hab : a≤b) (hb : b≤d.size) (hsz : d.size≤100000) :
    Calls Tryz.prog 265 #[.slice (some ⟨blk,0,none⟩) d.size cap,.int .i64 (a : Int),.int .i64 (b : Int)] w fun r w' => r = .returned (.tuple #[])∧RowAt w0 blk cap w' (Sort.insertionSort ltN d a b) := by
  obtain ⟨n,hn⟩ : ∃ n,n = d.size := ⟨_,rfl⟩
  have H0 := Lib.hid h
  have HN := Lib.hid hn
  rw [← hn] at hb hsz ⊢
  clear h hn
  go_enter Tryz.func265,Tryz.ntmps265
  go_wp2
  go_loopg [6] (b - a) (fun g v wr => ∃ (i : Nat) (dk : Array Nat),v = .int .i64 (i : Int)∧a + 1≤i∧i≤b + 1∧b≤g + i∧RowAt w0 blk cap wr dk∧Hid (dk.size = n∧Sort.insOuter ltN a b i dk = Sort.insertionSort ltN d a b))
  case atStart => exact ⟨a + 1,d,by simp,Nat.le_refl _,by omega,by omega,H0.out,Lib.hid ⟨HN.out.symm,rfl⟩⟩
  case round =>
    obtain ⟨i,dk,rfl,h1,h2,h3,hrow,HK⟩ := hrel
    have HR := Lib.hid hrow
    clear hrow
    by_cases hib : i < b
    · have hibi : (i : Int) < (b : Int) := by omega
      go_wp2
      go_loopg [7] i (fun g2 v2 wr2 => ∃ (j : Nat) (dj : Array Nat),v2 = .int .i64 (j : Int)∧j = g2∧j≤i∧RowAt w0 blk cap wr2 dj∧Hid (dj.size = n∧Sort.insInner ltN a j dj = Sort.insInner ltN a i dk))
      case atStart => exact ⟨i,dk,rfl,rfl,Nat.le_refl _,HR.out,Lib.hid ⟨HK.out.1,rfl⟩⟩
      case round =>
        obtain ⟨j,dj,rfl,rfl,hji,hrow2,HJ⟩ := hrel
        have HR2 := Lib.hid hrow2
        by_cases hja : a < j
        · have hja1 : (a : Int) < (j : Int) := by omega
          have hj1 : (1 : Int)≤(j : Int) := by omega
          have hjs : j < dj.size := by rw [HJ.out.1]; omega
          have c1 := hrow2.cell hjs
          have c2 := hrow2.cell (show j - 1 < dj.size by omega)
          have f1 := hrow2.froz j
          have f2 := hrow2.froz (j - 1)
          obtain ⟨x,hx⟩ : ∃ x,dj[j]! = x := ⟨_,rfl⟩
          obtain ⟨y,hy⟩ : ∃ y,dj[j - 1]! = y := ⟨_,rfl⟩
          rw [hx] at c1
          rw [hy] at c2
          have HX := Lib.hid hx
          have HY := Lib.hid hy
          have hjn : (j : Int) < (n : Int) := by rw [HJ.out.1] at hjs; omega
          have hjn2 : (j : Int) - 1 < (n : Int) := by omega
          have hw1 : IntKind.i64.wrap ((j : Int) - 1) = (j : Int) - 1 := IntWalk.i64_in _ ⟨by omega,by omega⟩
          clear hx hy hrow2 hjs
          obtain ⟨lb,hlb⟩ : ∃ lb,ltN x y = lb := ⟨_,rfl⟩
          have HL := Lib.hid hlb
          clear hlb
          go_wp2_with fail
          go_quiet (first | (go_at_call 271; refine Calls.quiet_of_same (less_any x y lb HL.out _)))
          have HR3 := Lib.hid (HR2.out.drewN nq)
          have d1 : (wr.drewN nq).cell? ⟨blk,j,none⟩ = _ := c1
          have d2 : (wr.drewN nq).cell? ⟨blk,j - 1,none⟩ = _ := c2
          have g1 : (wr.drewN nq).frozen? ⟨blk,j,none⟩ = _ := f1
          have g2 : (wr.drewN nq).frozen? ⟨blk,j - 1,none⟩ = _ := f2
          clear c1 c2 f1 f2
          generalize wr.drewN nq = W at HR3 d1 d2 g1 g2 ⊢
          cases lb with
          | true =>
            go_wp2_with fail
            go_region
            all_goals
              go_wp2
              go_roundg (j - 1)
              case rel =>
                refine ⟨j - 1,Sort.swp dj j (j - 1),by congr 1; omega,rfl,by omega,HR3.out.drew.swap (by rw [HJ.out.1]; omega) (by rw [HJ.out.1]; omega) HY.out HX.out,Lib.hid ⟨by rw [size_swp']; exact HJ.out.1,?_⟩⟩
                rw [← HJ.out.2]
                have e := insInner_go a (j - 1) dj (by omega)
                rw [show j - 1 + 1 = j by omega] at e
                exact (e (by rw [HX.out,HY.out]; exact HL.out)).symm
              case measure => omega
          | false =>
            go_wp2
            go_roundg (b - (i + 1))
            case rel =>
              refine ⟨i + 1,dj,by simp,by omega,by omega,by omega,HR3.out,Lib.hid ⟨HJ.out.1,?_⟩⟩
              have e := insInner_stop a (j - 1) dj
              rw [show j - 1 + 1 = j by omega,HX.out,HY.out,HL.out] at e
              rw [← HK.out.2,insOuter_go a b i dk hib,← HJ.out.2,e (by simp)]
            case measure => omega
        · have hja2 : ¬ (a : Int) < (j : Int) := by omega
          go_wp2_with fail
          go_quiet (first | (go_at_call 271; refine Calls.quiet_of_same (less_any 0 0 false rfl _)))
          go_wp2
          go_roundg (b - (i + 1))
          case rel =>
            refine ⟨i + 1,dj,by simp,by omega,by omega,by omega,HR2.out.drewN nq,Lib.hid ⟨HJ.out.1,?_⟩⟩
            rw [← HK.out.2,insOuter_go a b i dk hib,← HJ.out.2,insInner_low a j dj (by omega)]
          case measure => omega
    · have hibi : ¬ (i : Int) < (b : Int) := by omega
      have HE := Lib.hid (show dk = Sort.insertionSort ltN d a b by
        rw [← HK.out.2]
        unfold Sort.insOuter
        rw [if_neg hib])
      go_wp2
      go_end0
      exact ⟨rfl,by rw [← HE.out]; exact HR.out⟩
end Go.Proofs.YtnnmpaenainogaaGreat
