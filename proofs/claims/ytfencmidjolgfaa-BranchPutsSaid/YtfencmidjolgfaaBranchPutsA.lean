/-
  'BranchPuts' returns true for every input: whether any entries may be put in a page, and the page, are the document's; it is got as they were; where any key leads is the document's. No condition. Own work; the frame is the guide's.
-/
import Derived.Test.YtfencmidjolgfaaBeA
import Derived.Test.YtfencmidjolgfaaBrG
import Derived.Deep.QuietTactic
import Derived.BigQuiet
import Derived.Test.YtfencmidjolgfaaBeC
import Derived.Test.YtfencmidjolgfaaRefN
import Derived.Deep.RegionHeld3
import Derived.Test.YtfencmidjolgfaaBeF
import Derived.Test.YtfencmidjolgfaaBrT
import Derived.Test.YtfencmidjolgfaaBrF
import Derived.Test.YtfencmidjolgfaaBrO
import Derived.ProofKit
import Derived.OpenShut
import Derived.ShutString
import Derived.ChangeOld

namespace Go.Proofs.Ytfencmidjolgfaa
open Go.RowKit

set_option maxHeartbeats 1000000 in
theorem hfill_any (w : World) (ao : Option Addr) (n c : Nat) (l : List En) (h : RRow5 w (.slice ao n c) l) (hs : ∀ x ∈ l, x.key.length ≤ 100000) :
    Calls Try.prog 38 #[.slice ao n c] w fun r w' => r = .returned (.int .i64 (fillL brY l)) ∧ w = w' := by
  obtain ⟨hn, hn9⟩ := h.len
  have HN := Lib.hid hn
  have H := Lib.hid h
  have HS := Lib.hid hs
  clear hn h hs
  go_enter Try.func38, Try.ntmps38
  go_wp2
  go_loop [3, 4] (fun s i => ∃ k : Nat, k ≤ n ∧ i = .int .i64 k ∧ s = .int .i64 (fillK brY l k) ∧ fillK brY l k ≤ 4 + 200006 * k) (fun _ i => n - (intOf i).toNat)
  case atStart => exact ⟨0, Nat.zero_le _, rfl, rfl, Nat.le_refl _⟩
  case round =>
    obtain ⟨k, hk, rfl, rfl, hf⟩ := hrel
    by_cases hlt : k < n
    · obtain ⟨x, hx⟩ : ∃ x, l[k]? = some x := ⟨_, List.getElem?_eq_getElem (by have := HN.out; omega)⟩
      obtain ⟨b, o, rfl, hb, q0, q1⟩ := H.out.at k x hx
      have hkl := HS.out x (List.mem_of_getElem? hx)
      have hki : (k : Int) < (n : Int) := by omega
      have hs01 : fillK brY l (k + 1) = fillK brY l k + (7 + x.key.length) := by have := bfillK_snoc hx; unfold bcl at this; omega
      obtain ⟨T, hT⟩ : ∃ T, T = strOfNums x.key := ⟨_, rfl⟩
      have hsz : T.size = x.key.length := by rw [hT, strOfNums_size]
      obtain ⟨L, hL⟩ : ∃ L, L = x.key.length := ⟨_, rfl⟩
      rw [← hT] at q0
      rw [← hL] at hsz hs01 hkl
      obtain ⟨s0, hs0⟩ : ∃ s0, s0 = fillK brY l k := ⟨_, rfl⟩
      obtain ⟨s1, hs1⟩ : ∃ s1, s1 = fillK brY l (k + 1) := ⟨_, rfl⟩
      rw [← hs0, ← hs1] at hs01
      rw [← hs0] at hf ⊢
      have hw1 : IntKind.i64.wrap (7 + (L : Int)) = 7 + (L : Int) := IntWalk.i64_in _ (by omega)
      have hw2 : IntKind.i64.wrap ((s0 : Int) + (7 + (L : Int))) = (s1 : Int) := by rw [IntWalk.i64_in _ (by omega)]; omega
      have hk1 : IntKind.i64.wrap ((k : Int) + 1) = (k : Int) + 1 := IntWalk.i64_in _ (by omega)
      have HS1 := Lib.hid hs1
      have HSB := Lib.hid (show s1 ≤ 4 + 200006 * (k + 1) by omega)
      clear hx hs0 hs1 hs01 hkl hf q1 hT hL
      go_wp2
      go_round
      case rel => exact ⟨k + 1, by omega, by go_num, by rw [HS1.out], by rw [← HS1.out]; exact HSB.out⟩
      case measure => simp [intOf]; omega
    · obtain rfl : k = n := by omega
      go_wp2
      go_ret
      exact ⟨by rw [HN.out]; rfl, rfl⟩

/-- Where the reference stands behind i entries. -/
def atL (p i : Nat) : Nat := if i ≤ p then i - 1 else p
set_option maxHeartbeats 1000000 in
theorem hfind_at (w : World) (ao : Option Addr) (n c : Nat) (l : List En) (key : List Int) (p : Nat) (h : RRow5 w (.slice ao n c) l) (ho : ∀ x ∈ l, Byt x.key) (hk : Byt key) (h0 : ∀ x, l[0]? = some x → x.key = []) (hp : LeadsTo l key p) :
    Calls Try.prog 40 #[.slice ao n c, .string (strOfNums key)] w fun r w' => r = .returned (.int .i64 p) ∧ w = w' := by
  obtain ⟨hn, hn9⟩ := h.len
  have hpn : p < n := by have := hp.1; omega
  have HN := Lib.hid hn
  have H := Lib.hid h
  have HO := Lib.hid ho
  have HK := Lib.hid hk
  have H0 := Lib.hid h0
  have HP := Lib.hid hp
  clear hn h ho hk h0 hp
  obtain ⟨K, hK⟩ : ∃ K, K = strOfNums key := ⟨_, rfl⟩
  rw [← hK]
  have HKE := Lib.hid hK
  clear hK
  go_enter Try.func40, Try.ntmps40
  go_wp2
  go_loop [5, 6] (fun a i => ∃ k : Nat, k ≤ n ∧ i = .int .i64 k ∧ a = .int .i64 ((atL p k : Nat) : Int)) (fun _ i => n - (intOf i).toNat)
  case atStart => exact ⟨0, Nat.zero_le _, rfl, by simp [atL]⟩
  case round =>
    obtain ⟨k, hk, rfl, rfl⟩ := hrel
    by_cases hlt : k < n
    · obtain ⟨x, hx⟩ : ∃ x, l[k]? = some x := ⟨_, List.getElem?_eq_getElem (by have := HN.out; omega)⟩
      obtain ⟨b, o, rfl, hb, q0, q1⟩ := H.out.at k x hx
      have hxo := HO.out x (List.mem_of_getElem? hx)
      have hki : (k : Int) < (n : Int) := by omega
      have hl := less_str HK.out hxo
      have he := eq_str hxo HK.out
      have hl2 := less_str hxo HK.out
      have hlo : k ≤ p → cmpL x.key key ≤ 0 := fun h => by
        rcases Nat.eq_zero_or_pos k with e | e
        · subst e; rw [H0.out x hx, cmpL_nil]; split <;> omega
        · exact HP.out.2.1 k x e h hx
      have hhi : p < k → 0 < cmpL x.key key := fun h => HP.out.2.2 k x h hx
      have hanti := cmpL_anti x.key key
      rw [← HKE.out] at hl he hl2
      obtain ⟨S, hS⟩ : ∃ S, S = strOfNums x.key := ⟨_, rfl⟩
      rw [← hS] at q0 hl he hl2
      have hk1 : IntKind.i64.wrap ((k : Int) + 1) = (k : Int) + 1 := IntWalk.i64_in _ (by omega)
      by_cases hkp : k ≤ p
      · have h1 := hlo hkp
        have HE := Lib.hid (show atL p (k + 1) = k by unfold atL; split <;> omega)
        rcases (show cmpL x.key key < 0 ∨ cmpL x.key key = 0 by omega) with h2 | h2
        · rw [decide_eq_true h2] at hl2
          clear hl he hlo hhi hanti h1 h2 hx hxo hS q1
          go_wp2
          go_round
          case rel => exact ⟨k + 1, by omega, by go_num, by rw [HE.out]⟩
          case measure => simp [intOf]; omega
        · rw [decide_eq_false (by omega)] at hl2
          rw [decide_eq_true h2] at he
          have he3 := eq_of_beq he
          clear hl hlo hhi hanti h1 h2 hx hxo hS q1
          go_wp2
          go_round
          case rel => exact ⟨k + 1, by omega, by go_num, by rw [HE.out]⟩
          case measure => simp [intOf]; omega
      · have h1 := hhi (by omega)
        have HE := Lib.hid (show atL p (k + 1) = atL p k by unfold atL; rw [if_neg (by omega), if_neg (by omega)])
        rw [decide_eq_false (by omega)] at hl2
        rw [decide_eq_false (by omega)] at he
        have he3 : ¬ S.toList = K.toList := fun e => by rw [e] at he; simp at he
        clear hl hlo hhi hanti h1 hx hxo hS q1
        go_wp2
        go_round
        case rel => exact ⟨k + 1, by omega, by go_num, by rw [HE.out]⟩
        case measure => simp [intOf]; omega
    · obtain rfl : k = n := by omega
      have HE := Lib.hid (show atL p k = p by unfold atL; split <;> omega)
      rw [HE.out]
      go_wp2
      go_ret
      exact ⟨rfl, rfl⟩

end Go.Proofs.Ytfencmidjolgfaa

namespace Go.Proofs.Ytfencmidjolgfaa
open Go.RowKit

theorem str_empty {k : List Int} (hk : Byt k) (h : k ≠ []) : ¬ (strOfNums k).toList = [] := fun e => by
  have h1 := eq_str hk (show Byt [] from fun x hx => by cases hx)
  rw [e, show (strOfNums []).toList = [] by simp [strOfNums]] at h1
  have h2 : cmpL k [] = 0 := by simpa using h1
  exact h (cmpL_eq _ _ h2)
def HRightR (l : List En) (size : Int) (w w' : World) (r : Ending) : Prop := ∃ b : Bool, r = .returned (.bool b) ∧ (b = true ↔ BRightP l size) ∧ w.grownBy w' none

set_option maxRecDepth 100000 in
set_option maxHeartbeats 4000000 in
theorem hright_any (w : World) (ao : Option Addr) (n c : Nat) (l : List En) (size : Int) (h : RRow5 w (.slice ao n c) l) (ho : ∀ x ∈ l, Byt x.key ∧ x.key.length ≤ 100000) :
    Calls Try.prog 35 #[.slice ao n c, .int .i64 size] w fun r w' => HRightR l size w w' r := by
  obtain ⟨hn, hn9⟩ := h.len
  have HN := Lib.hid hn
  have H := Lib.hid h
  have HO := Lib.hid ho
  clear hn h ho
  by_cases hs1 : 512 ≤ size
  · have hd0 : decide (size < 512) = false := by simp; omega
    by_cases hs2 : size ≤ 4096
    · have hd1 : decide ((4096 : Int) < size) = false := by simp; omega
      by_cases h2 : 2 ≤ n
      · have hd2 : decide ((n : Int) < 2) = false := by simp; omega
        have hd3 : decide (n < 2) = false := by simp; omega
        have h0n : (0 : Int) < (n : Int) := by omega
        have h0m : 0 < n := by omega
        obtain ⟨x0, hx0⟩ : ∃ x, l[0]? = some x := ⟨_, List.getElem?_eq_getElem (by have := HN.out; omega)⟩
        obtain ⟨b, o, rfl, hb, q0, q1⟩ := H.out.at 0 x0 hx0
        simp only [Nat.zero_mul, Nat.add_zero] at q0 q1
        have HX0 := Lib.hid hx0
        by_cases hz : x0.key = []
        · rw [hz, show strOfNums [] = ({ data := #[] } : ByteArray) from rfl] at q0
          have HZ := Lib.hid hz
          clear hz hx0
          by_cases hc : 2 ≤ x0.first
          · have hd4 : decide (x0.first < 2) = false := by simp; omega
            have HR := Lib.hid (show BTo l l.length ↔ BRightP l size from ⟨fun h => ⟨hs1, hs2, by rw [← HN.out]; exact h2, (fun x hx => by rw [HX0.out] at hx; cases hx; exact HZ.out), h⟩, fun h => h.2.2.2.2⟩)
            have HB1 := Lib.hid ((BTo.zero l).snoc HX0.out hc (fun i y hi => by omega))
            go_enter Try.func35, Try.ntmps35
            go_wp2
            clear q0 q1 hd0 hd1 hd2 hd3 hd4 hc
            go_loopw [5] (fun i wr => ∃ k : Nat, 1 ≤ k ∧ k ≤ n ∧ i = .int .i64 k ∧ BTo l k ∧ w.grownBy wr none) (fun i _ => n - (intOf i).toNat)
            case atStart => exact ⟨1, Nat.le_refl _, by omega, rfl, HB1.out, grefl _ _⟩
            case round =>
              obtain ⟨k, hk1, hk, rfl, hr, hg⟩ := hrel
              have HG := Lib.hid hg
              have HRT := Lib.hid hr
              clear hg hr
              by_cases hlt : k < n
              · have hki : (k : Int) < (n : Int) := by omega
                obtain ⟨x, hx⟩ : ∃ x, l[k]? = some x := ⟨_, List.getElem?_eq_getElem (by have := HN.out; omega)⟩
                have HE := Lib.hid (H.out.grown HG.out)
                obtain ⟨b', o', hbo, hb', q0, q1⟩ := HE.out.at k x hx
                injection hbo with hbo
                injection hbo with e1 e2
                subst e1 e2
                obtain ⟨y, hy⟩ : ∃ y, l[k - 1]? = some y := ⟨_, List.getElem?_eq_getElem (by have := HN.out; omega)⟩
                obtain ⟨b3, o3, hbo, _, p0, _⟩ := HE.out.at (k - 1) y hy
                injection hbo with hbo
                injection hbo with e1 e2
                subst e1 e2
                have HX := Lib.hid hx
                have HY := Lib.hid hy
                obtain ⟨hxb, hxl⟩ := HO.out x (List.mem_of_getElem? hx)
                obtain ⟨hyb, _⟩ := HO.out y (List.mem_of_getElem? hy)
                have i1 : (0 : Int) ≤ (k : Int) - 1 := by omega
                have i2 : (k : Int) - 1 < (n : Int) := by omega
                have i3 : ((k : Int) - 1).toNat = k - 1 := by omega
                have i4 : IntKind.i64.wrap ((k : Int) - 1) = (k : Int) - 1 := IntWalk.i64_in _ (by omega)
                have i5 : IntKind.i64.wrap ((k : Int) + 1) = (k : Int) + 1 := IntWalk.i64_in _ (by omega)
                have hl := less_str hyb hxb
                have hS0 := fun (e : x.key ≠ []) => str_empty hxb e
                have hS1 := strOfNums_size x.key
                obtain ⟨S, hS⟩ : ∃ S, S = strOfNums x.key := ⟨_, rfl⟩
                obtain ⟨T, hT⟩ : ∃ T, T = strOfNums y.key := ⟨_, rfl⟩
                rw [← hS] at q0 hl hS0 hS1
                rw [← hT] at p0 hl
                by_cases hc1 : x.key = []
                · have HC := Lib.hid hc1
                  rw [hS, hc1, show strOfNums [] = ({ data := #[] } : ByteArray) from rfl] at q0
                  clear hl hS0 hS1 hS hT hx hy hxb hxl hyb hc1
                  go_wp2
                  go_quiet (fail)
                  go_wp2
                  go_ret
                  exact ⟨false, rfl, ⟨(fun e => by cases e), (fun h => absurd ((HR.out.2 h k x (by have := HN.out; omega) HX.out).2 (k - 1) y (by omega) HY.out).1 (by rw [HC.out]; simp))⟩, gtrans HG.out ⟨rfl, rfl, rfl, Nat.le_refl _, fun _ _ _ => rfl⟩⟩
                · have hS2 := hS0 hc1
                  have hS3 : S.toList.isEmpty = false := by simpa using hS2
                  have hS4 : (S.toList == []) = false := by simpa using hS2
                  have HC1 := Lib.hid hc1
                  obtain ⟨L, hL⟩ : ∃ L, L = x.key.length := ⟨_, rfl⟩
                  rw [← hL] at hS1 hxl
                  have HL := Lib.hid hL
                  clear hS0 hS hT hx hy hxb hyb hc1 hL
                  by_cases hc2 : L ≤ 96
                  · have hd5 : decide ((96 : Int) < (L : Int)) = false := by simp; omega
                    have hd6 : decide (96 < L) = false := by simp; omega
                    by_cases hc3 : 2 ≤ x.first
                    · have hd7 : decide (x.first < 2) = false := by simp; omega
                      by_cases hc4 : cmpL y.key x.key < 0
                      · rw [decide_eq_true hc4] at hl
                        have HC := Lib.hid (show 1 ≤ x.key.length ∧ x.key.length ≤ 96 ∧ cmpL y.key x.key < 0 from ⟨by rcases Nat.eq_zero_or_pos x.key.length with e | e; exact absurd (List.eq_nil_of_length_eq_zero e) HC1.out; exact e, by rw [← HL.out]; exact hc2, hc4⟩)
                        clear hc4
                        go_wp2
                        go_quiet (fail)
                        go_wp2
                        go_roundw
                        case rel => exact ⟨k + 1, by omega, by omega, by go_num, HRT.out.snoc HX.out hc3 (fun i y' hi hy' => by
                          obtain rfl : i = k - 1 := by omega
                          rw [HY.out] at hy'; cases hy'; exact HC.out), gtrans HG.out ⟨rfl, rfl, rfl, Nat.le_refl _, fun _ _ _ => rfl⟩⟩
                        case measure => simp [intOf]; omega
                      · rw [decide_eq_false hc4] at hl
                        have HC := Lib.hid hc4
                        clear hc4
                        go_wp2
                        go_quiet (fail)
                        go_wp2
                        go_ret
                        exact ⟨false, rfl, ⟨(fun e => by cases e), (fun h => absurd ((HR.out.2 h k x (by have := HN.out; omega) HX.out).2 (k - 1) y (by omega) HY.out).2.2 (by have := HC.out; omega))⟩, gtrans HG.out ⟨rfl, rfl, rfl, Nat.le_refl _, fun _ _ _ => rfl⟩⟩
                    · have hd7 : decide (x.first < 2) = true := by simp; omega
                      clear hl
                      go_wp2
                      go_quiet (fail)
                      go_wp2
                      go_ret
                      exact ⟨false, rfl, ⟨(fun e => by cases e), (fun h => absurd (HR.out.2 h k x (by have := HN.out; omega) HX.out).1 (by omega))⟩, gtrans HG.out ⟨rfl, rfl, rfl, Nat.le_refl _, fun _ _ _ => rfl⟩⟩
                  · have hd5 : decide ((96 : Int) < (L : Int)) = true := by simp; omega
                    have hd6 : decide (96 < L) = true := by simp; omega
                    clear hl
                    go_wp2
                    go_quiet (fail)
                    go_wp2
                    go_ret
                    exact ⟨false, rfl, ⟨(fun e => by cases e), (fun h => absurd ((HR.out.2 h k x (by have := HN.out; omega) HX.out).2 (k - 1) y (by omega) HY.out).2.1 (by rw [← HL.out]; exact hc2))⟩, gtrans HG.out ⟨rfl, rfl, rfl, Nat.le_refl _, fun _ _ _ => rfl⟩⟩
              · obtain rfl : k = n := by omega
                have HF := Lib.hid (show BRightP l size from HR.out.1 (by rw [← HN.out]; exact HRT.out))
                go_wp2
                go_ret
                exact ⟨true, rfl, ⟨fun _ => HF.out, fun _ => rfl⟩, HG.out⟩
          · have hd4 : decide (x0.first < 2) = true := by simp; omega
            have HC := Lib.hid hc
            clear hc
            go_enter Try.func35, Try.ntmps35
            go_wp2
            go_ret
            exact ⟨false, rfl, ⟨(fun e => by cases e), (fun h => absurd (h.2.2.2.2 0 x0 (by have := HN.out; omega) HX0.out).1 (by have := HC.out; omega))⟩, grefl _ _⟩
        · have hT1 := str_empty (HO.out x0 (List.mem_of_getElem? hx0)).1 hz
          obtain ⟨T, hT⟩ : ∃ T, T = strOfNums x0.key := ⟨_, rfl⟩
          rw [← hT] at q0 hT1
          have HZ := Lib.hid hz
          clear hT hz hx0
          go_enter Try.func35, Try.ntmps35
          go_wp2
          go_ret
          exact ⟨false, rfl, ⟨(fun e => by cases e), (fun h => absurd (h.2.2.2.1 x0 HX0.out) HZ.out)⟩, grefl _ _⟩
      · have hd2 : decide ((n : Int) < 2) = true := by simp; omega
        have hd3 : decide (n < 2) = true := by simp; omega
        go_enter Try.func35, Try.ntmps35
        go_wp2
        go_ret
        exact ⟨false, rfl, ⟨(fun e => by cases e), (fun h => absurd h.2.2.1 (by rw [← HN.out]; exact h2))⟩, grefl _ _⟩
    · have hd1 : decide ((4096 : Int) < size) = true := by simp; omega
      go_enter Try.func35, Try.ntmps35
      go_wp2
      go_ret
      exact ⟨false, rfl, ⟨(fun e => by cases e), (fun h => absurd h.2.1 (by omega))⟩, grefl _ _⟩
  · have hd0 : decide (size < 512) = true := by simp; omega
    go_enter Try.func35, Try.ntmps35
    go_wp2
    go_ret
    exact ⟨false, rfl, ⟨(fun e => by cases e), (fun h => absurd h.1 (by omega))⟩, grefl _ _⟩

end Go.Proofs.Ytfencmidjolgfaa

namespace Go.Proofs.Ytfencmidjolgfaa
open Go.RowKit

theorem hright_yes {w : World} {ao : Option Addr} {n c : Nat} {l : List En} {size : Int} (h : RRow5 w (.slice ao n c) l) (ho : ∀ x ∈ l, Byt x.key ∧ x.key.length ≤ 100000) (hr : BRightP l size) :
    Calls Try.prog 35 #[.slice ao n c, .int .i64 size] w fun r w' => r = .returned (.bool true) ∧ w.grownBy w' none :=
  (hright_any w ao n c l size h ho).mono fun r w' ⟨b, e, hb, hg⟩ => ⟨by rw [e, hb.2 hr], hg⟩
theorem hright_no {w : World} {ao : Option Addr} {n c : Nat} {l : List En} {size : Int} (h : RRow5 w (.slice ao n c) l) (ho : ∀ x ∈ l, Byt x.key ∧ x.key.length ≤ 100000) (hr : ¬ BRightP l size) :
    Calls Try.prog 35 #[.slice ao n c, .int .i64 size] w fun r w' => r = .returned (.bool false) ∧ w.grownBy w' none :=
  (hright_any w ao n c l size h ho).mono fun r w' ⟨b, e, hb, hg⟩ => ⟨by
    cases b with
    | false => exact e
    | true => exact absurd (hb.1 rfl) hr, hg⟩

set_option maxHeartbeats 1000000 in
theorem hput_arg (w : World) (ao : Option Addr) (n c : Nat) (l : List En) (size : Int) (h : RRow5 w (.slice ao n c) l) (ho : ∀ x ∈ l, Byt x.key ∧ x.key.length ≤ 100000) (hr : ¬ BRightP l size) :
    Calls Try.prog 34 #[.slice ao n c, .int .i64 size] w fun r w' => r = .returned (.tuple #[.string { data := #[] }, .int .i64 1]) ∧ w.grownBy w' none := by
  have H := Lib.hid h
  have HO := Lib.hid ho
  have HR := Lib.hid hr
  clear h ho hr
  go_enter Try.func34, Try.ntmps34
  go_wp2_with (go_at_call 35; refine (hright_no H.out HO.out HR.out).mono ?_; rintro r w1 ⟨rfl, hg1⟩; have HG1 := Lib.hid hg1; clear hg1)
  go_ret2
  exact ⟨rfl, HG1.out⟩
set_option maxHeartbeats 1000000 in
theorem hput_full (w : World) (ao : Option Addr) (n c : Nat) (l : List En) (size : Int) (h : RRow5 w (.slice ao n c) l) (ho : ∀ x ∈ l, Byt x.key ∧ x.key.length ≤ 100000) (hr : BRightP l size) (hf : size < (fillL brY l : Int)) :
    Calls Try.prog 34 #[.slice ao n c, .int .i64 size] w fun r w' => r = .returned (.tuple #[.string { data := #[] }, .int .i64 21]) ∧ w.grownBy w' none := by
  have H := Lib.hid h
  have HO := Lib.hid ho
  have HR := Lib.hid hr
  obtain ⟨F, hF⟩ : ∃ F, F = fillL brY l := ⟨_, rfl⟩
  rw [← hF] at hf
  have HF := Lib.hid hF
  have hd : decide (size < (F : Int)) = true := by simpa using hf
  clear h ho hr hF
  go_enter Try.func34, Try.ntmps34
  go_wp2_with (first
    | (go_at_call 35; refine (hright_yes H.out HO.out HR.out).mono ?_; rintro r w1 ⟨rfl, hg1⟩; have HG1 := Lib.hid hg1; have HH1 := Lib.hid (H.out.grown hg1); clear hg1)
    | (go_at_call 38; have Kc := hfill_any w1 _ _ _ l HH1.out (fun x hx => (HO.out x hx).2); rw [← HF.out] at Kc; refine Kc.mono ?_; clear Kc; rintro r w2 ⟨rfl, rfl⟩))
  go_ret2
  exact ⟨rfl, HG1.out⟩

end Go.Proofs.Ytfencmidjolgfaa

namespace Go.Proofs.Ytfencmidjolgfaa
open Go.RowKit

theorem refNum_at (w : World) (X n : Nat) (i : Int) (hi : i = (n : Int)) (hX : X < 18446744073709551616) (h1 : 1 ≤ n) (h8 : n ≤ 8) :
    Calls Try.prog 44 #[.int .u64 X, .int .i64 i] w fun r w' => r = .returned (.string (strOfNums (numB (X : Int) n n))) ∧ w.grownBy w' none := by
  subst hi; exact refNum_in w X n hX h1 h8

set_option maxRecDepth 1000000 in
set_option maxHeartbeats 8000000 in
theorem hput_ok (w : World) (ao : Option Addr) (n c : Nat) (l : List En) (S : Nat) (h : RRow5 w (.slice ao n c) l) (ho : ∀ x ∈ l, BOk x ∧ x.key.length ≤ 120) (hr : BRightP l S) (hf : fillL brY l ≤ S) :
    Calls Try.prog 34 #[.slice ao n c, .int .i64 S] w fun r w' => r = .returned (.tuple #[.string (strOfNums (pageB brY l S)), .int .i64 0]) ∧ w.grownBy w' none := by
  obtain ⟨hn, hn9⟩ := h.len
  have hS5 : 512 ≤ S := by have := hr.1; omega
  have hS9 : S ≤ 4096 := by have := hr.2.1; omega
  have HN := Lib.hid hn
  have H := Lib.hid h
  have HO := Lib.hid ho
  have HO2 := Lib.hid (fun x hx => (show Byt x.key ∧ x.key.length ≤ 100000 from ⟨(ho x hx).1.ok.k, (ho x hx).1.ok.kl⟩))
  have HR := Lib.hid hr
  obtain ⟨F, hF⟩ : ∃ F, F = fillL brY l := ⟨_, rfl⟩
  rw [← hF] at hf
  have HF := Lib.hid hF
  have hd : decide ((S : Int) < (F : Int)) = false := by simp; omega
  have hun : IntKind.u64.wrap (n : Int) = (n : Int) := by rw [show IntKind.u64.wrap (n : Int) = (n : Int) % 18446744073709551616 from rfl]; omega
  clear h ho hr hF hn
  go_enter Try.func34, Try.ntmps34
  go_wp2_with (first
    | (go_at_call 35; refine (hright_yes H.out HO2.out HR.out).mono ?_; rintro r w1 ⟨rfl, hg1⟩; have HG1 := Lib.hid hg1; have HH1 := Lib.hid (H.out.grown hg1); clear hg1)
    | (go_at_call 38; have Kc := hfill_any w1 _ _ _ l HH1.out (fun x hx => (HO2.out x hx).2); rw [← HF.out] at Kc; refine Kc.mono ?_; clear Kc; rintro r w2 ⟨rfl, rfl⟩)
    | (go_at_call 44; refine (refNum_in _ n 2 (by omega) (by omega) (by omega)).mono ?_; rintro r w2 ⟨rfl, hg2⟩; have HG2 := Lib.hid (gtrans HG1.out hg2); clear hg2))
  go_loopg [8, 9, 10] n (fun q s cl i wr => ∃ (k : Nat), k + q = n ∧ i = .int .i64 (k : Int) ∧ s = .string (strOfNums (hdB brY l S k)) ∧ cl = .string (strOfNums (tlB brY l k)) ∧ w.grownBy wr none)
  case atStart => exact ⟨0, by omega, rfl, by rw [show hdB brY l S 0 = ([2, 0] : List Int) ++ numB n 2 2 by rw [HN.out]; rfl, strOf_app2]; rfl, rfl, HG2.out⟩
  case round =>
    rename_i J1 K1 hJ1 hK1
    obtain ⟨k, hkq, rfl, rfl, rfl, hgr⟩ := hrel
    have HGR := Lib.hid hgr
    by_cases hlt : k < n
    · obtain ⟨q, rfl⟩ : ∃ q, gk = q + 1 := ⟨gk - 1, by omega⟩
      have hki : (k : Int) < (n : Int) := by omega
      obtain ⟨x, hx⟩ : ∃ x, l[k]? = some x := ⟨_, List.getElem?_eq_getElem (by have := HN.out; omega)⟩
      obtain ⟨hxo, hxl⟩ := HO.out x (List.mem_of_getElem? hx)
      obtain ⟨b, o, rfl, hb, q0, q1⟩ := (H.out.grown hgr).at k x hx
      obtain ⟨f, hf'⟩ : ∃ f : Nat, x.first = (f : Int) := ⟨x.first.toNat, by have := hxo.ok.f0; omega⟩
      have hf9 : f ≤ 4294967295 := by have := hxo.ok.f1; omega
      rw [hf'] at q1
      obtain ⟨L, hL⟩ : ∃ L, L = x.key.length := ⟨_, rfl⟩
      have hL' := hL
      obtain ⟨T, hT⟩ : ∃ T, T = strOfNums x.key := ⟨_, rfl⟩
      have hT1 : T.size = L := by rw [hT, hL, strOfNums_size]
      rw [← hT] at q0
      have hL9 : L ≤ 120 := by omega
      have hc1 : cs brY l (k + 1) + 4 + 2 * n ≤ S := by
        have h1 := cs_mono (Y := brY) l (show k + 1 ≤ l.length by have := HN.out; omega)
        have h2 := HF.out
        have h3 := HN.out
        unfold fillL fillK at h2
        omega
      have hc2 : cs brY l (k + 1) = cs brY l k + (5 + x.key.length) := bcs_snoc hx
      have hc0 : cs brY l k ≤ 4096 := by omega
      rw [hc2, ← hL'] at hc1
      have HC := Lib.hid (bcs_snoc hx)
      have HT := Lib.hid (tlB_snoc (Y := brY) (l := l) hx)
      have HTT := Lib.hid hT
      have HLL := Lib.hid hL
      have HFF := Lib.hid hf'
      obtain ⟨K0, hK0⟩ : ∃ K, K = strOfNums (tlB brY l k) := ⟨_, rfl⟩
      obtain ⟨S0, hS0⟩ : ∃ K, K = strOfNums (hdB brY l S k) := ⟨_, rfl⟩
      have hKs : K0.size = cs brY l k := by rw [hK0, strOfNums_size, tlB_len]
      rw [← hK0, ← hS0]
      have HK0 := Lib.hid hK0
      have HS0 := Lib.hid hS0
      obtain ⟨C0, hC0⟩ : ∃ C, C = cs brY l k := ⟨_, rfl⟩
      rw [← hC0] at hKs hc0 hc1
      have HC0 := Lib.hid hC0
      obtain ⟨N1, hN1⟩ : ∃ N, N = strOfNums (numB (L : Int) 1 1) := ⟨_, rfl⟩
      obtain ⟨N4, hN4⟩ : ∃ N, N = strOfNums (numB (f : Int) 4 4) := ⟨_, rfl⟩
      have hN11 : N1.size = 1 := by rw [hN1, strOfNums_size, numB_len]
      have hN41 : N4.size = 4 := by rw [hN4, strOfNums_size, numB_len]
      have HN1 := Lib.hid hN1
      have HN4 := Lib.hid hN4
      have hu1 : IntKind.u64.wrap (L : Int) = (L : Int) := by rw [show IntKind.u64.wrap (L : Int) = (L : Int) % 18446744073709551616 from rfl]; omega
      have hu2 : IntKind.u64.wrap (f : Int) = (f : Int) := by rw [show IntKind.u64.wrap (f : Int) = (f : Int) % 18446744073709551616 from rfl]; omega
      have HQ := Lib.hid (And.intro q0 q1)
      have hz1 : ¬ 9223372036854775807 < 1 + L := by omega
      have hz2 : ¬ 9223372036854775807 < 1 + L + 4 := by omega
      have hz3 : ¬ 9223372036854775807 < 1 + L + 4 + C0 := by omega
      clear hx hxo hxl hgr hf' hL hL' hT hK0 hS0 hC0 hN1 hN4 hc2
      go_wp2
      go_region_held3 (fun w' => w'.cell? ⟨b, o + k * 2, none⟩ = some (.string T) ∧ w'.cell? ⟨b, o + k * 2 + 1, none⟩ = some (.int .u32 (f : Int)))
        (first | (with_reducible exact HQ.out) | (with_reducible exact keep2 HQ.out (gdrew wr)) | (with_reducible exact keep2 HQ.out HA1.out) | (with_reducible exact keep2 HQ.out HA2.out) | (with_reducible exact keep2 HQ.out HA3.out) | (with_reducible exact keep2 HQ.out HA4.out))
        ((first
          | (go_at_call 44; have Kc := refNum_at wr.drew L 1 1 rfl (by omega) (by omega) (by omega); rw [← HN1.out] at Kc; ((with_reducible refine Kc.mono ?_); clear Kc; rintro r w3 ⟨rfl, hg3⟩); have HA1 := Lib.hid (gtrans (gdrew wr) hg3); clear hg3)
          | (go_at_call 44; have Kc := refNum_at wr.drew f 4 4 rfl (by omega) (by omega) (by omega); rw [← HN4.out] at Kc; ((with_reducible refine Kc.mono ?_); clear Kc; rintro r w4 ⟨rfl, hg4⟩); have HA2 := Lib.hid (gtrans (gdrew wr) hg4); clear hg4)
          | (go_at_call 44; have Kc := refNum_at w3 f 4 4 rfl (by omega) (by omega) (by omega); rw [← HN4.out] at Kc; ((with_reducible refine Kc.mono ?_); clear Kc; rintro r w4 ⟨rfl, hg4⟩); have HA3 := Lib.hid (gtrans HA1.out hg4); clear hg4)
          | (go_at_call 44; have Kc := refNum_at w4 L 1 1 rfl (by omega) (by omega) (by omega); rw [← HN1.out] at Kc; ((with_reducible refine Kc.mono ?_); clear Kc; rintro r w3 ⟨rfl, hg3⟩); have HA4 := Lib.hid (gtrans HA2.out hg3); clear hg3)))
      have HG3 := Lib.hid (gtrans HGR.out HA3.out)
      clear HQ HA1 HA3 q0 q1 hb
      have HT2 := Lib.hid (show N1 ++ T ++ N4 ++ K0 = strOfNums (tlB brY l (k + 1)) by
        rw [HT.out, HN1.out, HTT.out, HN4.out, HK0.out, HLL.out, show brY.cell x = numB (x.key.length : Int) 1 1 ++ x.key ++ numB x.first 4 4 from rfl, HFF.out, strOf_app2, strOf_app2, strOf_app2])
      obtain ⟨T2, hT2⟩ : ∃ T2, T2 = N1 ++ T ++ N4 ++ K0 := ⟨_, rfl⟩
      rw [← hT2] at HT2 ⊢
      have hts : T2.size = C0 + (5 + L) := by rw [hT2]; simp [hN11, hN41, hT1, hKs]; omega
      have hss : S0.size = 4 + 2 * k := by rw [HS0.out, strOfNums_size, hdB_len]
      obtain ⟨D, hD⟩ : ∃ D, D = S - (C0 + (5 + L)) := ⟨_, rfl⟩
      have hsub : IntKind.i64.wrap ((S : Int) - ((C0 + (5 + L) : Nat) : Int)) = (D : Int) := by rw [IntWalk.i64_in _ (by omega)]; omega
      have hD9 : D ≤ 4096 := by omega
      have hud : IntKind.u64.wrap (D : Int) = (D : Int) := by rw [show IntKind.u64.wrap (D : Int) = (D : Int) % 18446744073709551616 from rfl]; omega
      have HD := Lib.hid hD
      have HDI := Lib.hid (show (S : Int) - ((C0 : Int) + (5 + (L : Int))) = (D : Int) by omega)
      obtain ⟨N2, hN2⟩ : ∃ N, N = strOfNums (numB (D : Int) 2 2) := ⟨_, rfl⟩
      have hN21 : N2.size = 2 := by rw [hN2, strOfNums_size, numB_len]
      have HN2 := Lib.hid hN2
      have hz4 : ¬ 9223372036854775807 < 4 + 2 * k + 2 := by omega
      clear hD hT2 hsub hN2 hz1 hz2 hz3 hN11 hN41 hT1 hKs
      go_wp2_with (go_at_call 44; rw [HDI.out]; have Kc := refNum_at w4 D 2 2 rfl (by omega) (by omega) (by omega); rw [← HN2.out] at Kc; ((with_reducible refine Kc.mono ?_); clear Kc; rintro r w5 ⟨rfl, hg5⟩); have HG5 := Lib.hid (gtrans HG3.out hg5); clear hg5)
      go_roundg q
      case measure => omega
      case rel => exact ⟨k + 1, by omega, by go_num, by rw [hdB, strOf_app2, HS0.out, HN2.out, show S - cs brY l (k + 1) = D by rw [HD.out, HC.out, ← HC0.out, HLL.out]; rfl], by rw [HT2.out], HG5.out⟩
    · obtain rfl : k = n := by omega
      obtain ⟨i0, hi, hz0, hz1, hz2⟩ := info_parts infoU8
      have hfl : 4 + 2 * k + cs brY l k = F := by
        have h2 := HF.out
        unfold fillL fillK at h2
        rw [← HN.out] at h2
        omega
      obtain ⟨K0, hK0⟩ : ∃ K, K = strOfNums (tlB brY l k) := ⟨_, rfl⟩
      obtain ⟨S0, hS0⟩ : ∃ K, K = strOfNums (hdB brY l S k) := ⟨_, rfl⟩
      have hKs : K0.size = cs brY l k := by rw [hK0, strOfNums_size, tlB_len]
      have hss : S0.size = 4 + 2 * k := by rw [hS0, strOfNums_size, hdB_len]
      rw [← hK0, ← hS0]
      obtain ⟨C0, hC0⟩ : ∃ C, C = cs brY l k := ⟨_, rfl⟩
      rw [← hC0] at hKs hfl
      obtain ⟨Z, hZ⟩ : ∃ Z, Z = S - C0 - (4 + 2 * k) := ⟨_, rfl⟩
      have HZI := Lib.hid (show (S : Int) - (4 + 2 * (k : Int)) - (C0 : Int) = (Z : Int) by omega)
      obtain ⟨NZ, hNZ⟩ : ∃ N, N = strOfNums (List.replicate Z (0 : Int)) := ⟨_, rfl⟩
      have hNs : NZ.size = Z := by rw [hNZ, strOfNums_size, List.length_replicate]
      have HNZ := Lib.hid hNZ
      have HPG := Lib.hid (show S0 ++ NZ ++ K0 = strOfNums (pageB brY l S) by
        rw [pageB, ← HN.out, ← hC0, ← hZ, strOf_app2, strOf_app2, ← hS0, ← hNZ, ← hK0, ByteArray.append_assoc])
      have hZ9 : Z ≤ 4096 := by omega
      have hz4 : ¬ 9223372036854775807 < 4 + 2 * k + Z := by omega
      have hz5 : ¬ 9223372036854775807 < 4 + 2 * k + Z + C0 := by omega
      have hC9 : C0 ≤ 4096 := by omega
      have hk9 : k ≤ 4096 := by omega
      clear hZ hNZ hK0 hS0 hC0 hgr
      go_wp2_with (at_make; refine wpList_make_full _ rfl _ _ 29 rfl wr.heap.size 5 i0 (.int .u8 0) 1 Try.underlying29 hi hz0 hz1 .i64 .i64 _ _ Z rfl rfl ?c1 ?c2 ?c3 ?c4 (Nat.le_refl _) ?_; (case c1 => have := HZI.out; omega); (case c2 => have := HZI.out; omega); (case c3 => rw [hz2]; omega); (case c4 => unfold maxLen; omega); intro wM hown hgM; have hcv := seq_string (seq_made hown); rw [← HNZ.out] at hcv; have HG3 := Lib.hid (gtrans HGR.out hgM); clear hown hgM)
      go_ret2
      exact ⟨by rw [← HPG.out]; rfl, HG3.out⟩

end Go.Proofs.Ytfencmidjolgfaa

namespace Go.Proofs.Ytfencmidjolgfaa
open Go.RowKit

theorem brise_next {l : List En} {size : Int} (h : BRightP l size) (i : Nat) (x y : En) (hx : l[i]? = some x) (hy : l[i + 1]? = some y) : cmpL x.key y.key < 0 :=
  (((h.2.2.2.2 (i + 1) y (List.getElem?_eq_some_iff.1 hy).1 hy).2) i x rfl hx).2.2
theorem brise {l : List En} {size : Int} (h : BRightP l size) : Rise l := by
  intro i j x y hij hx hy
  obtain ⟨d, rfl⟩ : ∃ d, j = i + 1 + d := ⟨j - (i + 1), by omega⟩
  clear hij
  induction d generalizing y with
  | zero => exact brise_next h i x y hx hy
  | succ d ih =>
    have hlt := (List.getElem?_eq_some_iff.1 hy).1
    obtain ⟨z, hz⟩ : ∃ z, l[i + 1 + d]? = some z := ⟨_, List.getElem?_eq_getElem (by omega)⟩
    exact cmpL_trans _ _ _ (ih z hz) (brise_next h (i + 1 + d) z y hz (by rw [← hy]; congr 1))
theorem brise_tail {l : List En} (h : Rise l) : Rise (l.drop 1) := fun i j x y hij hx hy =>
  h (1 + i) (1 + j) x y (by omega) (by rwa [List.getElem?_drop] at hx) (by rwa [List.getElem?_drop] at hy)

set_option maxRecDepth 100000 in
set_option maxHeartbeats 8000000 in
theorem bputs_any (w : World) (ao : Option Addr) (n c : Nat) (l : List En) (size : Int) (s : Bool) (a2 : Option Addr) (n2 c2 : Nat) (ks : List Int) (h : Raws5 w (.slice ao n c) l) (_z0 : -9223372036854775808 ≤ size) (_z1 : size ≤ 9223372036854775807) (h2 : Seq w.heap.size w (.slice a2 n2 c2) ks) (b2 : Byt ks) :
    Calls Try.prog 9 #[.slice ao n c, .int .i64 size, .bool s, .slice a2 n2 c2] w fun r w' => r = .returned (.bool true) ∧ Below w.heap.size w w' := by
  have H := Lib.hid h
  have H2 := Lib.hid h2
  have B2 := Lib.hid b2
  clear h h2 b2
  by_cases hf : FewP5 l
  · have HF := Lib.hid hf
    clear hf
    by_cases hk : n2 ≤ 120
    · have hd1 : decide ((120 : Int) < (n2 : Int)) = false := by simp; omega
      have hd2 : decide (120 < n2) = false := by simp; omega
      go_enter Try.func9, Try.ntmps9
      go_wp2_with (first
        | (go_at_call 30; refine (awake5_any _).mono ?_; rintro r wA ⟨rfl, hgA⟩; have HGA := Lib.hid hgA; clear hgA)
        | (go_at_call 31; refine (few5_yes H.out (gbelow HGA.out) HF.out).mono ?_; rintro r w1 ⟨rfl, rfl⟩)
        | (go_at_call 32; refine (ents5_s H.out (gbelow HGA.out) HF.out).mono ?_; rintro r w1 ⟨la, m, lc, rv, X, rfl, hm, hm30, hfi, hen, hrr, hg1⟩; obtain ⟨ra, rc, rfl⟩ := hrr.shape; have HM := Lib.hid hm; rw [← hm] at hrr ⊢; have HFI := Lib.hid hfi; have HEN := Lib.hid hen; have HRR := Lib.hid hrr; have HG1 := Lib.hid (gtrans HGA.out hg1); clear hm hfi hen hrr hg1))
      have HO2 := Lib.hid (fun x hx => (show Byt x.key ∧ x.key.length ≤ 100000 from ⟨(HFI.out.ok x hx).1.ok.k, (HFI.out.ok x hx).1.ok.kl⟩))
      obtain ⟨F, hF⟩ : ∃ F, F = fillL brY X := ⟨_, rfl⟩
      have HFF := Lib.hid hF
      by_cases hr : BRightP X size
      · have HR := Lib.hid hr
        by_cases hs : (F : Int) ≤ size
        · obtain ⟨S, rfl⟩ : ∃ S : Nat, size = (S : Int) := ⟨size.toNat, by have := hr.1; omega⟩
          have hsF : ¬ (S : Int) < (F : Int) := by omega
          have HFS := Lib.hid (show fillL brY X ≤ S by omega)
          obtain ⟨T, hT⟩ : ∃ T, T = strOfNums ks := ⟨_, rfl⟩
          obtain ⟨P, hP⟩ : ∃ P, P = strOfNums (pageB brY X S) := ⟨_, rfl⟩
          have HT := Lib.hid hT
          have HPG := Lib.hid hP
          have HS4 := Lib.hid (show S ≤ 4096 by have := hr.2.1; omega)
          have HPL := Lib.hid (pageB_len HFS.out)
          have HSK := Lib.hid (show ∀ w' : World, w1.grownBy w' none → (convert 29 9 (.slice a2 n2 c2)).run Try.prog w' = .ok (.string T) w' from fun w' hg => by rw [hT]; exact seq_string (H2.out.below (w' := w') (fun i hi => (gtrans HG1.out hg).block i hi (by simp))))
          have HX2 := Lib.hid (show 2 ≤ m by rw [HM.out]; exact HR.out.2.2.1)
          have HRI := Lib.hid (brise_tail (brise HR.out))
          clear hr hF hs hT hP
          go_wp2_with (first
            | (go_at_call 33; have Kc := bput_ok w1 w1.heap.size _ _ _ X S HEN.out (Nat.le_refl _) HR.out HFS.out; ((with_reducible refine Kc.mono ?_); clear Kc; rintro r w2 ⟨bb, rfl, hbb, hpb, hg⟩); have HG2 := Lib.hid hg; have HPB := Lib.hid (show ∀ w', w2.grownBy w' none → Seq w'.heap.size w' (.slice (some ⟨bb, 0, none⟩) S S) (pageB brY X S) from fun w' k => seq_page ((k.block _ (lt_of_block hpb) (by simp)).trans hpb) HPL.out (by have := HS4.out; unfold maxLen; omega)); clear hg hbb hpb)
            | (go_at_call 34; have Kc := hput_ok w2 _ _ _ X S (HRR.out.grown HG2.out) HFI.out.ok HR.out HFS.out; rw [← HPG.out] at Kc; ((with_reducible refine Kc.mono ?_); clear Kc; rintro r w3 ⟨rfl, hg⟩); have HG3 := Lib.hid (gtrans HG2.out hg); have GB3 := Lib.hid hg; clear hg)
            | (go_at_call 35; have Kc := hright_yes (HRR.out.grown HG3.out) HO2.out HR.out; ((with_reducible refine Kc.mono ?_); clear Kc; rintro r w4 ⟨rfl, hg⟩); have HG4 := Lib.hid (gtrans HG3.out hg); have GB4 := Lib.hid (gtrans GB3.out hg); have hcv := seq_string (HPB.out w4 GB4.out); rw [← HPG.out] at hcv; clear hg)
            | (go_at_call 36; have Kc := bright_yes (HEN.out.grown HG4.out (Nat.le_refl _)) HG4.out.size HR.out; ((with_reducible refine Kc.mono ?_); clear Kc; rintro r w5 ⟨rfl, hg⟩); have HG5 := Lib.hid (gtrans HG4.out hg); have GB5 := Lib.hid (gtrans GB4.out hg); clear hg)
            | (go_at_call 37; have Kc := bfill_any w5 w1.heap.size _ _ _ X (HEN.out.grown HG5.out (Nat.le_refl _)) HG5.out.size; rw [← HFF.out] at Kc; ((with_reducible refine Kc.mono ?_); clear Kc; rintro r w6 ⟨rfl, hg⟩); have HG6 := Lib.hid (gtrans HG5.out hg); have GB6 := Lib.hid (gtrans GB5.out hg); clear hg)
            | (go_at_call 38; have Kc := hfill_any w6 _ _ _ X (HRR.out.grown HG6.out) (fun x hx => (HO2.out x hx).2); rw [← HFF.out] at Kc; ((with_reducible refine Kc.mono ?_); clear Kc; rintro r w7 ⟨rfl, rfl⟩)))
          have q0 := HSK.out w6 HG6.out
          clear hcv
          go_region_held3 (fun w' => (convert 29 9 (.slice a2 n2 c2)).run Try.prog w' = .ok (.string T) w')
            (first | (with_reducible exact HSK.out _ HG6.out) | (with_reducible exact HSK.out _ (gtrans HG6.out (gdrew w6))) | (with_reducible exact HSK.out _ HG7.out))
            ((first
              | (go_at_call 39; have Kc := bfind_any w6.drew w1.heap.size w.heap.size la a2 m lc n2 c2 X ks (HEN.out.grown (gtrans HG6.out (gdrew w6)) (Nat.le_refl _)) (H2.out.below (fun i hi => (gtrans HG1.out (gtrans HG6.out (gdrew w6))).block i hi (by simp))) (gtrans HG6.out (gdrew w6)).size (gtrans HG1.out (gtrans HG6.out (gdrew w6))).size HX2.out HRI.out; ((with_reducible refine Kc.mono ?_); clear Kc; rintro r w7 ⟨p, rfl, hp, hg⟩); have HP := Lib.hid hp; have HG7 := Lib.hid (gtrans HG6.out (gtrans (gdrew w6) hg)); have GB7 := Lib.hid (gtrans GB6.out (gtrans (gdrew w6) hg)); clear hp hg)
              | (go_at_call 40; have Kc := hfind_at w7 _ _ _ X ks p (HRR.out.grown HG7.out) (fun x hx => (HO2.out x hx).1) B2.out HR.out.2.2.2.1 HP.out; rw [← HT.out] at Kc; ((with_reducible refine Kc.mono ?_); clear Kc; rintro r w8 ⟨rfl, rfl⟩))))
          clear q0 HSK HT
          go_wp2_with (go_at_call 41; have Kc := bget_back (HPB.out w7 GB7.out) (Nat.le_refl _) (fun x hx => (HFI.out.ok x hx).1) HR.out HFS.out; ((with_reducible refine Kc.mono ?_); clear Kc; rintro r w9 ⟨lv, es, rfl, hxs, heo, hel, hg⟩); obtain ⟨la2, lc2, rfl⟩ := own_shape heo.row; have hes := heo.ents (by omega); rw [hxs] at hes; have hlm : es.length = m := (by have := congrArg List.length hxs; rw [List.length_map] at this; rw [this]; exact HM.out.symm); rw [hlm] at hes ⊢; have HES := Lib.hid hes; have HG9 := Lib.hid (gtrans HG7.out hg); have HR9 := Lib.hid (HRR.out.grown HG9.out); clear hxs heo hel hg hes hlm)
          go_loopw [20] (fun i wr => ∃ k : Nat, k ≤ m ∧ i = .int .i64 k ∧ w9.grownBy wr none) (fun i _ => m - (intOf i).toNat)
          case atStart => exact ⟨0, Nat.zero_le _, rfl, grefl _ _⟩
          case round =>
            obtain ⟨k, hk9, rfl, hg⟩ := hrel
            have HG := Lib.hid hg
            by_cases hlt : k < m
            · obtain ⟨x, hx⟩ : ∃ x, X[k]? = some x := ⟨_, List.getElem?_eq_getElem (by have := HM.out; omega)⟩
              obtain ⟨b, o, rfl, hb, a1, c1, h1, h3, q0, q1⟩ := (HES.out.grown hg (Nat.le_refl _)).at k x hx
              obtain ⟨b3, o3, rfl, hb3, r0, r1⟩ := (HR9.out.grown hg).at k x hx
              have v1 : ∀ j, (convert 29 9 (.slice a1 x.key.length c1)).run Try.prog (wr.drewN j) = .ok (.string (strOfNums x.key)) (wr.drewN j) := fun j => seq_string (h1.below (w' := wr.drewN j) (fun _ _ => rfl))
              have hki : (k : Int) < (m : Int) := by omega
              obtain ⟨s1, hs1⟩ : ∃ s, s = strOfNums x.key := ⟨_, rfl⟩
              rw [← hs1] at v1 r0
              clear h1 h3 hx hs1 hg
              go_wp2
              go_quiet (fail)
              go_wp2
              go_roundw
              case rel => exact ⟨k + 1, by omega, by go_num, gtrans HG.out ⟨rfl, rfl, rfl, Nat.le_refl _, fun _ _ _ => rfl⟩⟩
              case measure => simp [intOf]; omega
            · obtain rfl : k = m := by omega
              go_wp2
              go_ret
              exact ⟨rfl, gbelow (gtrans HG1.out (gtrans HG9.out HG.out))⟩
        · have hlF : fillL brY X = F := hF.symm
          have cvn : ∀ w' : World, (convert 29 9 (.slice none 0 0)).run Try.prog w' = .ok (.string { data := #[] }) w' := fun w' => seq_string (seq_nil 0 w')
          obtain ⟨T, hT⟩ : ∃ T, T = strOfNums ks := ⟨_, rfl⟩
          have HT := Lib.hid hT
          have HSK := Lib.hid (show ∀ w' : World, w1.grownBy w' none → (convert 29 9 (.slice a2 n2 c2)).run Try.prog w' = .ok (.string T) w' from fun w' hg => by rw [hT]; exact seq_string (H2.out.below (w' := w') (fun i hi => (gtrans HG1.out hg).block i hi (by simp))))
          have HX2 := Lib.hid (show 2 ≤ m by rw [HM.out]; exact HR.out.2.2.1)
          have HRI := Lib.hid (brise_tail (brise HR.out))
          have HLT := Lib.hid (show size < (fillL brY X : Int) by rw [hlF]; omega)
          clear hr hF hlF hs hT
          go_wp2_with (first
            | (go_at_call 33; have Kc := bput_full w1 w1.heap.size _ _ _ X size HEN.out (Nat.le_refl _) HR.out HLT.out; ((with_reducible refine Kc.mono ?_); clear Kc; rintro r w2 ⟨rfl, hg⟩); have HG2 := Lib.hid hg; clear hg)
            | (go_at_call 34; have Kc := hput_full w2 _ _ _ X size (HRR.out.grown HG2.out) HO2.out HR.out HLT.out; ((with_reducible refine Kc.mono ?_); clear Kc; rintro r w3 ⟨rfl, hg⟩); have HG3 := Lib.hid (gtrans HG2.out hg); clear hg)
            | (go_at_call 35; have Kc := hright_yes (HRR.out.grown HG3.out) HO2.out HR.out; ((with_reducible refine Kc.mono ?_); clear Kc; rintro r w4 ⟨rfl, hg⟩); have HG4 := Lib.hid (gtrans HG3.out hg); clear hg)
            | (go_at_call 36; have Kc := bright_yes (HEN.out.grown HG4.out (Nat.le_refl _)) HG4.out.size HR.out; ((with_reducible refine Kc.mono ?_); clear Kc; rintro r w5 ⟨rfl, hg⟩); have HG5 := Lib.hid (gtrans HG4.out hg); clear hg)
            | (go_at_call 37; have Kc := bfill_any w5 w1.heap.size _ _ _ X (HEN.out.grown HG5.out (Nat.le_refl _)) HG5.out.size; rw [← HFF.out] at Kc; ((with_reducible refine Kc.mono ?_); clear Kc; rintro r w6 ⟨rfl, hg⟩); have HG6 := Lib.hid (gtrans HG5.out hg); clear hg)
            | (go_at_call 38; have Kc := hfill_any w6 _ _ _ X (HRR.out.grown HG6.out) (fun x hx => (HO2.out x hx).2); rw [← HFF.out] at Kc; ((with_reducible refine Kc.mono ?_); clear Kc; rintro r w7 ⟨rfl, rfl⟩)))
          have q0 := HSK.out w6 HG6.out
          go_region_held3 (fun w' => (convert 29 9 (.slice a2 n2 c2)).run Try.prog w' = .ok (.string T) w')
            (first | (with_reducible exact HSK.out _ HG6.out) | (with_reducible exact HSK.out _ (gtrans HG6.out (gdrew w6))) | (with_reducible exact HSK.out _ HG7.out))
            ((first
              | (go_at_call 39; have Kc := bfind_any w6.drew w1.heap.size w.heap.size la a2 m lc n2 c2 X ks (HEN.out.grown (gtrans HG6.out (gdrew w6)) (Nat.le_refl _)) (H2.out.below (fun i hi => (gtrans HG1.out (gtrans HG6.out (gdrew w6))).block i hi (by simp))) (gtrans HG6.out (gdrew w6)).size (gtrans HG1.out (gtrans HG6.out (gdrew w6))).size HX2.out HRI.out; ((with_reducible refine Kc.mono ?_); clear Kc; rintro r w7 ⟨p, rfl, hp, hg⟩); have HP := Lib.hid hp; have HG7 := Lib.hid (gtrans HG6.out (gtrans (gdrew w6) hg)); clear hp hg)
              | (go_at_call 40; have Kc := hfind_at w7 _ _ _ X ks p (HRR.out.grown HG7.out) (fun x hx => (HO2.out x hx).1) B2.out HR.out.2.2.2.1 HP.out; rw [← HT.out] at Kc; ((with_reducible refine Kc.mono ?_); clear Kc; rintro r w8 ⟨rfl, rfl⟩))))
          go_wp2
          go_ret
          exact ⟨rfl, gbelow (gtrans HG1.out HG7.out)⟩
      · have HR := Lib.hid hr
        clear hr hF
        have cvn : ∀ w' : World, (convert 29 9 (.slice none 0 0)).run Try.prog w' = .ok (.string { data := #[] }) w' := fun w' => seq_string (seq_nil 0 w')
        go_wp2_with (first
          | (go_at_call 33; have Kc := bput_arg w1 w1.heap.size _ _ _ X size HEN.out (Nat.le_refl _) HR.out; ((with_reducible refine Kc.mono ?_); clear Kc; rintro r w2 ⟨rfl, hg⟩); have HG2 := Lib.hid hg; clear hg)
          | (go_at_call 34; have Kc := hput_arg w2 _ _ _ X size (HRR.out.grown HG2.out) HO2.out HR.out; ((with_reducible refine Kc.mono ?_); clear Kc; rintro r w3 ⟨rfl, hg⟩); have HG3 := Lib.hid (gtrans HG2.out hg); clear hg)
          | (go_at_call 35; have Kc := hright_no (HRR.out.grown HG3.out) HO2.out HR.out; ((with_reducible refine Kc.mono ?_); clear Kc; rintro r w4 ⟨rfl, hg⟩); have HG4 := Lib.hid (gtrans HG3.out hg); clear hg)
          | (go_at_call 36; have Kc := bright_no (HEN.out.grown HG4.out (Nat.le_refl _)) HG4.out.size HR.out; ((with_reducible refine Kc.mono ?_); clear Kc; rintro r w5 ⟨rfl, hg⟩); have HG5 := Lib.hid (gtrans HG4.out hg); clear hg)
          | (go_at_call 37; have Kc := bfill_any w5 w1.heap.size _ _ _ X (HEN.out.grown HG5.out (Nat.le_refl _)) HG5.out.size; rw [← HFF.out] at Kc; ((with_reducible refine Kc.mono ?_); clear Kc; rintro r w6 ⟨rfl, hg⟩); have HG6 := Lib.hid (gtrans HG5.out hg); clear hg)
          | (go_at_call 38; have Kc := hfill_any w6 _ _ _ X (HRR.out.grown HG6.out) (fun x hx => (HO2.out x hx).2); rw [← HFF.out] at Kc; ((with_reducible refine Kc.mono ?_); clear Kc; rintro r w7 ⟨rfl, rfl⟩)))
        go_quiet (fail)
        go_wp2
        go_ret
        exact ⟨rfl, gbelow (gtrans (gtrans HG1.out HG6.out) ⟨rfl, rfl, rfl, Nat.le_refl _, fun _ _ _ => rfl⟩)⟩
    · have hd1 : decide ((120 : Int) < (n2 : Int)) = true := by simp; omega
      have hd2 : decide (120 < n2) = true := by simp; omega
      clear hk
      go_enter Try.func9, Try.ntmps9
      go_wp2_with (first
        | (go_at_call 30; refine (awake5_any _).mono ?_; rintro r wA ⟨rfl, hgA⟩; have HGA := Lib.hid hgA; clear hgA)
        | (go_at_call 31; refine (few5_yes H.out (gbelow HGA.out) HF.out).mono ?_; rintro r w1 ⟨rfl, rfl⟩))
      go_ret
      exact ⟨rfl, gbelow HGA.out⟩
  · have HF := Lib.hid hf
    clear hf
    go_enter Try.func9, Try.ntmps9
    go_wp2_with (first
      | (go_at_call 30; refine (awake5_any _).mono ?_; rintro r wA ⟨rfl, hgA⟩; have HGA := Lib.hid hgA; clear hgA)
      | (go_at_call 31; refine (few5_no H.out (gbelow HGA.out) HF.out).mono ?_; rintro r w1 ⟨rfl, rfl⟩))
    go_ret
    exact ⟨rfl, gbelow HGA.out⟩

end Go.Proofs.Ytfencmidjolgfaa

namespace Go.Proofs.Ytfencmidjolgfaa
open Go.RowKit

open Go.ChangeShapes Go.WideShapes Go.ChangeAt
set_option linter.unusedVariables false
set_option maxRecDepth 100000 in
theorem bputs_lifted (os : Os) (started : os.Started) (H : Type) (enc : TypeId × Value → H) :
    ReturnsInHanded {} Try.checked os 9 .any (Rows.branchPutsSpec.pre6 enc Try.prog Try.f9 Rows.branchPutsRow.domain false) (Rows.branchPutsSpec.post enc Try.prog Try.f9 false true false false) := by
  refine returnsInHanded_of_change (C := Try.checked) ownKnob0 started (by kernel_rfl) Try.func9
    (ChangeSpec.witness6 (enc := enc) (C := Try.checked) false ⟨#[], #[.slice none 0 0, .int .i64 0, .bool false, .slice none 0 0], []⟩ 8 (by kernel_rfl) (by kernel_rfl) (by kernel_rfl) (by kernel_rfl)) ?_
  intro W base args ds gs before hval0 hW hcnd _
  have hval : ∀ (j : Nat) t v, Try.f9.params[j]? = some t → args[j]? = some v → Value.okWide Try.prog W .any base t v := hval0
  have hW' := hW
  obtain ⟨p, q, hA0, hV, rfl, hfz, hnd⟩ := hW
  have hA : DataW.TrodAll enc Try.prog W 0 (fun _ => true) true Try.f9.params.toList args.toList ds p := hA0
  rw [Try.params9] at hA hval
  obtain ⟨v0, vs0, d0, ds0, p0, q0, hargs, rfl, rfl, h0, r0⟩ := trodAll_cons hA
  obtain ⟨v1, vs1, d1, ds1, p1, q1, rfl, rfl, rfl, h1, r1⟩ := trodAll_cons r0
  obtain ⟨v2, vs2, d2, ds2, p2, q2, rfl, rfl, rfl, h2, r2⟩ := trodAll_cons r1
  obtain ⟨v3, vs3, d3, ds3, p3, q3, rfl, rfl, rfl, h3, r3⟩ := trodAll_cons r2
  obtain ⟨rfl, rfl, rfl⟩ := trodAll_nil r3
  obtain rfl : args = #[v0, v1, v2, v3] := by cases args; simp_all
  obtain ⟨rfl, rfl⟩ := trodVars_none hV
  obtain ⟨a0, len0, cap0, rfl⟩ := okWide_slice Try.underlying62 (hval 0 62 v0 rfl rfl)
  have lt0 : ∀ x ∈ p0, x.block < W.heap.size := by obtain ⟨m, hm⟩ := h0; exact DataW.trod_lt m _ _ _ hm
  obtain ⟨z0, w0⟩ := open_raws5 h0
  obtain ⟨a1, rfl, rfl, rfl, w1⟩ := open_int Try.underlying3 (hval 1 3 v1 rfl rfl) h1
  have b1 := bounds_i64 w1
  obtain ⟨a2, rfl, rfl, rfl⟩ := open_bool Try.underlying4 (hval 2 4 v2 rfl rfl) h2
  obtain ⟨a3, len3, cap3, rfl⟩ := okWide_slice Try.underlying29 (hval 3 29 v3 rfl rfl)
  have lt3 : ∀ x ∈ p3, x.block < W.heap.size := by obtain ⟨m, hm⟩ := h3; exact DataW.trod_lt m _ _ _ hm
  obtain ⟨z3, w3, y3⟩ := open_bytes h3
  clear hA0 hval0
  refine (bputs_any W a0 len0 cap0 z0 a1 a2 a3 len3 cap3 z3 w0 b1.1 b1.2 w3 y3).mono fun e W' ⟨he, bel⟩ => ?_
  subst he
  exact ⟨_, rfl, _, _, _, [], _, [], hW', trodAll_mk1 (shut_bool Try.underlying4 _), (trodAll_cons_mk (Below.trod laidOut0 (by kernel_rfl) (of_decide_eq_true (by kernel_rfl)) h0 bel lt0) (trodAll_cons_mk (shut_int Try.underlying3 w1) (trodAll_cons_mk (shut_bool Try.underlying4 _) (trodAll_cons_mk (Below.trod laidOut0 (by kernel_rfl) (of_decide_eq_true (by kernel_rfl)) h3 bel lt3) trodAll_mk0)))), rfl, bel.frame _, fun h => by cases h⟩

/-- BranchPuts, for every input. -/
theorem branchPuts_holds : Rows.BranchPutsSaid :=
  OpenClaim.holds_of_wide 9 Try.f9 rfl rfl rfl rfl rfl rfl rfl ⟨rfl, rfl, rfl, rfl, rfl⟩ rfl rfl rfl rfl rfl (by kernel_rfl) Try.func9 (by kernel_rfl)
    (of_decide_eq_true (by kernel_rfl)) (by unfold Func.isWrapper; first | (rw [if_pos (by decide +kernel)]; kernel_rfl) | (rw [if_neg (by decide +kernel)]; exact ⟨rfl, rfl⟩))
    (fun os started H enc _ => bputs_lifted os started H enc)
#print axioms branchPuts_holds

end Go.Proofs.Ytfencmidjolgfaa
