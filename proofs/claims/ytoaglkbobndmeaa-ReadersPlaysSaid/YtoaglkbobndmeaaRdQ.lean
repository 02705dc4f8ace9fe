/-
  Layer 9: the document's own Begin, Good, End, Dead. Own work.
-/
import Derived.Test.YtoaglkbobndmeaaRdP
namespace Go.Proofs.Ytoaglkbobndmeaa
open Go.RowKit

theorem results4 {fn : Func} {a b c d : Tmp} (h : fn.results = #[.tmp a, .tmp b, .tmp c, .tmp d]) (tmps : Array Value) (W : World) :
    (results fn tmps).run Try.prog W = .ok (.tuple #[tmps.getD a undef, tmps.getD b undef, tmps.getD c undef, tmps.getD d undef]) W := by
  simp [results, h]

set_option maxHeartbeats 4000000 in
theorem rbegin_full (w : World) (B : Nat) (ao : Option Addr) (n c : Nat) (L : List Sl) (x : Int) (h : SO B w (.slice ao n c) L) (hl : L.length ≤ 126) (hf : ∀ s ∈ L, s.st ≠ 0) :
    Calls Try.prog 12 #[.slice ao n c, .int .u64 x] w fun r w' => r = .returned (.tuple #[.slice ao n c, .int .i64 0, .int .u64 0, .int .i64 22]) ∧ w = w' := by
  have hn := h.len
  have hn2 : n ≤ 126 := by omega
  have H := Lib.hid h
  have HF := Lib.hid hf
  have HN := Lib.hid hn
  clear h hf hn hl
  go_enter Try.func12, Try.ntmps12
  go_wp2
  go_loopw [8] (fun i wr => ∃ k : Nat, k ≤ n ∧ i = .int .i64 (k : Int) ∧ w = wr) (fun i _ => n - (intOf i).toNat)
  case atStart => exact ⟨0, Nat.zero_le _, rfl, rfl⟩
  case round =>
    obtain ⟨k, hk, rfl, rfl⟩ := hrel
    by_cases hlt : k < n
    · have hki : (k : Int) < (n : Int) := by omega
      obtain ⟨s, hs⟩ : ∃ s, L[k]? = some s := ⟨L[k]'(by have := HN.out; omega), List.getElem?_eq_getElem _⟩
      obtain ⟨g, rfl, -, e0, -⟩ := H.out.at hs
      have hn := HF.out s (List.mem_of_getElem? hs)
      rw [show (s.st != 0) = true by simpa using hn] at e0
      clear hs
      go_wp2
      go_roundw
      case rel => exact ⟨k + 1, by omega, by go_num, trivial⟩
      case measure => simp [intOf]; omega
    · have hki : ¬ (k : Int) < (n : Int) := by omega
      go_wp2
      exact bodyPost_ret (results4 rfl _ _) rfl ⟨rfl, rfl⟩

/-- What the document's Begin leaves. -/
def RBeg (B : Nat) (w : World) (L : List Sl) (f t : Nat) (r : Ending) (w' : World) : Prop := ∃ v, r = .returned (.tuple #[v, .int .i64 (f : Int), .int .u64 (t : Int), .int .i64 0]) ∧ SO B w' v L ∧ w.grownBy w' none

set_option maxHeartbeats 4000000 in
theorem rbegin_at (w : World) (B : Nat) (ao : Option Addr) (n c : Nat) (L : List Sl) (x f : Nat) (s : Sl) (h : SO B w (.slice ao n c) L) (hB : B ≤ w.heap.size) (hl : L.length ≤ 126) (hf : ∀ j, j < f → ∀ s, L[j]? = some s → s.st ≠ 0) (hs : L[f]? = some s) (h0 : s.st = 0) (tt : Nat) (htt : (sbeg s x).turn = tt) :
    Calls Try.prog 12 #[.slice ao n c, .int .u64 (x : Int)] w fun r w' => RBeg B w (L.set f (sbeg s x)) f tt r w' := by
  have hn := h.len
  have hn2 : n ≤ 126 := by omega
  have hfl : f < n := by have := (List.getElem?_eq_some_iff.1 hs).1; omega
  have H := Lib.hid h
  have HF := Lib.hid hf
  have HN := Lib.hid hn
  have HS := Lib.hid hs
  have HL := Lib.hid hl
  have hw : IntKind.u64.wrap ((s.turn : Int) + 1) = (tt : Int) := by
    rw [← htt]
    show _ = (((s.turn + 1) % 18446744073709551616 : Nat) : Int)
    rw [show (((s.turn + 1) % 18446744073709551616 : Nat) : Int) = ((s.turn : Int) + 1) % 18446744073709551616 by omega]
    simp [IntKind.wrap, IntKind.signed, go_sem]
  have HTT := Lib.hid htt
  clear h hf hn hl hs htt
  go_enter Try.func12, Try.ntmps12
  go_wp2
  go_loopw [8] (fun i wr => ∃ k : Nat, k ≤ f ∧ i = .int .i64 (k : Int) ∧ w = wr) (fun i _ => n - (intOf i).toNat)
  case atStart => exact ⟨0, Nat.zero_le _, rfl, rfl⟩
  case round =>
    obtain ⟨k, hk, rfl, rfl⟩ := hrel
    have hki : (k : Int) < (n : Int) := by omega
    by_cases hlt : k < f
    · obtain ⟨s', hs⟩ : ∃ s, L[k]? = some s := ⟨L[k]'(by have := HN.out; omega), List.getElem?_eq_getElem _⟩
      obtain ⟨g, rfl, -, e0, -⟩ := H.out.at hs
      have hn := HF.out k hlt s' hs
      rw [show (s'.st != 0) = true by simpa using hn] at e0
      clear hs
      go_wp2
      go_roundw
      case rel => exact ⟨k + 1, by omega, by go_num, trivial⟩
      case measure => simp [intOf]; omega
    · have hke : k = f := by omega
      subst hke
      obtain ⟨g, rfl, -, e0, e1, e2, e3⟩ := H.out.at HS.out
      rw [show (s.st != 0) = false by simp [h0]] at e0
      go_wp2
      go_region_with (go_at_call 26; (with_reducible refine (rset_any _ B _ n c L k s true false (x : Int) (tt : Int) (sbeg s x) (H.out.grown (gdrew _)) HS.out HL.out rfl rfl (by rw [HTT.out]) rfl).mono ?_); rintro r w7 ⟨v7, rfl, hs7, hg7⟩; have HS7 := Lib.hid (hs7.base (Nat.le_trans hB (gdrew _).size)); have HG7 := Lib.hid (gtrans (gdrew _) hg7); obtain ⟨g7, hv7, -, -, -, d2, -⟩ := (H.out.grown (gtrans (gdrew _) hg7)).at HS.out; (injection hv7 with hv7; injection hv7 with hv7; subst hv7); clear hs7 hg7)
      all_goals
        go_wp2
        exact bodyPost_ret (results4 rfl _ _) rfl ⟨_, rfl, HS7.out, HG7.out⟩

set_option maxHeartbeats 2000000 in
theorem rgood_any (w : World) (B : Nat) (ao : Option Addr) (n c : Nat) (L : List Sl) (i : Int) (t : Nat) (h : SO B w (.slice ao n c) L) (hl : L.length ≤ 126) (d : Bool) (hd : (goodM L i t).isSome = d) :
    Calls Try.prog 20 #[.slice ao n c, .int .i64 i, .int .u64 (t : Int)] w fun r w' => r = .returned (.bool d) ∧ w = w' := by
  have hn := h.len
  have hn2 : n ≤ 126 := by omega
  by_cases h0 : i < 0
  · have e : d = false := by rw [← hd]; unfold goodM takenM; rw [if_neg (by omega)]; rfl
    subst e
    clear h hd hn
    go_enter Try.func20, Try.ntmps20
    go_wp2
    go_ret
    exact ⟨rfl, rfl⟩
  by_cases h1 : (n : Int) ≤ i
  · have e : d = false := by rw [← hd]; unfold goodM takenM; rw [if_pos (by omega), List.getElem?_eq_none (by omega)]; rfl
    subst e
    clear h hd hn
    go_enter Try.func20, Try.ntmps20
    go_wp2
    go_ret
    exact ⟨rfl, rfl⟩
  obtain ⟨k, rfl⟩ : ∃ k : Nat, i = (k : Int) := ⟨i.toNat, by omega⟩
  have hkn : k < n := by omega
  have hki : (k : Int) < (n : Int) := by omega
  obtain ⟨s, hs⟩ : ∃ s, L[k]? = some s := ⟨L[k]'(by omega), List.getElem?_eq_getElem _⟩
  obtain ⟨g, rfl, -, e0, e1, e2, e3⟩ := h.at hs
  have hg := taken_k hs
  by_cases hz : s.st = 0
  · have e : d = false := by rw [← hd]; rw [good_free hs hz]; rfl
    subst e
    rw [show (s.st != 0) = false by simp [hz]] at e0
    clear h hd hn hs hg
    go_enter Try.func20, Try.ntmps20
    go_wp2
    go_ret
    exact ⟨rfl, rfl⟩
  rw [show (s.st != 0) = true by simpa using hz] at e0
  by_cases ht : s.turn = t
  · have e : d = true := by rw [← hd, good_at hs hz ht]; rfl
    subst e
    rw [ht] at e2
    clear h hd hn hs hg
    go_enter Try.func20, Try.ntmps20
    go_wp2
    go_ret
    exact ⟨by simp, rfl⟩
  · have e : d = false := by rw [← hd, good_old hs ht]; rfl
    subst e
    have hti : ¬ (s.turn : Int) = (t : Int) := by omega
    have htb : ((s.turn : Int) == (t : Int)) = false := by simpa using hti
    clear h hd hn hs hg
    go_enter Try.func20, Try.ntmps20
    go_wp2
    go_ret
    exact ⟨by simp [hti], rfl⟩

end Go.Proofs.Ytoaglkbobndmeaa
