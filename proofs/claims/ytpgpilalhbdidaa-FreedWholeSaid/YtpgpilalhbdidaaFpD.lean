/-
  Layer 8: rightPages; slices.ContainsFunc against a set. Own work.
-/
import Derived.Test.YtpgpilalhbdidaaFpC
namespace Go.Proofs.Ytpgpilalhbdidaa
open Go.RowKit Go.Maps

theorem rise_cons (stop least p : Nat) (r : List Nat) : rise stop least (p :: r) = (decide (least ≤ p) && decide (p < stop) && rise stop (p + 1) r) := rfl

set_option maxHeartbeats 1000000 in
theorem rightPages_any (w : World) (R : Nat → Prop) (ao : Option Addr) (n c : Nat) (ps : List Nat) (stop : Nat) (hs : PSq R w (.slice ao n c) ps) (hst : stop < 4294967296) :
    Calls Try.prog 35 #[.slice ao n c, .int .u32 (stop : Int)] w fun r w' => r = .returned (.bool (okPages ps stop)) ∧ w = w' := by
  obtain ⟨hn, hm⟩ := hs.len
  have hN := Lib.hid hn
  have Hs := Lib.hid hs
  have hm2 : (n : Int) ≤ 9223372036854775807 := by have h9 : maxLen ≤ 9223372036854775807 := by decide
                                                   omega
  clear hn hm hs
  go_enter Try.func35, Try.ntmps35
  go_wp2
  go_loopw [5, 10] (fun l i wr => ∃ k least : Nat, k ≤ n ∧ i = .int .i64 (k : Int) ∧ l = .int .u32 (least : Int) ∧ rise stop 2 ps = rise stop least (ps.drop k) ∧ w = wr) (fun _ i _ => n - (intOf i).toNat)
  case atStart => exact ⟨0, 2, Nat.zero_le _, rfl, rfl, by simp, rfl⟩
  case round =>
    obtain ⟨k, least, hk, rfl, rfl, hr, rfl⟩ := hrel
    have Hr := Lib.hid hr
    clear hr
    by_cases hlt : k < n
    · have hki : (k : Int) < (n : Int) := by omega
      have hkl : k < ps.length := by rw [← hN.out]; exact hlt
      obtain ⟨b', o, rfl, _, hc⟩ := Hs.out.at k hkl
      have hdk : ps.drop k = ps.getD k 0 :: ps.drop (k + 1) := by
        rw [List.drop_eq_getElem_cons hkl, List.getD_eq_getElem?_getD, List.getElem?_eq_getElem hkl]; rfl
      have HD := Lib.hid hdk
      clear hdk
      generalize ps.getD k 0 = q at hc HD
      by_cases h1 : q < least
      · have h1i : (q : Int) < (least : Int) := by omega
        have HF := Lib.hid (show okPages ps stop = false by unfold okPages; rw [Hr.out, HD.out, rise_cons]; simp [show ¬ least ≤ q by omega])
        go_wp2
        go_ret
        exact ⟨by rw [HF.out]; rfl, rfl⟩
      · have h1i : ¬ (q : Int) < (least : Int) := by omega
        by_cases h2 : stop ≤ q
        · have h2i : (stop : Int) ≤ (q : Int) := by omega
          have HF := Lib.hid (show okPages ps stop = false by unfold okPages; rw [Hr.out, HD.out, rise_cons]; simp [show ¬ q < stop by omega])
          go_wp2
          go_ret
          exact ⟨by rw [HF.out]; rfl, rfl⟩
        · have h2i : ¬ (stop : Int) ≤ (q : Int) := by omega
          have hq1 : (q : Int) + 1 ≤ 4294967295 := by omega
          go_wp2
          go_roundw
          case rel => exact ⟨k + 1, q + 1, by omega, by go_num, by go_num, by rw [Hr.out, HD.out, rise_cons]; simp [show least ≤ q by omega, show q < stop by omega], trivial⟩
          case measure => simp [intOf]; omega
    · have hki : ¬ (k : Int) < (n : Int) := by omega
      have HF := Lib.hid (show okPages ps stop = decide (0 < n) by
        unfold okPages
        rw [Hr.out, List.drop_eq_nil_of_le (by rw [← hN.out]; omega), ← hN.out]
        simp [rise])
      go_wp2
      go_ret
      exact ⟨by rw [HF.out]; rfl, rfl⟩

set_option maxHeartbeats 1000000 in
/-- slices.IndexFunc, asked for the first page that is in a set. -/
theorem pindex_any (w : World) (R : Nat → Prop) (ao : Option Addr) (n c b : Nat) (ps L : List Nat) (hs : PSq R w (.slice ao n c) ps) (hS : SetAt w b L) :
    Calls Try.prog 54 #[.slice ao n c, .func (.func 37) #[.map (some b)] #[]] w fun r w' => ∃ i : Int, r = .returned (.int .i64 i) ∧ (decide (0 ≤ i) = !noneIn ps L) ∧ w.grownBy w' none := by
  obtain ⟨hn, hm⟩ := hs.len
  have hN := Lib.hid hn
  have Hs := Lib.hid hs
  have HS := Lib.hid hS
  have hm2 : (n : Int) ≤ 9223372036854775807 := by have h9 : maxLen ≤ 9223372036854775807 := by decide
                                                   omega
  clear hn hm hs hS
  go_enter Try.func54, Try.ntmps54
  go_wp2
  go_loopw [8] (fun i wr => ∃ k : Nat, k ≤ n ∧ i = .int .i64 (k : Int) ∧ (∀ p ∈ ps.take k, p ∉ L) ∧ w.grownBy wr none) (fun i _ => n - (intOf i).toNat)
  case atStart => exact ⟨0, Nat.zero_le _, rfl, by simp, grefl _ _⟩
  case round =>
    obtain ⟨k, hk, rfl, hr, hg⟩ := hrel
    have Hr := Lib.hid hr
    have Hg := Lib.hid hg
    clear hr hg
    by_cases hlt : k < n
    · have hki : (k : Int) < (n : Int) := by omega
      have hkl : k < ps.length := by rw [← hN.out]; exact hlt
      obtain ⟨b', o, rfl, _, hc0⟩ := Hs.out.at k hkl
      have hc : wr.cell? ⟨b', o + k, none⟩ = _ := Hg.out.cell hc0 (by simp)
      have htk : ps.take (k + 1) = ps.take k ++ [ps.getD k 0] := by
        rw [List.take_succ_eq_append_getElem hkl, List.getD_eq_getElem?_getD, List.getElem?_eq_getElem hkl]; rfl
      have hmem : ps.getD k 0 ∈ ps := by rw [List.getD_eq_getElem?_getD, List.getElem?_eq_getElem hkl]; exact List.getElem_mem hkl
      have hq32 := Hs.out.u32 _ hmem
      have HT := Lib.hid htk
      have HM := Lib.hid hmem
      clear htk hmem hc0
      generalize ps.getD k 0 = q at hc HT HM hq32
      by_cases hin : q ∈ L
      · have hd : decide (q ∈ L) = true := by simpa using hin
        have HIN := Lib.hid hin
        clear hin
        go_wp2_with (first
          | (go_at_call 37; refine (has_any wr b q L (HS.out.grown Hg.out) hq32).mono ?_; rw [hd]; rintro r w1 ⟨rfl, rfl⟩))
        go_ret
        refine ⟨(k : Int), rfl, ?_, gtrans Hg.out (World.grownBy_alloc _ _ _)⟩
        have : noneIn ps L = false := by
          unfold noneIn
          rw [List.all_eq_false]
          exact ⟨q, HM.out, by simp [HIN.out]⟩
        rw [this]
        simp
      · have hd : decide (q ∈ L) = false := by simpa using hin
        have HIN := Lib.hid hin
        clear hin
        go_wp2_with (first
          | (go_at_call 37; refine (has_any wr b q L (HS.out.grown Hg.out) hq32).mono ?_; rw [hd]; rintro r w1 ⟨rfl, rfl⟩))
        go_roundw
        case rel =>
          refine ⟨k + 1, by omega, by go_num, ?_, gtrans Hg.out (World.grownBy_alloc _ _ _)⟩
          rw [HT.out]
          intro p hp
          rcases List.mem_append.1 hp with h | h
          · exact Hr.out p h
          · have : p = q := by simpa using h
            rw [this]; exact HIN.out
        case measure => simp [intOf]; omega
    · have hki : ¬ (k : Int) < (n : Int) := by omega
      go_wp2
      go_ret
      refine ⟨-1, rfl, ?_, Hg.out⟩
      have e : ps.take k = ps := by rw [show k = n by omega, hN.out]; exact List.take_length
      have h := Hr.out
      rw [e] at h
      have : noneIn ps L = true := by
        unfold noneIn
        rw [List.all_eq_true]
        intro p hp
        simpa using h p hp
      rw [this]
      simp

set_option maxHeartbeats 1000000 in
theorem contains_any (w : World) (R : Nat → Prop) (ao : Option Addr) (n c b : Nat) (ps L : List Nat) (hs : PSq R w (.slice ao n c) ps) (hS : SetAt w b L) :
    Calls Try.prog 36 #[.slice ao n c, .func (.func 37) #[.map (some b)] #[]] w fun r w' => r = .returned (.bool (!noneIn ps L)) ∧ w.grownBy w' none := by
  go_enter Try.func36, Try.ntmps36
  go_wp2_with (first
    | (go_at_call 54; refine (pindex_any w R ao n c b ps L hs hS).mono ?_; rintro r w1 ⟨i, rfl, hi, hg⟩; have HI := Lib.hid hi; have HG := Lib.hid hg; clear hi hg))
  go_ret
  exact ⟨by rw [← HI.out]; rfl, HG.out⟩

end Go.Proofs.Ytpgpilalhbdidaa
