/-
  Layer 9: Live, Oldest, Clear. Own work.
-/
import Derived.Test.YtoaglkbobndmeaaRdD
namespace Go.Proofs.Ytoaglkbobndmeaa
open Go.RowKit

def liveN (l : List Sl) : Nat := l.countP (fun s => s.st != 0)
def oldM (l : List Sl) (x : Nat) : Nat := l.foldl (fun m s => if s.st = 0 then m else min m s.rd) x
theorem take_more {l : List Sl} {k : Nat} {s : Sl} (h : l[k]? = some s) : l.take (k + 1) = l.take k ++ [s] := by
  rw [List.take_add_one, h]; rfl
theorem taken_k {L : List Sl} {k : Nat} {s : Sl} (h : L[k]? = some s) : takenM L (k : Int) = if s.st = 0 then none else some s := by
  unfold takenM
  rw [if_pos (by omega), show ((k : Int)).toNat = k by omega, h]
  by_cases z : s.st = 0 <;> simp [z, Option.filter]
theorem oldM_le (l : List Sl) (x : Nat) : oldM l x ≤ x := by
  unfold oldM
  induction l generalizing x with
  | nil => exact Nat.le_refl _
  | cons s l ih =>
    refine Nat.le_trans (ih _) ?_
    show (if s.st = 0 then x else min x s.rd) ≤ x
    split
    · exact Nat.le_refl _
    · exact Nat.min_le_left _ _

set_option maxHeartbeats 4000000 in
theorem live_any (w : World) (b : Nat) (L : List Sl) (h : TabAt b w L) :
    Calls Try.prog 23 #[.pointer (some ⟨b, 0, none⟩)] w fun r w' => r = .returned (.int .i64 (liveN L : Int)) ∧ w = w' := by
  have H := Lib.hid h
  have hms := h.most
  clear h
  go_enter Try.func23, Try.ntmps23
  go_wp2_with (first
    | (go_at_call 30; (with_reducible refine (size_any w b L H.out).mono ?_); rintro r w1 ⟨rfl, rfl⟩)
    | go_in)
  go_loopw [3, 7] (fun n i wr => ∃ (k m : Nat), k ≤ L.length ∧ i = .int .i64 (k : Int) ∧ n = .int .i64 (m : Int) ∧ m = liveN (L.take k) ∧ m ≤ k ∧ w = wr) (fun _ i _ => L.length - (intOf i).toNat)
  case atStart => exact ⟨0, 0, Nat.zero_le _, rfl, rfl, rfl, Nat.le_refl _, rfl⟩
  case round =>
    obtain ⟨k, m, hk, rfl, rfl, hm, hmk, rfl⟩ := hrel
    have HM := Lib.hid hm
    clear hm
    by_cases hlt : k < L.length
    · have hki : (k : Int) < (L.length : Int) := by omega
      obtain ⟨s, hs⟩ : ∃ s, L[k]? = some s := ⟨L[k], List.getElem?_eq_getElem hlt⟩
      have ht := taken_k hs
      by_cases hz : s.st = 0
      · rw [if_pos hz] at ht
        have HT := Lib.hid ht
        have HN := Lib.hid (show m = liveN (L.take (k + 1)) by rw [take_more hs, HM.out]; simp [liveN, hz])
        clear hs ht
        go_wp2_with (first
          | (go_at_call 29; (with_reducible refine (taken_any _ b L (k : Int) H.out).mono ?_); rintro r w1 ⟨rfl, rfl⟩; rw [HT.out, ptrAt])
          | go_in)
        go_roundw
        case rel => exact ⟨k + 1, m, by omega, by go_num, rfl, HN.out, by omega, trivial⟩
        case measure => simp [intOf]; omega
      · rw [if_neg hz] at ht
        have HT := Lib.hid ht
        have HN := Lib.hid (show m + 1 = liveN (L.take (k + 1)) by rw [take_more hs, HM.out]; simp [liveN, hz])
        clear hs ht
        go_wp2_with (first
          | (go_at_call 29; (with_reducible refine (taken_any _ b L (k : Int) H.out).mono ?_); rintro r w1 ⟨rfl, rfl⟩; rw [HT.out, ptrAt])
          | go_in)
        go_roundw
        case rel => exact ⟨k + 1, m + 1, by omega, by go_num, by go_num, HN.out, by omega, trivial⟩
        case measure => simp [intOf]; omega
    · have hki : ¬ (k : Int) < (L.length : Int) := by omega
      have HN := Lib.hid (show m = liveN L by rw [HM.out, List.take_of_length_le (by omega)])
      go_wp2
      go_ret
      exact ⟨by rw [← HN.out]; rfl, rfl⟩
theorem live_nil (w : World) : Calls Try.prog 23 #[.pointer none] w fun r w' => r = .returned (.int .i64 0) ∧ w = w' := by
  go_enter Try.func23, Try.ntmps23
  go_wp2_with (first
    | (go_at_call 30; (with_reducible refine (size_nil w).mono ?_); rintro r w1 ⟨rfl, rfl⟩)
    | go_in)
  go_loopw [3, 7] (fun n i wr => n = .int .i64 0 ∧ i = .int .i64 0 ∧ w = wr) (fun _ i _ => 0)
  case atStart => exact ⟨rfl, rfl, rfl⟩
  case round =>
    obtain ⟨rfl, rfl, rfl⟩ := hrel
    go_wp2
    go_ret
    exact ⟨rfl, rfl⟩

set_option maxHeartbeats 4000000 in
theorem oldest_any (w : World) (b : Nat) (L : List Sl) (x : Nat) (h : TabAt b w L) :
    Calls Try.prog 21 #[.pointer (some ⟨b, 0, none⟩), .int .u64 (x : Int)] w fun r w' => r = .returned (.int .u64 (oldM L x : Int)) ∧ w = w' := by
  have H := Lib.hid h
  have hms := h.most
  clear h
  go_enter Try.func21, Try.ntmps21
  go_wp2_with (first
    | (go_at_call 30; (with_reducible refine (size_any w b L H.out).mono ?_); rintro r w1 ⟨rfl, rfl⟩)
    | go_in)
  go_loopw [1, 9] (fun n i wr => ∃ (k m : Nat), k ≤ L.length ∧ i = .int .i64 (k : Int) ∧ n = .int .u64 (m : Int) ∧ m = oldM (L.take k) x ∧ w = wr) (fun _ i _ => L.length - (intOf i).toNat)
  case atStart => exact ⟨0, x, Nat.zero_le _, rfl, rfl, rfl, rfl⟩
  case round =>
    obtain ⟨k, m, hk, rfl, rfl, hm, rfl⟩ := hrel
    have HM := Lib.hid hm
    clear hm
    by_cases hlt : k < L.length
    · have hki : (k : Int) < (L.length : Int) := by omega
      obtain ⟨s, hs⟩ : ∃ s, L[k]? = some s := ⟨L[k], List.getElem?_eq_getElem hlt⟩
      have ht := taken_k hs
      by_cases hz : s.st = 0
      · rw [if_pos hz] at ht
        have HT := Lib.hid ht
        have HN := Lib.hid (show m = oldM (L.take (k + 1)) x by rw [take_more hs, HM.out]; simp [oldM, hz])
        clear hs ht
        go_wp2_with (first
          | (go_at_call 29; (with_reducible refine (taken_any _ b L (k : Int) H.out).mono ?_); rintro r w1 ⟨rfl, rfl⟩; rw [HT.out, ptrAt])
          | go_in)
        go_roundw
        case rel => exact ⟨k + 1, m, by omega, by go_num, rfl, HN.out, trivial⟩
        case measure => simp [intOf]; omega
      · rw [if_neg hz] at ht
        have HT := Lib.hid ht
        have HN := Lib.hid (show min m s.rd = oldM (L.take (k + 1)) x by rw [take_more hs, HM.out]; simp [oldM, hz])
        have c2 := (H.out.cells hs).2.2
        clear hs ht
        go_wp2_with (first
          | (go_at_call 29; (with_reducible refine (taken_any _ b L (k : Int) H.out).mono ?_); rintro r w1 ⟨rfl, rfl⟩; rw [HT.out, ptrAt, show ((k : Int)).toNat = k by omega])
          | (go_at_call 31; (with_reducible refine (uload_any ⟨b, 3 * k + 2, none⟩ (s.rd : Int) _ rfl c2).mono ?_); rintro r w2 ⟨rfl, rfl⟩)
          | go_in)
        go_roundw
        case rel => exact ⟨k + 1, min m s.rd, by omega, by go_num, by go_num, HN.out, trivial⟩
        case measure => simp [intOf]; omega
    · have hki : ¬ (k : Int) < (L.length : Int) := by omega
      have HN := Lib.hid (show m = oldM L x by rw [HM.out, List.take_of_length_le (by omega)])
      go_wp2
      go_ret
      exact ⟨by rw [← HN.out]; rfl, rfl⟩
theorem oldest_nil (w : World) (x : Int) : Calls Try.prog 21 #[.pointer none, .int .u64 x] w fun r w' => r = .returned (.int .u64 x) ∧ w = w' := by
  go_enter Try.func21, Try.ntmps21
  go_wp2_with (first
    | (go_at_call 30; (with_reducible refine (size_nil w).mono ?_); rintro r w1 ⟨rfl, rfl⟩)
    | go_in)
  go_loopw [1, 9] (fun n i wr => n = .int .u64 x ∧ i = .int .i64 0 ∧ w = wr) (fun _ i _ => 0)
  case atStart => exact ⟨rfl, rfl, rfl⟩
  case round =>
    obtain ⟨rfl, rfl, rfl⟩ := hrel
    go_wp2
    go_ret
    exact ⟨rfl, rfl⟩

def clrM (s : Sl) : Sl := if s.st = 2 then send s else s
def partM : List Sl → Nat → List Sl
  | [], _ => []
  | s :: l, 0 => s :: l
  | s :: l, k + 1 => clrM s :: partM l k
theorem partM_zero (l : List Sl) : partM l 0 = l := by cases l <;> rfl
theorem partM_len : ∀ (l : List Sl) (k : Nat), (partM l k).length = l.length
  | [], _ => rfl
  | s :: l, 0 => rfl
  | s :: l, k + 1 => by simp [partM, partM_len l k]
theorem partM_at : ∀ (l : List Sl) (k : Nat), (partM l k)[k]? = l[k]?
  | [], _ => rfl
  | s :: l, 0 => rfl
  | s :: l, k + 1 => by simp [partM, partM_at l k]
theorem partM_set : ∀ (l : List Sl) (k : Nat) (s : Sl), l[k]? = some s → (partM l k).set k (clrM s) = partM l (k + 1)
  | [], k, s, h => by simp at h
  | z :: l, 0, s, h => by
    have : z = s := by simpa using h
    subst this
    simp [partM, partM_zero]
  | z :: l, k + 1, s, h => by
    have := partM_set l k s (by simpa using h)
    simp [partM, this]
theorem partM_all : ∀ (l : List Sl), partM l l.length = l.map clrM
  | [] => rfl
  | s :: l => by simp [partM, partM_all l]
theorem partM_same (l : List Sl) (k : Nat) (s : Sl) (h : l[k]? = some s) (hs : s.st ≠ 2) : partM l (k + 1) = partM l k := by
  rw [← partM_set l k s h, show clrM s = s by simp [clrM, hs]]
  have h2 := (partM_at l k).trans h
  obtain ⟨hk, he⟩ := List.getElem?_eq_some_iff.1 h2
  exact he ▸ List.set_getElem_self hk
def deadN (l : List Sl) : Nat := l.countP (fun s => s.st == 2)
theorem TabTo.refl {b : Nat} {w : World} {L : List Sl} (h : TabAt b w L) : TabTo b w w L := ⟨h, grefl _ _⟩

set_option maxHeartbeats 4000000 in
theorem clear_any (w : World) (b : Nat) (L : List Sl) (h : TabAt b w L) :
    Calls Try.prog 17 #[.pointer (some ⟨b, 0, none⟩)] w fun r w' => r = .returned (.int .i64 (deadN L : Int)) ∧ TabTo b w w' (L.map clrM) := by
  have H := Lib.hid h
  have hms := h.most
  clear h
  go_enter Try.func17, Try.ntmps17
  go_wp2_with (first
    | (go_at_call 30; (with_reducible refine (size_any w b L H.out).mono ?_); rintro r w1 ⟨rfl, rfl⟩)
    | go_in)
  go_loopw [3, 8] (fun n i wr => ∃ (k m : Nat), k ≤ L.length ∧ i = .int .i64 (k : Int) ∧ n = .int .i64 (m : Int) ∧ m = deadN (L.take k) ∧ m ≤ k ∧ TabTo b w wr (partM L k)) (fun _ i _ => L.length - (intOf i).toNat)
  case atStart => exact ⟨0, 0, Nat.zero_le _, rfl, rfl, rfl, Nat.le_refl _, by rw [partM_zero]; exact TabTo.refl H.out⟩
  case round =>
    obtain ⟨k, m, hk, rfl, rfl, hm, hmk, hT⟩ := hrel
    have HM := Lib.hid hm
    have HT := Lib.hid hT
    clear hm hT
    by_cases hlt : k < L.length
    · have hki : (k : Int) < (L.length : Int) := by omega
      have i126 : (k : Int) < 126 := by omega
      have hk126 : k < 126 := by omega
      obtain ⟨s, hs⟩ : ∃ s, L[k]? = some s := ⟨L[k], List.getElem?_eq_getElem hlt⟩
      have hp := (partM_at L k).trans hs
      have c0 := (HT.out.1.cells hp).1
      rw [Nat.mul_comm] at c0
      by_cases hz : s.st = 2
      · rw [hz] at c0
        have HN := Lib.hid (show m + 1 = deadN (L.take (k + 1)) by rw [take_more hs, HM.out]; simp [deadN, hz])
        have HP := Lib.hid hp
        have HQ := Lib.hid (show (partM L k).set k (send s) = partM L (k + 1) by rw [← partM_set L k s hs]; simp [clrM, hz])
        clear hs hp
        go_wp2_with (first
          | (go_at_call 28; have K := send_any _ b k (partM L k) s HT.out.1 HP.out; rw [Nat.mul_comm 3 k] at K; (with_reducible refine K.mono ?_); clear K; rintro r w2 ⟨rfl, rfl⟩)
          | go_in)
        have h2 := HT.out.1.set2 HP.out
        rw [Nat.mul_comm 3 k] at h2
        rw [show (partM L k).set k ⟨0, s.turn, 0⟩ = partM L (k + 1) from HQ.out] at h2
        have H2 := Lib.hid h2
        clear h2
        go_roundw
        case rel => exact ⟨k + 1, m + 1, by omega, by go_num, by go_num, HN.out, by omega, H2.out, gtrans HT.out.2 (gtrans (gset _ ⟨b, _, none⟩ _) (gset _ ⟨b, _, none⟩ _))⟩
        case measure => simp [intOf]; omega
      · have hzi : ¬ (s.st : Int) = 2 := by omega
        have hzb : ((s.st : Int) == 2) = false := by simpa using hzi
        have HN := Lib.hid (show m = deadN (L.take (k + 1)) by rw [take_more hs, HM.out]; simp [deadN, hz])
        have HQ := Lib.hid (partM_same L k s hs hz)
        clear hs hp
        go_wp2
        go_roundw
        case rel => exact ⟨k + 1, m, by omega, by go_num, rfl, HN.out, by omega, by rw [HQ.out]; exact HT.out⟩
        case measure => simp [intOf]; omega
    · have hki : ¬ (k : Int) < (L.length : Int) := by omega
      have hke : k = L.length := by omega
      have HN := Lib.hid (show m = deadN L by rw [HM.out, List.take_of_length_le (by omega)])
      have hq := HT.out
      rw [hke, partM_all] at hq
      have HQ := Lib.hid hq
      clear hq
      go_wp2
      go_ret
      exact ⟨by rw [← HN.out]; rfl, HQ.out⟩
theorem clear_nil (w : World) : Calls Try.prog 17 #[.pointer none] w fun r w' => r = .returned (.int .i64 0) ∧ w = w' := by
  go_enter Try.func17, Try.ntmps17
  go_wp2_with (first
    | (go_at_call 30; (with_reducible refine (size_nil w).mono ?_); rintro r w1 ⟨rfl, rfl⟩)
    | go_in)
  go_loopw [3, 8] (fun n i wr => n = .int .i64 0 ∧ i = .int .i64 0 ∧ w = wr) (fun _ i _ => 0)
  case atStart => exact ⟨rfl, rfl, rfl⟩
  case round =>
    obtain ⟨rfl, rfl, rfl⟩ := hrel
    go_wp2
    go_ret
    exact ⟨rfl, rfl⟩

end Go.Proofs.Ytoaglkbobndmeaa
