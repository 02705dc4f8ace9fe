/-
  Layer 10: the contract of freed's Spread. Own work.
-/
import Derived.Test.YtpgpilalhbdidaaFrD
import Derived.OwnWalk
namespace Go.Proofs.Ytpgpilalhbdidaa
open Go.RowKit

theorem infoPairs : (Try.prog.info? 31).map (fun i => (i.zero, i.size, i.bytes)) = some (some (.slice none 0 0), 1, 24) := by kernel_rfl
def partF (ps : List Pr) (M k : Nat) : List Pr := (ps.drop (k * M)).take M
/-- Rows of pairs, one cell each, in memory from 'base' on. -/
structure RowsAt (base : Nat) (w : World) (v : Value) (m : Nat) (f : Nat → List Pr) (vals : List Value) (q : Nat) : Prop where
  val : v = .slice (some ⟨q, 0, none⟩) m m
  row : w.ownsRow base 31 1 v m vals
  each : ∀ j, j < m → ∃ u, vals[j]? = some u ∧ PrSq (fun b => base < b) w u (f j)
theorem RowsAt.grown {base : Nat} {w w' : World} {v : Value} {m : Nat} {f : Nat → List Pr} {vals : List Value} {q : Nat} (h : RowsAt base w v m f vals q) (k : w.grownBy w' none) : RowsAt base w' v m f vals q :=
  ⟨h.val, World.ownsRow.kept h.row k (by cases v.ownBlock <;> simp), fun j hj => by obtain ⟨u, h1, h2⟩ := h.each j hj; exact ⟨u, h1, h2.grown k⟩⟩
theorem PrSq.post {R : Nat → Prop} {w : World} {ao : Option Addr} {n c k : Nat} {ps : List Pr} (h : PrSq R w (.slice ao n c) ps) (hk : k ≤ n) : PrSq R w (.slice (if c = k then ao else ao.map (·.add (k * 2))) (n - k) (c - k)) (ps.drop k) := by
  obtain ⟨ao', c', hv, h1, h2, h3, hn, h4⟩ := h
  cases hv
  have hl : (ps.drop k).length = ps.length - k := List.length_drop
  refine ⟨_, _, by rw [hl], by omega, by omega, fun p hp => h3 p (List.mem_of_mem_drop hp), fun e => ?_, fun hne => ?_⟩
  · by_cases e2 : c = k
    · omega
    · rw [if_neg e2] at e
      have : ao = none := by simpa using e
      have := hn this
      omega
  · have hp : 0 < (ps.drop k).length := List.length_pos_iff.2 hne
    obtain ⟨b, o, rfl, hb, hc⟩ := h4 (by rintro rfl; simp at hne)
    rw [if_neg (by omega)]
    refine ⟨b, o + k * 2, by simp [Addr.add], hb, fun j p hjp => ?_⟩
    rw [List.getElem?_drop] at hjp
    obtain ⟨k1, k2⟩ := hc (k + j) p hjp
    rw [show o + k * 2 + j * 2 = o + (k + j) * 2 by omega]
    exact ⟨k1, k2⟩
theorem PrSq.head {R : Nat → Prop} {w : World} {ao : Option Addr} {n c k : Nat} {ps : List Pr} (h : PrSq R w (.slice ao n c) ps) (hk : k ≤ n) : PrSq R w (.slice ao k k) (ps.take k) := by
  obtain ⟨ao', c', hv, h1, h2, h3, hn, h4⟩ := h
  cases hv
  have hl : (ps.take k).length = k := by rw [List.length_take]; omega
  refine ⟨_, _, by rw [hl], by omega, by omega, fun p hp => h3 p (List.mem_of_mem_take hp), fun e => ?_, fun hne => ?_⟩
  · have := hn e; omega
  · obtain ⟨b, o, rfl, hb, hc⟩ := h4 (by rintro rfl; simp at hne)
    refine ⟨b, o, rfl, hb, fun j p hjp => hc j p ?_⟩
    rw [List.getElem?_take] at hjp
    split at hjp
    · exact hjp
    · cases hjp

def SprNo (e : Int) (w w' : World) (r : Ending) : Prop := r = .returned (.tuple #[.slice none 0 0, .int .i64 e]) ∧ w.grownBy w' none
def SprYes (ps : List Pr) (M m : Nat) (w w' : World) (r : Ending) : Prop := ∃ v vals q, r = .returned (.tuple #[v, .int .i64 0]) ∧ RowsAt w.heap.size w' v m (partF ps M) vals q ∧ w.grownBy w' none

set_option maxHeartbeats 1000000 in
theorem spread_arg (w : World) (ao : Option Addr) (n c : Nat) (p S : Int) (h : ¬ ((512 ≤ S ∧ S ≤ 4096) ∧ 0 ≤ p ∧ p ≤ 65536)) :
    Calls Try.prog 22 #[.slice ao n c, .int .i64 p, .int .i64 S] w fun r w' => SprNo 1 w w' r := by
  by_cases hs : 512 ≤ S ∧ S ≤ 4096
  · by_cases h0 : 0 ≤ p
    · have d0 : ¬ p < 0 := by omega
      have d1 : 65536 < p := by
        rcases Int.lt_or_le 65536 p with k | k
        · exact k
        · exact absurd ⟨hs, h0, k⟩ h
      obtain ⟨h1, h2⟩ := hs
      clear h
      go_enter Try.func22, Try.ntmps22
      go_wp2_with (go_at_call 31; refine (lsize_yes _ _ h1 h2).mono ?_; rintro r w1 ⟨rfl, rfl⟩)
      go_ret2
      exact ⟨rfl, grefl _ _⟩
    · have d0 : p < 0 := by omega
      obtain ⟨h1, h2⟩ := hs
      clear h
      go_enter Try.func22, Try.ntmps22
      go_wp2_with (go_at_call 31; refine (lsize_yes _ _ h1 h2).mono ?_; rintro r w1 ⟨rfl, rfl⟩)
      go_ret2
      exact ⟨rfl, grefl _ _⟩
  · clear h
    go_enter Try.func22, Try.ntmps22
    go_wp2_with (go_at_call 31; refine (lsize_no _ _ hs).mono ?_; rintro r w1 ⟨rfl, rfl⟩)
    go_ret2
    exact ⟨rfl, grefl _ _⟩

set_option maxHeartbeats 1000000 in
theorem spread_full (w : World) (ao : Option Addr) (n c : Nat) (p S : Int) (hn9 : n ≤ 9223372036854775807) (h1 : 512 ≤ S) (h2 : S ≤ 4096) (h3 : 0 ≤ p) (h4 : p ≤ 65536) (hlt : p < manyF (n : Int) S) :
    Calls Try.prog 22 #[.slice ao n c, .int .i64 p, .int .i64 S] w fun r w' => SprNo 21 w w' r := by
  have d0 : ¬ p < 0 := by omega
  have d1 : ¬ 65536 < p := by omega
  obtain ⟨m, hm⟩ : ∃ m, m = manyF (n : Int) S := ⟨_, rfl⟩
  rw [← hm] at hlt
  have HM := Lib.hid hm
  have hn9i : (n : Int) ≤ 9223372036854775807 := by omega
  clear hm
  go_enter Try.func22, Try.ntmps22
  go_wp2_with (first
    | (go_at_call 31; refine (lsize_yes _ _ h1 h2).mono ?_; rintro r w1 ⟨rfl, rfl⟩)
    | (go_at_call 19; refine (zmany_any _ _ _ hn9i).mono ?_; rw [← HM.out]; rintro r w1 ⟨rfl, rfl⟩))
  go_ret2
  exact ⟨rfl, grefl _ _⟩

/-- A round of Spread. -/
theorem spr_step {w wr : World} {m M k L C E : Nat} {ra : Option Addr} {vals : List Value} {ps : List Pr}
    (hsq : PrSq (fun b => w.heap.size < b) wr (.slice ra L C) (ps.drop (k * M))) (hrow : wr.ownsRow w.heap.size 31 1 (.slice (some ⟨w.heap.size, 0, none⟩) m m) m vals)
    (hdone : ∀ j, j < k → ∃ u, vals[j]? = some u ∧ PrSq (fun b => w.heap.size < b) wr u (partF ps M j)) (hleft : ∀ j, k ≤ j → j < m → vals[j]? = some (.slice none 0 0)) (hg : w.grownBy wr none) (hk : k < m) (hE : E ≤ L)
    (hA : partF ps M k = (ps.drop (k * M)).take E) (hB : ps.drop ((k + 1) * M) = (ps.drop (k * M)).drop E) :
    PrSq (fun b => w.heap.size < b) (wr.setCell ⟨w.heap.size, k, none⟩ (.slice ra E E)).drew (.slice (if C = E then ra else Option.map (fun x => x.add (E * 2)) ra) (L - E) (C - E)) (ps.drop ((k + 1) * M)) ∧
    (wr.setCell ⟨w.heap.size, k, none⟩ (.slice ra E E)).drew.ownsRow w.heap.size 31 1 (.slice (some ⟨w.heap.size, 0, none⟩) m m) m (vals.set k (.slice ra E E)) ∧
    (∀ j, j < k + 1 → ∃ u, (vals.set k (.slice ra E E))[j]? = some u ∧ PrSq (fun b => w.heap.size < b) (wr.setCell ⟨w.heap.size, k, none⟩ (.slice ra E E)).drew u (partF ps M j)) ∧
    (∀ j, k + 1 ≤ j → j < m → (vals.set k (.slice ra E E))[j]? = some (.slice none 0 0)) ∧ w.grownBy (wr.setCell ⟨w.heap.size, k, none⟩ (.slice ra E E)).drew none := by
  have kp : ∀ b, w.heap.size < b → b < wr.heap.size → (wr.setCell ⟨w.heap.size, k, none⟩ (.slice ra E E)).drew.heap[b]? = wr.heap[b]? := fun b hb _ => Below.heap_setCell _ _ _ _ (by simp; omega)
  have hkl : k < vals.length := by
    have := hleft k (Nat.le_refl _) hk
    exact (List.getElem?_eq_some_iff.1 this).1
  refine ⟨?_, ?_, fun j hj => ?_, fun j hj hjm => ?_, ?_⟩
  · rw [hB]; exact (hsq.post hE).kept kp
  · exact World.ownsRow.kept (World.ownsRow.stored hrow k (.slice ra E E)).1 (gdrew _) (.inr (by simp [Value.ownBlock]))
  · by_cases e : j = k
    · subst e
      refine ⟨.slice ra E E, by simp [hkl], ?_⟩
      rw [hA]; exact (hsq.head hE).kept kp
    · obtain ⟨u, h1, h2⟩ := hdone j (by omega)
      exact ⟨u, by rw [List.getElem?_set_ne (Ne.symm e)]; exact h1, h2.kept kp⟩
  · rw [List.getElem?_set_ne (by omega)]; exact hleft j (by omega) hjm
  · exact gtrans (gnew hg (gset wr ⟨w.heap.size, k, none⟩ _) (Nat.le_refl _)) (gdrew _)

set_option maxRecDepth 30000 in
set_option maxHeartbeats 4000000 in
theorem spread_ok (w : World) (R : Nat → Prop) (ao : Option Addr) (n c : Nat) (ps : List Pr) (p S : Int) (m M : Nat) (hp : p = (m : Int)) (hM : (M : Int) = roomI S) (hs : PrSq R w (.slice ao n c) ps) (hl : ps.length * 16 ≤ 140737488355328) (h1 : 512 ≤ S) (h2 : S ≤ 4096) (h4 : m ≤ 65536) (hge : manyF (n : Int) S ≤ (m : Int)) :
    Calls Try.prog 22 #[.slice ao n c, .int .i64 p, .int .i64 S] w fun r w' => SprYes ps M m w w' r := by
  obtain ⟨i0, hi, hz0, hz1, hz2⟩ := info_parts infoPairs
  subst hp
  have hrb := room_bd h1 h2
  rw [← hM] at hrb
  have hn := hs.len.1
  have hn9i : (n : Int) ≤ 9223372036854775807 := by omega
  have d1 : ¬ (65536 : Int) < (m : Int) := by omega
  obtain ⟨y, hy⟩ : ∃ y, y = manyF (n : Int) S := ⟨_, rfl⟩
  rw [← hy] at hge
  have d2 : ¬ (m : Int) < y := by omega
  have HY := Lib.hid hy
  have HM := Lib.hid hM
  have HS := Lib.hid hs.low
  have HL := Lib.hid hl
  have HN := Lib.hid hn
  have hmn : ps.length ≤ 8796093022208 := by omega
  clear hs hl hn hM hy
  go_enter Try.func22, Try.ntmps22
  go_wp2_with (first
    | (go_at_call 31; refine (lsize_yes _ _ h1 h2).mono ?_; rintro r w1 ⟨rfl, rfl⟩)
    | (go_at_call 19; refine (zmany_any _ _ _ hn9i).mono ?_; rw [← HY.out]; rintro r w1 ⟨rfl, rfl⟩)
    | (at_make; refine wpList_make_full _ rfl _ _ 43 rfl w.heap.size 31 i0 (.slice none 0 0) 1 Try.underlying43 hi hz0 hz1 .i64 .i64 _ _ m rfl rfl ?c1 ?c2 ?c3 ?c4 (Nat.le_refl _) ?_; (case c1 => rfl); (case c2 => rfl); (case c3 => rw [hz2]; omega); (case c4 => unfold maxLen; omega); intro wM hown hgM; have HO := Lib.hid hown; have HGM := Lib.hid hgM; clear hown hgM)
    | (go_at_call 39; refine (zclone_any wM _ ao n c ps (HS.out.grown HGM.out) HL.out).mono ?_; rintro r w2 ⟨ca, cc, rfl, ho, hg⟩; have HC := Lib.hid ho; have HG2 := Lib.hid (gtrans HGM.out hg); have HO2 := Lib.hid (World.ownsRow.kept HO.out hg (.inr (by simp [Value.ownBlock]))); have HSZ := Lib.hid ((HO.out.lt w.heap.size rfl).2); clear ho hg))
  go_loopw [9, 35] (fun rest i wr => ∃ (k : Nat) (vals : List Value) (ra : Option Addr) (L C : Nat), k ≤ m ∧ i = .int .i64 (k : Int) ∧ rest = .slice ra L C ∧ Hid (PrSq (fun b => w.heap.size < b) wr (.slice ra L C) (ps.drop (k * M)) ∧ wr.ownsRow w.heap.size 31 1 (.slice (some ⟨w.heap.size, 0, none⟩) m m) m vals ∧ (∀ j, j < k → ∃ u, vals[j]? = some u ∧ PrSq (fun b => w.heap.size < b) wr u (partF ps M j)) ∧ (∀ j, k ≤ j → j < m → vals[j]? = some (.slice none 0 0)) ∧ w.grownBy wr none))
    (fun _ i _ => m - (intOf i).toNat)
  case atStart =>
    refine ⟨0, _, ca, n, cc, Nat.zero_le _, rfl, rfl, Lib.hid ⟨?_, HO2.out, fun j hj => by omega, fun j _ hj => ?_, HG2.out⟩⟩
    · have h := HC.out.sq.imp (S := fun b => w.heap.size < b) (fun b hb _ => Nat.lt_of_lt_of_le HSZ.out hb)
      simpa using h
    · rw [Nat.mul_one, show (Value.slice none 0 0).cells = #[Value.slice none 0 0] from rfl, toList_madeCells_one]
      simp [hj]
  case round =>
    obtain ⟨k, vals, ra, L, C, hk, rfl, rfl, HH⟩ := hrel
    obtain ⟨hsq, hrow, hdone, hleft, hg⟩ := HH.out
    obtain ⟨hLl, hLC, hC9⟩ := hsq.len
    rw [List.length_drop] at hLl
    have HSQ := Lib.hid hsq
    have HRW := Lib.hid hrow
    have HDN := Lib.hid hdone
    have HLF := Lib.hid hleft
    have HG := Lib.hid hg
    have HLL := Lib.hid hLl
    have hC9' : (C : Int) ≤ 9223372036854775807 := by have h9 : maxLen ≤ 9223372036854775807 := by decide
                                                      omega
    by_cases hlt : k < m
    · have hki : (k : Int) < (m : Int) := by omega
      have hk0 : (0 : Int) ≤ (k : Int) := by omega
      have hv := hleft k (Nat.le_refl _) hlt
      have c0 := World.ownsRow.cells hrow (g := w.heap.size) rfl k _ hv
      rw [Addr.add_lit, Nat.zero_add] at c0
      have f0 := World.ownsRow.frozenAt hrow k
      by_cases hLM : L < M
      · have hi1 : (L : Int) < (M : Int) := by omega
        have hi2 : (L : Int) ≤ (C : Int) := by omega
        have HA := Lib.hid (show partF ps M k = (ps.drop (k * M)).take L by unfold partF; rw [List.take_of_length_le (by rw [List.length_drop]; omega), List.take_of_length_le (by rw [List.length_drop]; omega)])
        have HB := Lib.hid (show ps.drop ((k + 1) * M) = (ps.drop (k * M)).drop L by rw [List.drop_drop, List.drop_eq_nil_of_le (by rw [Nat.succ_mul]; omega), List.drop_eq_nil_of_le (by omega)])
        clear hLl hsq hrow hdone hleft hg HH hv
        go_wp2_with (go_at_call 33; refine (zroom_in _ _ h1 h2).mono ?_; rw [← HM.out]; rintro r w1 ⟨rfl, rfl⟩)
        go_region
        all_goals
          go_wp2
          go_roundw
          case rel => exact ⟨k + 1, vals.set k (.slice ra L L), _, _, _, by omega, by go_num, rfl, Lib.hid (by have h := spr_step HSQ.out HRW.out HDN.out HLF.out HG.out hlt (Nat.le_refl L) HA.out HB.out; rw [Nat.sub_self] at h; exact h)⟩
          case measure => simp [intOf]; omega
      · have hi1 : ¬ (L : Int) < (M : Int) := by omega
        have hi2 : (M : Int) ≤ (C : Int) := by omega
        have hi3 : (M : Int) ≤ (L : Int) := by omega
        have hML : M ≤ L := by omega
        have HA := Lib.hid (show partF ps M k = (ps.drop (k * M)).take M from rfl)
        have HB := Lib.hid (show ps.drop ((k + 1) * M) = (ps.drop (k * M)).drop M by rw [List.drop_drop, Nat.succ_mul])
        clear hLl hsq hrow hdone hleft hg HH hv
        go_wp2_with (go_at_call 33; refine (zroom_in _ _ h1 h2).mono ?_; rw [← HM.out]; rintro r w1 ⟨rfl, rfl⟩)
        go_region
        all_goals
          go_wp2
          go_roundw
          case rel => exact ⟨k + 1, vals.set k (.slice ra M M), _, _, _, by omega, by go_num, rfl, Lib.hid (spr_step HSQ.out HRW.out HDN.out HLF.out HG.out hlt hML HA.out HB.out)⟩
          case measure => simp [intOf]; omega
    · have hki : ¬ (k : Int) < (m : Int) := by omega
      go_wp2
      go_ret2
      obtain rfl : k = m := by omega
      exact ⟨_, vals, w.heap.size, rfl, ⟨rfl, HRW.out, HDN.out⟩, HG.out⟩

end Go.Proofs.Ytpgpilalhbdidaa
