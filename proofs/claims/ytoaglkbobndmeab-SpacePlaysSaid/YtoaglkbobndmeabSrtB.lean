/-
  slices.Sort at pages: what it is to do, up to a length; up to twelve it is insertionSort. Own work.
-/
import Derived.Test.YtoaglkbobndmeabSrtA
import Derived.Test.YtoaglkbobndmeabSrtSh
namespace Go.Proofs.Ytoaglkbobndmeab
open Go.RowKit Go.Maps

/-- slices.Sort lays pages, whose rising row is L, so: of up to N pages. -/
def SortOk (N : Nat) : Prop := ∀ (w : World) (base n : Nat) (v : Value) (ss L : List Nat), w.ownsRow base 36 1 v n (ss.map encP) → ss.Perm L → Srt L → 0 < n → n ≤ N →
  Calls Try.prog 37 #[v] w fun r w' => r = .returned (.tuple #[]) ∧ w'.ownsRow base 36 1 v n (L.map encP) ∧ w.grownBy w' v.ownBlock

/-- What is sorted, of what rises strictly, is that. -/
theorem sorted_is {d d' : Array Nat} {L : List Nat} (hp : Sort.PermIn 0 d.size d d') (hs : Sort.SortedIn ltN 0 d.size d') (hL : d.toList.Perm L) (hr : Srt L) : d'.toList = L := by
  have hsz := hp.1
  have hperm : d'.toList.Perm d.toList := by
    have h := hp.2.2
    have e1 : (d'.extract 0 d.size).toList = d'.toList := by rw [← hsz]; simp
    have e2 : (d.extract 0 d.size).toList = d.toList := by simp
    rwa [e1, e2] at h
  have hnd : d'.toList.Nodup := (hperm.trans hL).nodup_iff.2 (srt_nodup hr)
  have hsrt : Srt d'.toList := by
    unfold Srt
    rw [List.pairwise_iff_getElem]
    intro i j hi hj hij
    have hi' : i < d'.size := by simpa using hi
    have hj' : j < d'.size := by simpa using hj
    have h := hs i j (Nat.zero_le _) hij (by omega)
    rw [getElem!_pos d' i hi', getElem!_pos d' j hj'] at h
    simp only [ltN, decide_eq_false_iff_not] at h
    have hne : d'.toList[i] ≠ d'.toList[j] := List.pairwise_iff_getElem.1 hnd i j hi hj hij
    simp at hne ⊢
    omega
  exact srt_ext hsrt hr fun x => (hperm.trans hL).mem_iff

theorem rowAt_own {w : World} {base n blk cap : Nat} {ss : List Nat} (h : w.ownsRow base 36 1 (.slice (some ⟨blk, 0, none⟩) n cap) n (ss.map encP)) : RowAt w blk cap w ss.toArray ∧ ss.length = n ∧ n ≤ cap ∧ cap ≤ maxLen ∧ base ≤ blk := by
  have hl : ss.length = n := by have := h.1; simpa using this
  rcases h.2 with ⟨hv, _⟩ | ⟨g, cap', cur, hv, hb, hg, hnc, hcm, hcs, ht⟩
  · cases hv
  · injection hv with e1 e2 e3
    injection e1 with e1
    injection e1 with e1 _ _
    subst e1; subst e3
    refine ⟨⟨⟨cur, hg, by simpa using hcs, fun j hj => ?_⟩, grefl _ _, lt_of_block hg, by simp; omega⟩, hl, hnc, hcm, hb⟩
    have hj' : j < ss.length := by simpa using hj
    have h2 : (ss.map encP)[j]? = some (encP ss[j]) := by simp [hj']
    rw [← ht, List.getElem?_take] at h2
    rw [if_pos (by omega)] at h2
    rw [getElem!_pos ss.toArray j hj]
    simpa using h2
theorem own_rowAt {w0 w : World} {base n blk cap : Nat} {d : Array Nat} (h : RowAt w0 blk cap w d) (hb : base ≤ blk) (hn : d.size = n) (hm : cap ≤ maxLen) : w.ownsRow base 36 1 (.slice (some ⟨blk, 0, none⟩) n cap) n (d.toList.map encP) := by
  obtain ⟨c, hc, hs, hk⟩ := h.row
  have hf := h.fit
  refine ⟨by simpa using hn, .inr ⟨blk, cap, c, rfl, hb, hc, by omega, hm, by simpa using hs, ?_⟩⟩
  apply List.ext_getElem?
  intro j
  rw [List.getElem?_take]
  by_cases hj : j < n * 1
  · rw [if_pos hj]
    have hjd : j < d.size := by omega
    have := hk j hjd
    rw [getElem!_pos d j hjd] at this
    simpa [hjd] using this
  · rw [if_neg hj, List.getElem?_eq_none (by simp; omega)]

set_option maxHeartbeats 1000000 in
theorem len_any (x : Nat) (hx : x ≤ 18446744073709551615) (w : World) : Calls Try.prog 41 #[.int .u64 (x : Int)] w fun r w' => r = .returned (.int .i64 (Lib.bitLen x : Int)) ∧ w = w' := by
  go_enter Try.func41, Try.ntmps41
  go_wp2_with (first
    | (go_at_call 52; refine (Try.bits_Len64 (x : Int) w (by omega) (by omega)).mono ?_; rintro r w1 ⟨rfl, rfl⟩))
  go_ret
  exact ⟨by simp, rfl⟩

set_option maxRecDepth 100000 in
set_option maxHeartbeats 1000000 in
theorem pdq_few (w0 w : World) (blk cap a b : Nat) (lim : Int) (d : Array Nat) (h : RowAt w0 blk cap w d) (hab : a ≤ b) (hb : b ≤ d.size) (hsz : d.size ≤ 100000) (h12 : b - a ≤ 12) :
    Calls Try.prog 40 #[.slice (some ⟨blk, 0, none⟩) d.size cap, .int .i64 (a : Int), .int .i64 (b : Int), .int .i64 lim] w fun r w' => r = .returned (.tuple #[]) ∧ RowAt w0 blk cap w' (Sort.insertionSort ltN d a b) := by
  have hi : (b : Int) - (a : Int) ≤ 12 := by omega
  have hi2 : (0 : Int) ≤ (b : Int) - (a : Int) := by omega
  have H := Lib.hid h
  clear h
  go_enter Try.func40, Try.ntmps40
  go_wp2
  go_loopg [1, 2, 3] 1 (fun g v1 v2 v3 wr => v1 = .int .i64 (a : Int) ∧ v2 = .int .i64 (b : Int) ∧ v3 = .int .i64 lim ∧ w = wr)
  case atStart => exact ⟨rfl, rfl, rfl, rfl⟩
  case round =>
    obtain ⟨rfl, rfl, rfl, rfl⟩ := hrel
    go_wp2_with (first
      | (go_at_call 42; refine (insertion_any w0 w blk cap a b d H.out hab hb hsz).mono ?_; rintro r w1 ⟨rfl, hr⟩; have HR := Lib.hid hr; clear hr))
    (try simp only [Exit.inBlock, Exit.then])
    refine bodyPost_ret (results_none rfl _ _ _) rfl ?_
    exact ⟨rfl, HR.out⟩

set_option maxHeartbeats 1000000 in
theorem sort_few : SortOk 12 := by
  intro w base n v ss L hown hperm hr hpos hn
  rcases id hown.2 with ⟨rfl, h0⟩ | ⟨blk, cap, cur, rfl, _⟩
  · omega
  · obtain ⟨hrow, hl, hnc, hcm, hbb⟩ := rowAt_own hown
    have hsz : ss.toArray.size = n := by simpa using hl
    have hins := Sort.insertionSort_holds (lt := ltN) swo_ltN ss.toArray 0 n (Nat.zero_le _) (by omega)
    have hfin := sorted_is (L := L) (d := ss.toArray) (d' := Sort.insertionSort ltN ss.toArray 0 n) (by rw [hsz]; exact hins.1) (by rw [hsz]; exact hins.2) (by simpa using hperm) hr
    have hn2 : (n : Int) ≤ 12 := by omega
    have H := Lib.hid hrow
    have HF := Lib.hid hfin
    have HP := Lib.hid hins.1.1
    clear hown hperm hins hfin hrow
    go_enter Try.func37, Try.ntmps37
    go_wp2_with (first
      | (go_at_call 41; refine (len_any n (by omega) w).mono ?_; rintro r w1 ⟨rfl, rfl⟩)
      | (go_at_call 40; have K := pdq_few w w blk cap 0 n (Lib.bitLen n : Int) ss.toArray H.out (Nat.zero_le _) (by omega) (by omega) (by omega); rw [hsz] at K; refine K.mono ?_; clear K; rintro r w1 ⟨rfl, hr1⟩; have HR := Lib.hid hr1; clear hr1))
    go_end0
    have h := own_rowAt (n := n) HR.out hbb (HP.out.trans hsz) hcm
    rw [HF.out] at h
    exact ⟨rfl, h, HR.out.gr⟩

end Go.Proofs.Ytoaglkbobndmeab
