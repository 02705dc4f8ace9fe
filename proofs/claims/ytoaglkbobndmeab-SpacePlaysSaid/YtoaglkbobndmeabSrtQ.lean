/-
  slices.Sort at pages that are all different, of whatever number. Own work.
-/
import Derived.Test.YtoaglkbobndmeabSrtP
namespace Go.Proofs.Ytoaglkbobndmeab
open Go.RowKit Go.Maps

set_option maxHeartbeats 1000000 in
theorem sort_many : SortOk 100000 := by
  intro w base n v ss L hown hperm hr hpos hn
  rcases id hown.2 with ⟨rfl, h0⟩ | ⟨blk, cap, cur, rfl, _⟩
  · omega
  · obtain ⟨hrow, hl, hnc, hcm, hbb⟩ := rowAt_own hown
    have hsz : ss.toArray.size = n := by simpa using hl
    have hn2 : (n : Int) ≤ 100000 := by omega
    have H := Lib.hid hrow
    have HND := Lib.hid (show ss.toArray.toList.Nodup by simpa using hperm.nodup_iff.2 (srt_nodup hr))
    have HF := Lib.hid (fun (dk : Array Nat) (h1 : Sort.PermIn 0 n ss.toArray dk) (h2 : Sort.SortedIn ltN 0 n dk) => sorted_is (L := L) (d := ss.toArray) (d' := dk) (by rw [hsz]; exact h1) (by rw [hsz]; exact h2) (by simpa using hperm) hr)
    have h62 := blen_62 hpos hn
    clear hown hperm hrow
    go_enter Try.func37, Try.ntmps37
    go_wp2_with (first
      | (go_at_call 41; refine (len_any n (by omega) w).mono ?_; rintro r w1 ⟨rfl, rfl⟩)
      | (go_at_call 40; have K := pdq_any w blk cap (n + 1) w 0 n (Lib.bitLen n) ss.toArray (by omega) H.out (Nat.zero_le _) (by omega) (by omega) HND.out (.inl rfl) (by omega); rw [hsz] at K; refine K.mono ?_; clear K; rintro r w1 ⟨rfl, dk, hr1, hp1, hs1⟩; have HR := Lib.hid hr1; have HE := Lib.hid (HF.out dk hp1 hs1); have HP := Lib.hid hp1.1; clear hr1 hp1 hs1))
    go_end0
    have h := own_rowAt (n := n) HR.out hbb (HP.out.trans hsz) hcm
    rw [HE.out] at h
    exact ⟨rfl, h, HR.out.gr⟩

end Go.Proofs.Ytoaglkbobndmeab
