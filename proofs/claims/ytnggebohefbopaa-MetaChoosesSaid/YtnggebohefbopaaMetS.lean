/-
  Layer 7: the document's Put. Own work.
-/
import Derived.Test.YtnggebohefbopaaMetR
import Derived.Test.YtnggebohefbopaaMetD
import Derived.Test.YtnggebohefbopaaCrcR
import Derived.Deep.RegionHeld3
namespace Go.Proofs.Ytnggebohefbopaa
open Go.RowKit

set_option maxHeartbeats 1000000 in
theorem kput_no (w : World) (M : Mt) (size : Int) (h : ¬ (mright M = true ∧ 512 ≤ size ∧ size ≤ 4096)) :
    Calls Try.prog 13 #[.agg (mtC M), .int .i64 size] w fun r w' => r = .returned (.tuple #[.string { data := #[] }, .int .i64 1]) ∧ w.grownBy w' none := by
  have hmc : mtC M = #[.int .u64 (M.t : Int), .int .u32 (M.e : Int), .int .u32 (M.m : Int), .int .u32 (M.f : Int)] := rfl
  have HG := Lib.hid (World.grownBy_alloc w (.cells (mtC M) 30) none)
  cases hr : mright M
  · clear h
    go_enter Try.func13, Try.ntmps13
    go_wp2_with (go_at_call 15; refine (kright_any M _).mono ?_; rintro r w1 ⟨rfl, hg1⟩; rw [hr]; have HG1 := Lib.hid (gtrans HG.out hg1); clear hg1)
    go_ret2
    exact ⟨rfl, HG1.out⟩
  · by_cases h1 : 512 ≤ size
    · have hd1 : decide (size < 512) = false := by simp; omega
      have h2 : ¬ size ≤ 4096 := fun k => h ⟨hr, h1, k⟩
      have hd2 : decide ((4096 : Int) < size) = true := by simp; omega
      have h1i : ¬ size < 512 := by omega
      have h2i : (4096 : Int) < size := by omega
      clear h
      go_enter Try.func13, Try.ntmps13
      go_wp2_with (go_at_call 15; refine (kright_any M _).mono ?_; rintro r w1 ⟨rfl, hg1⟩; rw [hr]; have HG1 := Lib.hid (gtrans HG.out hg1); clear hg1)
      go_ret2
      exact ⟨rfl, HG1.out⟩
    · have hd1 : decide (size < 512) = true := by simp; omega
      have h1i : size < 512 := by omega
      clear h
      go_enter Try.func13, Try.ntmps13
      go_wp2_with (go_at_call 15; refine (kright_any M _).mono ?_; rintro r w1 ⟨rfl, hg1⟩; rw [hr]; have HG1 := Lib.hid (gtrans HG.out hg1); clear hg1)
      go_ret2
      exact ⟨rfl, HG1.out⟩

theorem w32 {x : Nat} (h : x < 4294967296) : IntKind.u64.wrap (x : Int) = (x : Int) := by rw [show IntKind.u64.wrap (x : Int) = (x : Int) % 18446744073709551616 from rfl]; omega

set_option maxHeartbeats 4000000 in
theorem kput_ok (w : World) (M : Mt) (h : MtOk M) (hr : mright M = true) (S : Nat) (h1 : 512 ≤ S) (h2 : S ≤ 4096) :
    Calls Try.prog 13 #[.agg (mtC M), .int .i64 (S : Int)] w fun r w' => r = .returned (.tuple #[.string (strOfNums (mpage M S)), .int .i64 0]) ∧ w.grownBy w' none := by
  obtain ⟨i0, hi, hz0, hz1, hz2⟩ := info_parts infoU8
  have hd1 : decide ((S : Int) < 512) = false := by simp; omega
  have hd2 : decide ((4096 : Int) < (S : Int)) = false := by simp; omega
  have h1i : ¬ (S : Int) < 512 := by omega
  have h2i : ¬ (4096 : Int) < (S : Int) := by omega
  have ht := h.t
  have he := h.e
  have hm := h.m
  have hf := h.f
  have u0 := w32 (x := S) (by omega)
  have u1 := w32 he
  have u2 := w32 hm
  have u3 := w32 hf
  obtain ⟨N0, hN0⟩ : ∃ N, N = strOfNums (numB (S : Int) 4 4) := ⟨_, rfl⟩
  obtain ⟨N1, hN1⟩ : ∃ N, N = strOfNums (numB (M.t : Int) 8 8) := ⟨_, rfl⟩
  obtain ⟨N2, hN2⟩ : ∃ N, N = strOfNums (numB (M.e : Int) 4 4) := ⟨_, rfl⟩
  obtain ⟨N3, hN3⟩ : ∃ N, N = strOfNums (numB (M.m : Int) 4 4) := ⟨_, rfl⟩
  obtain ⟨N4, hN4⟩ : ∃ N, N = strOfNums (numB (M.f : Int) 4 4) := ⟨_, rfl⟩
  have n0 : N0.size = 4 := by rw [hN0, strOfNums_size, numB_len]
  have n1 : N1.size = 8 := by rw [hN1, strOfNums_size, numB_len]
  have n2 : N2.size = 4 := by rw [hN2, strOfNums_size, numB_len]
  have n3 : N3.size = 4 := by rw [hN3, strOfNums_size, numB_len]
  have n4 : N4.size = 4 := by rw [hN4, strOfNums_size, numB_len]
  have hT : ({ data := #[82, 85, 66, 49] } : ByteArray) ++ N0 ++ N1 ++ N2 ++ N3 ++ N4 = strOfNums (told M S) := by
    rw [told, strOf_app2, strOf_app2, strOf_app2, strOf_app2, strOf_app2, ← hN0, ← hN1, ← hN2, ← hN3, ← hN4]
    simp only [ByteArray.append_assoc]; rfl
  obtain ⟨C, hC⟩ : ∃ C, C = crcN (told M S) := ⟨_, rfl⟩
  have hcl := crcN_lt (l := told M S) (told_byt M S)
  rw [← hC] at hcl
  have u4 := w32 hcl
  obtain ⟨Z, hZ⟩ : ∃ Z, Z = S - 32 := ⟨_, rfl⟩
  obtain ⟨NC, hNC⟩ : ∃ N, N = strOfNums (numB (C : Int) 4 4) := ⟨_, rfl⟩
  obtain ⟨NZ, hNZ⟩ : ∃ N, N = strOfNums (List.replicate Z (0 : Int)) := ⟨_, rfl⟩
  have n5 : NC.size = 4 := by rw [hNC, strOfNums_size, numB_len]
  have n6 : NZ.size = Z := by rw [hNZ, strOfNums_size, List.length_replicate]
  have HE := Lib.hid (show ({ data := #[82, 85, 66, 49] } : ByteArray) ++ N0 ++ N1 ++ N2 ++ N3 ++ N4 ++ NC ++ NZ = strOfNums (mpage M S) by
    rw [hT, mpage, strOf_app2, strOf_app2, ← hC, ← hNC, ← hZ, ← hNZ, ByteArray.append_assoc])
  have KT := Lib.hid (fun w' => ref_any w' (told M S) (told_byt M S) (by rw [told_len]; decide))
  rw [← hC, ← hT] at KT
  have HZI := Lib.hid (show (S : Int) - 32 = (Z : Int) by omega)
  have hZ9 : Z ≤ 4096 := by omega
  have HN0 := Lib.hid hN0
  have HN1 := Lib.hid hN1
  have HN2 := Lib.hid hN2
  have HN3 := Lib.hid hN3
  have HN4 := Lib.hid hN4
  have HNC := Lib.hid hNC
  have HNZ := Lib.hid hNZ
  have hmc : mtC M = #[.int .u64 (M.t : Int), .int .u32 (M.e : Int), .int .u32 (M.m : Int), .int .u32 (M.f : Int)] := rfl
  have HG := Lib.hid (World.grownBy_alloc w (.cells #[.int .u64 (M.t : Int), .int .u32 (M.e : Int), .int .u32 (M.m : Int), .int .u32 (M.f : Int)] 30) none)
  clear hN0 hN1 hN2 hN3 hN4 hNC hNZ hT hC hZ h
  go_enter Try.func13, Try.ntmps13
  go_wp2_with (first
    | (go_at_call 15; refine (kright_any M _).mono ?_; rintro r w1 ⟨rfl, hg1⟩; rw [hr]; have HG1 := Lib.hid (gtrans HG.out hg1); have q0 := Lib.hid ((hg1.block w.heap.size (by simp) (by simp)).trans (heap_alloc_new _ _)); clear hg1))
  obtain ⟨q, hq⟩ : ∃ q, q = w.heap.size := ⟨_, rfl⟩
  rw [← hq] at q0 ⊢
  clear hq HG
  have qd := Lib.hid (show w1.drew.heap[q]? = some (.cells #[.int .u64 (M.t : Int), .int .u32 (M.e : Int), .int .u32 (M.m : Int), .int .u32 (M.f : Int)] 30 (0, 0)) from q0.out)
  go_region_held3 (fun w' => w'.cell? ⟨q, 0, none⟩ = some (.int .u64 (M.t : Int)) ∧ w'.cell? ⟨q, 1, none⟩ = some (.int .u32 (M.e : Int)) ∧ w'.cell? ⟨q, 2, none⟩ = some (.int .u32 (M.m : Int)) ∧ w'.cell? ⟨q, 3, none⟩ = some (.int .u32 (M.f : Int)))
    (first | (with_reducible exact mt_cells q5.out) | (with_reducible exact mt_cells q4.out) | (with_reducible exact mt_cells q3.out) | (with_reducible exact mt_cells q2.out) | (with_reducible exact mt_cells q1.out) | (with_reducible exact mt_cells qd.out))
    (first
      | (go_at_call 30; have Kc := refNum_of w1.drew S 4 4 rfl (by omega) (by omega) (by omega); rw [← HN0.out] at Kc; ((with_reducible refine Kc.mono ?_); clear Kc; rintro r w2 ⟨rfl, hg⟩); have G2 := Lib.hid (gtrans HG1.out (gtrans (gdrew _) hg)); have q1 := Lib.hid ((hg.block q (lt_of_block q0.out) (by simp)).trans q0.out); clear hg)
      | (go_at_call 30; have Kc := refNum_of w2 M.t 8 8 rfl (by omega) (by omega) (by omega); rw [← HN1.out] at Kc; ((with_reducible refine Kc.mono ?_); clear Kc; rintro r w3 ⟨rfl, hg⟩); have G3 := Lib.hid (gtrans G2.out hg); have q2 := Lib.hid ((hg.block q (lt_of_block q1.out) (by simp)).trans q1.out); clear hg)
      | (go_at_call 30; have Kc := refNum_of w3 M.e 4 4 rfl (by omega) (by omega) (by omega); rw [← HN2.out] at Kc; ((with_reducible refine Kc.mono ?_); clear Kc; rintro r w4 ⟨rfl, hg⟩); have G4 := Lib.hid (gtrans G3.out hg); have q3 := Lib.hid ((hg.block q (lt_of_block q2.out) (by simp)).trans q2.out); clear hg)
      | (go_at_call 30; have Kc := refNum_of w4 M.m 4 4 rfl (by omega) (by omega) (by omega); rw [← HN3.out] at Kc; ((with_reducible refine Kc.mono ?_); clear Kc; rintro r w5 ⟨rfl, hg⟩); have G5 := Lib.hid (gtrans G4.out hg); have q4 := Lib.hid ((hg.block q (lt_of_block q3.out) (by simp)).trans q3.out); clear hg)
      | (go_at_call 30; have Kc := refNum_of w5 M.f 4 4 rfl (by omega) (by omega) (by omega); rw [← HN4.out] at Kc; ((with_reducible refine Kc.mono ?_); clear Kc; rintro r w6 ⟨rfl, hg⟩); have G6 := Lib.hid (gtrans G5.out hg); have q5 := Lib.hid ((hg.block q (lt_of_block q4.out) (by simp)).trans q4.out); clear hg))
  have nT : (({ data := #[82, 85, 66, 49] } : ByteArray) ++ N0 ++ N1 ++ N2 ++ N3 ++ N4).size = 28 := by
    simp only [ByteArray.size_append, n0, n1, n2, n3, n4]; rfl
  generalize ({ data := #[82, 85, 66, 49] } : ByteArray) ++ N0 ++ N1 ++ N2 ++ N3 ++ N4 = TS at *
  have l1 : ¬ 9223372036854775807 < 28 + 4 := by omega
  have l2 : ¬ 9223372036854775807 < 28 + 4 + Z := by omega
  clear n0 n1 n2 n3 n4 HN0 HN1 HN2 HN3 HN4
  go_wp2_with (first
    | (go_at_call 31; ((with_reducible refine (KT.out _).mono ?_); rintro r w7 ⟨rfl, rfl⟩))
    | (go_at_call 30; have Kc := refNum_of w6 C 4 4 rfl (by omega) (by omega) (by omega); rw [← HNC.out] at Kc; ((with_reducible refine Kc.mono ?_); clear Kc; rintro r w8 ⟨rfl, hg⟩); have G8 := Lib.hid (gtrans G6.out hg); clear hg)
    | (at_make; refine wpList_make_full _ rfl _ _ 33 rfl 0 5 i0 (.int .u8 0) 1 Try.underlying33 hi hz0 hz1 .i64 .i64 _ _ Z rfl rfl ?c1 ?c2 ?c3 ?c4 (Nat.zero_le _) ?_; (case c1 => have := HZI.out; omega); (case c2 => have := HZI.out; omega); (case c3 => rw [hz2]; omega); (case c4 => unfold maxLen; omega); intro wM hown hgM; have hcv := seq_string (seq_made hown); rw [← HNZ.out] at hcv; have G9 := Lib.hid (gtrans G8.out hgM); clear hown hgM))
  go_ret2
  exact ⟨by rw [← HE.out]; rfl, G9.out⟩

end Go.Proofs.Ytnggebohefbopaa
