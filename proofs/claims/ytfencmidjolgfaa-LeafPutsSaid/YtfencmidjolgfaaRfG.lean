/-
  Layer 4: the reference's Put: where nothing is put, and of a page. Own work.
-/
import Derived.Test.YtfencmidjolgfaaRfF
import Derived.Test.YtfencmidjolgfaaLefF
namespace Go.Proofs.Ytfencmidjolgfaa
open Go.RowKit

theorem eright_yes {w : World} {ao : Option Addr} {n c : Nat} {l : List En} {size : Int} (h : RRow w (.slice ao n c) l) (ho : ∀ x ∈ l, EnOk x) (hr : RightP l size) :
    Calls Try.prog 20 #[.slice ao n c, .int .i64 size] w fun r w' => r = .returned (.bool true) ∧ w.grownBy w' none :=
  (eright_any w ao n c l size h ho).mono fun r w' ⟨b, e, hb, hg⟩ => ⟨by rw [e, hb.2 hr], hg⟩
theorem eright_no {w : World} {ao : Option Addr} {n c : Nat} {l : List En} {size : Int} (h : RRow w (.slice ao n c) l) (ho : ∀ x ∈ l, EnOk x) (hr : ¬ RightP l size) :
    Calls Try.prog 20 #[.slice ao n c, .int .i64 size] w fun r w' => r = .returned (.bool false) ∧ w.grownBy w' none :=
  (eright_any w ao n c l size h ho).mono fun r w' ⟨b, e, hb, hg⟩ => ⟨by
    cases b with
    | false => exact e
    | true => exact absurd (hb.1 rfl) hr, hg⟩

set_option maxHeartbeats 1000000 in
theorem eput_arg (w : World) (ao : Option Addr) (n c : Nat) (l : List En) (size : Int) (h : RRow w (.slice ao n c) l) (ho : ∀ x ∈ l, EnOk x) (hr : ¬ RightP l size) :
    Calls Try.prog 18 #[.slice ao n c, .int .i64 size] w fun r w' => r = .returned (.tuple #[.string { data := #[] }, .int .i64 1]) ∧ w.grownBy w' none := by
  have H := Lib.hid h
  have HO := Lib.hid ho
  have HR := Lib.hid hr
  clear h ho hr
  go_enter Try.func18, Try.ntmps18
  go_wp2_with (go_at_call 20; refine (eright_no H.out HO.out HR.out).mono ?_; rintro r w1 ⟨rfl, hg1⟩; have HG1 := Lib.hid hg1; clear hg1)
  go_ret2
  exact ⟨rfl, HG1.out⟩
set_option maxHeartbeats 1000000 in
theorem eput_full (w : World) (ao : Option Addr) (n c : Nat) (l : List En) (size : Int) (h : RRow w (.slice ao n c) l) (ho : ∀ x ∈ l, EnOk x) (hr : RightP l size) (hf : size < (fillL leafY l : Int)) :
    Calls Try.prog 18 #[.slice ao n c, .int .i64 size] w fun r w' => r = .returned (.tuple #[.string { data := #[] }, .int .i64 21]) ∧ w.grownBy w' none := by
  have H := Lib.hid h
  have HO := Lib.hid ho
  have HR := Lib.hid hr
  obtain ⟨F, hF⟩ : ∃ F, F = fillL leafY l := ⟨_, rfl⟩
  rw [← hF] at hf
  have HF := Lib.hid hF
  have hd : decide (size < (F : Int)) = true := by simpa using hf
  clear h ho hr hF
  go_enter Try.func18, Try.ntmps18
  go_wp2_with (first
    | (go_at_call 20; refine (eright_yes H.out HO.out HR.out).mono ?_; rintro r w1 ⟨rfl, hg1⟩; have HG1 := Lib.hid hg1; have HH1 := Lib.hid (H.out.grown hg1); clear hg1)
    | (go_at_call 22; have Kc := efill_any w1 _ _ _ l HH1.out HO.out; rw [← HF.out] at Kc; refine Kc.mono ?_; clear Kc; rintro r w2 ⟨rfl, hg2⟩; have HG2 := Lib.hid (gtrans HG1.out hg2); clear hg2))
  go_ret2
  exact ⟨rfl, HG2.out⟩

set_option maxRecDepth 1000000 in
set_option maxHeartbeats 8000000 in
theorem eput_ok (w : World) (ao : Option Addr) (n c : Nat) (l : List En) (S : Nat) (h : RRow w (.slice ao n c) l) (ho : ∀ x ∈ l, EnOk x) (hr : RightP l S) (hf : fillL leafY l ≤ S) :
    Calls Try.prog 18 #[.slice ao n c, .int .i64 S] w fun r w' => r = .returned (.tuple #[.string (strOfNums (pageB leafY l S)), .int .i64 0]) ∧ w.grownBy w' none := by
  obtain ⟨hn, hn9⟩ := h.len
  have hS5 : 512 ≤ S := by have := hr.1; omega
  have hS9 : S ≤ 4096 := by have := hr.2.1; omega
  have HN := Lib.hid hn
  have H := Lib.hid h
  have HO := Lib.hid ho
  have HR := Lib.hid hr
  obtain ⟨F, hF⟩ : ∃ F, F = fillL leafY l := ⟨_, rfl⟩
  rw [← hF] at hf
  have HF := Lib.hid hF
  have hd : decide ((S : Int) < (F : Int)) = false := by simp; omega
  have hun : IntKind.u64.wrap (n : Int) = (n : Int) := by rw [show IntKind.u64.wrap (n : Int) = (n : Int) % 18446744073709551616 from rfl]; omega
  clear h ho hr hF hn
  go_enter Try.func18, Try.ntmps18
  go_wp2_with (first
    | (go_at_call 20; refine (eright_yes H.out HO.out HR.out).mono ?_; rintro r w1 ⟨rfl, hg1⟩; have HG1 := Lib.hid hg1; have HH1 := Lib.hid (H.out.grown hg1); clear hg1)
    | (go_at_call 22; have Kc := efill_any w1 _ _ _ l HH1.out HO.out; rw [← HF.out] at Kc; refine Kc.mono ?_; clear Kc; rintro r w2 ⟨rfl, hg2⟩; have HGF := Lib.hid (gtrans HG1.out hg2); clear hg2)
    | (go_at_call 44; refine (refNum_in _ n 2 (by omega) (by omega) (by omega)).mono ?_; rintro r w2 ⟨rfl, hg2⟩; have HG2 := Lib.hid (gtrans HGF.out hg2); clear hg2))
  go_loopg [8, 9, 10] n (fun q s cl i wr => ∃ (k : Nat), k + q = n ∧ i = .int .i64 (k : Int) ∧ s = .string (strOfNums (hdB leafY l S k)) ∧ cl = .string (strOfNums (tlB leafY l k)) ∧ w.grownBy wr none)
  case atStart => exact ⟨0, by omega, rfl, by rw [show hdB leafY l S 0 = ([1, 0] : List Int) ++ numB n 2 2 by rw [HN.out]; rfl, strOf_app2]; rfl, rfl, HG2.out⟩
  case round =>
    rename_i J1 K1 hJ1 hK1
    obtain ⟨k, hkq, rfl, rfl, rfl, hgr⟩ := hrel
    have HGR := Lib.hid hgr
    by_cases hlt : k < n
    · obtain ⟨q, rfl⟩ : ∃ q, gk = q + 1 := ⟨gk - 1, by omega⟩
      have hki : (k : Int) < (n : Int) := by omega
      obtain ⟨x, hx⟩ : ∃ x, l[k]? = some x := ⟨_, List.getElem?_eq_getElem (by have := HN.out; omega)⟩
      have hxo := HO.out x (List.mem_of_getElem? hx)
      obtain ⟨b, o, rfl, hb, q0, q1, q2, q3⟩ := (H.out.grown hgr).at k x hx
      have hl0 : 0 ≤ x.long := (HR.out.2.2 k x (List.getElem?_eq_some_iff.1 hx).1 hx).1.long
      have hc1 : cs leafY l (k + 1) + 4 + 2 * n ≤ S := by
        have h1 := cs_mono (Y := leafY) l (show k + 1 ≤ l.length by have := HN.out; omega)
        have h2 := HF.out
        have h3 := HN.out
        unfold fillL fillK at h2
        omega
      have hc2 : cs leafY l (k + 1) = cs leafY l k + cl x := lcs_snoc hx
      have hc0 : cs leafY l k ≤ 4096 := by omega
      rw [hc2] at hc1
      have HC := Lib.hid hc2
      have HT := Lib.hid (tlB_snoc (Y := leafY) (l := l) hx)
      obtain ⟨K0, hK0⟩ : ∃ K, K = strOfNums (tlB leafY l k) := ⟨_, rfl⟩
      obtain ⟨S0, hS0⟩ : ∃ K, K = strOfNums (hdB leafY l S k) := ⟨_, rfl⟩
      have hKs : K0.size = cs leafY l k := by rw [hK0, strOfNums_size, tlB_len]
      rw [← hK0, ← hS0]
      have HK0 := Lib.hid hK0
      have HS0 := Lib.hid hS0
      obtain ⟨C0, hC0⟩ : ∃ C, C = cs leafY l k := ⟨_, rfl⟩
      rw [← hC0] at hKs hc0 hc1
      have HC0 := Lib.hid hC0
      have KC := Lib.hid (ecell_any wr x hxo hl0)
      obtain ⟨Z, hZ⟩ : ∃ Z, Z = strOfNums (cellB x) := ⟨_, rfl⟩
      have hZs : Z.size = cl x := by rw [hZ, strOfNums_size, cellB_len]
      rw [← hZ] at KC
      have HZ := Lib.hid hZ
      obtain ⟨L, hL⟩ : ∃ L, L = cl x := ⟨_, rfl⟩
      rw [← hL] at hZs hc1
      have HL := Lib.hid hL
      unfold mcs at KC
      obtain ⟨K, hK⟩ : ∃ K, K = strOfNums x.key := ⟨_, rfl⟩
      obtain ⟨V, hV⟩ : ∃ V, V = strOfNums x.val := ⟨_, rfl⟩
      rw [← hK] at q0 KC
      rw [← hV] at q1 KC
      generalize x.long = xg at *
      generalize x.first = xf at *
      have HT2 := Lib.hid (show Z ++ K0 = strOfNums (tlB leafY l (k + 1)) by rw [HT.out, HZ.out, HK0.out, show leafY.cell x = cellB x from rfl, strOf_app2])
      have hz1 : ¬ 9223372036854775807 < L + C0 := by omega
      clear hx hxo hgr hK0 hS0 hC0 hZ hL hK hV hc2 hl0
      have hss : S0.size = 4 + 2 * k := by rw [HS0.out, strOfNums_size, hdB_len]
      obtain ⟨D, hD⟩ : ∃ D, D = S - (C0 + L) := ⟨_, rfl⟩
      have hD9 : D ≤ 4096 := by omega
      have hud : IntKind.u64.wrap (D : Int) = (D : Int) := by rw [show IntKind.u64.wrap (D : Int) = (D : Int) % 18446744073709551616 from rfl]; omega
      have HD := Lib.hid hD
      have HDI := Lib.hid (show (S : Int) - ((L : Int) + (C0 : Int)) = (D : Int) by omega)
      obtain ⟨N2, hN2⟩ : ∃ N, N = strOfNums (numB (D : Int) 2 2) := ⟨_, rfl⟩
      have hN21 : N2.size = 2 := by rw [hN2, strOfNums_size, numB_len]
      have HN2 := Lib.hid hN2
      have hz4 : ¬ 9223372036854775807 < 4 + 2 * k + 2 := by omega
      clear hD hN2
      go_wp2_with (first
        | (go_at_call 45; ((with_reducible refine KC.out.mono ?_); rintro r w4 ⟨rfl, hg4⟩); have HG3 := Lib.hid (gtrans HGR.out hg4); clear hg4)
        | (go_at_call 44; rw [HDI.out]; have Kc := refNum_to w4 D 2 2 rfl (by omega) (by omega) (by omega); rw [← HN2.out] at Kc; ((with_reducible refine Kc.mono ?_); clear Kc; rintro r w5 ⟨rfl, hg5⟩); have HG5 := Lib.hid (gtrans HG3.out hg5); clear hg5))
      go_roundg q
      case measure => omega
      case rel => exact ⟨k + 1, by omega, by go_num, by rw [hdB, strOf_app2, HS0.out, HN2.out, show S - cs leafY l (k + 1) = D by rw [HD.out, HC.out, ← HC0.out, ← HL.out]], by rw [HT2.out], HG5.out⟩
    · obtain rfl : k = n := by omega
      obtain ⟨i0, hi, hz0, hz1, hz2⟩ := info_parts infoU8
      have hfl : 4 + 2 * k + cs leafY l k = F := by
        have h2 := HF.out
        unfold fillL fillK at h2
        rw [← HN.out] at h2
        omega
      obtain ⟨K0, hK0⟩ : ∃ K, K = strOfNums (tlB leafY l k) := ⟨_, rfl⟩
      obtain ⟨S0, hS0⟩ : ∃ K, K = strOfNums (hdB leafY l S k) := ⟨_, rfl⟩
      have hKs : K0.size = cs leafY l k := by rw [hK0, strOfNums_size, tlB_len]
      have hss : S0.size = 4 + 2 * k := by rw [hS0, strOfNums_size, hdB_len]
      rw [← hK0, ← hS0]
      obtain ⟨C0, hC0⟩ : ∃ C, C = cs leafY l k := ⟨_, rfl⟩
      rw [← hC0] at hKs hfl
      obtain ⟨Z, hZ⟩ : ∃ Z, Z = S - C0 - (4 + 2 * k) := ⟨_, rfl⟩
      have HZI := Lib.hid (show (S : Int) - (4 + 2 * (k : Int)) - (C0 : Int) = (Z : Int) by omega)
      obtain ⟨NZ, hNZ⟩ : ∃ N, N = strOfNums (List.replicate Z (0 : Int)) := ⟨_, rfl⟩
      have hNs : NZ.size = Z := by rw [hNZ, strOfNums_size, List.length_replicate]
      have HNZ := Lib.hid hNZ
      have HPG := Lib.hid (show S0 ++ NZ ++ K0 = strOfNums (pageB leafY l S) by
        rw [pageB, ← HN.out, ← hC0, ← hZ, strOf_app2, strOf_app2, ← hS0, ← hNZ, ← hK0, ByteArray.append_assoc])
      have hZ9 : Z ≤ 4096 := by omega
      have hz4 : ¬ 9223372036854775807 < 4 + 2 * k + Z := by omega
      have hz5 : ¬ 9223372036854775807 < 4 + 2 * k + Z + C0 := by omega
      have hC9 : C0 ≤ 4096 := by omega
      have hk9 : k ≤ 4096 := by omega
      clear hZ hNZ hK0 hS0 hC0 hgr
      go_wp2_with (at_make; refine wpList_make_full _ rfl _ _ 29 rfl wr.heap.size 5 i0 (.int .u8 0) 1 Try.underlying29 hi hz0 hz1 .i64 .i64 _ _ Z rfl rfl ?c1 ?c2 ?c3 ?c4 (Nat.le_refl _) ?_; (case c1 => have := HZI.out; omega); (case c2 => have := HZI.out; omega); (case c3 => rw [hz2]; omega); (case c4 => unfold maxLen; omega); intro wM hown hgM; have hcv := seq_string (seq_made hown); rw [← HNZ.out] at hcv; have HG3 := Lib.hid (gtrans HGR.out hgM); clear hown hgM)
      go_ret2
      exact ⟨by rw [← HPG.out]; rfl, HG3.out⟩

end Go.Proofs.Ytfencmidjolgfaa
