/-
  Layer 10, the document's own: num, Put. Own work.
-/
import Derived.Test.YtpgpilalhbdidaaFrD
import Derived.Test.YtpgpilalhbdidaaChaF
import Derived.Test.YtpgpilalhbdidaaTxt
import Derived.Deep.RegionHeld3
namespace Go.Proofs.Ytpgpilalhbdidaa
open Go.RowKit

set_option maxHeartbeats 2000000 in
theorem vnum_any (w : World) (bs : List Int) (hb : Byt bs) (hl : bs.length ≤ 140737488355328) (p k : Nat) (pi ki : Int) (hp : pi = (p : Int)) (hk : ki = (k : Int)) (h1 : 1 ≤ k) (h8 : k ≤ 8) (hpk : p + k ≤ bs.length) :
    Calls Try.prog 51 #[.string (strOfNums bs), .int .i64 pi, .int .i64 ki] w fun r w' => r = .returned (.int .u64 (beVal ((bs.drop p).take k))) ∧ w.grownBy w' none := by
  subst hp hk
  have hsz := strOfNums_size bs
  have x := strOf_drop bs p (by omega)
  have KN := Lib.hid (fun w' => rnum_in w' (bs.drop p) k (k : Int) rfl (hb.drop p) (by rw [List.length_drop]; omega) h1 h8 (by rw [List.length_drop]; omega))
  obtain ⟨B, hB⟩ : ∃ B, B = strOfNums bs := ⟨_, rfl⟩
  obtain ⟨D, hD⟩ : ∃ B, B = strOfNums (bs.drop p) := ⟨_, rfl⟩
  obtain ⟨N, hN⟩ : ∃ N, N = bs.length := ⟨_, rfl⟩
  obtain ⟨X, hX⟩ : ∃ X, X = beVal ((bs.drop p).take k) := ⟨_, rfl⟩
  rw [← hB, ← hN] at hsz
  rw [← hB, hsz, ← hD] at x
  rw [← hD, ← hX] at KN
  rw [← hB, ← hX]
  have hpi : (p : Int) ≤ (N : Int) := by omega
  have hpn : p ≤ N := by omega
  have hN9 : (N : Int) ≤ 9223372036854775807 := by omega
  clear hB hD hN hX hb hl hpk
  go_enter Try.func51, Try.ntmps51
  go_wp2_with (go_at_call 64; ((with_reducible refine (KN.out _).mono ?_); rintro r w2 ⟨rfl, hg⟩); have G2 := Lib.hid hg; clear hg)
  go_ret
  exact ⟨rfl, gtrans G2.out (World.grownBy_alloc _ _ _)⟩

/-- What the document's Put tells of pairs for which there is room. -/
def VPutR (ps : List Pr) (x : Int) (S : Nat) (w w' : World) (r : Ending) : Prop :=
  ((Rise ps ∧ r = .returned (.tuple #[.string (strOfNums (frB ps x S)), .int .i64 0])) ∨ (¬ Rise ps ∧ r = .returned (.tuple #[.string { data := #[] }, .int .i64 1]))) ∧ w.grownBy w' none

set_option maxHeartbeats 2000000 in
theorem vput_no (w : World) (ao : Option Addr) (n c : Nat) (x S : Int) (hn9 : n ≤ 1000000) (hr : ¬ (512 ≤ S ∧ S ≤ 4096 ∧ (n : Int) ≤ roomI S)) :
    Calls Try.prog 25 #[.slice ao n c, .int .u32 x, .int .i64 S] w fun r w' => r = .returned (.tuple #[.string { data := #[] }, .int .i64 1]) ∧ w = w' := by
  by_cases h1 : 512 ≤ S
  · have hd0 : ¬ S < 512 := by omega
    by_cases h2 : S ≤ 4096
    · have hd1 : ¬ 4096 < S := by omega
      have hb := room_bd h1 h2
      have hlt : roomI S < (n : Int) := by
        rcases Int.lt_or_le (roomI S) (n : Int) with k | k
        · exact k
        · exact absurd ⟨h1, h2, k⟩ hr
      obtain ⟨M, hM⟩ : ∃ M, M = roomI S := ⟨_, rfl⟩
      rw [← hM] at hlt hb
      have HM := Lib.hid hM
      clear hM hr
      go_enter Try.func25, Try.ntmps25
      go_wp2_with (go_at_call 34; refine (vroom_in _ _ h1 h2).mono ?_; rw [← HM.out]; rintro r w1 ⟨rfl, rfl⟩)
      go_ret2
      exact ⟨rfl, rfl⟩
    · have hd1 : 4096 < S := by omega
      clear hr
      go_enter Try.func25, Try.ntmps25
      go_wp2
      go_ret2
      exact ⟨rfl, rfl⟩
  · have hd0 : S < 512 := by omega
    clear hr
    go_enter Try.func25, Try.ntmps25
    go_wp2
    go_ret2
    exact ⟨rfl, rfl⟩

theorem hdK_str (n : Nat) (x : Int) : ({ data := #[4, 0] } : ByteArray) ++ strOfNums (numB (n : Int) 2 2) ++ strOfNums (numB x 4 4) = strOfNums (hdK 4 n x) := by
  rw [hdK, strOf_app2, strOf_app2]; rfl

set_option maxRecDepth 100000 in
set_option maxHeartbeats 8000000 in
theorem vput_fit (w : World) (R : Nat → Prop) (ao : Option Addr) (n c : Nat) (ps : List Pr) (x S : Nat) (Si : Int) (hSi : Si = (S : Int)) (hs : PrSq R w (.slice ao n c) ps) (hx : x ≤ 4294967295) (h1 : 512 ≤ (S : Int)) (h2 : (S : Int) ≤ 4096) (h3 : (n : Int) ≤ roomI S) :
    Calls Try.prog 25 #[.slice ao n c, .int .u32 (x : Int), .int .i64 Si] w fun r w' => VPutR ps (x : Int) S w w' r := by
  obtain ⟨i0, hi, hz0, hz1, hz2⟩ := info_parts infoU8
  subst hSi
  have hn := hs.len.1
  have hfit := room_fits h3
  have hb := room_bd h1 h2
  have hd0 : ¬ (S : Int) < 512 := by omega
  have hd1 : ¬ (4096 : Int) < (S : Int) := by omega
  have hd0n : ¬ S < 512 := by omega
  have hd1n : ¬ 4096 < S := by omega
  obtain ⟨M, hM⟩ : ∃ M, M = roomI (S : Int) := ⟨_, rfl⟩
  rw [← hM] at hb h3
  have h3' : ¬ M < (n : Int) := by omega
  have HM := Lib.hid hM
  have HS := Lib.hid hs.low
  have HN := Lib.hid hn
  have hn9 : n ≤ 340 := by omega
  have hu1 : IntKind.u64.wrap (n : Int) = (n : Int) := IntWalk.u64_in _ (by omega)
  have hu2 : IntKind.u64.wrap (x : Int) = (x : Int) := IntWalk.u64_in _ (by omega)
  obtain ⟨N2, hN2⟩ : ∃ N, N = strOfNums (numB (n : Int) 2 2) := ⟨_, rfl⟩
  obtain ⟨N4, hN4⟩ : ∃ N, N = strOfNums (numB (x : Int) 4 4) := ⟨_, rfl⟩
  have n2 : N2.size = 2 := by rw [hN2, strOfNums_size, numB_len]
  have n4 : N4.size = 4 := by rw [hN4, strOfNums_size, numB_len]
  have HN2 := Lib.hid hN2
  have HN4 := Lib.hid hN4
  have HH := Lib.hid (show { data := #[4, 0] } ++ N2 ++ N4 = strOfNums (hdK 4 n (x : Int)) by rw [hN2, hN4]; exact hdK_str n (x : Int))
  have hz1' : ¬ 9223372036854775807 < 2 + 2 := by omega
  have hz3 : ¬ 9223372036854775807 < 2 + 2 + 4 := by omega
  clear hs hn hM hN2 hN4 h3
  go_enter Try.func25, Try.ntmps25
  go_wp2_with (first
    | (go_at_call 34; refine (vroom_in _ _ h1 h2).mono ?_; rw [← HM.out]; rintro r w1 ⟨rfl, rfl⟩)
    | (go_at_call 45; have Kc := refNum_of w n 2 2 rfl (by omega) (by omega) (by omega); rw [← HN2.out] at Kc; ((with_reducible refine Kc.mono ?_); clear Kc; rintro r w2 ⟨rfl, hg⟩); have G2 := Lib.hid hg; clear hg)
    | (go_at_call 45; have Kc := refNum_of w2 x 4 4 rfl (by omega) (by omega) (by omega); rw [← HN4.out] at Kc; ((with_reducible refine Kc.mono ?_); clear Kc; rintro r w3 ⟨rfl, hg⟩); have G3 := Lib.hid (gtrans G2.out hg); clear hg))
  go_loopw [8, 9] (fun s i wr => ∃ (k : Nat) (T : ByteArray), k ≤ n ∧ i = .int .i64 (k : Int) ∧ s = .string T ∧ T.size = 8 + 12 * k ∧ Hid (T = strOfNums (hdK 4 n (x : Int) ++ prsB (ps.take k)) ∧ RiseTo ps k ∧ w.grownBy wr none)) (fun _ i _ => n - (intOf i).toNat)
  case atStart => exact ⟨0, _, Nat.zero_le _, rfl, rfl, by rw [HH.out, strOfNums_size, hdK_len], Lib.hid ⟨by rw [HH.out]; simp [prsB], riseTo_one _ _ (by omega), G3.out⟩⟩
  case round =>
    obtain ⟨k, T, hk, rfl, rfl, hT, HI⟩ := hrel
    by_cases hlt : k < n
    · have hki : (k : Int) < (n : Int) := by omega
      have hk0 : (0 : Int) ≤ (k : Int) := by omega
      have hkl : k < ps.length := by rw [← HN.out]; exact hlt
      obtain ⟨p, hp⟩ : ∃ p, ps[k]? = some p := ⟨ps[k], List.getElem?_eq_getElem hkl⟩
      have HOK := Lib.hid (HS.out.ok p (List.mem_of_getElem? hp))
      obtain ⟨b, o, rfl, _, e0, e1⟩ := HS.out.at k p hp
      have c0 := HI.out.2.2.cell e0 (by simp)
      have c1 := HI.out.2.2.cell e1 (by simp)
      have HTK := Lib.hid (take_snoc hp)
      have HPK := Lib.hid (show ps.getD k (0, 0) = p by simp [List.getD_eq_getElem?_getD, hp])
      obtain ⟨ta, pa⟩ := p
      simp only at c0 c1 e0 e1
      have E0 := Lib.hid e0
      have E1 := Lib.hid e1
      clear hp e0 e1
      have HLEX := Lib.hid (show ∀ tq pq : Nat, ps.getD (k - 1) (0, 0) = (tq, pq) → 0 < k → (Rise ps → lexP (tq, pq) (ta, pa)) from fun tq pq h h0 hr => by
        have h1 := hr (k - 1) (by rw [← HN.out]; omega)
        rw [show k - 1 + 1 = k by omega, h, HPK.out] at h1
        exact h1)
      have HUP := Lib.hid (show ∀ tq pq : Nat, ps.getD (k - 1) (0, 0) = (tq, pq) → lexP (tq, pq) (ta, pa) → RiseTo ps (k + 1) from fun tq pq h hx => riseTo_succ HI.out.2.1 (fun _ => by rw [h, HPK.out]; exact hx))
      have HALT : (RiseTo ps (k + 1) ∧ ((decide ((0 : Int) < (k : Int)) = false ∧ decide (0 < k) = false ∧ ¬ 0 < k) ∨ ∃ q tq pq : Nat, (0 : Int) < (k : Int) ∧ 0 < k ∧ wr.cell? ⟨b, o + q * 2, none⟩ = some (.int .u64 (tq : Int)) ∧ wr.cell? ⟨b, o + q * 2 + 1, none⟩ = some (.int .u32 (pq : Int)) ∧ (q : Int) < (n : Int) ∧ (0 : Int) ≤ (q : Int) ∧ IntKind.i64.wrap ((k : Int) - 1) = (q : Int) ∧
          decide ((ta : Int) < (tq : Int)) = false ∧ decide (ta < tq) = false ∧ (((ta : Int) == (tq : Int)) = false ∨ ((ta : Int) == (tq : Int)) = true ∧ decide ((pa : Int) ≤ (pq : Int)) = false ∧ decide (pa ≤ pq) = false))) ∨
          (¬ Rise ps ∧ ∃ q tq pq : Nat, (0 : Int) < (k : Int) ∧ 0 < k ∧ wr.cell? ⟨b, o + q * 2, none⟩ = some (.int .u64 (tq : Int)) ∧ wr.cell? ⟨b, o + q * 2 + 1, none⟩ = some (.int .u32 (pq : Int)) ∧ (q : Int) < (n : Int) ∧ (0 : Int) ≤ (q : Int) ∧ IntKind.i64.wrap ((k : Int) - 1) = (q : Int) ∧
          ((decide ((ta : Int) < (tq : Int)) = true ∧ decide (ta < tq) = true) ∨ decide ((ta : Int) < (tq : Int)) = false ∧ decide (ta < tq) = false ∧ ((ta : Int) == (tq : Int)) = true ∧ decide ((pa : Int) ≤ (pq : Int)) = true ∧ decide (pa ≤ pq) = true)) := by
        rcases Nat.eq_zero_or_pos k with h0 | h0
        · exact .inl ⟨riseTo_one _ _ (by omega), .inl ⟨by simp; omega, by simp; omega, by omega⟩⟩
        · obtain ⟨q, hq⟩ : ∃ q, q + 1 = k := ⟨k - 1, by omega⟩
          obtain ⟨p1, hp1⟩ : ∃ p, ps[q]? = some p := ⟨ps[q]'(by omega), List.getElem?_eq_getElem (by omega)⟩
          obtain ⟨b', o', hbo, _, d0, d1⟩ := (HS.out.grown HI.out.2.2).at q p1 hp1
          cases hbo
          have hgd : ps.getD (k - 1) (0, 0) = p1 := by rw [show k - 1 = q by omega]; simp [List.getD_eq_getElem?_getD, hp1]
          obtain ⟨tq, pq⟩ := p1
          simp only at d0 d1
          have hw1 : IntKind.i64.wrap ((k : Int) - 1) = (q : Int) := by rw [show (k : Int) - 1 = (q : Int) by omega]; exact IntWalk.i64_in _ (by omega)
          by_cases hx : lexP (tq, pq) (ta, pa)
          · have hx' : tq < ta ∨ tq = ta ∧ pq < pa := hx
            refine .inl ⟨HUP.out tq pq hgd hx, .inr ⟨q, tq, pq, by omega, h0, d0, d1, by omega, by omega, hw1, by simp; omega, by simp; omega, ?_⟩⟩
            rcases hx' with h | ⟨h, h'⟩
            · exact .inl (by simp; omega)
            · exact .inr ⟨by simp; omega, by simp; omega, by simp; omega⟩
          · have hx' : ¬ (tq < ta ∨ tq = ta ∧ pq < pa) := hx
            refine .inr ⟨fun hr => hx (HLEX.out tq pq hgd h0 hr), q, tq, pq, by omega, h0, d0, d1, by omega, by omega, hw1, ?_⟩
            by_cases h : ta < tq
            · exact .inl ⟨by simp; omega, by simp; omega⟩
            · exact .inr ⟨by simp; omega, by simp; omega, by simp; omega, by simp; omega, by simp; omega⟩
      clear HLEX HUP
      rcases HALT with ⟨hup, hgood⟩ | ⟨hbad, hwhy⟩
      · have HUP := Lib.hid hup
        clear hup
        obtain ⟨A8, hA8⟩ : ∃ A, A = strOfNums (numB (ta : Int) 8 8) := ⟨_, rfl⟩
        obtain ⟨A4, hA4⟩ : ∃ A, A = strOfNums (numB (pa : Int) 4 4) := ⟨_, rfl⟩
        have a8 : A8.size = 8 := by rw [hA8, strOfNums_size, numB_len]
        have a4 : A4.size = 4 := by rw [hA4, strOfNums_size, numB_len]
        have K8 := Lib.hid (fun W => refNum_of W ta 8 8 rfl HOK.out.1 (by omega) (by omega))
        have K4 := Lib.hid (fun W => refNum_of W pa 4 4 rfl (Nat.lt_trans HOK.out.2 (by decide)) (by omega) (by omega))
        rw [← hA8] at K8
        rw [← hA4] at K4
        have hpw : IntKind.u64.wrap (pa : Int) = (pa : Int) := IntWalk.u64_in _ (by have := HOK.out.2; simp only at this; omega)
        have HTE := Lib.hid (show T ++ (A8 ++ A4) = strOfNums (hdK 4 n (x : Int) ++ prsB (ps.take (k + 1))) by
          rw [HTK.out, prsB_snoc, ← List.append_assoc, strOf_app2, ← HI.out.1, hA8, hA4, ← strOf_app2]; rfl)
        have HTS := Lib.hid (show (T ++ (A8 ++ A4)).size = 8 + 12 * (k + 1) by rw [ByteArray.size_append, ByteArray.size_append, hT, a8, a4]; omega)
        have hz5 : ¬ 9223372036854775807 < 8 + 4 := by omega
        have hz6 : ¬ 9223372036854775807 < 8 + 12 * k + (8 + 4) := by omega
        have hz7 : ¬ 9223372036854775807 < 8 + 12 * k + 12 := by omega
        clear hA8 hA4
        obtain ⟨hd, hdn, hdm⟩ | ⟨q, tq, pq, hk1, hk3, d0, d1, hqi, hq0, hw1, hl1, hl2, hb1 | ⟨hb1, hb2, hb3⟩⟩ := hgood
        all_goals
          go_wp2_with fail
          go_quiet (fail)
          have HG2 := Lib.hid (gtrans HI.out.2.2 (gdrewN wr nq))
          clear c0 c1
          generalize wr.drewN nq = W2 at HG2 ⊢
          have c0 := HG2.out.cell E0.out (by simp)
          have c1 := HG2.out.cell E1.out (by simp)
          go_wp2
          go_region_held3 (fun W => W.cell? ⟨b, o + k * 2, none⟩ = some (.int .u64 (ta : Int)) ∧ W.cell? ⟨b, o + k * 2 + 1, none⟩ = some (.int .u32 (pa : Int))) (go_keep)
            (first
              | (go_at_call 45; ((with_reducible refine (K8.out _).mono ?_); rintro r w8 ⟨rfl, hg⟩); first | (have m0 := hg.cell m0 (by simp); have m1 := hg.cell m1 (by simp); have GA := Lib.hid hg; clear hg) | (have m0 := hg.cell c0 (by simp); have m1 := hg.cell c1 (by simp); have GA := Lib.hid hg; clear hg))
              | (go_at_call 45; ((with_reducible refine (K4.out _).mono ?_); rintro r w4 ⟨rfl, hg⟩); first | (have m0 := hg.cell m0 (by simp); have m1 := hg.cell m1 (by simp); have GB := Lib.hid hg; clear hg) | (have m0 := hg.cell c0 (by simp); have m1 := hg.cell c1 (by simp); have GB := Lib.hid hg; clear hg)))
          all_goals
            go_wp2
            have HGE := Lib.hid (by first | exact gtrans HG2.out (gtrans (gdrew _) (gtrans GA.out GB.out)) | exact gtrans HG2.out (gtrans (gdrew _) (gtrans GB.out GA.out)))
            go_roundw
            case rel => exact ⟨k + 1, _, by omega, by go_num, rfl, HTS.out, Lib.hid ⟨HTE.out, HUP.out, HGE.out⟩⟩
            case measure => simp [intOf]; omega
      · have HBAD := Lib.hid hbad
        clear hbad
        obtain ⟨q, tq, pq, hk1, hk3, d0, d1, hqi, hq0, hw1, ⟨hl1, hl2⟩ | ⟨hl1, hl2, hb1, hb2, hb3⟩⟩ := hwhy
        all_goals
          go_wp2_with fail
          go_quiet (fail)
          have HG2 := Lib.hid (gtrans HI.out.2.2 (gdrewN wr nq))
          go_wp2
          go_ret2
          exact ⟨.inr ⟨HBAD.out, rfl⟩, HG2.out⟩
    · have hki : ¬ (k : Int) < (n : Int) := by omega
      have hkn : k = n := by omega
      have hkp : k = ps.length := by rw [← HN.out]; exact hkn
      have HRI := Lib.hid (show Rise ps by have h := HI.out.2.1; rw [hkp] at h; exact h)
      obtain ⟨Z, hZ⟩ : ∃ Z, Z = S - 8 - 12 * n := ⟨_, rfl⟩
      obtain ⟨NZ, hNZ⟩ : ∃ N, N = strOfNums (List.replicate Z (0 : Int)) := ⟨_, rfl⟩
      have hNs : NZ.size = Z := by rw [hNZ, strOfNums_size, List.length_replicate]
      have HE := Lib.hid (show T ++ NZ = strOfNums (frB ps (x : Int) S) by
        rw [frB, ← List.append_assoc, strOf_app2, ← HN.out, ← hZ, ← hNZ]
        have h := HI.out.1
        rw [show ps.take k = ps by rw [hkp, List.take_length]] at h
        rw [← h])
      have HZI := Lib.hid (show (S : Int) - (8 + 12 * (k : Int)) = (Z : Int) by omega)
      have HNZ := Lib.hid hNZ
      have hZ9 : Z ≤ 4096 := by omega
      have hz5 : ¬ 9223372036854775807 < 8 + 12 * k + Z := by omega
      have HG3 := Lib.hid HI.out.2.2
      have hzi := HZI.out
      clear hNZ hZ hkn hkp
      go_wp2_with (at_make; refine wpList_make_full _ rfl _ _ 49 rfl 0 5 i0 (.int .u8 0) 1 Try.underlying49 hi hz0 hz1 .i64 .i64 _ _ Z rfl rfl ?c1 ?c2 ?c3 ?c4 (Nat.zero_le _) ?_; (case c1 => first | rfl | (have := HZI.out; omega)); (case c2 => first | rfl | (have := HZI.out; omega)); (case c3 => rw [hz2]; omega); (case c4 => unfold maxLen; omega); intro wM hown hgM; have hcv := seq_string (seq_made hown); rw [← HNZ.out] at hcv; have G4 := Lib.hid (gtrans HG3.out hgM); clear hown hgM)
      go_ret2
      exact ⟨.inl ⟨HRI.out, by rw [← HE.out]; rfl⟩, G4.out⟩

end Go.Proofs.Ytpgpilalhbdidaa
