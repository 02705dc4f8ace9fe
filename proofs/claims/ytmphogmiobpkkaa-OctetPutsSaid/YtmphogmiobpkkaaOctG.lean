/-
  The contracts of octet's varEnd, varOf, Reader.Var, Reader.Bytes. Own work.
-/
import Derived.Test.YtmphogmiobpkkaaOctD
import Derived.Test.YtmphogmiobpkkaaOctW
import Derived.Test.YtmphogmiobpkkaaOctSh
namespace Go.Proofs.Ytmphogmiobpkkaa
open Go.RowKit

set_option maxHeartbeats 400000 in
theorem varEnd_any (w : World) (B : Nat) (v : Value) (bs : List Int) (hs : Seq B w v bs) (hl : bs.length ≤ 140737488355328) :
    Calls Try.prog 29 #[v] w fun r w' => r = .returned (.tuple #[.int .i64 (vEnd bs).1, .int .i64 (vEnd bs).2]) ∧ w = w' := by
  obtain ⟨ao, c, rfl, h1, h2, h3, h4⟩ := hs
  obtain ⟨M, hM⟩ : ∃ M : Nat, M = min bs.length 10 := ⟨_, rfl⟩
  have hmin : min (bs.length : Int) 10 = (M : Int) := by omega
  have hM1 : M ≤ bs.length := by omega
  have hM2 : M ≤ 10 := by omega
  have HM := Lib.hid (show ∀ k, k < M ↔ k < 10 ∧ k < bs.length by omega)
  clear hM
  go_enter Try.func29, Try.ntmps29
  go_wp2
  clear hmin
  go_loop [12] (fun i => ∃ k : Nat, k ≤ M ∧ i = .int .i64 k ∧ ∀ j, j < k → 128 ≤ bs.getD j 0) (fun i => M - (intOf i).toNat)
  case atStart => exact ⟨0, Nat.zero_le _, rfl, fun j hj => by omega⟩
  case round =>
    obtain ⟨k, hk, rfl, hall⟩ := hrel
    have HA := Lib.hid hall
    clear hall
    by_cases hlt : k < M
    · have hkl : k < bs.length := by omega
      obtain ⟨b, o, rfl, hb, hc⟩ := h4 (by rintro rfl; simp at hkl)
      have hck := hc k hkl
      clear hc h4
      by_cases hlow : bs.getD k 0 < 128
      · have HE := Lib.hid (vEnd_yes (by omega) hkl HA.out hlow)
        generalize bs.getD k 0 = y at *
        go_wp2
        go_ret2
        rw [HE.out]
        exact ⟨rfl, rfl⟩
      · have HH := Lib.hid hlow
        have hge : 128 ≤ bs.getD k 0 := by omega
        have HG := Lib.hid (show ∀ j, j < k + 1 → 128 ≤ bs.getD j 0 from fun j hj => by
          rcases Nat.lt_or_ge j k with h | h
          · exact HA.out j h
          · obtain rfl : j = k := by omega
            exact hge)
        clear hlow HH
        generalize bs.getD k 0 = y at *
        go_wp2
        go_round
        case rel => exact ⟨k + 1, by omega, by go_num, HG.out⟩
        case measure => simp [intOf]; omega
    · obtain rfl : k = M := by omega
      have HE := Lib.hid (vEnd_no (fun j h1 h2 => HA.out j ((HM.out j).2 ⟨h1, h2⟩)))
      by_cases h10 : bs.length < 10
      · have HX := Lib.hid (show vEnd bs = (0, 10) by rw [HE.out, if_pos h10])
        clear HE
        go_wp2
        go_ret2
        rw [HX.out]
        exact ⟨rfl, rfl⟩
      · have HX := Lib.hid (show vEnd bs = (0, 11) by rw [HE.out, if_neg h10])
        clear HE
        go_wp2
        go_ret2
        rw [HX.out]
        exact ⟨rfl, rfl⟩

/-- What varOf hands back. -/
def vRet (o : Option Int) : Ending := match o with
  | none => .returned (.tuple #[.int .u64 0, .bool false])
  | some x => .returned (.tuple #[.int .u64 x, .bool true])

set_option maxHeartbeats 800000 in
theorem varOf_any (w : World) (B : Nat) (v : Value) (bs : List Int) (hs : Seq B w v bs) (hb : Byt bs) (hne : bs ≠ []) (hl : bs.length ≤ 140737488355328) :
    Calls Try.prog 30 #[v] w fun r w' => r = vRet (vOf bs) ∧ w = w' := by
  obtain ⟨ao, c, rfl, h1, h2, h3, h4⟩ := hs
  obtain ⟨b, o, rfl, hbB, hc⟩ := h4 hne
  have hpos : 0 < bs.length := List.length_pos_iff.2 hne
  have hc0 := hc 0 hpos
  have hb0 := hb.get 0
  have HC := Lib.hid hc
  have HBY := Lib.hid hb
  clear h4 hc hb hne h3
  rw [Nat.add_zero] at hc0
  by_cases h128 : bs.getD 0 0 = 128
  · have HE := Lib.hid (show vOf bs = none by rw [vOf, if_pos h128])
    have ht : (bs.getD 0 0 == 128) = true := by rw [h128]; rfl
    have H0 := Lib.hid h128
    clear h128
    generalize bs.getD 0 0 = y at *
    go_enter Try.func30, Try.ntmps30
    go_wp2
    go_ret2
    rw [HE.out]
    exact ⟨rfl, rfl⟩
  · have HE := Lib.hid (show vOf bs = vPart bs by rw [vOf, if_neg h128])
    have ht : (bs.getD 0 0 == 128) = false := by simpa using h128
    have H0 := Lib.hid h128
    clear h128
    obtain ⟨y, hy⟩ : ∃ y, y = bs.getD 0 0 := ⟨_, rfl⟩
    rw [← hy] at hc0 ht hb0
    clear hy H0
    go_enter Try.func30, Try.ntmps30
    go_wp2
    clear hc0 ht hb0
    go_loop [4, 13] (fun x i => ∃ (k : Nat) (X : Int), k ≤ bs.length ∧ i = .int .i64 k ∧ x = .int .u64 X ∧ vPart (bs.take k) = some X) (fun _ i => bs.length - (intOf i).toNat)
    case atStart => exact ⟨0, 0, Nat.zero_le _, rfl, rfl, rfl⟩
    case round =>
      obtain ⟨k, X, hk, rfl, rfl, hX⟩ := hrel
      have hXb := vPart_bound _ _ hX
      by_cases hlt : k < bs.length
      · have hck := HC.out k hlt
        have hyk := HBY.out.get k
        have htk : bs.take (k + 1) = bs.take k ++ [bs.getD k 0] := by rw [List.take_succ_eq_append_getElem hlt]; simp [List.getElem?_eq_getElem hlt]
        by_cases hX57 : X < 144115188075855872
        · have hm := bitLen_low X hXb.1 hX57
          have HJ := Lib.hid (show bits BinOp.or IntKind.u64 (X * 128) (IntKind.u64.wrap (bits BinOp.andNot IntKind.u8 (bs.getD k 0) 128)) = X * 128 + bs.getD k 0 % 128 by
            have := join7 X (bs.getD k 0 % 128) hXb.1 hX57 (by omega) (by omega)
            rw [IntWalk.u64_in (X * 128) (by omega)] at this
            rw [low7 _ hyk.1 hyk.2]
            exact this)
          have HV := Lib.hid (show vPart (bs.take (k + 1)) = some (X * 128 + bs.getD k 0 % 128) by
            rw [htk, vPart_snoc, hX]; simp only [vStep, Option.bind_some]; rw [if_pos hX57])
          clear htk hX
          obtain ⟨m, hmm⟩ : ∃ m, m = Lib.bitLen X.toNat := ⟨_, rfl⟩
          have HM := Lib.hid hmm.symm
          rw [← hmm] at hm
          clear hmm
          generalize bs.getD k 0 = z at *
          go_wp2_with (go_at_call 34; refine (Try.bits_LeadingZeros64 _ _ hXb.1 hXb.2).mono ?_; rintro r w1 ⟨rfl, rfl⟩; rw [HM.out])
          go_round
          case rel => exact ⟨k + 1, _, by omega, by go_num, by rw [HJ.out], HV.out⟩
          case measure => simp [intOf]; omega
        · have hm := bitLen_high X (by omega) hXb.2
          have HV := Lib.hid (show vPart bs = none by
            rw [← List.take_append_drop (k + 1) bs]
            refine vPart_cut _ _ ?_
            rw [htk, vPart_snoc, hX]; simp only [vStep, Option.bind_some]; rw [if_neg hX57])
          clear htk hX
          have hm64 : Lib.bitLen X.toNat ≤ 64 := Lib.bitLen_le _ 64 (by omega) (by omega)
          obtain ⟨m, hmm⟩ : ∃ m, m = Lib.bitLen X.toNat := ⟨_, rfl⟩
          have HM := Lib.hid hmm.symm
          rw [← hmm] at hm hm64
          clear hmm
          generalize bs.getD k 0 = z at *
          go_wp2_with (go_at_call 34; refine (Try.bits_LeadingZeros64 _ _ hXb.1 hXb.2).mono ?_; rintro r w1 ⟨rfl, rfl⟩; rw [HM.out])
          go_ret2
          rw [HE.out, HV.out]
          exact ⟨rfl, rfl⟩
      · obtain rfl : k = bs.length := by omega
        have HV := Lib.hid (show vPart bs = some X by rw [← hX, List.take_length])
        clear hX
        go_wp2
        go_ret2
        rw [HE.out, HV.out]
        exact ⟨rfl, rfl⟩

set_option maxHeartbeats 800000 in
theorem rvar_any (w : World) (g : Nat) (bs : List Int) (e : Int) (h : RdAt w g bs e) (hb : Byt bs) (hl : bs.length ≤ 140737488355328) :
    Calls Try.prog 19 #[.pointer (some ⟨g, 0, none⟩)] w fun r w' => r = .returned (.int .u64 (vx bs e).2.2) ∧ RdAt w' g (vx bs e).1 (vx bs e).2.1 ∧ w.grownBy w' (some g) := by
  have H := Lib.hid h
  by_cases he : e = 0
  · subst he
    obtain ⟨v, hs, hv⟩ := h
    have HS := Lib.hid hs
    obtain ⟨ao, c, rfl, h1, h2, _⟩ := hs
    have hc0 := two_cell0 hv
    have hc1 := two_cell1 hv
    have hf1 := two_free1 hv
    clear hv
    have hV := varEnd_any w g _ bs HS.out hl
    rcases vEnd_cases bs with ⟨k, hk1, hk2, hE⟩ | hE
    · rw [hE] at hV
      have HV := Lib.hid hV
      have hVo := varOf_any w g _ _ (HS.out.head (k + 1) hk2) (hb.take (k + 1)) (by intro h; have := congrArg List.length h; rw [List.length_take, List.length_nil] at this; omega) (by simp; omega)
      have HT := Lib.hid (take_any w g bs 0 (k + 1) H.out hk2 hl)
      cases ho : vOf (bs.take (k + 1)) with
      | none =>
        have hx : vx bs 0 = (bs, 11, 0) := by simp [vx, hE, ho]
        rw [hx]
        rw [ho] at hVo
        have HVo := Lib.hid hVo
        clear hx hE ho hVo hV hb
        unfold maxLen at h2
        go_enter Try.func19, Try.ntmps19
        go_wp2_with (first | (go_at_call 23; refine (err_any _ _ _ _ H.out).mono ?_; rintro r w1 ⟨rfl, rfl⟩) | (go_at_call 29; refine HV.out.mono ?_; rintro r w1 ⟨rfl, rfl⟩) | (go_at_call 30; refine HVo.out.mono ?_; rintro r w1 ⟨rfl, rfl⟩; simp only [vRet]))
        go_ret
        exact ⟨rfl, H.out.set1 _, gset _ _ _⟩
      | some x =>
        have hx : vx bs 0 = (bs.drop (k + 1), 0, x) := by simp [vx, hE, ho]
        rw [hx]
        rw [ho] at hVo
        have HVo := Lib.hid hVo
        clear hx hE ho hVo hV hb
        unfold maxLen at h2
        go_enter Try.func19, Try.ntmps19
        go_wp2_with (first | (go_at_call 23; refine (err_any _ _ _ _ H.out).mono ?_; rintro r w1 ⟨rfl, rfl⟩) | (go_at_call 29; refine HV.out.mono ?_; rintro r w1 ⟨rfl, rfl⟩) | (go_at_call 30; refine HVo.out.mono ?_; rintro r w1 ⟨rfl, rfl⟩; simp only [vRet]) | (go_at_call 31; refine HT.out.mono ?_; rintro r w1 ⟨v1, rfl, _, hr1, hg1⟩))
        go_ret
        exact ⟨rfl, hr1, hg1⟩
    · rcases hE with hE | hE
      all_goals
        have hx : vx bs 0 = (bs, (vEnd bs).2, 0) := by simp [vx, hE]
        rw [hE] at hx hV
        rw [hx]
        have HV := Lib.hid hV
        clear hx hE hV hb
        go_enter Try.func19, Try.ntmps19
        go_wp2_with (first | (go_at_call 23; refine (err_any _ _ _ _ H.out).mono ?_; rintro r w1 ⟨rfl, rfl⟩) | (go_at_call 29; refine HV.out.mono ?_; rintro r w1 ⟨rfl, rfl⟩))
        go_ret
        exact ⟨rfl, H.out.set1 _, gset _ _ _⟩
  · have hx : vx bs e = (bs, e, 0) := by simp [vx, he]
    rw [hx]
    clear hx h hb
    go_enter Try.func19, Try.ntmps19
    go_wp2_with (go_at_call 23; refine (err_any _ _ _ _ H.out).mono ?_; rintro r w1 ⟨rfl, rfl⟩)
    go_ret
    exact ⟨rfl, H.out, grefl _ _⟩

set_option maxHeartbeats 400000 in
theorem rvar_nil (w : World) :
    Calls Try.prog 19 #[.pointer none] w fun r w' => r = .returned (.int .u64 0) ∧ w = w' := by
  go_enter Try.func19, Try.ntmps19
  go_wp2_with (go_at_call 23; refine (err_nil _).mono ?_; rintro r w1 ⟨rfl, rfl⟩)
  go_ret
  exact ⟨rfl, rfl⟩

end Go.Proofs.Ytmphogmiobpkkaa
