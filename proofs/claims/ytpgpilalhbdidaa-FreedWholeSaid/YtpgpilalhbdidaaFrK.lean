/-
  Layer 10, the document's own: Flat, Row. Own work.
-/
import Derived.Test.YtpgpilalhbdidaaFrJ
import Derived.Test.YtpgpilalhbdidaaFrF
import Derived.Test.YtpgpilalhbdidaaFrG
namespace Go.Proofs.Ytpgpilalhbdidaa
open Go.RowKit

set_option maxRecDepth 30000 in
set_option maxHeartbeats 4000000 in
theorem vflat_any (w : World) (R : Nat → Prop) (ao : Option Addr) (n c : Nat) (rs : List Rc) (h : RSq R w (.slice ao n c) rs) (hn9 : n ≤ 1000000) (hfl : (flatR rs).length ≤ 1000000) (hpl : ∀ r ∈ rs, r.2.length ≤ 1000000) :
    Calls Try.prog 14 #[.slice ao n c] w fun r w' => ∃ va vc, r = .returned (.slice va (flatR rs).length vc) ∧ POwn 75 w.heap.size w' (.slice va (flatR rs).length vc) (flatR rs) ∧ w.grownBy w' none := by
  obtain ⟨i0, hi, hz0, hz1, hz2⟩ := info_parts infoP10
  have hn := h.len.1
  have HN := Lib.hid hn
  have HS := Lib.hid (h.imp (S := fun b => b < w.heap.size) fun _ _ hb => hb)
  have HFL := Lib.hid hfl
  have HPL := Lib.hid hpl
  clear h hn hfl hpl
  go_enter Try.func14, Try.ntmps14
  go_wp2
  go_loopg [3, 4] n (fun gas v i wr => ∃ (k L : Nat) (va : Option Addr) (vc : Nat), k + gas = n ∧ i = .int .i64 (k : Int) ∧ v = .slice va L vc ∧ L ≤ 1000000 ∧ Hid (L = (flatR (rs.take k)).length ∧ POwn 75 w.heap.size wr (.slice va L vc) (flatR (rs.take k)) ∧ w.grownBy wr none))
  case atStart => exact ⟨0, 0, none, 0, by omega, rfl, rfl, by omega, Lib.hid ⟨rfl, POwn.nil _ _ _, grefl _ _⟩⟩
  case round =>
    obtain ⟨k, L, va, vc, hk, rfl, rfl, hL9, HH⟩ := hrel
    by_cases hlt : k < n
    · have hki : (k : Int) < (n : Int) := by omega
      have hk0 : (0 : Int) ≤ (k : Int) := by omega
      have hkl : k < rs.length := by rw [← HN.out]; exact hlt
      obtain ⟨r, hr⟩ : ∃ r, rs[k]? = some r := ⟨rs[k], List.getElem?_eq_getElem hkl⟩
      obtain ⟨b, o, rfl, _, e0, hT64, a1, q1, e1, hp⟩ := HS.out.at k r hr
      have HLN := Lib.hid (flatR_len_take rs hr)
      have HTK := Lib.hid (show flatR (rs.take (k + 1)) = flatR (rs.take k) ++ pairsOf r by rw [take_snoc hr, flatR_snoc])
      have hm9 := HPL.out r (List.mem_of_getElem? hr)
      obtain ⟨T, ps⟩ := r
      obtain ⟨m, hm⟩ : ∃ m, m = ps.length := ⟨_, rfl⟩
      simp only at e0 e1 hp HLN hm9 hT64
      rw [← hm] at e1 hp HLN hm9
      have HM := Lib.hid hm
      have HP := Lib.hid hp
      have HT64 := Lib.hid hT64
      clear hr hm hp
      have E0 := Lib.hid e0
      have E1 := Lib.hid e1
      clear e0 e1
      have HI0 := Lib.hid (show L + 0 = (flatR (rs.take k) ++ pairsOf (T, ps.take 0)).length ∧ POwn 75 w.heap.size wr (.slice va L vc) (flatR (rs.take k) ++ pairsOf (T, ps.take 0)) ∧ w.grownBy wr none by
        rw [show pairsOf (T, ps.take 0) = [] from rfl, List.append_nil]; exact HH.out)
      have HL := Lib.hid HH.out.1
      clear HH
      go_wp2
      generalize wr = WR at HI0 ⊢
      go_loopg [3, 5] m (fun gas v i wr => ∃ (j : Nat) (va : Option Addr) (vc : Nat), j + gas = m ∧ i = .int .i64 (j : Int) ∧ v = .slice va (L + j) vc ∧ Hid (L + j = (flatR (rs.take k) ++ pairsOf (T, ps.take j)).length ∧ POwn 75 w.heap.size wr (.slice va (L + j) vc) (flatR (rs.take k) ++ pairsOf (T, ps.take j)) ∧ w.grownBy wr none))
      case atStart => exact ⟨0, va, vc, by omega, rfl, rfl, HI0⟩
      case round =>
        obtain ⟨j, va, vc, hj, rfl, rfl, HI⟩ := hrel
        have c1 := HI.out.2.2.cell E1.out (by simp)
        by_cases hltj : j < m
        · have hji : (j : Int) < (m : Int) := by omega
          have hj0 : (0 : Int) ≤ (j : Int) := by omega
          have hjl : j < ps.length := by rw [← HM.out]; exact hltj
          obtain ⟨b2, o2, rfl, _, d0⟩ := HP.out.at j hjl
          have c0 := HI.out.2.2.cell E0.out (by simp)
          have c2 := HI.out.2.2.cell d0 (by simp)
          have D0 := Lib.hid d0
          have HTJ := Lib.hid (show flatR (rs.take k) ++ pairsOf (T, ps.take (j + 1)) = (flatR (rs.take k) ++ pairsOf (T, ps.take j)) ++ [(T, ps.getD j 0)] by
            rw [show ps.take (j + 1) = ps.take j ++ [ps.getD j 0] by
              rw [List.take_succ_eq_append_getElem hjl, List.getD_eq_getElem?_getD, List.getElem?_eq_getElem hjl]; rfl]
            simp [pairsOf])
          have HOK := Lib.hid (show PrOk (T, ps.getD j 0) from ⟨HT64.out, HP.out.u32 _ (by rw [List.getD_eq_getElem?_getD, List.getElem?_eq_getElem hjl]; exact List.getElem_mem hjl)⟩)
          have hLj : L + j ≤ 1000000 := by have h1 := HLN.out; have h2 := HFL.out; have h3 := HL.out; omega
          clear d0
          generalize ps.getD j 0 = p at c2 HTJ HOK D0
          generalize flatR (rs.take k) ++ pairsOf (T, ps.take j) = X at HI HTJ
          have hgd := gtrans (World.grownBy_alloc wr (.cells #[.int .u64 (T : Int), .int .u32 (p : Int)] 75) none) (gdrew _)
          have HA := Lib.hid (HI.out.2.1.grown hgd)
          have HGD := Lib.hid (gtrans HI.out.2.2 hgd)
          have HXL := Lib.hid HI.out.1
          have hsz : w.heap.size ≤ (wr.alloc (.cells #[.int .u64 (T : Int), .int .u32 (p : Int)] 75)).drew.heap.size := HGD.out.size
          clear hgd
          go_wp2_with fail
          go_region_held3 (fun W => W.cell? ⟨b, o + k * 2, none⟩ = some (.int .u64 (T : Int)) ∧ W.cell? ⟨b, o + k * 2 + 1, none⟩ = some (.slice (some ⟨b2, o2, none⟩) m q1) ∧ W.cell? ⟨b2, o2 + j, none⟩ = some (.int .u32 (p : Int))) (go_keep)
            ((refine step_append_own2 (by rfl) (.tmp 22) (.tmp 37) 23 (by rfl) w.heap.size 75 i0 (.agg #[.int .u64 0, .int .u32 0]) 2 16 Try.underlying23 hi hz0 hz1 hz2 rfl (by decide) (.slice va (L + j) vc) (L + j) (X.flatMap prc) (by rfl) (by have h := HA.out.1; rw [← HXL.out] at h; exact h) ⟨wr.heap.size, 0, none⟩ 1 1 (prc (T, p)) (by rfl) rfl (lit_pair_drew wr (T, p) 75) (one_pair (T, p)) (by unfold maxLen; omega) (by omega) hsz ?_; intro v' w4 hown hgrow hfr; have HW4 := Lib.hid hown; have HG4 := Lib.hid hgrow; have g5 := grow_own HGD.out HA.out.1 hgrow (Nat.le_refl _); have m0 := g5.cell E0.out (by simp); have m1 := g5.cell E1.out (by simp); have m2 := g5.cell D0.out (by simp); clear g5 hown hgrow hfr))
          all_goals
            obtain ⟨g', cap', rfl⟩ := ownsRow_succ HW4.out
            have HPU := Lib.hid (HA.out.push HOK.out HXL.out HW4.out)
            have HG5 := Lib.hid (grow_own HGD.out HA.out.1 HG4.out (Nat.le_refl _))
            go_wp2
            go_roundg (m - (j + 1))
            case rel => exact ⟨j + 1, _, _, by omega, by simp, rfl, Lib.hid ⟨by rw [HTJ.out, List.length_append, ← HXL.out]; rfl, by rw [HTJ.out]; exact HPU.out, HG5.out⟩⟩
            case measure => omega
        · have hji : ¬ (j : Int) < (m : Int) := by omega
          have hLm : L + j ≤ 1000000 := by have h1 := HLN.out; have h2 := HFL.out; have h3 := HL.out; omega
          have HO := Lib.hid (show L + j = (flatR (rs.take (k + 1))).length ∧ POwn 75 w.heap.size wr (.slice va (L + j) vc) (flatR (rs.take (k + 1))) ∧ w.grownBy wr none by
            have h := HI.out
            rw [HTK.out]
            rw [show ps.take j = ps by rw [List.take_of_length_le (by rw [← HM.out]; omega)]] at h
            exact h)
          go_wp2
          go_roundg (n - (k + 1))
          case rel => exact ⟨k + 1, L + j, va, vc, by omega, by simp, rfl, hLm, HO⟩
          case measure => omega
    · have hki : ¬ (k : Int) < (n : Int) := by omega
      have HO := Lib.hid (show L = (flatR rs).length ∧ POwn 75 w.heap.size wr (.slice va L vc) (flatR rs) ∧ w.grownBy wr none by
        have h := HH.out
        rw [show rs.take k = rs by rw [List.take_of_length_le (by rw [← HN.out]; omega)]] at h
        exact h)
      go_wp2
      go_ret
      obtain ⟨h1, h2, h3⟩ := HO.out
      subst h1
      exact ⟨_, _, rfl, h2, h3⟩

theorem PrSq.pre {R : Nat → Prop} {w : World} {ao : Option Addr} {n c k : Nat} {ps : List Pr} (h : PrSq R w (.slice ao n c) ps) (hk : k ≤ n) : PrSq R w (.slice ao k c) (ps.take k) := by
  obtain ⟨ao', c', hv, h1, h2, h3, hn, h4⟩ := h
  cases hv
  have hl : (ps.take k).length = k := by rw [List.length_take]; omega
  refine ⟨_, _, by rw [hl], by omega, h2, fun p hp => h3 p (List.mem_of_mem_take hp), hn, fun hne => ?_⟩
  obtain ⟨b, o, rfl, hb, hc⟩ := h4 (by rintro rfl; simp at hne)
  refine ⟨b, o, rfl, hb, fun j p hjp => hc j p ?_⟩
  rw [List.getElem?_take] at hjp
  split at hjp
  · exact hjp
  · cases hjp

def RowR (R : Nat → Prop) (w : World) (ps : List Pr) (r : Ending) (w' : World) : Prop := ∃ a e cc, r = .returned (.slice a e cc) ∧ PrSq R w (.slice a e cc) ps ∧ w = w'
set_option maxHeartbeats 4000000 in
theorem vrow_any (w : World) (R : Nat → Prop) (ao : Option Addr) (n c : Nat) (ps : List Pr) (i M : Nat) (S : Int) (h : PrSq R w (.slice ao n c) ps) (hn9 : n ≤ 1000000) (h1 : 512 ≤ S) (h2 : S ≤ 4096) (hM : (M : Int) = roomI S) (hi : i ≤ 65536) :
    Calls Try.prog 23 #[.slice ao n c, .int .i64 (i : Int), .int .i64 S] w fun r w' => RowR R w (partF ps M i) r w' := by
  have hrb := room_bd h1 h2
  rw [← hM] at hrb
  have HM := Lib.hid hM
  obtain ⟨hn, hnc, hc9⟩ := h.len
  obtain ⟨F, hF⟩ : ∃ F, F = i * M := ⟨_, rfl⟩
  have hF9 : F ≤ 65536 * 340 := by rw [hF]; exact Nat.mul_le_mul hi (by omega)
  have hFi : (i : Int) * (M : Int) = (F : Int) := by rw [hF]; simp
  have HFE := Lib.hid hF
  have HFI := Lib.hid hFi
  have HS := Lib.hid h
  have HN := Lib.hid hn
  have hwF : IntKind.i64.wrap (F : Int) = (F : Int) := IntWalk.i64_in _ (by omega)
  clear h hn hM hF hFi
  by_cases hlt : F < n
  · have hge : ¬ (n : Int) ≤ (F : Int) := by omega
    have hfi : (F : Int) ≤ (c : Int) := by omega
    have hc9' : (c : Int) ≤ 9223372036854775807 := by have h9 : maxLen ≤ 9223372036854775807 := by decide
                                                      omega
    have hcF : ¬ c = F := by omega
    have HP := Lib.hid (HS.out.post (k := F) (by omega))
    rw [if_neg hcF] at HP
    by_cases hmn : F + M < n
    · have hm1 : (F : Int) + (M : Int) < (n : Int) := by omega
      have hm2 : (F : Int) ≤ (F : Int) + (M : Int) := by omega
      have hm3 : (F : Int) + (M : Int) ≤ (c : Int) := by omega
      have HR := Lib.hid (show PrSq R w (.slice (ao.map (·.add (F * 2))) M (c - F)) (partF ps M i) by unfold partF; rw [← HFE.out]; exact HP.out.pre (by omega))
      have hfx := HFI.out
      go_enter Try.func23, Try.ntmps23
      go_wp2_with (go_at_call 34; refine (vroom_in _ _ h1 h2).mono ?_; rw [← HM.out]; rintro r w1 ⟨rfl, rfl⟩)
      go_ret
      exact ⟨_, _, _, rfl, (by rw [show F + M - F = M by omega]; exact HR.out), rfl⟩
    · have hm1 : ¬ (F : Int) + (M : Int) < (n : Int) := by omega
      have hm2 : (F : Int) ≤ (n : Int) := by omega
      have HR := Lib.hid (show PrSq R w (.slice (ao.map (·.add (F * 2))) (n - F) (c - F)) (partF ps M i) by
        have e : partF ps M i = (ps.drop F) := by unfold partF; rw [← HFE.out, List.take_of_length_le (by rw [List.length_drop, ← HN.out]; omega)]
        rw [e]; exact HP.out)
      have hfx := HFI.out
      go_enter Try.func23, Try.ntmps23
      go_wp2_with (go_at_call 34; refine (vroom_in _ _ h1 h2).mono ?_; rw [← HM.out]; rintro r w1 ⟨rfl, rfl⟩)
      go_ret
      exact ⟨_, _, _, rfl, HR.out, rfl⟩
  · have hge : (n : Int) ≤ (F : Int) := by omega
    have HE := Lib.hid (show partF ps M i = [] by unfold partF; rw [← HFE.out, List.drop_eq_nil_of_le (by rw [← HN.out]; omega), List.take_nil])
    have hfi := HFI.out
    go_enter Try.func23, Try.ntmps23
    go_wp2_with (go_at_call 34; refine (vroom_in _ _ h1 h2).mono ?_; rw [← HM.out]; rintro r w1 ⟨rfl, rfl⟩)
    go_ret
    exact ⟨_, _, _, rfl, by rw [HE.out]; exact prsq_nil _ _, rfl⟩

end Go.Proofs.Ytpgpilalhbdidaa
