/-
  Layer 6: the reference's Get. Own work.
-/
import Derived.Test.YtpgpilalhbdidabChaF
import Derived.Test.YtpgpilalhbdidabChaE
import Derived.OwnWalk
namespace Go.Proofs.Ytpgpilalhbdidab
open Go.RowKit

theorem claid_parts {b p : List Int} {x : Int} (h : CLaid b p x) : beVal ((b.drop 2).take 2) = (p.length : Int) ∧ beVal ((b.drop 4).take 4) = x ∧ (b.drop 8).take p.length = p := by
  obtain ⟨hb, ⟨h1, h2, h3, h4⟩, hx0, hx1⟩ := h
  rw [chB_read] at hb
  generalize hn : b.length = n at *
  have e2 : b.drop 2 = numB (p.length : Int) 2 2 ++ (numB x 4 4 ++ (p ++ List.replicate (n - 8 - p.length) 0)) := by rw [hb]; rfl
  have e4 : b.drop 4 = numB x 4 4 ++ (p ++ List.replicate (n - 8 - p.length) 0) := by
    rw [show (4 : Nat) = 2 + 2 from rfl, ← List.drop_drop, e2]; exact List.drop_left' (numB_len _ _ _)
  have e8 : b.drop 8 = p ++ List.replicate (n - 8 - p.length) 0 := by
    rw [show (8 : Nat) = 4 + 4 from rfl, ← List.drop_drop, e4]; exact List.drop_left' (numB_len _ _ _)
  rw [e2, e4, e8, List.take_left' (numB_len _ _ _), List.take_left' (numB_len _ _ _), List.take_left' rfl]
  exact ⟨be2 (by omega) (by omega), be4 (by omega) (by omega), rfl⟩
theorem claid_uniq {b p q : List Int} {x y : Int} (h : CLaid b p x) (k : CLaid b q y) : p = q ∧ x = y := by
  obtain ⟨a1, a2, a3⟩ := claid_parts h
  obtain ⟨b1, b2, b3⟩ := claid_parts k
  have e : p.length = q.length := by omega
  rw [e] at a3
  exact ⟨a3.symm.trans b3, a2.symm.trans b2⟩
theorem strOf_mid (bs : List Int) (i j : Nat) : (strOfNums bs).extract i (i + j) = strOfNums ((bs.drop i).take j) := by
  apply ByteArray.ext
  apply Array.ext'
  simp [strOfNums, ByteArray.data_extract, List.map_take, List.map_drop]

/-- What the reference's Get tells. -/
def GGetR (b : List Int) (w w' : World) (r : Ending) : Prop :=
  (∃ (p : List Int) (x : Int), r = .returned (.tuple #[.string (strOfNums p), .int .u32 x, .int .i64 0]) ∧ CLaid b p x ∧ w.grownBy w' none) ∨
  (r = .returned (.tuple #[.string { data := #[] }, .int .u32 0, .int .i64 11]) ∧ (∀ p x, ¬ CLaid b p x) ∧ w.grownBy w' none)

set_option maxHeartbeats 4000000 in
theorem gget_any (w : World) (bs : List Int) (hb : Byt bs) (hl : bs.length ≤ 140737488355328) :
    Calls Try.prog 17 #[.string (strOfNums bs)] w fun r w' => GGetR bs w w' r := by
  have hsz := strOfNums_size bs
  obtain ⟨N, hN⟩ : ∃ N, N = bs.length := ⟨_, rfl⟩
  rw [← hN] at hsz hl
  have HN := Lib.hid hN
  have HB := Lib.hid hb
  by_cases h1 : 512 ≤ N
  · have hd0 : decide ((N : Int) < 512) = false := by simp; omega
    have hd0' : decide (N < 512) = false := by simp; omega
    by_cases h2 : N ≤ 4096
    · have hd1 : decide ((4096 : Int) < (N : Int)) = false := by simp; omega
      have hd1' : decide (4096 < N) = false := by simp; omega
      have x2 := strOf_drop bs 2 (by omega)
      have x4 := strOf_drop bs 4 (by omega)
      have l2 : (bs.drop 2).length = N - 2 := by rw [List.length_drop, hN]
      have l4 : (bs.drop 4).length = N - 4 := by rw [List.length_drop, hN]
      have K2 := Lib.hid (fun w' => rnum_in w' (bs.drop 2) 2 2 rfl (hb.drop 2) (by omega) (by decide) (by decide) (by omega))
      have K4 := Lib.hid (fun w' => rnum_in w' (bs.drop 4) 4 4 rfl (hb.drop 4) (by omega) (by decide) (by decide) (by omega))
      have hc2 : Byt ((bs.drop 2).take 2) := (hb.drop 2).take 2
      have hc4 : Byt ((bs.drop 4).take 4) := (hb.drop 4).take 4
      have v2 := beVal_bound _ hc2
      have u2 := beVal_lt _ hc2 2 (by rw [List.length_take]; omega)
      have v4 := beVal_bound _ hc4
      have u4 := beVal_lt _ hc4 4 (by rw [List.length_take]; omega)
      obtain ⟨C, hC⟩ : ∃ C : Nat, (C : Int) = beVal ((bs.drop 2).take 2) := ⟨(beVal ((bs.drop 2).take 2)).toNat, by omega⟩
      obtain ⟨y, hy⟩ : ∃ y : Nat, (y : Int) = beVal ((bs.drop 4).take 4) := ⟨(beVal ((bs.drop 4).take 4)).toNat, by omega⟩
      rw [← hC] at K2 v2 u2
      rw [← hy] at K4 v4 u4
      have hC9 : C ≤ 65535 := by omega
      have hy9 : y ≤ 4294967295 := by omega
      have hyw : IntKind.u32.wrap (y : Int) = (y : Int) := by rw [show IntKind.u32.wrap (y : Int) = (y : Int) % 4294967296 from rfl]; omega
      have HU := Lib.hid (fun (p : List Int) (x : Int) (h : CLaid bs p x) => (show p.length = C ∧ x = (y : Int) ∧ (bs.drop 8).take C = p from by
        obtain ⟨a1, a2, a3⟩ := claid_parts h
        have e : p.length = C := by omega
        exact ⟨e, by rw [← a2, hy], by rw [← e]; exact a3⟩))
      obtain ⟨B, hB⟩ : ∃ B, B = strOfNums bs := ⟨_, rfl⟩
      obtain ⟨D2, hD2⟩ : ∃ B, B = strOfNums (bs.drop 2) := ⟨_, rfl⟩
      obtain ⟨D4, hD4⟩ : ∃ B, B = strOfNums (bs.drop 4) := ⟨_, rfl⟩
      rw [← hB] at hsz x2 x4
      rw [hsz, ← hD2] at x2
      rw [hsz, ← hD4] at x4
      rw [← hD2] at K2
      rw [← hD4] at K4
      have hni2 : (2 : Int) ≤ (N : Int) := by omega
      have hni4 : (4 : Int) ≤ (N : Int) := by omega
      have hwN : IntKind.i64.wrap ((N : Int) - 8) = (N : Int) - 8 := IntWalk.i64_in _ (by omega)
      by_cases hc : C ≤ N - 8
      · have hd2 : decide ((N : Int) - 8 < (C : Int)) = false := by simp; omega
        have x8 := strOf_mid bs 8 C
        obtain ⟨p, hp⟩ : ∃ p, p = (bs.drop 8).take C := ⟨_, rfl⟩
        have hpb : Byt p := by rw [hp]; exact (hb.drop 8).take C
        have hpl : p.length = C := by rw [hp, List.length_take, List.length_drop]; omega
        obtain ⟨T, hT⟩ : ∃ T, T = strOfNums p := ⟨_, rfl⟩
        rw [← hp, ← hB, ← hT] at x8
        rw [← hp] at HU
        have hni8 : (8 : Int) ≤ 8 + (C : Int) := by omega
        have hni9 : 8 + (C : Int) ≤ (N : Int) := by omega
        have HPB := Lib.hid hpb
        have HPL := Lib.hid hpl
        have HT := Lib.hid hT
        have HBE := Lib.hid hB
        by_cases hr : RightC (p.length : Int) (N : Int)
        · have HR := Lib.hid hr
          obtain ⟨P, hP⟩ : ∃ P, P = strOfNums (chB p y N) := ⟨_, rfl⟩
          have HP := Lib.hid hP
          have hcl : (chB p y N).length = N := chB_len (by omega)
          by_cases he : chB p y N = bs
          · have HD := Lib.hid (show CLaid bs p y from ⟨by rw [← hN]; exact he.symm, by rw [← hN]; exact hr, by omega, by omega⟩)
            obtain rfl : P = B := by rw [hP, hB, he]
            rw [← hB]
            clear hb hN hC hy hB hD2 hD4 hp hT hpb hpl hr hP hcl he hc2 hc4 v2 u2 v4 u4 l2 l4 HU
            go_enter Try.func17, Try.ntmps17
            go_wp2_with (first
              | (go_at_call 31; ((with_reducible refine (K2.out _).mono ?_); rintro r w2 ⟨rfl, hg⟩); have G2 := Lib.hid hg; clear hg)
              | (go_at_call 31; ((with_reducible refine (K4.out _).mono ?_); rintro r w4 ⟨rfl, hg⟩); have G4 := Lib.hid (gtrans G2.out (gtrans (World.grownBy_alloc _ _ _) hg)); clear hg)
              | (go_at_call 15; have Kc := gput_ok (w4.alloc (.cells #[.string (strOfNums (bs.drop 8)), .int .i64 0] 67)) p y N HPB.out hy9 HR.out; rw [← HT.out, ← HP.out] at Kc; ((with_reducible refine Kc.mono ?_); clear Kc; rintro r w5 ⟨rfl, hg⟩); have G5 := Lib.hid (gtrans G4.out (gtrans (World.grownBy_alloc _ _ _) hg)); clear hg))
            go_ret3
            exact .inl ⟨p, y, by rw [← HT.out]; rfl, HD.out, G5.out⟩
          · have HNO := Lib.hid (show ∀ q x, ¬ CLaid bs q x from fun q x h => by
              obtain ⟨e1, e2, e3⟩ := HU.out q x h
              obtain ⟨k1, _⟩ := h
              rw [← hN, ← e3, e2] at k1
              exact he k1.symm)
            have hne := eq_str (chB_byt (x := (y : Int)) (S := N) hpb) hb
            rw [decide_eq_false (fun h => he (cmpL_eq _ _ h)), ← hP, ← hB] at hne
            have hne2 : ¬ P.toList = B.toList := fun e => by rw [e] at hne; simp at hne
            rw [← hB]
            clear hb hN hC hy hB hD2 hD4 hp hT hpb hpl hr hP hcl he hc2 hc4 v2 u2 v4 u4 l2 l4 HU
            go_enter Try.func17, Try.ntmps17
            go_wp2_with (first
              | (go_at_call 31; ((with_reducible refine (K2.out _).mono ?_); rintro r w2 ⟨rfl, hg⟩); have G2 := Lib.hid hg; clear hg)
              | (go_at_call 31; ((with_reducible refine (K4.out _).mono ?_); rintro r w4 ⟨rfl, hg⟩); have G4 := Lib.hid (gtrans G2.out (gtrans (World.grownBy_alloc _ _ _) hg)); clear hg)
              | (go_at_call 15; have Kc := gput_ok (w4.alloc (.cells #[.string (strOfNums (bs.drop 8)), .int .i64 0] 67)) p y N HPB.out hy9 HR.out; rw [← HT.out, ← HP.out] at Kc; ((with_reducible refine Kc.mono ?_); clear Kc; rintro r w5 ⟨rfl, hg⟩); have G5 := Lib.hid (gtrans G4.out (gtrans (World.grownBy_alloc _ _ _) hg)); clear hg))
            go_ret3
            exact .inr ⟨rfl, HNO.out, G5.out⟩
        · have HR := Lib.hid hr
          have HNO := Lib.hid (show ∀ q x, ¬ CLaid bs q x from fun q x h => by
            obtain ⟨e1, _, _⟩ := HU.out q x h
            obtain ⟨_, k2, _⟩ := h
            exact hr (by rw [hpl, ← e1, hN]; exact k2))
          rw [← hB]
          clear hb hN hC hy hB hD2 hD4 hp hT hpb hr hc2 hc4 v2 u2 v4 u4 l2 l4 HU
          go_enter Try.func17, Try.ntmps17
          go_wp2_with (first
            | (go_at_call 31; ((with_reducible refine (K2.out _).mono ?_); rintro r w2 ⟨rfl, hg⟩); have G2 := Lib.hid hg; clear hg)
            | (go_at_call 31; ((with_reducible refine (K4.out _).mono ?_); rintro r w4 ⟨rfl, hg⟩); have G4 := Lib.hid (gtrans G2.out (gtrans (World.grownBy_alloc _ _ _) hg)); clear hg)
            | (go_at_call 15; have Kc := gput_arg (w4.alloc (.cells #[.string (strOfNums (bs.drop 8)), .int .i64 0] 67)) p y (N : Int) HPB.out (by have := HPL.out; omega) (by omega) (by omega) HR.out; rw [← HT.out] at Kc; ((with_reducible refine Kc.mono ?_); clear Kc; rintro r w5 ⟨rfl, rfl⟩)))
          go_ret3
          exact .inr ⟨rfl, HNO.out, gtrans G4.out (World.grownBy_alloc _ _ _)⟩
      · have hd2 : decide ((N : Int) - 8 < (C : Int)) = true := by simp; omega
        have HNO := Lib.hid (show ∀ q x, ¬ CLaid bs q x from fun q x h => by
          obtain ⟨e1, _, _⟩ := HU.out q x h
          have := h.2.1.2.2.2
          omega)
        rw [← hB]
        clear hb hN hC hy hB hD2 hD4 hc2 hc4 v2 u2 v4 u4 l2 l4 HU
        go_enter Try.func17, Try.ntmps17
        go_wp2_with (first
          | (go_at_call 31; ((with_reducible refine (K2.out _).mono ?_); rintro r w2 ⟨rfl, hg⟩); have G2 := Lib.hid hg; clear hg)
          | (go_at_call 31; ((with_reducible refine (K4.out _).mono ?_); rintro r w4 ⟨rfl, hg⟩); have G4 := Lib.hid (gtrans G2.out (gtrans (World.grownBy_alloc _ _ _) hg)); clear hg))
        go_ret3
        exact .inr ⟨rfl, HNO.out, gtrans G4.out (World.grownBy_alloc _ _ _)⟩
    · have hd1 : decide ((4096 : Int) < (N : Int)) = true := by simp; omega
      have hd1' : decide (4096 < N) = true := by simp; omega
      have HNO := Lib.hid (show ∀ q x, ¬ CLaid bs q x from fun q x h => by have := h.2.1.2.1; omega)
      obtain ⟨B, hB⟩ : ∃ B, B = strOfNums bs := ⟨_, rfl⟩
      rw [← hB] at hsz ⊢
      clear hb hN hB
      go_enter Try.func17, Try.ntmps17
      go_wp2
      go_ret3
      exact .inr ⟨rfl, HNO.out, grefl _ _⟩
  · have hd0 : decide ((N : Int) < 512) = true := by simp; omega
    have hd0' : decide (N < 512) = true := by simp; omega
    have HNO := Lib.hid (show ∀ q x, ¬ CLaid bs q x from fun q x h => by have := h.2.1.1; omega)
    obtain ⟨B, hB⟩ : ∃ B, B = strOfNums bs := ⟨_, rfl⟩
    rw [← hB] at hsz ⊢
    clear hb hN hB
    go_enter Try.func17, Try.ntmps17
    go_wp2
    go_ret3
    exact .inr ⟨rfl, HNO.out, grefl _ _⟩

end Go.Proofs.Ytpgpilalhbdidab
