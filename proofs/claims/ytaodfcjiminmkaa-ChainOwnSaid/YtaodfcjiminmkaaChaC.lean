/-
  Layer 6: the contract of chain's Get. Own work.
-/
import Derived.Test.YtaodfcjiminmkaaChaA
import Derived.Test.YtaodfcjiminmkaaLayO
import Derived.OwnWalk
namespace Go.Proofs.Ytaodfcjiminmkaa
open Go.RowKit

/-- What stands in a page of a part. -/
def CLaid (b p : List Int) (x : Int) : Prop := b = chB p x b.length ∧ RightC (p.length : Int) (b.length : Int) ∧ 0 ≤ x ∧ x ≤ 4294967295
theorem claid_head {b b1 b2 b3 o1 o2 o3 p : List Int} {e1 e2 e3 x : Int} (x1 : nx b 0 1 true = (b1, e1, o1)) (x2 : nx b1 e1 1 true = (b2, e2, o2)) (x3 : nx b2 e2 2 true = (b3, e3, o3)) (h : CLaid b p x) :
    (e3 = 0 ∧ beVal o1 = 3 ∧ beVal o2 = 0) ∧ beVal o3 = (p.length : Int) ∧ b3 = numB x 4 4 ++ (p ++ List.replicate (b.length - 8 - p.length) 0) := by
  obtain ⟨hb, ⟨h1, h2, h3, h4⟩, _, _⟩ := h
  rw [chB_read] at hb
  generalize hn : b.length = n at *
  rw [hb, nx_app (by rfl)] at x1
  injection x1 with a1 x1; injection x1 with a2 a3
  subst a1; subst a2; subst a3
  rw [nx_app (by rfl)] at x2
  injection x2 with a1 x2; injection x2 with a2 a3
  subst a1; subst a2; subst a3
  rw [nx_app (by rw [numB_len]; rfl)] at x3
  injection x3 with a1 x3; injection x3 with a2 a3
  subst a1; subst a2; subst a3
  exact ⟨⟨rfl, by simp [beVal], rfl⟩, be2 (by omega) (by omega), rfl⟩
theorem nx_at {bs : List Int} {n : Nat} (h : n ≤ bs.length) : nx bs 0 (n : Int) true = (bs.drop n, 0, bs.take n) := by
  have : ¬ (bs.length : Int) < (n : Int) := by omega
  simp only [nx, if_neg this]
  simp
/-- What has been read is a page, if what is left is noughts. -/
theorem claid_of {b b1 b2 b3 o1 o2 o3 : List Int} {e1 e2 : Int} {C : Nat} (hb : Byt b) (x1 : nx b 0 1 true = (b1, e1, o1)) (x2 : nx b1 e1 1 true = (b2, e2, o2)) (x3 : nx b2 e2 2 true = (b3, 0, o3)) (h1 : beVal o1 = 3) (h2 : beVal o2 = 0) (hC : (C : Int) = beVal o3)
    (hr : RightC (C : Int) (b.length : Int)) :
    8 + C ≤ b.length ∧ b3.length + 4 = b.length ∧ Byt b3 ∧ (allZ ((b3.drop 4).drop C) = true → CLaid b ((b3.drop 4).take C) (beVal (b3.take 4))) := by
  obtain ⟨c1, bo1, _, _⟩ := nx_both x1 hb
  obtain ⟨c2, bo2, _, _⟩ := nx_both x2 c1
  obtain ⟨c3, bo3, _, _⟩ := nx_both x3 c2
  obtain ⟨r2, p2, l3⟩ := nx_ok x3 (by decide)
  subst r2
  obtain ⟨r1, p1, l2⟩ := nx_ok x2 (by decide)
  subst r1
  obtain ⟨_, p0, l1⟩ := nx_ok x1 (by decide)
  have q1 := num1 bo1 (by omega)
  have q2 := num1 bo2 (by omega)
  have q3 := num2 bo3 (by omega)
  rw [h1, numB1] at q1
  rw [h2, numB1] at q2
  rw [← hC] at q3
  have hbb : b = [3] ++ ([0] ++ (numB (C : Int) 2 2 ++ b3)) := by rw [p0, p1, p2, ← q1, ← q2, q3]; rfl
  have hbl : b3.length + 4 = b.length := by rw [hbb]; simp [numB_len]; omega
  have hk : 8 + C ≤ b.length := by have := hr.2.2.2; omega
  refine ⟨hk, hbl, c3, fun hz => ?_⟩
  have hpl : ((b3.drop 4).take C).length = C := by rw [List.length_take, List.length_drop]; omega
  have ho4 : Byt (b3.take 4) := fun y hy => c3 y (List.mem_of_mem_take hy)
  have hl4 : (b3.take 4).length = 4 := by rw [List.length_take]; omega
  have hv := beVal_bound _ ho4
  have hv2 := beVal_lt _ ho4 4 (by omega)
  refine ⟨?_, by rw [hpl]; exact hr, hv.1, by omega⟩
  have hz2 := allZ_rep _ hz
  have hz3 : ((b3.drop 4).drop C).length = b.length - 8 - C := by rw [List.length_drop, List.length_drop]; omega
  rw [hz3] at hz2
  rw [chB_read, hpl, num4 ho4 hl4, ← hz2, List.take_append_drop, List.take_append_drop]
  exact hbb

/-- What Get tells. -/
def CGetR (b : List Int) (w w' : World) (r : Ending) : Prop :=
  (∃ (pv : Value) (p : List Int) (x : Int), r = .returned (.tuple #[pv, .int .u32 x, .int .i64 0]) ∧ CLaid b p x ∧ OwnB w.heap.size w' pv p ∧ Byt p ∧ w.grownBy w' none) ∨
  (r = .returned (.tuple #[.slice none 0 0, .int .u32 0, .int .i64 11]) ∧ (∀ p x, ¬ CLaid b p x) ∧ w.grownBy w' none)

set_option maxHeartbeats 4000000 in
theorem cget_any (w : World) (B : Nat) (ao : Option Addr) (n c0 : Nat) (b : List Int) (h : Seq B w (.slice ao n c0) b) (hB : B ≤ w.heap.size) (hb : Byt b) (hl : b.length ≤ 140737488355328) :
    Calls Try.prog 16 #[.slice ao n c0] w fun r w' => CGetR b w w' r := by
  obtain ⟨b1, e1, o1, x1⟩ : ∃ a b' d, nx b 0 1 true = (a, b', d) := ⟨_, _, _, rfl⟩
  obtain ⟨b2, e2, o2, x2⟩ : ∃ a b' d, nx b1 e1 1 true = (a, b', d) := ⟨_, _, _, rfl⟩
  obtain ⟨b3, e3, o3, x3⟩ : ∃ a b' d, nx b2 e2 2 true = (a, b', d) := ⟨_, _, _, rfl⟩
  obtain ⟨c1, bo1, _, _⟩ := nx_both x1 hb
  obtain ⟨c2, bo2, _, _⟩ := nx_both x2 c1
  obtain ⟨c3, bo3, _, _⟩ := nx_both x3 c2
  have l3 := nx_outlen x3 (by decide)
  have hC0 := (beVal_bound o3 bo3).1
  have hC1 := beVal_lt o3 bo3 2 (by omega)
  have hnl : n = b.length := by obtain ⟨_, _, hv, _⟩ := h; injection hv
  have hn9 : n ≤ 140737488355328 := by omega
  obtain ⟨C, hC⟩ : ∃ x : Nat, (x : Int) = beVal o3 := ⟨(beVal o3).toNat, by omega⟩
  have hCl : C ≤ 65535 := by omega
  have H := Lib.hid h
  have HB := Lib.hid hb
  have HL := Lib.hid hl
  have HN := Lib.hid hnl
  have X1 := Lib.hid x1
  have X2 := Lib.hid x2
  have HC := Lib.hid hC
  by_cases hh : e3 = 0 ∧ beVal o1 = 3 ∧ beVal o2 = 0
  · obtain ⟨he, h1, h2⟩ := hh
    subst he
    have X3 := Lib.hid x3
    have HA1 := Lib.hid h1
    have HA2 := Lib.hid h2
    by_cases hr : RightC (C : Int) (n : Int)
    · obtain ⟨k1, k2, k3, k4⟩ := claid_of hb x1 x2 x3 h1 h2 hC (by rw [← hnl]; exact hr)
      have K4 := Lib.hid k4
      have HR := Lib.hid hr
      have hb4 : (b3.drop 4).length = b.length - 8 := by rw [List.length_drop]; omega
      have X4 := Lib.hid (show nx b3 0 4 true = (b3.drop 4, 0, b3.take 4) from nx_at (n := 4) (by omega))
      have X5 := Lib.hid (show nx (b3.drop 4) 0 (C : Int) true = ((b3.drop 4).drop C, 0, (b3.drop 4).take C) from nx_at (by omega))
      have hpl : ((b3.drop 4).take C).length = C := by rw [List.length_take]; omega
      have BP := Lib.hid (show Byt ((b3.drop 4).take C) from fun y hy => k3 y (List.mem_of_mem_drop (List.mem_of_mem_take hy)))
      have ho4 : Byt (b3.take 4) := fun y hy => k3 y (List.mem_of_mem_take hy)
      have hv := beVal_bound _ ho4
      have hv2 := beVal_lt _ ho4 4 (by rw [List.length_take]; omega)
      have HU := Lib.hid (fun (p : List Int) (x : Int) (hL : CLaid b p x) => (show allZ ((b3.drop 4).drop C) = true by
        obtain ⟨_, g2, g3⟩ := claid_head x1 x2 x3 hL
        have hpC : p.length = C := by omega
        rw [g3, List.drop_left' (numB_len _ _ _), List.drop_left' hpC]
        exact rep_allZ _))
      obtain ⟨p, hp⟩ : ∃ p, p = (b3.drop 4).take C := ⟨_, rfl⟩
      obtain ⟨z, hz⟩ : ∃ z, z = (b3.drop 4).drop C := ⟨_, rfl⟩
      obtain ⟨y, hy⟩ : ∃ y, y = beVal (b3.take 4) := ⟨_, rfl⟩
      rw [← hz, ← hp] at X5
      rw [← hp] at hpl BP
      rw [← hy] at hv hv2
      rw [← hz, ← hp, ← hy] at K4
      rw [← hz] at HU
      have HY := Lib.hid hy
      have hy0 : 0 ≤ y := hv.1
      have hy1 : y ≤ 4294967295 := by omega
      obtain ⟨Z, hZ⟩ : ∃ Z, Z = z.length := ⟨_, rfl⟩
      have hZ9 : Z ≤ 140737488355328 := by rw [hZ, hz, List.length_drop]; omega
      have X6 := Lib.hid (show nx z 0 (Z : Int) true = ([], 0, z) by rw [hZ, nx_at (Nat.le_refl _)]; simp)
      have HZ := Lib.hid hZ
      have hC4 : decide ((0 : Int) ≤ (C : Int)) = true := by simp
      have hZ4 : decide ((0 : Int) ≤ (Z : Int)) = true := by simp
      have HPL := Lib.hid hpl
      clear hnl h hb hl x1 x2 x3 h1 h2 hC hr k1 k2 k3 k4 hb4 ho4 hv hv2 hp hz hy hZ hC0 hC1 c1 c2 c3 bo1 bo2 bo3 l3 hpl
      by_cases haz : allZ z = true
      · have HAZ := Lib.hid haz
        have HD := Lib.hid (K4.out haz)
        clear haz K4 HU
        go_enter Try.func16, Try.ntmps16
        go_wp2_with (first
          | (go_at_call 27; have Kc := rhead_yes (kind := 3) H.out hB HB.out HL.out (by decide) (by decide) X1.out X2.out X3.out HA1.out HA2.out HC.out hCl; ((with_reducible refine Kc.mono ?_); clear Kc; rintro r w3 ⟨g, rfl, hs⟩); have HR3 := Lib.hid hs; clear hs)
          | (go_at_call 22; refine (cright_yes _ HR.out).mono ?_; rintro r wq ⟨rfl, rfl⟩)
          | (go_at_call 28; have Kc := HR3.out.num 4 (by decide) (by decide) X4.out; rw [← HY.out] at Kc; ((with_reducible refine Kc.mono ?_); clear Kc; rintro r w4 ⟨rfl, hs, hg⟩); have HR4 := Lib.hid hs; clear hs hg)
          | (go_at_call 29; have Kc := HR4.out.raw _ _ hC4 X5.out; rw [HPL.out] at Kc; ((with_reducible refine Kc.mono ?_); clear Kc; rintro r w5 ⟨af, cf, rfl, ho, hs, hg⟩); have HR5 := Lib.hid hs; have HO := Lib.hid (own_base ho (show w.heap.size ≤ w4.heap.size from HR4.out.bel.size)); clear hs hg ho)
          | (go_at_call 31; have Kc := left_any w5 g z 0 HR5.out.rd; rw [← HZ.out] at Kc; ((with_reducible refine Kc.mono ?_); clear Kc; rintro r wq ⟨rfl, rfl⟩))
          | (go_at_call 29; have Kc := HR5.out.raw _ _ hZ4 X6.out; rw [← HZ.out] at Kc; ((with_reducible refine Kc.mono ?_); clear Kc; rintro r w6 ⟨ag, cg, rfl, ho, hs, hg⟩); have HR6 := Lib.hid hs; have HO6 := Lib.hid (Seq.owned (show w6.ownsRow w5.heap.size 5 1 (.slice ag z.length cg) z.length (z.map (Value.int .u8)) by rw [← HZ.out]; exact ho)); have HP6 := Lib.hid (OwnB.rd (show OwnB w.heap.size w5 (.slice af p.length cf) p by unfold OwnB; rw [HPL.out]; exact HO.out) hg HR5.out.rd); clear hs hg ho)
          | (go_at_call 30; have Kc := noughts_any w6 w6.heap.size ag Z cg z (by have h := HO6.out; rw [← HZ.out] at h; exact h); rw [HAZ.out] at Kc; ((with_reducible refine Kc.mono ?_); clear Kc; rintro r wq ⟨rfl, rfl⟩)))
        go_ret3
        exact .inl ⟨.slice af p.length cf, p, y, by rw [HPL.out]; rfl, HD.out, HP6.out, BP.out, HR6.out.gr⟩
      · have hzf : allZ z = false := by simpa using haz
        have HAZ := Lib.hid hzf
        have HD := Lib.hid (show ∀ p x, ¬ CLaid b p x from fun p x hL => haz (HU.out p x hL))
        clear haz K4 HU hzf
        go_enter Try.func16, Try.ntmps16
        go_wp2_with (first
          | (go_at_call 27; have Kc := rhead_yes (kind := 3) H.out hB HB.out HL.out (by decide) (by decide) X1.out X2.out X3.out HA1.out HA2.out HC.out hCl; ((with_reducible refine Kc.mono ?_); clear Kc; rintro r w3 ⟨g, rfl, hs⟩); have HR3 := Lib.hid hs; clear hs)
          | (go_at_call 22; refine (cright_yes _ HR.out).mono ?_; rintro r wq ⟨rfl, rfl⟩)
          | (go_at_call 28; have Kc := HR3.out.num 4 (by decide) (by decide) X4.out; rw [← HY.out] at Kc; ((with_reducible refine Kc.mono ?_); clear Kc; rintro r w4 ⟨rfl, hs, hg⟩); have HR4 := Lib.hid hs; clear hs hg)
          | (go_at_call 29; have Kc := HR4.out.raw _ _ hC4 X5.out; rw [HPL.out] at Kc; ((with_reducible refine Kc.mono ?_); clear Kc; rintro r w5 ⟨af, cf, rfl, ho, hs, hg⟩); have HR5 := Lib.hid hs; clear hs hg ho)
          | (go_at_call 31; have Kc := left_any w5 g z 0 HR5.out.rd; rw [← HZ.out] at Kc; ((with_reducible refine Kc.mono ?_); clear Kc; rintro r wq ⟨rfl, rfl⟩))
          | (go_at_call 29; have Kc := HR5.out.raw _ _ hZ4 X6.out; rw [← HZ.out] at Kc; ((with_reducible refine Kc.mono ?_); clear Kc; rintro r w6 ⟨ag, cg, rfl, ho, hs, hg⟩); have HR6 := Lib.hid hs; have HO6 := Lib.hid (Seq.owned (show w6.ownsRow w5.heap.size 5 1 (.slice ag z.length cg) z.length (z.map (Value.int .u8)) by rw [← HZ.out]; exact ho)); clear hs hg ho)
          | (go_at_call 30; have Kc := noughts_any w6 w6.heap.size ag Z cg z (by have h := HO6.out; rw [← HZ.out] at h; exact h); rw [HAZ.out] at Kc; ((with_reducible refine Kc.mono ?_); clear Kc; rintro r wq ⟨rfl, rfl⟩)))
        go_ret3
        exact .inr ⟨rfl, HD.out, HR6.out.gr⟩
    · have HNO := Lib.hid (show ∀ p x, ¬ CLaid b p x from fun p x hL => hr (by
        obtain ⟨_, g2, _⟩ := claid_head x1 x2 x3 hL
        rw [hC, g2, hnl]
        exact hL.2.1))
      have HR := Lib.hid hr
      clear hnl h hb hl x1 x2 x3 h1 h2 hC hr hC0 hC1 c1 c2 c3 bo1 bo2 bo3 l3
      go_enter Try.func16, Try.ntmps16
      go_wp2_with (first
        | (go_at_call 27; have Kc := rhead_yes (kind := 3) H.out hB HB.out HL.out (by decide) (by decide) X1.out X2.out X3.out HA1.out HA2.out HC.out hCl; ((with_reducible refine Kc.mono ?_); clear Kc; rintro r w3 ⟨g, rfl, hs⟩); have HR3 := Lib.hid hs; clear hs)
        | (go_at_call 22; refine (cright_no _ HR.out).mono ?_; rintro r wq ⟨rfl, rfl⟩))
      go_ret3
      exact .inr ⟨rfl, HNO.out, HR3.out.gr⟩
  · have HNO := Lib.hid (show ∀ p x, ¬ CLaid b p x from fun p x hL => hh (claid_head x1 x2 x3 hL).1)
    have X3 := Lib.hid x3
    have HH := Lib.hid hh
    clear hnl h hb hl x1 x2 x3 hC hh hC0 hC1 c1 c2 c3 bo1 bo2 bo3 l3
    go_enter Try.func16, Try.ntmps16
    go_wp2_with (go_at_call 27; have Kc := rhead_no (kind := 3) H.out hB HB.out HL.out (by decide) (by decide) X1.out X2.out X3.out HH.out; ((with_reducible refine Kc.mono ?_); clear Kc; rintro r w3 ⟨rfl, hs⟩); have HR3 := Lib.hid hs; clear hs)
    go_ret3
    exact .inr ⟨rfl, HNO.out, HR3.out⟩

end Go.Proofs.Ytaodfcjiminmkaa
