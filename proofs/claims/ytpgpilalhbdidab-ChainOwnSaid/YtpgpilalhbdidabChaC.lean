/-
  Layer 6: the contract of chain's Get. Own work.
-/
import Derived.Test.YtpgpilalhbdidabChaA
import Derived.Test.YtpgpilalhbdidabLayO
import Derived.Test.YtpgpilalhbdidabOctP
import Derived.OwnWalk
namespace Go.Proofs.Ytpgpilalhbdidab
open Go.RowKit

/-- What stands in a page of a part. -/
def CLaid (b p : List Int) (x : Int) : Prop := b = chB p x b.length ∧ RightC (p.length : Int) (b.length : Int) ∧ 0 ≤ x ∧ x ≤ 4294967295
theorem claid_linked {b p : List Int} {x : Int} (h : CLaid b p x) : b = hdK 3 p.length x ++ (p ++ List.replicate (b.length - 8 - p.length) 0) := h.1
theorem claid_at {b p r : List Int} {C : Nat} {x y : Int} (hC : C ≤ 65535) (hy0 : 0 ≤ y) (hy1 : y ≤ 4294967295) (e : b = hdK 3 C y ++ r) (h : CLaid b p x) : p.length = C ∧ x = y ∧ r = p ++ List.replicate (b.length - 8 - p.length) 0 := by
  have h1 := claid_linked h
  obtain ⟨_, ⟨_, h2, _, h4⟩, h5, h6⟩ := h
  rw [e] at h1
  obtain ⟨e1, e2, e3⟩ := hdK_inj hC (by omega) hy0 hy1 h5 h6 h1
  rw [← e] at e3
  exact ⟨e1.symm, e2.symm, e3⟩
/-- What has been read is a page, if what is left is noughts. -/
theorem claid_of {b r : List Int} {C : Nat} {y : Int} (hy0 : 0 ≤ y) (hy1 : y ≤ 4294967295) (e : b = hdK 3 C y ++ r) (hr : RightC (C : Int) (b.length : Int)) (hz : allZ (r.drop C) = true) : CLaid b (r.take C) y := by
  have hl : b.length = 8 + r.length := by rw [e, List.length_append, hdK_len]
  have hk : 8 + C ≤ b.length := by have := hr.2.2.2; omega
  have hpl : (r.take C).length = C := by rw [List.length_take]; omega
  have hz2 := allZ_rep _ hz
  rw [show (r.drop C).length = b.length - 8 - C by rw [List.length_drop]; omega] at hz2
  refine ⟨?_, by rw [hpl]; exact hr, hy0, hy1⟩
  rw [chB, hpl, ← hz2, List.take_append_drop]
  exact e

/-- What Get tells. -/
def CGetR (b : List Int) (w w' : World) (r : Ending) : Prop :=
  (∃ (pv : Value) (p : List Int) (x : Int), r = .returned (.tuple #[pv, .int .u32 x, .int .i64 0]) ∧ CLaid b p x ∧ OwnB w.heap.size w' pv p ∧ Byt p ∧ w.grownBy w' none) ∨
  (r = .returned (.tuple #[.slice none 0 0, .int .u32 0, .int .i64 11]) ∧ (∀ p x, ¬ CLaid b p x) ∧ w.grownBy w' none)

set_option maxHeartbeats 4000000 in
theorem cget_any (w : World) (B : Nat) (ao : Option Addr) (n c0 : Nat) (b : List Int) (h : Seq B w (.slice ao n c0) b) (hB : B ≤ w.heap.size) (hb : Byt b) (hl : b.length ≤ 140737488355328) :
    Calls Try.prog 16 #[.slice ao n c0] w fun r w' => CGetR b w w' r := by
  have hnl : n = b.length := by obtain ⟨_, _, hv, _⟩ := h; injection hv
  have hn9 : n ≤ 140737488355328 := by omega
  have H := Lib.hid h
  have HB := Lib.hid hb
  have HL := Lib.hid hl
  by_cases hq : ∃ (C : Nat) (y : Int) (r : List Int), C ≤ 65535 ∧ 0 ≤ y ∧ y ≤ 4294967295 ∧ b = hdK 3 C y ++ r
  · obtain ⟨C, y, r, hCl, hy0, hy1, he⟩ := hq
    have hbl : b.length = 8 + r.length := by rw [he, List.length_append, hdK_len]
    have HE := Lib.hid he
    by_cases hr : RightC (C : Int) (n : Int)
    · have HR := Lib.hid hr
      have hC8 : C ≤ r.length := by have := hr.2.2.2; omega
      have X5 := Lib.hid (show nx r 0 (C : Int) true = (r.drop C, 0, r.take C) from nx_at hC8)
      have hpl : (r.take C).length = C := by rw [List.length_take]; omega
      have BP := Lib.hid (show Byt (r.take C) from fun v hv => hb v (by rw [he]; exact List.mem_append_right _ (List.mem_of_mem_take hv)))
      have HU := Lib.hid (fun (p : List Int) (x : Int) (hL : CLaid b p x) => (show allZ (r.drop C) = true by
        obtain ⟨g1, _, g3⟩ := claid_at hCl hy0 hy1 he hL
        rw [g3, List.drop_left' g1]
        exact rep_allZ _))
      have K4 := Lib.hid (fun hz : allZ (r.drop C) = true => claid_of hy0 hy1 he (by rw [← hnl]; exact hr) hz)
      obtain ⟨p, hp⟩ : ∃ p, p = r.take C := ⟨_, rfl⟩
      obtain ⟨z, hz⟩ : ∃ z, z = r.drop C := ⟨_, rfl⟩
      rw [← hz, ← hp] at X5
      rw [← hp] at hpl BP
      rw [← hz, ← hp] at K4
      rw [← hz] at HU
      obtain ⟨Z, hZ⟩ : ∃ Z, Z = z.length := ⟨_, rfl⟩
      have hZ9 : Z ≤ 140737488355328 := by rw [hZ, hz, List.length_drop]; omega
      have X6 := Lib.hid (show nx z 0 (Z : Int) true = ([], 0, z) by rw [hZ, nx_at (Nat.le_refl _)]; simp)
      have HZ := Lib.hid hZ
      have hC4 : decide ((0 : Int) ≤ (C : Int)) = true := by simp
      have hZ4 : decide ((0 : Int) ≤ (Z : Int)) = true := by simp
      have HPL := Lib.hid hpl
      clear hnl h hb hl he hr hC8 hpl hp hz hZ hbl
      by_cases haz : allZ z = true
      · have HAZ := Lib.hid haz
        have HD := Lib.hid (K4.out haz)
        clear haz K4 HU
        go_enter Try.func16, Try.ntmps16
        go_wp2_with (first
          | (go_at_call 27; have Kc := rlinked_yes (kind := 3) (C := C) (x := y) (r := r) H.out hB HB.out HL.out (by decide) (by decide) hCl hy0 hy1 HE.out; ((with_reducible refine Kc.mono ?_); clear Kc; rintro e w4 ⟨g, rfl, hs⟩); have HR4 := Lib.hid hs; clear hs)
          | (go_at_call 23; refine (cright_yes _ HR.out).mono ?_; rintro e wq ⟨rfl, rfl⟩)
          | (go_at_call 28; have Kc := HR4.out.raw _ _ hC4 X5.out; rw [HPL.out] at Kc; ((with_reducible refine Kc.mono ?_); clear Kc; rintro e w5 ⟨af, cf, rfl, ho, hs, hg⟩); have HR5 := Lib.hid hs; have HO := Lib.hid (own_base ho (show w.heap.size ≤ w4.heap.size from HR4.out.bel.size)); clear hs hg ho)
          | (go_at_call 30; have Kc := left_any w5 g z 0 HR5.out.rd; rw [← HZ.out] at Kc; ((with_reducible refine Kc.mono ?_); clear Kc; rintro e wq ⟨rfl, rfl⟩))
          | (go_at_call 28; have Kc := HR5.out.raw _ _ hZ4 X6.out; rw [← HZ.out] at Kc; ((with_reducible refine Kc.mono ?_); clear Kc; rintro e w6 ⟨ag, cg, rfl, ho, hs, hg⟩); have HR6 := Lib.hid hs; have HO6 := Lib.hid (Seq.owned (show w6.ownsRow w5.heap.size 5 1 (.slice ag z.length cg) z.length (z.map (Value.int .u8)) by rw [← HZ.out]; exact ho)); have HP6 := Lib.hid (OwnB.rd (show OwnB w.heap.size w5 (.slice af p.length cf) p by unfold OwnB; rw [HPL.out]; exact HO.out) hg HR5.out.rd); clear hs hg ho)
          | (go_at_call 29; have Kc := noughts_any w6 w6.heap.size ag Z cg z (by have h := HO6.out; rw [← HZ.out] at h; exact h); rw [HAZ.out] at Kc; ((with_reducible refine Kc.mono ?_); clear Kc; rintro e wq ⟨rfl, rfl⟩)))
        go_ret3
        exact .inl ⟨.slice af p.length cf, p, y, by rw [HPL.out]; rfl, HD.out, HP6.out, BP.out, HR6.out.gr⟩
      · have hzf : allZ z = false := by simpa using haz
        have HAZ := Lib.hid hzf
        have HD := Lib.hid (show ∀ p x, ¬ CLaid b p x from fun p x hL => haz (HU.out p x hL))
        clear haz K4 HU hzf
        go_enter Try.func16, Try.ntmps16
        go_wp2_with (first
          | (go_at_call 27; have Kc := rlinked_yes (kind := 3) (C := C) (x := y) (r := r) H.out hB HB.out HL.out (by decide) (by decide) hCl hy0 hy1 HE.out; ((with_reducible refine Kc.mono ?_); clear Kc; rintro e w4 ⟨g, rfl, hs⟩); have HR4 := Lib.hid hs; clear hs)
          | (go_at_call 23; refine (cright_yes _ HR.out).mono ?_; rintro e wq ⟨rfl, rfl⟩)
          | (go_at_call 28; have Kc := HR4.out.raw _ _ hC4 X5.out; rw [HPL.out] at Kc; ((with_reducible refine Kc.mono ?_); clear Kc; rintro e w5 ⟨af, cf, rfl, ho, hs, hg⟩); have HR5 := Lib.hid hs; have HO := Lib.hid (own_base ho (show w.heap.size ≤ w4.heap.size from HR4.out.bel.size)); clear hs hg ho)
          | (go_at_call 30; have Kc := left_any w5 g z 0 HR5.out.rd; rw [← HZ.out] at Kc; ((with_reducible refine Kc.mono ?_); clear Kc; rintro e wq ⟨rfl, rfl⟩))
          | (go_at_call 28; have Kc := HR5.out.raw _ _ hZ4 X6.out; rw [← HZ.out] at Kc; ((with_reducible refine Kc.mono ?_); clear Kc; rintro e w6 ⟨ag, cg, rfl, ho, hs, hg⟩); have HR6 := Lib.hid hs; have HO6 := Lib.hid (Seq.owned (show w6.ownsRow w5.heap.size 5 1 (.slice ag z.length cg) z.length (z.map (Value.int .u8)) by rw [← HZ.out]; exact ho)); have HP6 := Lib.hid (OwnB.rd (show OwnB w.heap.size w5 (.slice af p.length cf) p by unfold OwnB; rw [HPL.out]; exact HO.out) hg HR5.out.rd); clear hs hg ho)
          | (go_at_call 29; have Kc := noughts_any w6 w6.heap.size ag Z cg z (by have h := HO6.out; rw [← HZ.out] at h; exact h); rw [HAZ.out] at Kc; ((with_reducible refine Kc.mono ?_); clear Kc; rintro e wq ⟨rfl, rfl⟩)))
        go_ret3
        exact .inr ⟨rfl, HD.out, HR6.out.gr⟩
    · have HNO := Lib.hid (show ∀ p x, ¬ CLaid b p x from fun p x hL => hr (by
        obtain ⟨g1, _, _⟩ := claid_at hCl hy0 hy1 he hL
        rw [← g1, hnl]
        exact hL.2.1))
      have HR := Lib.hid hr
      clear hnl h hb hl he hr hbl
      go_enter Try.func16, Try.ntmps16
      go_wp2_with (first
        | (go_at_call 27; have Kc := rlinked_yes (kind := 3) (C := C) (x := y) (r := r) H.out hB HB.out HL.out (by decide) (by decide) hCl hy0 hy1 HE.out; ((with_reducible refine Kc.mono ?_); clear Kc; rintro e w4 ⟨g, rfl, hs⟩); have HR4 := Lib.hid hs; clear hs)
        | (go_at_call 23; refine (cright_no _ HR.out).mono ?_; rintro e wq ⟨rfl, rfl⟩))
      go_ret3
      exact .inr ⟨rfl, HNO.out, HR4.out.gr⟩
  · have HNO := Lib.hid (show ∀ p x, ¬ CLaid b p x from fun p x hL => hq ⟨p.length, x, _, by have := hL.2.1.2.2.2; have := hL.2.1.2.1; omega, hL.2.2.1, hL.2.2.2, claid_linked hL⟩)
    have HH := Lib.hid (show ∀ (C : Nat) (x : Int) (r : List Int), C ≤ 65535 → 0 ≤ x → x ≤ 4294967295 → b ≠ hdK 3 C x ++ r from fun C x r h1 h2 h3 h4 => hq ⟨C, x, r, h1, h2, h3, h4⟩)
    clear hnl h hb hl hq
    go_enter Try.func16, Try.ntmps16
    go_wp2_with (go_at_call 27; have Kc := rlinked_no (kind := 3) H.out hB HB.out HL.out (by decide) (by decide) HH.out; ((with_reducible refine Kc.mono ?_); clear Kc; rintro e w4 ⟨rfl, hs⟩); have HR4 := Lib.hid hs; clear hs)
    go_ret3
    exact .inr ⟨rfl, HNO.out, HR4.out⟩

end Go.Proofs.Ytpgpilalhbdidab
