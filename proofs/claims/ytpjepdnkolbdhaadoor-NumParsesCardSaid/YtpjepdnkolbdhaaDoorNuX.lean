/-
  A number's own text, by the document. Own work.
-/
import Derived.Test.YtpjepdnkolbdhaaDoorNuU
set_option linter.unusedVariables false
set_option linter.unusedSimpArgs false
namespace Go.Proofs.YtpjepdnkolbdhaaDoor
open Go.RowKit

set_option maxHeartbeats 4000000 in
theorem refText_any (d : Bool) (A : Bs) (e : Int) (w : World) (hl : A.length ≤ 1000) (h1 : -1000 ≤ e) (h2 : e ≤ 1000) :
    Calls Tryd.prog 15 #[.agg #[.bool d, .string (Sx A), .int .i64 e]] w fun r w' => r = .returned (.string (Sx (textM ⟨d, A, e⟩))) ∧ w.grownBy w' none := by
  have HG := Lib.hid (World.grownBy_alloc w (.cells #[.bool d, .string (Sx A), .int .i64 e] 28) none)
  obtain ⟨c0, c1, c2, -, -, -⟩ := cells3 (RB_alloc w d A e)
  have e1 := Sx_toList A
  have hsz := Sx_size A
  by_cases hA : A = []
  · have hR : textM ⟨d, A, e⟩ = [48] := by rw [textM, if_pos hA]
    rw [hR]
    subst hA
    clear hR
    go_enter Tryd.func15, Tryd.ntmps15
    go_wp2
    go_ret
    exact ⟨rfl, HG.out⟩
  · have hE : A.isEmpty = false := by cases A with
      | nil => exact absurd rfl hA
      | cons _ _ => rfl
    have KS := Lib.hid (fun w' => small_any e w' (by omega) (by omega))
    have hi : (Lib.itoa e).length ≤ 30 := by have := Lib.itoa_length_le e (by omega) (by omega); omega
    generalize hI : Lib.itoa e = I at *
    have hsI := Sx_size I
    have f1 : (⟨#[45]⟩ : ByteArray) ++ Sx A = Sx ([45] ++ A) := Sx_app [45] A
    have f2 : (⟨#[101]⟩ : ByteArray) ++ Sx I = Sx ([101] ++ I) := Sx_app [101] I
    have f3 : Sx ([45] ++ A) ++ Sx ([101] ++ I) = Sx (([45] ++ A) ++ ([101] ++ I)) := Sx_app _ _
    have f4 : Sx A ++ Sx ([101] ++ I) = Sx (A ++ ([101] ++ I)) := Sx_app _ _
    have s1' : (Sx ([45] ++ A)).size = A.length + 1 := by rw [Sx_size]; simp
    have s2' : (Sx ([101] ++ I)).size = I.length + 1 := by rw [Sx_size]; simp
    have HR : Hid (textM ⟨d, A, e⟩ = (if d then [45] else []) ++ A ++ (if e = 0 then [] else 101 :: I)) := Lib.hid (by rw [textM, if_neg hA, ← hI])
    generalize textM ⟨d, A, e⟩ = T at *
    clear hA hI
    by_cases h0 : e = 0
    · have hb : (e != 0) = false := by simpa using h0
      have HT := Lib.hid (HR.out.trans (by rw [if_pos h0, List.append_nil]))
      clear h0 HR
      cases d
      · go_enter Tryd.func15, Tryd.ntmps15
        go_wp2
        go_ret
        exact ⟨by rw [HT.out]; rfl, HG.out⟩
      · go_enter Tryd.func15, Tryd.ntmps15
        go_wp2
        go_ret
        exact ⟨by rw [HT.out]; rfl, HG.out⟩
    · have hb : (e != 0) = true := by simpa using h0
      have HT := Lib.hid (HR.out.trans (by rw [if_neg h0]))
      clear h0 HR
      obtain ⟨n1, hn1⟩ : ∃ n1 : Nat, n1 = A.length + 1 := ⟨_, rfl⟩
      obtain ⟨n2, hn2⟩ : ∃ n2 : Nat, n2 = I.length + 1 := ⟨_, rfl⟩
      rw [← hn1] at s1'
      rw [← hn2] at s2'
      have bn1 : (n1 : Int) ≤ 1001 := by omega
      have bn2 : (n2 : Int) ≤ 31 := by omega
      generalize hX1 : Sx (([45] ++ A) ++ ([101] ++ I)) = X1 at *
      generalize hX2 : Sx (A ++ ([101] ++ I)) = X2 at *
      have HX := Lib.hid (And.intro hX1 hX2)
      clear hX1 hX2
      generalize Sx ([45] ++ A) = Y1 at *
      generalize Sx ([101] ++ I) = Y2 at *
      generalize A.length = n at *
      generalize I.length = ni at *
      clear hn1 hn2
      cases d
      · go_enter Tryd.func15, Tryd.ntmps15
        go_wp2_with (go_at_call 24; ((with_reducible refine (KS.out _).mono ?_); rintro r w1 ⟨rfl, rfl⟩))
        go_ret
        exact ⟨by rw [HT.out, ← HX.out.2]; rfl, HG.out⟩
      · go_enter Tryd.func15, Tryd.ntmps15
        go_wp2_with (go_at_call 24; ((with_reducible refine (KS.out _).mono ?_); rintro r w1 ⟨rfl, rfl⟩))
        go_ret
        exact ⟨by rw [HT.out, ← HX.out.1]; simp, HG.out⟩

end Go.Proofs.YtpjepdnkolbdhaaDoor
