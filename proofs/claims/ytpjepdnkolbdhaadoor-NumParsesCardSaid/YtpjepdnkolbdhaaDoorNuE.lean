/-
  Reading a number's text: its smaller calls, the code's. Own work.
-/
import Derived.Test.YtpjepdnkolbdhaaDoorNuD
set_option linter.unusedVariables false
set_option linter.unusedSimpArgs false
namespace Go.Proofs.YtpjepdnkolbdhaaDoor
open Go.RowKit

theorem clone_any (l : Bs) (w : World) (hl : l.length ≤ 140737488355328) :
    Calls Tryd.prog 46 #[.string (Sx l)] w fun r w' => r = .returned (.string (Sx l)) ∧ w.grownBy w' none := by
  have K := Tryd.clone (Sx l) w (by rw [Sx_size]; omega)
  generalize Sx l = B at *
  go_enter Tryd.func46, Tryd.ntmps46
  go_wp2_with (go_at_call 60; ((with_reducible refine K.mono ?_); rintro r w3 ⟨rfl, hg⟩); have HG := Lib.hid (gof hg none); clear hg)
  go_ret
  exact ⟨rfl, HG.out⟩

theorem trimD_any (l : Bs) (w : World) :
    Calls Tryd.prog 43 #[.string (Sx l), .string ⟨#[48, 49, 50, 51, 52, 53, 54, 55, 56, 57]⟩] w fun r w' => r = .returned (.string (Sx (l.dropWhile dig))) ∧ w.grownBy w' none := by
  refine (Tryd.trimLeft (Sx l) ⟨#[48, 49, 50, 51, 52, 53, 54, 55, 56, 57]⟩ w (by decide) (by decide)).mono ?_
  rintro r w' ⟨rfl, h⟩
  refine ⟨?_, gof h none⟩
  have e : (fun b => digs10.contains b) = dig := funext digs10_dig
  show Ending.returned (.string (Sx (Lib.trimLeftS l digs10))) = _
  rw [Lib.trimLeftS, e]
theorem trim0_any (l : Bs) (w : World) :
    Calls Tryd.prog 43 #[.string (Sx l), .string ⟨#[48]⟩] w fun r w' => r = .returned (.string (Sx (trim0 l))) ∧ w.grownBy w' none := by
  refine (Tryd.trimLeft (Sx l) ⟨#[48]⟩ w (by decide) (by decide)).mono ?_
  rintro r w' ⟨rfl, h⟩
  refine ⟨?_, gof h none⟩
  show Ending.returned (.string (Sx (Lib.trimLeftS l [48]))) = _
  rw [trimL0]
theorem rtrim0_any (l : Bs) (w : World) (hl : l.length ≤ 140737488355328) :
    Calls Tryd.prog 45 #[.string (Sx l), .string ⟨#[48]⟩] w fun r w' => r = .returned (.string (Sx (rtrim0 l))) ∧ w.grownBy w' none := by
  refine (Tryd.trimRight (Sx l) ⟨#[48]⟩ w (by rw [Sx_size]; omega) (by decide) (by decide)).mono ?_
  rintro r w' ⟨rfl, h⟩
  refine ⟨?_, gof h none⟩
  show Ending.returned (.string (Sx (Lib.trimRightS l [48]))) = _
  rw [trimR0]

theorem take_dw (l : Bs) : l.take (l.length - (l.dropWhile dig).length) = l.takeWhile dig := by
  have h := List.takeWhile_append_dropWhile (p := dig) (l := l)
  have hl := congrArg List.length h
  rw [List.length_append] at hl
  have e : l.length - (l.dropWhile dig).length = (l.takeWhile dig).length := by omega
  rw [e]
  have k := congrArg (List.take (l.takeWhile dig).length) h
  rw [List.take_left] at k
  exact k.symm

theorem cutD_any (l : Bs) (w : World) (hl : l.length ≤ 140737488355328) :
    Calls Tryd.prog 37 #[.string (Sx l)] w fun r w' => r = .returned (.tuple #[.string (Sx (l.takeWhile dig)), .string (Sx (l.dropWhile dig))]) ∧ w.grownBy w' none := by
  have K := trimD_any l w
  have hle : (l.dropWhile dig).length ≤ l.length := (List.dropWhile_sublist _).length_le
  have hx := ext_take l (l.length - (l.dropWhile dig).length)
  rw [take_dw] at hx
  have hs1 := Sx_size l
  have hs2 := Sx_size (l.dropWhile dig)
  generalize Sx (l.takeWhile dig) = C at *
  generalize Sx (l.dropWhile dig) = D at *
  generalize Sx l = B at *
  generalize (l.dropWhile dig).length = m at *
  generalize l.length = n at *
  have hle2 : (m : Int) ≤ (n : Int) := by omega
  have hc : ((n : Int) - (m : Int)).toNat = n - m := by omega
  go_enter Tryd.func37, Tryd.ntmps37
  go_wp2_with (go_at_call 43; ((with_reducible refine K.mono ?_); rintro r w3 ⟨rfl, hg⟩); have HG := Lib.hid hg; clear hg)
  exact bodyPost_ret (results_tmp2 rfl _ _ _) rfl ⟨rfl, HG.out⟩

def cutE (a b : UInt8) (l : Bs) : Bs := if isH a l then l.tail else if isH b l then l.tail else l
theorem cutE_any (a b : UInt8) (l : Bs) (w : World) (hl : l.length ≤ 140737488355328) :
    Calls Tryd.prog 41 #[.string (Sx l), .string ⟨#[a]⟩, .string ⟨#[b]⟩] w fun r w' => r = .returned (.tuple #[.string (Sx (cutE a b l)), .bool (isH a l || isH b l)]) ∧ w = w' := by
  have K1 := cut_any a l w hl
  have K2 := cut_any b l w hl
  unfold cutE
  have e1 : isH a l = true → Sx (if isH a l = true then l.tail else l) = Sx l.tail := fun h => by rw [if_pos h]
  cases h1 : isH a l with
  | true =>
    rw [h1] at K1
    simp only [if_true, Bool.true_or] at K1 ⊢
    generalize Sx l.tail = T at *
    generalize Sx l = B at *
    clear e1 K2
    go_enter Tryd.func41, Tryd.ntmps41
    go_wp2_with (go_at_call 35; ((with_reducible refine K1.mono ?_); rintro r w3 ⟨rfl, rfl⟩))
    exact bodyPost_ret (results_tmp2 rfl _ _ _) rfl ⟨rfl, rfl⟩
  | false =>
    rw [h1] at K1
    simp only [if_false, Bool.false_eq_true, Bool.false_or] at K1 ⊢
    generalize Sx (if isH b l = true then l.tail else l) = T at *
    generalize isH b l = hb at *
    generalize Sx l = B at *
    clear e1
    go_enter Tryd.func41, Tryd.ntmps41
    go_wp2_with (first
      | (go_at_call 35; ((with_reducible refine K1.mono ?_); rintro r w3 ⟨rfl, rfl⟩))
      | (go_at_call 35; ((with_reducible refine K2.mono ?_); rintro r w4 ⟨rfl, rfl⟩)))
    exact bodyPost_ret (results_tmp2 rfl _ _ _) rfl ⟨rfl, rfl⟩

end Go.Proofs.YtpjepdnkolbdhaaDoor
