/-
  The number of a text's parts; parsing: the code's. Own work.
-/
import Derived.Test.YtpjepdnkolbdhaaDoorNuH
set_option linter.unusedVariables false
set_option linter.unusedSimpArgs false
namespace Go.Proofs.YtpjepdnkolbdhaaDoor
open Go.RowKit

theorem results_Num {fn : Func} {p : Tmp} (h : fn.results = #[.cell p 24]) (tmps : Array Value) (W : World) (q : Nat) (cs : Array Value) (hp : tmps.getD p undef = .pointer (some ⟨q, 0, none⟩))
    (hq : W.heap[q]? = some (.cells cs 24 (0, 0))) (hs : cs.size = 3) : (results fn tmps).run Tryd.prog W = .ok (.agg cs) W := by
  have hld := run_loadVar_row (P := Tryd.prog) W q 24 24 cs (0, 0) _ hq Tryd.underlying24 rfl (by rw [hs]; kernel_rfl)
  have hp' : tmps[p]?.getD undef = .pointer (some ⟨q, 0, none⟩) := by simpa using hp
  simp [results, h, hp', asAddr, hld]
theorem results_Num2 {fn : Func} {p u : Tmp} (h : fn.results = #[.cell p 24, .tmp u]) (tmps : Array Value) (W : World) (q : Nat) (cs : Array Value) (e : Value) (hp : tmps.getD p undef = .pointer (some ⟨q, 0, none⟩)) (he : tmps.getD u undef = e)
    (hq : W.heap[q]? = some (.cells cs 24 (0, 0))) (hs : cs.size = 3) : (results fn tmps).run Tryd.prog W = .ok (.tuple #[.agg cs, e]) W := by
  have hld := run_loadVar_row (P := Tryd.prog) W q 24 24 cs (0, 0) _ hq Tryd.underlying24 rfl (by rw [hs]; kernel_rfl)
  have hp' : tmps[p]?.getD undef = .pointer (some ⟨q, 0, none⟩) := by simpa using hp
  have he' : tmps[u]?.getD undef = e := by simpa using he
  simp [results, h, hp', he', asAddr, hld]
def valN (n : Nm) : Value := .agg #[.bool n.down, .string (Sx n.digs), .int .i64 n.exp]

set_option maxHeartbeats 8000000 in
theorem num_any (d : Bool) (A B : Bs) (u : Bool) (P : Bs) (w : World) (hA : A.length ≤ 1000000) (hB : B.length ≤ 1000000) (hP : P.length ≤ 1000000) (hd : P.all dig = true) :
    Calls Tryd.prog 22 #[txV d A B u P] w fun r w' => r = .returned (valN (num5 d A B u P)) ∧ w.grownBy w' none := by
  unfold txV
  have k0 : TX w.heap.size d A B u P ((w.alloc (.cells #[.bool d, .string (Sx A), .string (Sx B), .bool u, .string (Sx P)] 47)).alloc (.cells #[.bool false, .string ⟨#[]⟩, .int .i64 0] 24)) := two_lit0 w _ _
  have k1 : NB (w.heap.size + 1) false [] 0 ((w.alloc (.cells #[.bool d, .string (Sx A), .string (Sx B), .bool u, .string (Sx P)] 47)).alloc (.cells #[.bool false, .string ⟨#[]⟩, .int .i64 0] 24)) := two_lit1 w _ _
  have HG := Lib.hid (two_grown w (.cells #[.bool d, .string (Sx A), .string (Sx B), .bool u, .string (Sx P)] 47) (.cells #[.bool false, .string ⟨#[]⟩, .int .i64 0] 24))
  have K1 := Lib.hid (fun w' => trim0_any (A ++ B) w')
  have ha : Sx A ++ Sx B = Sx (A ++ B) := Sx_app A B
  have la := trim_len (A ++ B)
  have lb := rtrim_len (trim0 (A ++ B))
  have lB := Sx_size B
  have lA := Sx_size A
  have lab : (A ++ B).length ≤ 2000000 := by rw [List.length_append]; omega
  have q0 : (Sx (trim0 (A ++ B))).toList.isEmpty = (trim0 (A ++ B)).isEmpty := by rw [Sx_toList]
  have K2 := Lib.hid (fun w' => rtrim0_any (trim0 (A ++ B)) w' (by omega))
  have K3 := Lib.hid (fun w' => clone_any (rtrim0 (trim0 (A ++ B))) w' (by omega))
  have KP := Lib.hid (fun w' => power_any P w' hd hP)
  have hp := powV_le 1099511627776 P
  have hlx := Sx_size (trim0 (A ++ B))
  have hly := Sx_size (rtrim0 (trim0 (A ++ B)))
  have HN := Lib.hid (show num5 d A B u P = if trim0 (A ++ B) = [] then Nm.zero else ⟨d, rtrim0 (trim0 (A ++ B)), (if u then -(powV 1099511627776 P : Int) else (powV 1099511627776 P : Int)) - B.length + (trim0 (A ++ B)).length - (rtrim0 (trim0 (A ++ B))).length⟩ from rfl)
  generalize num5 d A B u P = N at *
  generalize rtrim0 (trim0 (A ++ B)) = sh at *
  generalize trim0 (A ++ B) = al at *
  generalize powV 1099511627776 P = pv at *
  have HC := Lib.hid (fun w' (g : Gr _ w') => And.intro (k0.gr g) (k0.gr g).cells)
  have HD := Lib.hid (fun w' (g : Gr _ w') => And.intro (k1.gr g) (cells3 (k1.gr g)))
  clear k0 k1
  have HAL := Lib.hid (fun (h : al.isEmpty = true) => (List.isEmpty_iff.1 h : al = []))
  have hne : w.heap.size + 1 ≠ w.heap.size := by omega
  have HNE := Lib.hid hne
  generalize B.length = nb at *
  generalize A.length = nA at *
  generalize al.length = na at *
  generalize sh.length = ns at *
  have HBD : Hid (nb ≤ 1000000 ∧ na ≤ 2000000 ∧ ns ≤ 2000000 ∧ pv ≤ 1099511627776) := Lib.hid (by omega)
  clear hne hP hd lab
  by_cases hal : al = []
  · have hb : al.isEmpty = true := by rw [hal]; rfl
    have HN2 := Lib.hid (HN.out.trans (if_pos hal))
    clear hal
    go_enter Tryd.func22, Tryd.ntmps22
    go_wp2_with (go_at_call 43; ((with_reducible refine (K1.out _).mono ?_); rintro r w3 ⟨rfl, hg⟩); have HG1 := Lib.hid hg; obtain ⟨c0, ⟨c1, c2, c3, c4, c5⟩, c6⟩ := HC.out _ hg; obtain ⟨d0, d1, d2, d3, d4, d5, d6⟩ := HD.out _ hg; clear hg)
    refine bodyPost_ret (results_Num rfl _ _ (w.heap.size + 1) _ rfl (set3 (HD.out _ HG1.out).1) rfl) rfl ⟨by rw [HN2.out]; rfl, ?_⟩
    exact gr_set (gr_set (gr_set (gtrans HG.out HG1.out) (Nat.le_succ _) _ _) (Nat.le_succ _) _ _) (Nat.le_succ _) _ _
  · have hb : al.isEmpty = false := by
      cases h : al.isEmpty with
      | false => rfl
      | true => exact absurd (HAL.out h) hal
    have HN2 := Lib.hid (HN.out.trans (if_neg hal))
    clear hal HN
    cases u
    · go_enter Tryd.func22, Tryd.ntmps22
      go_wp2_with (first
        | (go_at_call 43; ((with_reducible refine (K1.out _).mono ?_); rintro r w3 ⟨rfl, hg⟩); have HG1 := Lib.hid hg; obtain ⟨c0, ⟨c1, c2, c3, c4, c5⟩, c6⟩ := HC.out _ hg; clear hg)
        | (go_at_call 44; ((with_reducible refine (KP.out _).mono ?_); rintro r w4 ⟨rfl, hg⟩); have HG2 := Lib.hid (gtrans HG1.out hg); clear hg; obtain ⟨e0, ⟨e1, e2, e3, e4, e5⟩, e6⟩ := HC.out _ HG2.out)
        | (go_at_call 45; ((with_reducible refine (K2.out _).mono ?_); rintro r w5 ⟨rfl, hg⟩); have HG3 := Lib.hid (gtrans HG2.out hg); clear hg))
      obtain ⟨m0, ⟨m1, m2, m3, m4, m5⟩, m6⟩ := HC.out _ (gtrans HG3.out (gdrew w5))
      obtain ⟨n0, n1, n2, n3, n4, n5, n6⟩ := HD.out _ (gtrans HG3.out (gdrew w5))
      go_region_held3 (fun v => (v.cell? ⟨w.heap.size, 0, none⟩ = some (.bool d) ∧ v.cell? ⟨w.heap.size, 2, none⟩ = some (.string (Sx B))))
        (first | (exact ⟨m1, m3⟩) | (exact HS6.out) | (exact HS7.out _ _ _))
        (first | (go_at_call 46; ((with_reducible refine (K3.out w5.drew).mono ?_); rintro r w6 ⟨rfl, hg⟩); have HG4 := Lib.hid (gtrans HG3.out (gtrans (gdrew w5) hg)); clear hg; have HS6 := Lib.hid (And.intro (HC.out _ HG4.out).2.1.1 (HC.out _ HG4.out).2.1.2.2.1); have HS7 := Lib.hid (fun a b c => And.intro (((((HC.out _ HG4.out).1.other HNE.out 0 a).other HNE.out 1 b).other HNE.out 2 c).cells.1.1) (((((HC.out _ HG4.out).1.other HNE.out 0 a).other HNE.out 1 b).other HNE.out 2 c).cells.1.2.2.1)); obtain ⟨n0, n1, n2, n3, n4, n5, n6⟩ := HD.out _ HG4.out))
      go_wp2
      refine bodyPost_ret (results_Num rfl _ _ (w.heap.size + 1) _ rfl (set3 (HD.out _ HG4.out).1) rfl) rfl ⟨?_, ?_⟩
      · rw [HN2.out]
        obtain ⟨b1, b2, b3, b4⟩ := HBD.out
        have u1 : IntKind.i64.wrap ((pv : Int) - (nb : Int)) = (pv : Int) - (nb : Int) := IntWalk.i64_in _ (by omega)
        have u2 : IntKind.i64.wrap ((pv : Int) - (nb : Int) + (na : Int)) = (pv : Int) - (nb : Int) + (na : Int) := IntWalk.i64_in _ (by omega)
        have u3 : IntKind.i64.wrap ((pv : Int) - (nb : Int) + (na : Int) - (ns : Int)) = (pv : Int) - (nb : Int) + (na : Int) - (ns : Int) := IntWalk.i64_in _ (by omega)
        show Ending.returned (.agg #[.bool d, .string (Sx sh), .int .i64 (IntKind.i64.wrap (IntKind.i64.wrap (IntKind.i64.wrap ((pv : Int) - ↑nb) + ↑na) - ↑ns))]) = _
        rw [u1, u2, u3]; rfl
      exact gr_set (gr_set (gr_set (gtrans HG.out HG4.out) (Nat.le_succ _) _ _) (Nat.le_succ _) _ _) (Nat.le_succ _) _ _
    · go_enter Tryd.func22, Tryd.ntmps22
      go_wp2_with (first
        | (go_at_call 43; ((with_reducible refine (K1.out _).mono ?_); rintro r w3 ⟨rfl, hg⟩); have HG1 := Lib.hid hg; obtain ⟨c0, ⟨c1, c2, c3, c4, c5⟩, c6⟩ := HC.out _ hg; clear hg)
        | (go_at_call 44; ((with_reducible refine (KP.out _).mono ?_); rintro r w4 ⟨rfl, hg⟩); have HG2 := Lib.hid (gtrans HG1.out hg); clear hg; obtain ⟨e0, ⟨e1, e2, e3, e4, e5⟩, e6⟩ := HC.out _ HG2.out)
        | (go_at_call 45; ((with_reducible refine (K2.out _).mono ?_); rintro r w5 ⟨rfl, hg⟩); have HG3 := Lib.hid (gtrans HG2.out hg); clear hg))
      obtain ⟨m0, ⟨m1, m2, m3, m4, m5⟩, m6⟩ := HC.out _ (gtrans HG3.out (gdrew w5))
      obtain ⟨n0, n1, n2, n3, n4, n5, n6⟩ := HD.out _ (gtrans HG3.out (gdrew w5))
      go_region_held3 (fun v => (v.cell? ⟨w.heap.size, 0, none⟩ = some (.bool d) ∧ v.cell? ⟨w.heap.size, 2, none⟩ = some (.string (Sx B))))
        (first | (exact ⟨m1, m3⟩) | (exact HS6.out) | (exact HS7.out _ _ _))
        (first | (go_at_call 46; ((with_reducible refine (K3.out w5.drew).mono ?_); rintro r w6 ⟨rfl, hg⟩); have HG4 := Lib.hid (gtrans HG3.out (gtrans (gdrew w5) hg)); clear hg; have HS6 := Lib.hid (And.intro (HC.out _ HG4.out).2.1.1 (HC.out _ HG4.out).2.1.2.2.1); have HS7 := Lib.hid (fun a b c => And.intro (((((HC.out _ HG4.out).1.other HNE.out 0 a).other HNE.out 1 b).other HNE.out 2 c).cells.1.1) (((((HC.out _ HG4.out).1.other HNE.out 0 a).other HNE.out 1 b).other HNE.out 2 c).cells.1.2.2.1)); obtain ⟨n0, n1, n2, n3, n4, n5, n6⟩ := HD.out _ HG4.out))
      go_wp2
      refine bodyPost_ret (results_Num rfl _ _ (w.heap.size + 1) _ rfl (set3 (HD.out _ HG4.out).1) rfl) rfl ⟨?_, ?_⟩
      · rw [HN2.out]
        obtain ⟨b1, b2, b3, b4⟩ := HBD.out
        have u1 : IntKind.i64.wrap (-(pv : Int) - (nb : Int)) = -(pv : Int) - (nb : Int) := IntWalk.i64_in _ (by omega)
        have u2 : IntKind.i64.wrap (-(pv : Int) - (nb : Int) + (na : Int)) = -(pv : Int) - (nb : Int) + (na : Int) := IntWalk.i64_in _ (by omega)
        have u3 : IntKind.i64.wrap (-(pv : Int) - (nb : Int) + (na : Int) - (ns : Int)) = -(pv : Int) - (nb : Int) + (na : Int) - (ns : Int) := IntWalk.i64_in _ (by omega)
        show Ending.returned (.agg #[.bool d, .string (Sx sh), .int .i64 (IntKind.i64.wrap (IntKind.i64.wrap (IntKind.i64.wrap (-(pv : Int) - ↑nb) + ↑na) - ↑ns))]) = _
        rw [u1, u2, u3]; rfl
      exact gr_set (gr_set (gr_set (gtrans HG.out HG4.out) (Nat.le_succ _) _ _) (Nat.le_succ _) _ _) (Nat.le_succ _) _ _

theorem ah_len (s : Bs) : (ah s).length ≤ s.length := by have := lens s; omega
theorem bh_len (s : Bs) : (bh s).length ≤ s.length := by have := lens s; omega
theorem pw_len (s : Bs) : (pw s).length ≤ s.length := by
  rw [pw]; split
  · have h1 := (List.takeWhile_sublist (l := s5 s) dig).length_le
    have h2 : (s5 s).length ≤ (s3 s).length := by unfold s5 s4; split <;> simp <;> omega
    have h3 := len_s3 s
    omega
  · simp

theorem TX_alloc (w : World) (d : Bool) (A B : Bs) (u : Bool) (P : Bs) : TX w.heap.size d A B u P (w.alloc (.cells #[.bool d, .string (Sx A), .string (Sx B), .bool u, .string (Sx P)] 47)) := heap_alloc_new _ _
theorem NB_alloc (w : World) (d : Bool) (A : Bs) (e : Int) : NB w.heap.size d A e (w.alloc (.cells #[.bool d, .string (Sx A), .int .i64 e] 24)) := heap_alloc_new _ _
set_option maxHeartbeats 4000000 in
theorem parse_any (l : Bs) (w : World) (hl : l.length ≤ 1000000) :
    Calls Tryd.prog 11 #[.string (Sx l)] w fun r w' => r = .returned (.tuple #[valN (parseM l).1, .int .i64 (parseM l).2]) ∧ w.grownBy w' none := by
  have KR := Lib.hid (fun w' => read_any l w' hl)
  have KN := Lib.hid (fun w' => num_any (dn l) (ah l) (bh l) (un l) (pw l) w' (Nat.le_trans (ah_len l) hl) (Nat.le_trans (bh_len l) hl) (Nat.le_trans (pw_len l) hl) (pw_all l))
  rw [show num5 (dn l) (ah l) (bh l) (un l) (pw l) = numM l from rfl] at KN
  have hdl : (numM l).digs.length ≤ 2000000 := by
    unfold numM num5
    split
    · simp [Nm.zero]
    · have h1 := rtrim_len (trim0 (ah l ++ bh l))
      have h2 := trim_len (ah l ++ bh l)
      have h3 := lens l
      rw [List.length_append] at h2
      simp only; omega
  have HP : Hid (parseM l = if okN l then (if rightM (numM l) then (numM l, 0) else (Nm.zero, 13)) else (Nm.zero, 11)) := Lib.hid rfl
  generalize numM l = N at *
  generalize parseM l = M at *
  generalize okN l = ok at *
  have HR := Lib.hid (fun w' => right_any N.down N.digs N.exp w')
  obtain ⟨nd, nA, ne⟩ := N
  unfold valN at KN
  simp only at KN hdl HR
  have k0 : NB w.heap.size false [] 0 (w.alloc (.cells #[.bool false, .string ⟨#[]⟩, .int .i64 0] 24)) := heap_alloc_new _ _
  have HG := Lib.hid (World.grownBy_alloc w (.cells #[.bool false, .string ⟨#[]⟩, .int .i64 0] 24) none)
  have HC := Lib.hid (fun w' (g : Gr _ w') => And.intro (k0.gr g) (cells3 (k0.gr g)))
  clear k0 hl
  go_enter Tryd.func11, Tryd.ntmps11
  cases ok
  · have HM : Hid (M = (Nm.zero, 11)) := Lib.hid HP.out
    go_wp2_with (go_at_call 21; ((with_reducible refine (KR.out _).mono ?_); rintro r w1 ⟨⟨d, A, B, u, P, rfl, -⟩, hg⟩); have hg := gtrans hg (World.grownBy_alloc w1 (.cells #[.bool d, .string (Sx A), .string (Sx B), .bool u, .string (Sx P)] 47) none); have HG1 := Lib.hid hg; obtain ⟨c0, c1, c2, c3, c4, c5, c6⟩ := HC.out _ hg; clear hg; unfold txV)
    refine bodyPost_ret (results_Num2 rfl _ _ w.heap.size _ _ rfl rfl (set3 (HC.out _ HG1.out).1) rfl) rfl ⟨by rw [HM.out]; rfl, ?_⟩
    exact gr_set (gr_set (gr_set (gtrans HG.out HG1.out) (Nat.le_refl _) _ _) (Nat.le_refl _) _ _) (Nat.le_refl _) _ _
  · have HX := Lib.hid hdl
    have HM1 : Hid (M = if rightM ⟨nd, nA, ne⟩ then (⟨nd, nA, ne⟩, 0) else (Nm.zero, 13)) := Lib.hid HP.out
    generalize rightM ⟨nd, nA, ne⟩ = rb at *
    clear HP hdl
    cases rb
    · have HM : Hid (M = (Nm.zero, 13)) := Lib.hid HM1.out
      go_wp2_with (first
        | (go_at_call 21; ((with_reducible refine (KR.out _).mono ?_); rintro r w1 ⟨⟨d, A, B, u, P, rfl, hv⟩, hg⟩); have hv := hv rfl; rw [← hv] at KN; clear hv; have HK1 := Lib.hid (TX_alloc w1 d A B u P); obtain ⟨⟨t0, t1, t2, t3, t4⟩, -⟩ := HK1.out.cells; have hg := gtrans hg (World.grownBy_alloc w1 (.cells #[.bool d, .string (Sx A), .string (Sx B), .bool u, .string (Sx P)] 47) none); have HG1 := Lib.hid hg; clear hg; unfold txV; unfold txV at KN)
        | (go_at_call 22; ((with_reducible refine (KN.out _).mono ?_); rintro r w2 ⟨rfl, hg⟩); have HK2 := Lib.hid (NB_alloc w2 nd nA ne); obtain ⟨s0, s1, s2, -⟩ := cells3 HK2.out; have hg := gtrans HG1.out (gtrans hg (World.grownBy_alloc w2 (.cells #[.bool nd, .string (Sx nA), .int .i64 ne] 24) none)); have HG2 := Lib.hid hg; clear hg)
        | (go_at_call 16; ((with_reducible refine (HR.out _ (Nat.le_trans HX.out (by decide))).mono ?_); rintro r w3 ⟨rfl, hg⟩); have HK3 := Lib.hid (HK2.out.gr hg); obtain ⟨s0, s1, s2, -⟩ := cells3 HK3.out; have hg := gtrans HG2.out hg; have HG3 := Lib.hid hg; obtain ⟨c0, c1, c2, c3, c4, c5, c6⟩ := HC.out _ hg; clear hg))
      refine bodyPost_ret (results_Num2 rfl _ _ w.heap.size _ _ rfl rfl (set3 (HC.out _ HG3.out).1) rfl) rfl ⟨by rw [HM.out]; rfl, ?_⟩
      exact gr_set (gr_set (gr_set (gtrans HG.out HG3.out) (Nat.le_refl _) _ _) (Nat.le_refl _) _ _) (Nat.le_refl _) _ _
    · have HM : Hid (M = (⟨nd, nA, ne⟩, 0)) := Lib.hid HM1.out
      go_wp2_with (first
        | (go_at_call 21; ((with_reducible refine (KR.out _).mono ?_); rintro r w1 ⟨⟨d, A, B, u, P, rfl, hv⟩, hg⟩); have hv := hv rfl; rw [← hv] at KN; clear hv; have HK1 := Lib.hid (TX_alloc w1 d A B u P); obtain ⟨⟨t0, t1, t2, t3, t4⟩, -⟩ := HK1.out.cells; have hg := gtrans hg (World.grownBy_alloc w1 (.cells #[.bool d, .string (Sx A), .string (Sx B), .bool u, .string (Sx P)] 47) none); have HG1 := Lib.hid hg; clear hg; unfold txV; unfold txV at KN)
        | (go_at_call 22; ((with_reducible refine (KN.out _).mono ?_); rintro r w2 ⟨rfl, hg⟩); have HK2 := Lib.hid (NB_alloc w2 nd nA ne); obtain ⟨s0, s1, s2, -⟩ := cells3 HK2.out; have hg := gtrans HG1.out (gtrans hg (World.grownBy_alloc w2 (.cells #[.bool nd, .string (Sx nA), .int .i64 ne] 24) none)); have HG2 := Lib.hid hg; clear hg)
        | (go_at_call 16; ((with_reducible refine (HR.out _ (Nat.le_trans HX.out (by decide))).mono ?_); rintro r w3 ⟨rfl, hg⟩); have HK3 := Lib.hid (HK2.out.gr hg); obtain ⟨s0, s1, s2, -⟩ := cells3 HK3.out; have hg := gtrans HG2.out hg; have HG3 := Lib.hid hg; obtain ⟨c0, c1, c2, c3, c4, c5, c6⟩ := HC.out _ hg; clear hg))
      refine bodyPost_ret (results_Num2 rfl _ _ w.heap.size _ _ rfl rfl (set3 (HC.out _ HG3.out).1) rfl) rfl ⟨by rw [HM.out]; rfl, ?_⟩
      exact gr_set (gr_set (gr_set (gtrans HG.out HG3.out) (Nat.le_refl _) _ _) (Nat.le_refl _) _ _) (Nat.le_refl _) _ _

end Go.Proofs.YtpjepdnkolbdhaaDoor
