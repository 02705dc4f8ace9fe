/-
  Reading a number's text, whole: the code's. Own work.
-/
import Derived.Test.YtpjepdnkolbdhaaDoorNuG
set_option linter.unusedVariables false
set_option linter.unusedSimpArgs false
namespace Go.Proofs.YtpjepdnkolbdhaaDoor
open Go.RowKit

def txV (d : Bool) (A B : Bs) (u : Bool) (P : Bs) : Value := .agg #[.bool d, .string (Sx A), .string (Sx B), .bool u, .string (Sx P)]

theorem results_TX {fn : Func} {p u : Tmp} (h : fn.results = #[.cell p 47, .tmp u]) (tmps : Array Value) (W : World) (q : Nat) (cs : Array Value) (e : Value) (hp : tmps.getD p undef = .pointer (some ⟨q, 0, none⟩)) (he : tmps.getD u undef = e)
    (hq : W.heap[q]? = some (.cells cs 47 (0, 0))) (hs : cs.size = 5) : (results fn tmps).run Tryd.prog W = .ok (.tuple #[.agg cs, e]) W := by
  have hld := run_loadVar_row (P := Tryd.prog) W q 47 47 cs (0, 0) _ hq Tryd.underlying47 rfl (by rw [hs]; kernel_rfl)
  have hp' : tmps[p]?.getD undef = .pointer (some ⟨q, 0, none⟩) := by simpa using hp
  have he' : tmps[u]?.getD undef = e := by simpa using he
  simp [results, h, hp', he', asAddr, hld]
theorem set5 {W : World} {q : Nat} {cs : Array Value} {t : TypeId} (h : W.heap[q]? = some (.cells cs t (0, 0))) (hs : cs.size = 5) (x0 x1 x2 x3 x4 : Value) :
    (((((W.setCell ⟨q, 0, none⟩ x0).setCell ⟨q, 1, none⟩ x1).setCell ⟨q, 2, none⟩ x2).setCell ⟨q, 3, none⟩ x3).setCell ⟨q, 4, none⟩ x4).heap[q]? = some (.cells #[x0, x1, x2, x3, x4] t (0, 0)) := by
  rw [set_cell (set_cell (set_cell (set_cell (set_cell h 0 x0) 1 x1) 2 x2) 3 x3) 4 x4]
  obtain ⟨cs⟩ := cs
  match cs, hs with
  | [a, b, c, d, e], _ => rfl
theorem four_lit (w : World) (a b c d : Obj) : ((((w.alloc a).alloc b).alloc c).alloc d).heap[w.heap.size]? = some a ∧ ((((w.alloc a).alloc b).alloc c).alloc d).heap[w.heap.size + 1]? = some b ∧
    ((((w.alloc a).alloc b).alloc c).alloc d).heap[w.heap.size + 1 + 1]? = some c ∧ ((((w.alloc a).alloc b).alloc c).alloc d).heap[w.heap.size + 1 + 1 + 1]? = some d := by
  have n : ∀ (v : World) (o : Obj) (k : Nat), k = v.heap.size → (v.alloc o).heap[k]? = some o := fun v o k hk => by rw [hk]; exact heap_alloc_new _ _
  have s : ∀ (v : World) (o : Obj) (k : Nat), k < v.heap.size → (v.alloc o).heap[k]? = v.heap[k]? := fun v o k hk => Below.heap_alloc _ _ _ hk
  refine ⟨?_, ?_, ?_, ?_⟩
  · rw [s _ _ _ (by simp; omega), s _ _ _ (by simp; omega), s _ _ _ (by simp), n _ _ _ rfl]
  · rw [s _ _ _ (by simp), s _ _ _ (by simp), n _ _ _ (by simp)]
  · rw [s _ _ _ (by simp), n _ _ _ (by simp)]
  · rw [n _ _ _ (by simp)]
theorem four_gr (w : World) (a b c d : Obj) : w.grownBy ((((w.alloc a).alloc b).alloc c).alloc d) none :=
  gtrans (World.grownBy_alloc _ _ _) (gtrans (World.grownBy_alloc _ _ _) (gtrans (World.grownBy_alloc _ _ _) (World.grownBy_alloc _ _ _)))
theorem K2.keep {p q r : Nat} {w w' : World} {o : Obj} (k : K2 p q w w') (h : w.heap[r]? = some o) (h1 : r ≠ p) (h2 : r ≠ q) : w'.heap[r]? = some o := (k.block r (lt_of_block h) h1 h2).trans h
theorem K2.grown {p q : Nat} {v w w' : World} (g : Gr v w) (k : K2 p q w w') (hp : v.heap.size ≤ p) (hq : v.heap.size ≤ q) : Gr v w' :=
  ⟨k.os.trans g.os, k.tape.trans g.tape, k.output.trans g.output, Nat.le_trans g.size k.size, fun i hi _ => (k.block i (Nat.lt_of_lt_of_le hi g.size) (by omega) (by omega)).trans (g.block i hi (by simp))⟩

theorem len_s1 (l : Bs) : (s1 l).length ≤ l.length := by rw [s1]; split <;> simp
theorem len_s2 (l : Bs) : (s2 l).length ≤ l.length := Nat.le_trans (List.dropWhile_sublist _).length_le (len_s1 l)
theorem len_s3 (l : Bs) : (s3 l).length ≤ l.length := by
  have := len_s2 l
  rw [s3]; split
  · have h := (List.dropWhile_sublist (l := (s2 l).tail) dig).length_le
    simp at h; omega
  · exact this
theorem okB_if (l : Bs) : (if isH 46 (s2 l) then !((s2 l).tail.takeWhile dig).isEmpty else true) = okB l := by
  unfold okB bh pt
  cases isH 46 (s2 l) <;> simp
theorem okC_if (l : Bs) : (if isH 101 (s3 l) || isH 69 (s3 l) then !((l5 (s3 l)).takeWhile dig).isEmpty else true) = okC l := by
  have e : l5 (s3 l) = s5 l := rfl
  unfold okC pw ex
  rw [e]
  cases (isH 101 (s3 l) || isH 69 (s3 l)) <;> simp
theorem un_if (l : Bs) : (if isH 101 (s3 l) || isH 69 (s3 l) then isH 45 (s3 l).tail else false) = un l := by
  unfold un ex s4
  cases (isH 101 (s3 l) || isH 69 (s3 l)) <;> simp
theorem part1' (qs qt : Nat) (hne : qs ≠ qt) (l : Bs) (hl : l.length ≤ 1000000) (w : World) (hs : SB qs l w) (ht : TX qt false [] [] false [] w) :
    Calls Tryd.prog 34 #[.pointer (some ⟨qs, 0, none⟩), .pointer (some ⟨qt, 0, none⟩)] w fun r w' => r = .returned (.bool true) ∧ SB qs (s1 l) w' ∧ TX qt (dn l) [] [] false [] w' ∧ K2 qs qt w w' :=
  part1 qs qt hne l _ _ _ _ _ w hs ht hl
theorem part2' (qs qt : Nat) (hne : qs ≠ qt) (l : Bs) (hl : l.length ≤ 1000000) (w : World) (hs : SB qs (s1 l) w) (ht : TX qt (dn l) [] [] false [] w) :
    Calls Tryd.prog 36 #[.pointer (some ⟨qs, 0, none⟩), .pointer (some ⟨qt, 0, none⟩)] w fun r w' => r = .returned (.bool (okA l)) ∧ SB qs (s2 l) w' ∧ TX qt (dn l) (ah l) [] false [] w' ∧ K2 qs qt w w' :=
  part2 qs qt hne (s1 l) _ _ _ _ _ w hs ht (Nat.le_trans (len_s1 l) hl)
theorem part3' (qs qt : Nat) (hne : qs ≠ qt) (l : Bs) (hl : l.length ≤ 1000000) (w : World) (hs : SB qs (s2 l) w) (ht : TX qt (dn l) (ah l) [] false [] w) :
    Calls Tryd.prog 39 #[.pointer (some ⟨qs, 0, none⟩), .pointer (some ⟨qt, 0, none⟩)] w fun r w' => r = .returned (.bool (okB l)) ∧ SB qs (s3 l) w' ∧ TX qt (dn l) (ah l) (bh l) false [] w' ∧ K2 qs qt w w' := by
  have := part3 qs qt hne (s2 l) _ _ _ _ _ w hs ht (Nat.le_trans (len_s2 l) hl)
  rw [okB_if] at this; exact this
theorem part4' (qs qt : Nat) (hne : qs ≠ qt) (l : Bs) (hl : l.length ≤ 1000000) (w : World) (hs : SB qs (s3 l) w) (ht : TX qt (dn l) (ah l) (bh l) false [] w) :
    Calls Tryd.prog 40 #[.pointer (some ⟨qs, 0, none⟩), .pointer (some ⟨qt, 0, none⟩)] w fun r w' => r = .returned (.bool (okC l)) ∧ SB qs (s6 l) w' ∧ TX qt (dn l) (ah l) (bh l) (un l) (pw l) w' ∧ K2 qs qt w w' := by
  have := part4 qs qt hne (s3 l) _ _ _ _ _ w hs ht (Nat.le_trans (len_s3 l) hl)
  rw [okC_if, un_if] at this; exact this

set_option maxHeartbeats 8000000 in
theorem read_any (l : Bs) (w : World) (hl : l.length ≤ 1000000) :
    Calls Tryd.prog 21 #[.string (Sx l)] w fun r w' => (∃ d A B u P, r = .returned (.tuple #[txV d A B u P, .bool (okN l)]) ∧ (okN l = true → txV d A B u P = txV (dn l) (ah l) (bh l) (un l) (pw l))) ∧ w.grownBy w' none := by
  have P1 := Lib.hid (fun qs qt hne => part1' qs qt hne l hl)
  have P2 := Lib.hid (fun qs qt hne => part2' qs qt hne l hl)
  have P3 := Lib.hid (fun qs qt hne => part3' qs qt hne l hl)
  have P4 := Lib.hid (fun qs qt hne => part4' qs qt hne l hl)
  have q6 : (Sx (s6 l)).toList.isEmpty = (s6 l).isEmpty := by rw [Sx_toList]
  have HO : Hid (okN l = (okA l && okB l && okC l && (s6 l).isEmpty)) := Lib.hid rfl
  generalize okN l = ok at *
  generalize okA l = b2 at *
  generalize okB l = b3 at *
  generalize okC l = b4 at *
  generalize s1 l = x1 at *
  generalize s2 l = x2 at *
  generalize s3 l = x3 at *
  generalize s6 l = x6 at *
  generalize dn l = y1 at *
  generalize ah l = y2 at *
  generalize bh l = y3 at *
  generalize un l = y4 at *
  generalize pw l = y5 at *
  generalize x6.isEmpty = b6 at *
  clear hl
  go_enter Tryd.func21, Tryd.ntmps21
  go_wp2
  obtain ⟨k0, k1, k2, k3⟩ := four_lit w (.cells #[.string (Sx l)] 9) (.cells #[.bool false, .string ⟨#[]⟩, .string ⟨#[]⟩, .bool false, .string ⟨#[]⟩] 47) (.cells #[.bool false, .string ⟨#[]⟩, .string ⟨#[]⟩, .bool false, .string ⟨#[]⟩] 47) (.cells #[.func (.func 34) #[] #[.pointer (some ⟨w.heap.size, 0, none⟩), .pointer (some ⟨w.heap.size + 1 + 1, 0, none⟩)], .func (.func 36) #[] #[.pointer (some ⟨w.heap.size, 0, none⟩), .pointer (some ⟨w.heap.size + 1 + 1, 0, none⟩)], .func (.func 39) #[] #[.pointer (some ⟨w.heap.size, 0, none⟩), .pointer (some ⟨w.heap.size + 1 + 1, 0, none⟩)], .func (.func 40) #[] #[.pointer (some ⟨w.heap.size, 0, none⟩), .pointer (some ⟨w.heap.size + 1 + 1, 0, none⟩)]] 22)
  have HG := Lib.hid (four_gr w (.cells #[.string (Sx l)] 9) (.cells #[.bool false, .string ⟨#[]⟩, .string ⟨#[]⟩, .bool false, .string ⟨#[]⟩] 47) (.cells #[.bool false, .string ⟨#[]⟩, .string ⟨#[]⟩, .bool false, .string ⟨#[]⟩] 47) (.cells #[.func (.func 34) #[] #[.pointer (some ⟨w.heap.size, 0, none⟩), .pointer (some ⟨w.heap.size + 1 + 1, 0, none⟩)], .func (.func 36) #[] #[.pointer (some ⟨w.heap.size, 0, none⟩), .pointer (some ⟨w.heap.size + 1 + 1, 0, none⟩)], .func (.func 39) #[] #[.pointer (some ⟨w.heap.size, 0, none⟩), .pointer (some ⟨w.heap.size + 1 + 1, 0, none⟩)], .func (.func 40) #[] #[.pointer (some ⟨w.heap.size, 0, none⟩), .pointer (some ⟨w.heap.size + 1 + 1, 0, none⟩)]] 22))
  have h1 : w.heap.size ≠ w.heap.size + 1 + 1 := by omega
  have h2 : w.heap.size + 1 ≠ w.heap.size ∧ w.heap.size + 1 ≠ w.heap.size + 1 + 1 := by omega
  have h3 : w.heap.size + 1 + 1 + 1 ≠ w.heap.size ∧ w.heap.size + 1 + 1 + 1 ≠ w.heap.size + 1 + 1 := by omega
  have h4 : w.heap.size ≤ w.heap.size + 1 ∧ w.heap.size ≤ w.heap.size + 1 + 1 := by omega
  generalize ((((w.alloc (.cells #[.string (Sx l)] 9)).alloc (.cells #[.bool false, .string ⟨#[]⟩, .string ⟨#[]⟩, .bool false, .string ⟨#[]⟩] 47)).alloc (.cells #[.bool false, .string ⟨#[]⟩, .string ⟨#[]⟩, .bool false, .string ⟨#[]⟩] 47)).alloc (.cells #[.func (.func 34) #[] #[.pointer (some ⟨w.heap.size, 0, none⟩), .pointer (some ⟨w.heap.size + 1 + 1, 0, none⟩)], .func (.func 36) #[] #[.pointer (some ⟨w.heap.size, 0, none⟩), .pointer (some ⟨w.heap.size + 1 + 1, 0, none⟩)], .func (.func 39) #[] #[.pointer (some ⟨w.heap.size, 0, none⟩), .pointer (some ⟨w.heap.size + 1 + 1, 0, none⟩)], .func (.func 40) #[] #[.pointer (some ⟨w.heap.size, 0, none⟩), .pointer (some ⟨w.heap.size + 1 + 1, 0, none⟩)]] 22)) = W at *
  generalize hq3 : w.heap.size + 1 + 1 + 1 = q3 at *
  generalize hq2 : w.heap.size + 1 + 1 = q2 at *
  generalize hq1 : w.heap.size + 1 = q1 at *
  generalize hq : w.heap.size = q at *
  clear hq3 hq2 hq1
  have HQ := Lib.hid hq
  clear hq
  have S1 : Hid (SB q l W) := Lib.hid k0
  have T1 : Hid (TX q2 false [] [] false [] W) := Lib.hid k2
  have R1 := Lib.hid (K2.refl q q2 W)
  have HNE := Lib.hid (And.intro h1 (And.intro h2 (And.intro h3 h4)))
  have HZ : Hid (∀ w', K2 q q2 W w' → TX q1 false [] [] false [] w') := Lib.hid (fun w' k => k.keep k1 h2.1 h2.2)
  have HF : Hid (∀ w', K2 q q2 W w' → (w'.cell? ⟨q3, 0, none⟩ = some (.func (.func 34) #[] #[.pointer (some ⟨q, 0, none⟩), .pointer (some ⟨q2, 0, none⟩)]) ∧ w'.cell? ⟨q3, 1, none⟩ = some (.func (.func 36) #[] #[.pointer (some ⟨q, 0, none⟩), .pointer (some ⟨q2, 0, none⟩)]) ∧ w'.cell? ⟨q3, 2, none⟩ = some (.func (.func 39) #[] #[.pointer (some ⟨q, 0, none⟩), .pointer (some ⟨q2, 0, none⟩)]) ∧ w'.cell? ⟨q3, 3, none⟩ = some (.func (.func 40) #[] #[.pointer (some ⟨q, 0, none⟩), .pointer (some ⟨q2, 0, none⟩)]))) := Lib.hid (fun w' k => by
    have h := k.keep k3 h3.1 h3.2
    refine ⟨?_, ?_, ?_, ?_⟩ <;> simp [World.cell?, h])
  obtain ⟨e0, e1, e2, e3⟩ := HF.out W R1.out
  clear k0 k1 k2 k3 h1 h2 h3 h4
  refine wp_loop_rounds 5 ?_
  rw [rounds_succ]
  go_wp2_with (go_at_call 34; ((with_reducible refine (P1.out q q2 HNE.out.1 W S1.out T1.out).mono ?_); rintro r w1 ⟨rfl, hs, ht, hk⟩); have S2 := Lib.hid hs; have T2 := Lib.hid ht; have R2 := Lib.hid (R1.out.trans hk); obtain ⟨e0, e1, e2, e3⟩ := HF.out _ R2.out; obtain ⟨⟨z0, z1, z2, z3, z4⟩, z5, z6, z7, z8, z9⟩ := (HZ.out _ R2.out).cells; clear hs ht hk)
  rw [rounds_succ]
  cases b2
  · have HO2 : ok = false := HO.out
    subst HO2
    go_wp2_with (go_at_call 36; ((with_reducible refine (P2.out q q2 HNE.out.1 w1 S2.out T2.out).mono ?_); rintro r w2 ⟨rfl, hs, ht, hk⟩); have S3 := Lib.hid hs; have T3 := Lib.hid ht; have R3 := Lib.hid (R2.out.trans hk); obtain ⟨e0, e1, e2, e3⟩ := HF.out _ R3.out; obtain ⟨⟨z0, z1, z2, z3, z4⟩, z5, z6, z7, z8, z9⟩ := (HZ.out _ R3.out).cells; clear hs ht hk)
    refine bodyPost_ret (results_TX rfl _ _ q1 _ _ rfl rfl (set5 (HZ.out _ R3.out) rfl _ _ _ _ _) rfl) rfl ⟨⟨false, [], [], false, [], rfl, fun h => absurd h (by simp)⟩, ?_⟩
    exact gr_set (gr_set (gr_set (gr_set (gr_set (K2.grown HG.out R3.out (by rw [HQ.out]; exact Nat.le_refl _) (by rw [HQ.out]; exact HNE.out.2.2.2.2)) (by rw [HQ.out]; exact HNE.out.2.2.2.1) _ _) (by rw [HQ.out]; exact HNE.out.2.2.2.1) _ _) (by rw [HQ.out]; exact HNE.out.2.2.2.1) _ _) (by rw [HQ.out]; exact HNE.out.2.2.2.1) _ _) (by rw [HQ.out]; exact HNE.out.2.2.2.1) _ _
  · go_wp2_with (go_at_call 36; ((with_reducible refine (P2.out q q2 HNE.out.1 w1 S2.out T2.out).mono ?_); rintro r w2 ⟨rfl, hs, ht, hk⟩); have S3 := Lib.hid hs; have T3 := Lib.hid ht; have R3 := Lib.hid (R2.out.trans hk); obtain ⟨e0, e1, e2, e3⟩ := HF.out _ R3.out; obtain ⟨⟨z0, z1, z2, z3, z4⟩, z5, z6, z7, z8, z9⟩ := (HZ.out _ R3.out).cells; clear hs ht hk)
    rw [rounds_succ]
    cases b3
    · have HO2 : ok = false := HO.out
      subst HO2
      go_wp2_with (go_at_call 39; ((with_reducible refine (P3.out q q2 HNE.out.1 w2 S3.out T3.out).mono ?_); rintro r w3 ⟨rfl, hs, ht, hk⟩); have S4 := Lib.hid hs; have T4 := Lib.hid ht; have R4 := Lib.hid (R3.out.trans hk); obtain ⟨e0, e1, e2, e3⟩ := HF.out _ R4.out; obtain ⟨⟨z0, z1, z2, z3, z4⟩, z5, z6, z7, z8, z9⟩ := (HZ.out _ R4.out).cells; clear hs ht hk)
      refine bodyPost_ret (results_TX rfl _ _ q1 _ _ rfl rfl (set5 (HZ.out _ R4.out) rfl _ _ _ _ _) rfl) rfl ⟨⟨false, [], [], false, [], rfl, fun h => absurd h (by simp)⟩, ?_⟩
      exact gr_set (gr_set (gr_set (gr_set (gr_set (K2.grown HG.out R4.out (by rw [HQ.out]; exact Nat.le_refl _) (by rw [HQ.out]; exact HNE.out.2.2.2.2)) (by rw [HQ.out]; exact HNE.out.2.2.2.1) _ _) (by rw [HQ.out]; exact HNE.out.2.2.2.1) _ _) (by rw [HQ.out]; exact HNE.out.2.2.2.1) _ _) (by rw [HQ.out]; exact HNE.out.2.2.2.1) _ _) (by rw [HQ.out]; exact HNE.out.2.2.2.1) _ _
    · go_wp2_with (go_at_call 39; ((with_reducible refine (P3.out q q2 HNE.out.1 w2 S3.out T3.out).mono ?_); rintro r w3 ⟨rfl, hs, ht, hk⟩); have S4 := Lib.hid hs; have T4 := Lib.hid ht; have R4 := Lib.hid (R3.out.trans hk); obtain ⟨e0, e1, e2, e3⟩ := HF.out _ R4.out; obtain ⟨⟨z0, z1, z2, z3, z4⟩, z5, z6, z7, z8, z9⟩ := (HZ.out _ R4.out).cells; clear hs ht hk)
      rw [rounds_succ]
      cases b4
      · have HO2 : ok = false := HO.out
        subst HO2
        go_wp2_with (go_at_call 40; ((with_reducible refine (P4.out q q2 HNE.out.1 w3 S4.out T4.out).mono ?_); rintro r w4 ⟨rfl, hs, ht, hk⟩); have S5 := Lib.hid hs; have T5 := Lib.hid ht; have R5 := Lib.hid (R4.out.trans hk); obtain ⟨e0, e1, e2, e3⟩ := HF.out _ R5.out; obtain ⟨⟨z0, z1, z2, z3, z4⟩, z5, z6, z7, z8, z9⟩ := (HZ.out _ R5.out).cells; clear hs ht hk)
        refine bodyPost_ret (results_TX rfl _ _ q1 _ _ rfl rfl (set5 (HZ.out _ R5.out) rfl _ _ _ _ _) rfl) rfl ⟨⟨false, [], [], false, [], rfl, fun h => absurd h (by simp)⟩, ?_⟩
        exact gr_set (gr_set (gr_set (gr_set (gr_set (K2.grown HG.out R5.out (by rw [HQ.out]; exact Nat.le_refl _) (by rw [HQ.out]; exact HNE.out.2.2.2.2)) (by rw [HQ.out]; exact HNE.out.2.2.2.1) _ _) (by rw [HQ.out]; exact HNE.out.2.2.2.1) _ _) (by rw [HQ.out]; exact HNE.out.2.2.2.1) _ _) (by rw [HQ.out]; exact HNE.out.2.2.2.1) _ _) (by rw [HQ.out]; exact HNE.out.2.2.2.1) _ _
      · have HO2 : ok = b6 := HO.out
        subst HO2
        go_wp2_with (go_at_call 40; ((with_reducible refine (P4.out q q2 HNE.out.1 w3 S4.out T4.out).mono ?_); rintro r w4 ⟨rfl, hs, ht, hk⟩); have S5 := Lib.hid hs; have T5 := Lib.hid ht; have R5 := Lib.hid (R4.out.trans hk); obtain ⟨e0, e1, e2, e3⟩ := HF.out _ R5.out; obtain ⟨⟨z0, z1, z2, z3, z4⟩, z5, z6, z7, z8, z9⟩ := (HZ.out _ R5.out).cells; clear hs ht hk)
        rw [rounds_succ]
        go_wp2_with fail
        obtain ⟨⟨c0, c1, c2, c3, c4⟩, -⟩ := T5.out.cells
        obtain ⟨c5, -⟩ := S5.out.cell
        obtain ⟨⟨v0, v1, v2, v3, v4⟩, v5, v6, v7, v8, v9⟩ := (HZ.out _ R5.out).cells
        have d0 : w4.drew.cell? ⟨q2, 0, none⟩ = _ := c0
        have d1 : w4.drew.cell? ⟨q2, 1, none⟩ = _ := c1
        have d2 : w4.drew.cell? ⟨q2, 2, none⟩ = _ := c2
        have d3 : w4.drew.cell? ⟨q2, 3, none⟩ = _ := c3
        have d4 : w4.drew.cell? ⟨q2, 4, none⟩ = _ := c4
        have d5 : w4.drew.cell? ⟨q, 0, none⟩ = _ := c5
        have f0 : w4.drew.frozen? ⟨q1, 0, none⟩ = false := v5
        have f1 : w4.drew.frozen? ⟨q1, 1, none⟩ = false := v6
        have f2 : w4.drew.frozen? ⟨q1, 2, none⟩ = false := v7
        have f3 : w4.drew.frozen? ⟨q1, 3, none⟩ = false := v8
        have f4 : w4.drew.frozen? ⟨q1, 4, none⟩ = false := v9
        have g0 : w4.drew.cell? ⟨q1, 0, none⟩ = _ := v0
        have g1 : w4.drew.cell? ⟨q1, 1, none⟩ = _ := v1
        have g2 : w4.drew.cell? ⟨q1, 2, none⟩ = _ := v2
        have g3 : w4.drew.cell? ⟨q1, 3, none⟩ = _ := v3
        have g4 : w4.drew.cell? ⟨q1, 4, none⟩ = _ := v4
        have b5 := (((((S5.out.other HNE.out.2.1.1 0 (.bool y1)).other HNE.out.2.1.1 1 (.string (Sx y2))).other HNE.out.2.1.1 2 (.string (Sx y3))).other HNE.out.2.1.1 3 (.bool y4)).other HNE.out.2.1.1 4 (.string (Sx y5))).cell.1
        have b6 := ((((((S5.out.gr (gdrew w4)).other HNE.out.2.1.1 0 (.bool y1)).other HNE.out.2.1.1 1 (.string (Sx y2))).other HNE.out.2.1.1 2 (.string (Sx y3))).other HNE.out.2.1.1 3 (.bool y4)).other HNE.out.2.1.1 4 (.string (Sx y5))).cell.1
        have RD := Lib.hid (R5.out.trans (K2.gr (p := q) (q := q2) (gdrew w4)))
        clear e0 e1 e2 e3 z0 z1 z2 z3 z4 z5 z6 z7 z8 z9
        go_region
        go_wp2
        refine bodyPost_ret (results_TX rfl _ _ q1 _ _ rfl rfl (set5 (HZ.out _ RD.out) rfl _ _ _ _ _) rfl) rfl ⟨⟨y1, y2, y3, y4, y5, rfl, fun _ => rfl⟩, ?_⟩
        exact gr_set (gr_set (gr_set (gr_set (gr_set (K2.grown HG.out RD.out (by rw [HQ.out]; exact Nat.le_refl _) (by rw [HQ.out]; exact HNE.out.2.2.2.2)) (by rw [HQ.out]; exact HNE.out.2.2.2.1) _ _) (by rw [HQ.out]; exact HNE.out.2.2.2.1) _ _) (by rw [HQ.out]; exact HNE.out.2.2.2.1) _ _) (by rw [HQ.out]; exact HNE.out.2.2.2.1) _ _) (by rw [HQ.out]; exact HNE.out.2.2.2.1) _ _

end Go.Proofs.YtpjepdnkolbdhaaDoor
