/-
  Where an object has a name. Own work.
-/
import Derived.Test.YticnfmfmgdfdeaaGreatDoorJsnAE
import Derived.Test.YticnfmfmgdfdeaaGreatDoorJsnAS

set_option linter.unusedVariables false
set_option linter.unusedSimpArgs false
namespace Go.Proofs.YticnfmfmgdfdeaaGreatDoor
open Go.RowKit

/-- Names that rise. -/
def Ris (ns : List Bs) : Prop := ns.Pairwise fun a b => ltB a b = true
theorem ltB_cmp (a b : Bs) : ltB a b = decide (cmpB a b < 0) := less_cmpB a b
theorem ltB_irr (a : Bs) : ltB a a = false := by rw [ltB_cmp, cmpB_refl]; rfl
theorem ltB_trans {a b c : Bs} (h : ltB a b = true) (k : ltB b c = true) : ltB a c = true := by
  rw [ltB_cmp, decide_eq_true_eq] at *
  have h1 := cmpB_trans a b c (by omega) (by omega)
  rcases cmpB_range a c with e | e | e
  · omega
  · have := cmpB_eq a c e
    subst this
    have := cmpB_anti a b
    omega
  · omega
theorem tw_get {p : Bs → Bool} : ∀ (l : List Bs) (k : Nat) (x : Bs), l[k]? = some x → k < (l.takeWhile p).length → p x = true
  | [], k, x, h, _ => by simp at h
  | b :: t, k, x, h, hk => by
    by_cases hb : p b = true
    · simp only [List.takeWhile, hb, List.length_cons] at hk
      cases k with
      | zero => simp at h; rw [← h]; exact hb
      | succ k => exact tw_get t k x (by simpa using h) (by omega)
    · simp [List.takeWhile, hb] at hk
theorem tw_out {p : Bs → Bool} : ∀ (l : List Bs) (x : Bs), l[(l.takeWhile p).length]? = some x → p x = false
  | [], x, h => by simp at h
  | b :: t, x, h => by
    by_cases hb : p b = true
    · simp only [List.takeWhile, hb, List.length_cons, List.getElem?_cons_succ] at h
      exact tw_out t x h
    · simp only [List.takeWhile, hb, List.length_nil, List.getElem?_cons_zero, Option.some.injEq] at h
      rw [← h]; simpa using hb
theorem posM_lt {ns : List Bs} {m : Bs} {k : Nat} {x : Bs} (hk : k < posM ns m) (h : ns[k]? = some x) : ltB x m = true := tw_get ns k x h hk
theorem posM_ge {ns : List Bs} {m : Bs} (hR : Ris ns) {k : Nat} {x : Bs} (hk : posM ns m ≤ k) (h : ns[k]? = some x) : ltB x m = false := by
  have hkl := (List.getElem?_eq_some_iff.1 h).1
  have hpl : posM ns m < ns.length := by omega
  have h0 := tw_out (p := fun a => ltB a m) ns ns[posM ns m] (List.getElem?_eq_getElem hpl)
  rcases Nat.eq_or_lt_of_le hk with e | e
  · subst e
    rw [List.getElem?_eq_getElem hpl] at h
    injection h with h
    rw [← h]; exact h0
  · have h1 := List.pairwise_iff_getElem.1 hR (posM ns m) k hpl hkl e
    have hx : ns[k] = x := by rw [List.getElem?_eq_getElem hkl] at h; injection h
    rw [hx] at h1
    cases hc : ltB x m with
    | false => rfl
    | true => rw [ltB_trans h1 hc] at h0; cases h0

theorem search_any (P : Nat → Prop) (ns : List Bs) (m : Bs) (nv : Value) (w : World) (h : RowS P w nv ns) (hR : Ris ns) (hl : ns.length ≤ 1000000) :
    Calls Tryz.prog 48 #[nv, .string (Sx m)] w fun r w' => r = .returned (.tuple #[.int .i64 (posM ns m : Nat), .bool (hasM ns m)]) ∧ Gr w w' := by
  obtain ⟨ao, c, rfl, h1, h2, h3⟩ := h
  by_cases hne : ns = []
  · subst hne
    refine (Tryz.strSearch0 ao c (Sx m) w).mono ?_
    rintro r w' ⟨rfl, rfl⟩
    exact ⟨rfl, grefl _ _⟩
  · obtain ⟨b, o, rfl, -, hc⟩ := h3 hne
    obtain ⟨S, hS⟩ : ∃ S : Nat → ByteArray, S = fun t => Sx (ns.getD t m) := ⟨_, rfl⟩
    refine (Tryz.strSearch b o ns.length c S (Sx m) w (by omega) (fun j hj => by rw [hS]; simp only; rw [List.getD_eq_getElem?_getD, List.getElem?_eq_getElem hj]; exact hc j _ (List.getElem?_eq_getElem hj))).mono ?_
    rintro r w' ⟨rfl, q, rfl⟩
    have hbs : Lib.bsGo (fun t => Op.bytesLess (S t).toList (Sx m).toList) ns.length 0 ns.length = posM ns m := by
      refine Lib.bsGo_spec _ (posM ns m) (fun t ht => ?_) (fun t ht => ?_) _ _ _ (by omega) (by omega) (List.takeWhile_sublist _).length_le
      · have htl : t < ns.length := Nat.lt_of_lt_of_le ht (List.takeWhile_sublist _).length_le
        simp only [hS, Sx_toList]
        rw [List.getD_eq_getElem?_getD, List.getElem?_eq_getElem htl]
        exact posM_lt ht (List.getElem?_eq_getElem htl)
      · simp only [hS, Sx_toList]
        by_cases htl : t < ns.length
        · rw [List.getD_eq_getElem?_getD, List.getElem?_eq_getElem htl]
          exact posM_ge hR ht (List.getElem?_eq_getElem htl)
        · rw [List.getD_eq_getElem?_getD, List.getElem?_eq_none (by omega)]
          exact ltB_irr m
    rw [hbs]
    refine ⟨?_, gdrewN w q⟩
    refine congrArg Ending.returned (congrArg Value.tuple ?_)
    refine congrArg (fun x => #[Value.int .i64 ((posM ns m : Nat) : Int), Value.bool x]) ?_
    unfold hasM
    rw [Bool.eq_iff_iff]
    simp only [decide_eq_true_eq, beq_iff_eq, hS]
    by_cases htl : posM ns m < ns.length
    · rw [List.getD_eq_getElem?_getD, List.getElem?_eq_getElem htl]
      simp only [Option.getD_some, Option.some.injEq]
      exact ⟨fun h => Sx_inj h.2, fun h => ⟨htl, by rw [h]⟩⟩
    · rw [List.getElem?_eq_none (by omega)]
      simp [htl]

set_option maxRecDepth 100000 in
set_option maxHeartbeats 4000000 in
theorem find_any (P : Nat → Prop) (j : J) (m : Bs) (iv nv : Value) (w : World) (hs : RowS P w nv j.names) (hiv : ∃ a n c, iv = .slice a n c) (hR : Ris j.names) (hl : j.names.length ≤ 1000000) (hk : j.kind = 5) :
    Calls Tryz.prog 21 #[.agg (j.cs iv nv), .string (Sx m)] w fun r w' => r = .returned (.tuple #[.int .i64 (posM j.names m : Nat), .bool (hasM j.names m)]) ∧ Gr w w' := by
  obtain ⟨ia, il, ic, rfl⟩ := hiv
  have K := Lib.hid (fun w' (h : RowS P w' nv j.names) => search_any P j.names m nv w' h hR hl)
  have hs2 := hs
  obtain ⟨na, nc, rfl, -⟩ := hs2
  have hk5 : ((j.kind : Nat) : Int) = 5 := by omega
  obtain ⟨cs, hcs⟩ : ∃ cs : Array Value, cs = #[.int .i64 5, .bool j.isB, .bool j.nm.down, .string (Sx j.nm.digs), .int .i64 j.nm.exp, .string (Sx j.tx), .slice ia il ic, .slice na j.names.length nc] := ⟨_, rfl⟩
  have e : j.cs (.slice ia il ic) (.slice na j.names.length nc) = cs := by rw [hcs]; simp only [J.cs, vc, hk5]
  rw [e]
  have g0 := World.grownBy_alloc w (.cells cs 28) none
  have HS := Lib.hid (hs.keep (w' := w.alloc (.cells cs 28)) (Q := P) (fun b hb hlt => ⟨g0.block b hlt (by simp), hb⟩))
  have HG := Lib.hid g0
  have hx := heap_alloc_new w (.cells cs 28 (0, 0))
  rw [hcs] at HS HG hx ⊢
  obtain ⟨x0, x1, x2, x3, x4, x5, x6, x7⟩ := cells8 hx
  clear g0 hs hR hl hk hk5 e hcs hx
  go_enter Tryz.func21, Tryz.ntmps21
  go_wp2_with (go_at_call 48; ((with_reducible refine (K.out _ HS.out).mono ?_); rintro r w2 ⟨rfl, hg⟩); have HG2 := Lib.hid (gtrans HG.out hg); clear hg)
  exact bodyPost_ret (results_tmp2 rfl _ _ _) rfl ⟨rfl, HG2.out⟩

end Go.Proofs.YticnfmfmgdfdeaaGreatDoor
