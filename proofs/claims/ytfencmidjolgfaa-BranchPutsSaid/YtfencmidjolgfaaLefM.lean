/-
  Layer 4: leaf's entries in plain lists: their cells, which may be; that a cell is one entry's alone. Own work.
-/
import Derived.Test.YtfencmidjolgfaaLayM
namespace Go.Proofs.Ytfencmidjolgfaa
open Go.RowKit

/-- How many bytes a cell has. -/
def cl (x : En) : Nat := if 0 < x.first then 10 + x.key.length else 4 + x.key.length + x.val.length
theorem cl_far {x : En} (h : 0 < x.first) : cl x = 10 + x.key.length := if_pos h
theorem cl_here {x : En} (h : ¬ 0 < x.first) : cl x = 4 + x.key.length + x.val.length := if_neg h
theorem cl_le {x : En} (h : EnOk x) : cl x ≤ 200004 := by
  have := h.kl; have := h.vl
  unfold cl; split <;> omega
theorem cl_pos (x : En) : 4 ≤ cl x := by unfold cl; split <;> omega
/-- An entry's cell. -/
def cellB (x : En) : List Int :=
  if 0 < x.first then ((((numB x.key.length 1 1 ++ x.key) ++ numB 1 1 1) ++ numB x.long 4 4) ++ numB x.first 4 4)
  else ((((numB x.key.length 1 1 ++ x.key) ++ numB 0 1 1) ++ numB x.val.length 2 2) ++ x.val)
theorem cellB_len (x : En) : (cellB x).length = cl x := by
  unfold cellB cl
  split <;> simp [numB_len] <;> omega

/-- May a value be? -/
def rvB (x : En) : Bool := if 0 < x.first then decide (x.val.length = 0) && decide (1 ≤ x.long) && decide (x.long ≤ 32768) else decide (x.long = 0)
/-- May an entry be, by itself? -/
def OkOne (most : Int) (x : En) : Prop := 1 ≤ x.key.length ∧ x.key.length ≤ 96 ∧ rvB x = true ∧ (cl x : Int) ≤ most
def RightTo (l : List En) (most : Int) (k : Nat) : Prop :=
  ∀ j x, j < k → l[j]? = some x → OkOne most x ∧ ∀ i y, i + 1 = j → l[i]? = some y → cmpL y.key x.key < 0
def mostI (size : Int) : Int := size / 4 - 3
def RightP (l : List En) (size : Int) : Prop := 512 ≤ size ∧ size ≤ 4096 ∧ RightTo l (mostI size) l.length
theorem RightTo.zero (l : List En) (m : Int) : RightTo l m 0 := fun j _ h => by omega
theorem RightTo.snoc {l : List En} {m : Int} {k : Nat} (h : RightTo l m k) {x : En} (hx : l[k]? = some x) (ho : OkOne m x) (hr : ∀ i y, i + 1 = k → l[i]? = some y → cmpL y.key x.key < 0) : RightTo l m (k + 1) := by
  intro j y hj hy
  by_cases e : j = k
  · subst e
    rw [hx] at hy; cases hy
    exact ⟨ho, hr⟩
  · exact h j y (by omega) hy
theorem RightTo.mono {l : List En} {m : Int} {k n : Nat} (h : RightTo l m n) (hk : k ≤ n) : RightTo l m k := fun j x hj hx => h j x (by omega) hx

/-- What an entry can be that is read of a cell. -/
structure EnGot (x : En) : Prop where
  k : Byt x.key
  v : Byt x.val
  kl : x.key.length ≤ 255
  far : 0 < x.first → x.val = [] ∧ 0 ≤ x.long ∧ x.long < 4294967296 ∧ x.first < 4294967296
  here : ¬ 0 < x.first → x.first = 0 ∧ x.long = 0 ∧ x.val.length ≤ 65535
theorem EnGot.ok {x : En} (h : EnGot x) : EnOk x := by
  by_cases hf : 0 < x.first
  · obtain ⟨h1, h2, h3, h4⟩ := h.far hf
    exact ⟨h.k, h.v, by have := h.kl; omega, by rw [h1]; simp, by omega, by omega, by omega, by omega⟩
  · obtain ⟨h1, h2, h3⟩ := h.here hf
    exact ⟨h.k, h.v, by have := h.kl; omega, by omega, by omega, by omega, by omega, by omega⟩
def leafY : Lay := ⟨1, cellB, cl, EnGot⟩

theorem endOf_ok {c : List Int} {e : Int} (h : endOf c e = 0) : e = 0 ∧ c = [] := by
  unfold endOf at h
  split at h
  · rename_i he; exact absurd h he
  · rename_i he
    split at h
    · rename_i hl; exact ⟨by omega, List.eq_nil_of_length_eq_zero hl⟩
    · cases h
theorem endOf_nil : endOf [] 0 = 0 := rfl

theorem ent_start {c c1 c2 c3 o1 key o3 : List Int} {e1 e2 e3 : Int} (x1 : nx c 0 1 true = (c1, e1, o1)) (x2 : nx c1 e1 (beVal o1) true = (c2, e2, key)) (x3 : nx c2 e2 1 true = (c3, e3, o3)) {y : En} (h : EntOk leafY c y) :
    e3 = 0 ∧ key = y.key ∧ (0 < y.first → beVal o3 = 1 ∧ c3 = numB y.long 4 4 ++ numB y.first 4 4) ∧ (¬ 0 < y.first → beVal o3 = 0 ∧ c3 = numB y.val.length 2 2 ++ y.val) := by
  obtain ⟨hc, hg⟩ := h
  change c = cellB y at hc
  change EnGot y at hg
  have hkl := hg.kl
  have hbk : beVal (numB (y.key.length : Int) 1 1) = (y.key.length : Int) := be1 (by omega) (by omega)
  by_cases hf : 0 < y.first
  · rw [cellB, if_pos hf, List.append_assoc, List.append_assoc, List.append_assoc] at hc
    rw [hc, nx_app (by rw [numB_len]; rfl)] at x1
    injection x1 with a1 x1; injection x1 with a2 a3
    subst a1; subst a2; subst a3
    rw [hbk, nx_app rfl] at x2
    injection x2 with a1 x2; injection x2 with a2 a3
    subst a1; subst a2; subst a3
    rw [nx_app (by rw [numB_len]; rfl)] at x3
    injection x3 with a1 x3; injection x3 with a2 a3
    subst a1; subst a2; subst a3
    exact ⟨rfl, rfl, fun _ => ⟨be1 (by omega) (by omega), rfl⟩, fun h => absurd hf h⟩
  · rw [cellB, if_neg hf, List.append_assoc, List.append_assoc, List.append_assoc] at hc
    rw [hc, nx_app (by rw [numB_len]; rfl)] at x1
    injection x1 with a1 x1; injection x1 with a2 a3
    subst a1; subst a2; subst a3
    rw [hbk, nx_app rfl] at x2
    injection x2 with a1 x2; injection x2 with a2 a3
    subst a1; subst a2; subst a3
    rw [nx_app (by rw [numB_len]; rfl)] at x3
    injection x3 with a1 x3; injection x3 with a2 a3
    subst a1; subst a2; subst a3
    exact ⟨rfl, rfl, fun h => absurd h hf, fun _ => ⟨be1 (by omega) (by omega), rfl⟩⟩
theorem ent_bad {c c1 c2 c3 o1 key o3 : List Int} {e1 e2 e3 : Int} (x1 : nx c 0 1 true = (c1, e1, o1)) (x2 : nx c1 e1 (beVal o1) true = (c2, e2, key)) (x3 : nx c2 e2 1 true = (c3, e3, o3)) (h0 : beVal o3 ≠ 0) (h1 : beVal o3 ≠ 1) (y : En) : ¬ EntOk leafY c y := by
  intro h
  obtain ⟨_, _, hf, hh⟩ := ent_start x1 x2 x3 h
  by_cases hy : 0 < y.first
  · exact h1 (hf hy).1
  · exact h0 (hh hy).1
theorem ent_head {c c1 c2 c3 o1 key o3 : List Int} {e1 e2 : Int} (x1 : nx c 0 1 true = (c1, e1, o1)) (x2 : nx c1 e1 (beVal o1) true = (c2, e2, key)) (x3 : nx c2 e2 1 true = (c3, 0, o3)) (hb : Byt c) :
    c = (numB key.length 1 1 ++ key ++ numB (beVal o3) 1 1) ++ c3 ∧ key.length ≤ 255 ∧ Byt key := by
  obtain ⟨b1, bo1, _, _⟩ := nx_both x1 hb
  obtain ⟨b2, bk, _, _⟩ := nx_both x2 b1
  obtain ⟨b3, bo3, _, _⟩ := nx_both x3 b2
  obtain ⟨h2, hc2, l3⟩ := nx_ok x3 (by decide)
  subst h2
  have hv0 := (beVal_bound o1 bo1).1
  obtain ⟨h1, hc1, l2⟩ := nx_ok x2 hv0
  subst h1
  obtain ⟨_, hc, l1⟩ := nx_ok x1 (by decide)
  have hlt := beVal_lt o1 bo1 1 (by omega)
  refine ⟨?_, by omega, bk⟩
  rw [l2, num1 bo1 (by omega), num1 bo3 (by omega), hc, hc1, hc2]
  simp
theorem ent_here {c c1 c2 c3 c4 c5 o1 key o3 o4 val : List Int} {e1 e2 e3 e4 e5 : Int} (x1 : nx c 0 1 true = (c1, e1, o1)) (x2 : nx c1 e1 (beVal o1) true = (c2, e2, key)) (x3 : nx c2 e2 1 true = (c3, e3, o3)) (h0 : beVal o3 = 0)
    (x4 : nx c3 e3 2 true = (c4, e4, o4)) (x5 : nx c4 e4 (beVal o4) true = (c5, e5, val)) (hb : Byt c) : (endOf c5 e5 = 0 → EntOk leafY c ⟨key, val, 0, 0⟩) ∧ (endOf c5 e5 ≠ 0 → ∀ y, ¬ EntOk leafY c y) := by
  obtain ⟨b1, bo1, _, _⟩ := nx_both x1 hb
  obtain ⟨b2, bk, _, _⟩ := nx_both x2 b1
  obtain ⟨b3, bo3, _, _⟩ := nx_both x3 b2
  obtain ⟨b4, bo4, _, _⟩ := nx_both x4 b3
  obtain ⟨b5, bv, _, _⟩ := nx_both x5 b4
  have hv0 := (beVal_bound o4 bo4).1
  refine ⟨fun he => ?_, fun he y hy => he ?_⟩
  · obtain ⟨h5, rfl⟩ := endOf_ok he
    subst h5
    obtain ⟨h4, hc4, l5⟩ := nx_ok x5 hv0
    subst h4
    obtain ⟨h3, hc3, l4⟩ := nx_ok x4 (by decide)
    subst h3
    obtain ⟨hc, hkl, _⟩ := ent_head x1 x2 x3 hb
    have hlt := beVal_lt o4 bo4 2 (by omega)
    refine ⟨?_, bk, bv, hkl, (fun h => absurd h (Int.lt_irrefl 0)), fun _ => ⟨rfl, rfl, by show val.length ≤ 65535; omega⟩⟩
    show c = cellB ⟨key, val, 0, 0⟩
    rw [cellB, if_neg (Int.lt_irrefl 0), hc, h0, hc3, hc4]
    show _ = _ ++ numB (val.length : Int) 2 2 ++ val
    rw [l5, num2 bo4 (by omega)]
    simp
  · obtain ⟨r3, rk, hf, hh⟩ := ent_start x1 x2 x3 hy
    by_cases hfy : 0 < y.first
    · have := (hf hfy).1; omega
    · obtain ⟨_, hc3⟩ := hh hfy
      obtain ⟨g1, g2, g3⟩ := EnGot.here hy.2 hfy
      subst r3
      rw [hc3, nx_app (by rw [numB_len]; rfl)] at x4
      injection x4 with a1 x4; injection x4 with a2 a3
      subst a1; subst a2; subst a3
      rw [be2 (by omega) (by omega), show y.val = y.val ++ [] by simp, nx_app (by simp)] at x5
      injection x5 with a1 x5; injection x5 with a2 a3
      subst a1; subst a2
      rfl
theorem ent_far {c c1 c2 c3 c4 c5 o1 key o3 o4 o5 : List Int} {e1 e2 e3 e4 e5 : Int} (x1 : nx c 0 1 true = (c1, e1, o1)) (x2 : nx c1 e1 (beVal o1) true = (c2, e2, key)) (x3 : nx c2 e2 1 true = (c3, e3, o3)) (h1 : beVal o3 = 1)
    (x4 : nx c3 e3 4 true = (c4, e4, o4)) (x5 : nx c4 e4 4 true = (c5, e5, o5)) (hb : Byt c) : (endOf c5 e5 = 0 → 0 < beVal o5 → EntOk leafY c ⟨key, [], beVal o4, beVal o5⟩) ∧ (¬ (endOf c5 e5 = 0 ∧ 0 < beVal o5) → ∀ y, ¬ EntOk leafY c y) := by
  obtain ⟨b1, bo1, _, _⟩ := nx_both x1 hb
  obtain ⟨b2, bk, _, _⟩ := nx_both x2 b1
  obtain ⟨b3, bo3, _, _⟩ := nx_both x3 b2
  obtain ⟨b4, bo4, _, _⟩ := nx_both x4 b3
  obtain ⟨b5, bo5, _, _⟩ := nx_both x5 b4
  have hv0 := (beVal_bound o4 bo4).1
  refine ⟨fun he hp => ?_, fun he y hy => he ?_⟩
  · obtain ⟨h5, rfl⟩ := endOf_ok he
    subst h5
    obtain ⟨h4, hc4, l5⟩ := nx_ok x5 (by decide)
    subst h4
    obtain ⟨h3, hc3, l4⟩ := nx_ok x4 (by decide)
    subst h3
    obtain ⟨hc, hkl, _⟩ := ent_head x1 x2 x3 hb
    have hlt4 := beVal_lt o4 bo4 4 (by omega)
    have hlt5 := beVal_lt o5 bo5 4 (by omega)
    refine ⟨?_, bk, (fun x hx => by simp at hx), hkl, fun _ => ⟨rfl, hv0, by simpa using hlt4, by simpa using hlt5⟩, fun h => absurd hp h⟩
    show c = cellB ⟨key, [], beVal o4, beVal o5⟩
    rw [cellB, if_pos hp, hc, h1, hc3, hc4]
    show _ = _ ++ numB (beVal o4) 4 4 ++ numB (beVal o5) 4 4
    rw [num4 bo4 (by omega), num4 bo5 (by omega)]
    simp
  · obtain ⟨r3, rk, hf, hh⟩ := ent_start x1 x2 x3 hy
    by_cases hfy : 0 < y.first
    · obtain ⟨_, hc3⟩ := hf hfy
      obtain ⟨g1, g2, g3, g4⟩ := EnGot.far hy.2 hfy
      subst r3
      rw [hc3, nx_app (by rw [numB_len]; rfl)] at x4
      injection x4 with a1 x4; injection x4 with a2 a3
      subst a1; subst a2; subst a3
      rw [show numB y.first 4 4 = numB y.first 4 4 ++ [] by simp, nx_app (by rw [numB_len]; rfl)] at x5
      injection x5 with a1 x5; injection x5 with a2 a3
      subst a1; subst a2; subst a3
      exact ⟨rfl, by rw [be4 (by omega) g4]; exact hfy⟩
    · have := (hh hfy).1; omega

theorem cellB_inj {c : List Int} {x y : En} (h : EntOk leafY c x) (k : EntOk leafY c y) : x = y := by
  obtain ⟨c1, e1, o1, x1⟩ : ∃ a b d, nx c 0 1 true = (a, b, d) := ⟨_, _, _, rfl⟩
  obtain ⟨c2, e2, key, x2⟩ : ∃ a b d, nx c1 e1 (beVal o1) true = (a, b, d) := ⟨_, _, _, rfl⟩
  obtain ⟨c3, e3, o3, x3⟩ : ∃ a b d, nx c2 e2 1 true = (a, b, d) := ⟨_, _, _, rfl⟩
  obtain ⟨_, hk1, hf1, hh1⟩ := ent_start x1 x2 x3 h
  obtain ⟨_, hk2, hf2, hh2⟩ := ent_start x1 x2 x3 k
  obtain ⟨kx, vx, lx, fx⟩ := x
  obtain ⟨ky, vy, ly, fy⟩ := y
  simp only at *
  by_cases a : 0 < fx
  · by_cases b : 0 < fy
    · obtain ⟨g1, g2, g3, g4⟩ := EnGot.far h.2 a
      obtain ⟨i1, i2, i3, i4⟩ := EnGot.far k.2 b
      have e := (hf1 a).2.symm.trans (hf2 b).2
      have e2 := List.append_inj e (by rw [numB_len, numB_len])
      have q1 := congrArg beVal e2.1
      have q2 := congrArg beVal e2.2
      simp only at g1 g2 g3 g4 i1 i2 i3 i4
      rw [be4 g2 g3, be4 i2 i3] at q1
      rw [be4 (by omega) g4, be4 (by omega) i4] at q2
      rw [← hk1, ← hk2, g1, i1, q1, q2]
    · have := (hf1 a).1; have := (hh2 b).1; omega
  · by_cases b : 0 < fy
    · have := (hh1 a).1; have := (hf2 b).1; omega
    · obtain ⟨g1, g2, g3⟩ := EnGot.here h.2 a
      obtain ⟨i1, i2, i3⟩ := EnGot.here k.2 b
      have e := (hh1 a).2.symm.trans (hh2 b).2
      have e2 := List.append_inj e (by rw [numB_len, numB_len])
      simp only at g1 g2 i1 i2
      rw [← hk1, ← hk2, g1, g2, i1, i2, e2.2]

instance leafOk : LayOk leafY := ⟨by decide, by decide, cellB_len, fun _ _ _ h k => cellB_inj h k⟩
theorem lcs_snoc {l : List En} {k : Nat} {x : En} (h : l[k]? = some x) : cs leafY l (k + 1) = cs leafY l k + cl x := cs_snoc h
theorem lfillK_snoc {l : List En} {k : Nat} {x : En} (h : l[k]? = some x) : fillK leafY l (k + 1) = fillK leafY l k + (2 + cl x) := fillK_snoc h
theorem cellB_byt {x : En} (h : EnOk x) : Byt (cellB x) := by
  unfold cellB
  split
  · exact ((((numB_byt _ _ _).app h.k).app (numB_byt _ _ _)).app (numB_byt _ _ _)).app (numB_byt _ _ _)
  · exact ((((numB_byt _ _ _).app h.k).app (numB_byt _ _ _)).app (numB_byt _ _ _)).app h.v
theorem tlB_byt {l : List En} (h : ∀ x ∈ l, EnOk x) : ∀ k, Byt (tlB leafY l k)
  | 0 => fun x hx => by cases hx
  | k + 1 => by
    rcases hx : l[k]? with _ | x
    · rw [tlB, hx]; exact tlB_byt h k
    · rw [tlB_snoc hx]; exact (cellB_byt (h x (List.mem_of_getElem? hx))).app (tlB_byt h k)
theorem pageB_byt {l : List En} (h : ∀ x ∈ l, EnOk x) (S : Nat) : Byt (pageB leafY l S) := (hdB_byt l S _).app ((rep_byt _).app (tlB_byt h _))
/-- A page that is put is laid as one. -/
theorem laid_page {l : List En} {S : Nat} (h : ∀ x ∈ l, EnOk x) (hr : RightP l (S : Int)) (hf : fillL leafY l ≤ S) : Laid leafY (pageB leafY l S) l := by
  have hS : S ≤ 4096 := by have := hr.2.1; omega
  have hpl := pageB_len hf
  refine ⟨fun x hx => ?_, ?_, by omega, by omega, by rw [hpl]⟩
  · obtain ⟨i, hi⟩ := List.getElem?_of_mem hx
    have hil : i < l.length := (List.getElem?_eq_some_iff.1 hi).1
    obtain ⟨⟨h1, h2, h3, h4⟩, _⟩ := hr.2.2 i x hil hi
    have ho := h x hx
    have hm : mostI (S : Int) ≤ 1021 := by unfold mostI; omega
    refine ⟨ho.k, ho.v, by omega, fun hp => ?_, fun hp => ?_⟩
    · rw [rvB, if_pos hp] at h3
      simp at h3
      exact ⟨by rw [h3.1.1], by omega, by omega, by have := ho.f1; omega⟩
    · rw [rvB, if_neg hp] at h3
      rw [cl_here hp] at h4
      simp at h3
      have := ho.f0
      exact ⟨by omega, h3, by omega⟩
  · unfold fillL fillK at hf
    omega

end Go.Proofs.Ytfencmidjolgfaa
