/-
  Layer 5: branch's entries in plain lists: their cells, which may be; that a cell is one entry's alone. Own work.
-/
import Derived.Test.YtfencmidjolgfaaLayM
namespace Go.Proofs.Ytfencmidjolgfaa
open Go.RowKit

/-- An entry's cell; how many bytes it has. -/
def bcellB (x : En) : List Int := ((numB x.key.length 1 1 ++ x.key) ++ numB x.first 4 4)
def bcl (x : En) : Nat := 5 + x.key.length
theorem bcellB_len (x : En) : (bcellB x).length = bcl x := by unfold bcellB bcl; simp [numB_len]; omega
/-- What an entry of branch can be. -/
structure BOk (x : En) : Prop where
  ok : EnOk x
  v : x.val = []
  l : x.long = 0
theorem bcl_le {x : En} (h : BOk x) : bcl x ≤ 100005 := by have := h.ok.kl; unfold bcl; omega
theorem bcl_pos (x : En) : 5 ≤ bcl x := by unfold bcl; omega
/-- What an entry can be that is read of a cell. -/
structure BGot (x : En) : Prop where
  k : Byt x.key
  kl : x.key.length ≤ 255
  v : x.val = []
  l : x.long = 0
  f0 : 0 ≤ x.first
  f1 : x.first < 4294967296
theorem BGot.ok {x : En} (h : BGot x) : BOk x := by
  have h1 := h.kl
  have h2 := h.f0
  have h3 := h.f1
  have h4 := h.l
  refine ⟨⟨h.k, (by rw [h.v]; exact (fun y hy => by cases hy)), by omega, (by rw [h.v]; simp), by omega, by omega, by omega, by omega⟩, h.v, h.l⟩
def brY : Lay := ⟨2, bcellB, bcl, BGot⟩

theorem bent_start {c c1 c2 c3 o1 key o3 : List Int} {e1 e2 e3 : Int} (x1 : nx c 0 1 true = (c1, e1, o1)) (x2 : nx c1 e1 (beVal o1) true = (c2, e2, key)) (x3 : nx c2 e2 4 true = (c3, e3, o3)) {y : En} (h : EntOk brY c y) :
    e3 = 0 ∧ c3 = [] ∧ key = y.key ∧ beVal o3 = y.first := by
  obtain ⟨hc, hg⟩ := h
  change c = bcellB y at hc
  change BGot y at hg
  have hkl := hg.kl
  have hf1 := hg.f1
  have hf0 := hg.f0
  have hbk : beVal (numB (y.key.length : Int) 1 1) = (y.key.length : Int) := be1 (by omega) (by omega)
  rw [bcellB, List.append_assoc] at hc
  rw [hc, nx_app (by rw [numB_len]; rfl)] at x1
  injection x1 with a1 x1; injection x1 with a2 a3
  subst a1; subst a2; subst a3
  rw [hbk, nx_app rfl] at x2
  injection x2 with a1 x2; injection x2 with a2 a3
  subst a1; subst a2; subst a3
  rw [show numB y.first 4 4 = numB y.first 4 4 ++ [] by simp, nx_app (by rw [numB_len]; rfl)] at x3
  injection x3 with a1 x3; injection x3 with a2 a3
  subst a1; subst a2; subst a3
  exact ⟨rfl, rfl, rfl, be4 hf0 hf1⟩
theorem bent_ok {c c1 c2 c3 o1 key o3 : List Int} {e1 e2 e3 : Int} (x1 : nx c 0 1 true = (c1, e1, o1)) (x2 : nx c1 e1 (beVal o1) true = (c2, e2, key)) (x3 : nx c2 e2 4 true = (c3, e3, o3)) (hb : Byt c) :
    (endOf c3 e3 = 0 → EntOk brY c ⟨key, [], 0, beVal o3⟩) ∧ (endOf c3 e3 ≠ 0 → ∀ y, ¬ EntOk brY c y) := by
  obtain ⟨b1, bo1, _, _⟩ := nx_both x1 hb
  obtain ⟨b2, bk, _, _⟩ := nx_both x2 b1
  obtain ⟨b3, bo3, _, _⟩ := nx_both x3 b2
  refine ⟨fun he => ?_, fun he y hy => he ?_⟩
  · have he3 : e3 = 0 ∧ c3 = [] := by
      unfold endOf at he
      split at he
      · rename_i h; exact absurd he h
      · rename_i h
        split at he
        · rename_i hl; exact ⟨by omega, List.eq_nil_of_length_eq_zero hl⟩
        · cases he
    obtain ⟨rfl, rfl⟩ := he3
    obtain ⟨h2, hc2, l3⟩ := nx_ok x3 (by decide)
    subst h2
    have hv0 := (beVal_bound o1 bo1).1
    obtain ⟨h1, hc1, l2⟩ := nx_ok x2 hv0
    subst h1
    obtain ⟨_, hc, l1⟩ := nx_ok x1 (by decide)
    have hlt := beVal_lt o1 bo1 1 (by omega)
    have hlt3 := beVal_lt o3 bo3 4 (by omega)
    have hv3 := (beVal_bound o3 bo3).1
    refine ⟨?_, bk, by show key.length ≤ 255; omega, rfl, rfl, hv3, by simpa using hlt3⟩
    show c = bcellB ⟨key, [], 0, beVal o3⟩
    rw [bcellB]
    show c = numB (key.length : Int) 1 1 ++ key ++ numB (beVal o3) 4 4
    rw [l2, num1 bo1 (by omega), num4 bo3 (by omega), hc, hc1, hc2]
    simp
  · obtain ⟨r3, r4, _, _⟩ := bent_start x1 x2 x3 hy
    subst r3; subst r4
    rfl
theorem bcellB_inj {c : List Int} {x y : En} (h : EntOk brY c x) (k : EntOk brY c y) : x = y := by
  obtain ⟨c1, e1, o1, x1⟩ : ∃ a b d, nx c 0 1 true = (a, b, d) := ⟨_, _, _, rfl⟩
  obtain ⟨c2, e2, key, x2⟩ : ∃ a b d, nx c1 e1 (beVal o1) true = (a, b, d) := ⟨_, _, _, rfl⟩
  obtain ⟨c3, e3, o3, x3⟩ : ∃ a b d, nx c2 e2 4 true = (a, b, d) := ⟨_, _, _, rfl⟩
  obtain ⟨_, _, hk1, hf1⟩ := bent_start x1 x2 x3 h
  obtain ⟨_, _, hk2, hf2⟩ := bent_start x1 x2 x3 k
  have g1 : BGot x := h.2
  have g2 : BGot y := k.2
  have v1 := g1.v; have v2 := g2.v; have l1 := g1.l; have l2 := g2.l
  obtain ⟨kx, vx, lx, fx⟩ := x
  obtain ⟨ky, vy, ly, fy⟩ := y
  simp only at *
  rw [← hk1, ← hk2, v1, v2, l1, l2, ← hf1, ← hf2]
instance brOk : LayOk brY := ⟨by decide, by decide, bcellB_len, fun _ _ _ h k => bcellB_inj h k⟩
theorem bcs_snoc {l : List En} {k : Nat} {x : En} (h : l[k]? = some x) : cs brY l (k + 1) = cs brY l k + bcl x := cs_snoc h
theorem bfillK_snoc {l : List En} {k : Nat} {x : En} (h : l[k]? = some x) : fillK brY l (k + 1) = fillK brY l k + (2 + bcl x) := fillK_snoc h
theorem bcellB_byt {x : En} (h : EnOk x) : Byt (bcellB x) := ((numB_byt _ _ _).app h.k).app (numB_byt _ _ _)
theorem btlB_byt {l : List En} (h : ∀ x ∈ l, EnOk x) : ∀ k, Byt (tlB brY l k)
  | 0 => fun x hx => by cases hx
  | k + 1 => by
    rcases hx : l[k]? with _ | x
    · rw [tlB, hx]; exact btlB_byt h k
    · rw [tlB_snoc hx]; exact (bcellB_byt (h x (List.mem_of_getElem? hx))).app (btlB_byt h k)
theorem bpageB_byt {l : List En} (h : ∀ x ∈ l, EnOk x) (S : Nat) : Byt (pageB brY l S) := (hdB_byt l S _).app ((rep_byt _).app (btlB_byt h _))

/-- May entries be those of a page, the first k? -/
def BTo (l : List En) (k : Nat) : Prop := ∀ j x, j < k → l[j]? = some x → 2 ≤ x.first ∧ ∀ i y, i + 1 = j → l[i]? = some y → 1 ≤ x.key.length ∧ x.key.length ≤ 96 ∧ cmpL y.key x.key < 0
def BRightP (l : List En) (size : Int) : Prop := 512 ≤ size ∧ size ≤ 4096 ∧ 2 ≤ l.length ∧ (∀ x, l[0]? = some x → x.key = []) ∧ BTo l l.length
theorem BTo.zero (l : List En) : BTo l 0 := fun j _ h => by omega
theorem BTo.snoc {l : List En} {k : Nat} (h : BTo l k) {x : En} (hx : l[k]? = some x) (h2 : 2 ≤ x.first) (hr : ∀ i y, i + 1 = k → l[i]? = some y → 1 ≤ x.key.length ∧ x.key.length ≤ 96 ∧ cmpL y.key x.key < 0) : BTo l (k + 1) := by
  intro j y hj hy
  by_cases e : j = k
  · subst e
    rw [hx] at hy; cases hy
    exact ⟨h2, hr⟩
  · exact h j y (by omega) hy
/-- A page that is put is laid as one. -/
theorem blaid_page {l : List En} {S : Nat} (h : ∀ x ∈ l, BOk x) (hr : BRightP l (S : Int)) (hf : fillL brY l ≤ S) : Laid brY (pageB brY l S) l := by
  have hS : S ≤ 4096 := by have := hr.2.1; omega
  have hpl := pageB_len hf
  refine ⟨fun x hx => ?_, ?_, by omega, by omega, by rw [hpl]⟩
  · obtain ⟨i, hi⟩ := List.getElem?_of_mem hx
    have hil : i < l.length := (List.getElem?_eq_some_iff.1 hi).1
    have ho := h x hx
    have hk : x.key.length ≤ 255 := by
      rcases Nat.eq_zero_or_pos i with e | e
      · subst e; rw [hr.2.2.2.1 x hi]; simp
      · obtain ⟨y, hy⟩ : ∃ y, l[i - 1]? = some y := ⟨_, List.getElem?_eq_getElem (by omega)⟩
        have := ((hr.2.2.2.2 i x hil hi).2 (i - 1) y (by omega) hy).2.1
        omega
    exact ⟨ho.ok.k, hk, ho.v, ho.l, ho.ok.f0, by have := ho.ok.f1; omega⟩
  · unfold fillL fillK at hf
    omega

end Go.Proofs.Ytfencmidjolgfaa
