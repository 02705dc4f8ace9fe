/-
  Layer 4: what is read of a cell, in plain lists; what stands while it is read. Own work.
-/
import Derived.Test.YtnodclijlhoobaaLefG
namespace Go.Proofs.Ytnodclijlhoobaa
open Go.RowKit

theorem numB1 (X : Int) : numB X 1 1 = [X % 256] := by simp [numB]
theorem numB2 (X : Int) : numB X 2 2 = [X / 256 % 256, X % 256] := by simp [numB, List.range_succ]
theorem numB4 (X : Int) : numB X 4 4 = [X / 16777216 % 256, X / 65536 % 256, X / 256 % 256, X % 256] := by simp [numB, List.range_succ]
theorem numB_byt (X : Int) (n k : Nat) : Byt (numB X n k) := by
  intro y hy
  simp only [numB, List.mem_map] at hy
  obtain ⟨i, _, rfl⟩ := hy
  omega
theorem be1 {X : Int} (h0 : 0 ≤ X) (h1 : X < 256) : beVal (numB X 1 1) = X := by rw [numB1]; simp [beVal]; omega
theorem be2 {X : Int} (h0 : 0 ≤ X) (h1 : X < 65536) : beVal (numB X 2 2) = X := by rw [numB2]; simp [beVal]; omega
theorem be4 {X : Int} (h0 : 0 ≤ X) (h1 : X < 4294967296) : beVal (numB X 4 4) = X := by rw [numB4]; simp [beVal]; omega
theorem num1 {o : List Int} (hb : Byt o) (hl : o.length = 1) : numB (beVal o) 1 1 = o := by
  match o, hl with
  | [a], _ =>
    have := hb a (by simp)
    rw [numB1]; simp [beVal]; omega
theorem num2 {o : List Int} (hb : Byt o) (hl : o.length = 2) : numB (beVal o) 2 2 = o := by
  match o, hl with
  | [a, b], _ =>
    have := hb a (by simp); have := hb b (by simp)
    rw [numB2]; simp [beVal]; omega
theorem num4 {o : List Int} (hb : Byt o) (hl : o.length = 4) : numB (beVal o) 4 4 = o := by
  match o, hl with
  | [a, b, c, d], _ =>
    have := hb a (by simp); have := hb b (by simp); have := hb c (by simp); have := hb d (by simp)
    rw [numB4]; simp [beVal]; omega

theorem nx_app {a b : List Int} {n : Int} (h : (a.length : Int) = n) : nx (a ++ b) 0 n true = (b, 0, a) := by
  subst h
  have : ¬ ((a ++ b).length : Int) < (a.length : Int) := by simp; omega
  simp only [nx, if_neg this]
  simp
/-- Where no error is, bytes were there. -/
theorem nx_ok {bs r o : List Int} {e n : Int} (h : nx bs e n true = (r, 0, o)) (hn : 0 ≤ n) : e = 0 ∧ bs = o ++ r ∧ (o.length : Int) = n := by
  unfold nx at h
  split at h
  · rename_i he; injection h with _ h2; injection h2 with h3 _; exact absurd h3 he
  · rename_i he
    split at h
    · rename_i h2; cases h2
    · split at h
      · injection h with _ h2; injection h2 with h3 _; cases h3
      · rename_i hl
        injection h with h1 h2; injection h2 with _ h3
        subst h1; subst h3
        refine ⟨by omega, by simp, ?_⟩
        simp; omega
theorem nx_outlen {bs r o : List Int} {e e' n : Int} (h : nx bs e n true = (r, e', o)) (hn : 0 ≤ n) : (o.length : Int) ≤ n := by
  unfold nx at h
  split at h
  · injection h with _ h2; injection h2 with _ h3; subst h3; simpa using hn
  · split at h
    · injection h with _ h2; injection h2 with _ h3; subst h3; simpa using hn
    · split at h
      · injection h with _ h2; injection h2 with _ h3; subst h3; simpa using hn
      · injection h with _ h2; injection h2 with _ h3; subst h3; simp; omega
theorem nx_both {bs r o : List Int} {e e' n : Int} {t : Bool} (h : nx bs e n t = (r, e', o)) (hb : Byt bs) : Byt r ∧ Byt o ∧ r.length ≤ bs.length ∧ o.length ≤ bs.length := by
  have h1 := nx_byt hb e n t
  have h2 := nx_rest bs e n t
  have h3 := nx_len bs e n t
  rw [h] at h1 h2 h3
  exact ⟨h1.1, h1.2, h2, h3⟩

/-- What an entry can be that is read of a cell. -/
structure EnGot (x : En) : Prop where
  k : Byt x.key
  v : Byt x.val
  kl : x.key.length ≤ 255
  far : 0 < x.first → x.val = [] ∧ 0 ≤ x.long ∧ x.long < 4294967296 ∧ x.first < 4294967296
  here : ¬ 0 < x.first → x.first = 0 ∧ x.long = 0 ∧ x.val.length ≤ 65535
theorem EnGot.ok {x : En} (h : EnGot x) : EnOk x := by
  by_cases hf : 0 < x.first
  · obtain ⟨h1, h2, h3, h4⟩ := h.far hf
    exact ⟨h.k, h.v, by have := h.kl; omega, by rw [h1]; simp, by omega, by omega, by omega, by omega⟩
  · obtain ⟨h1, h2, h3⟩ := h.here hf
    exact ⟨h.k, h.v, by have := h.kl; omega, by omega, by omega, by omega, by omega, by omega⟩
def EntOk (c : List Int) (x : En) : Prop := c = cellB x ∧ EnGot x

theorem endOf_ok {c : List Int} {e : Int} (h : endOf c e = 0) : e = 0 ∧ c = [] := by
  unfold endOf at h
  split at h
  · rename_i he; exact absurd h he
  · rename_i he
    split at h
    · rename_i hl; exact ⟨by omega, List.eq_nil_of_length_eq_zero hl⟩
    · cases h
theorem endOf_nil : endOf [] 0 = 0 := rfl

theorem ent_start {c c1 c2 c3 o1 key o3 : List Int} {e1 e2 e3 : Int} (x1 : nx c 0 1 true = (c1, e1, o1)) (x2 : nx c1 e1 (beVal o1) true = (c2, e2, key)) (x3 : nx c2 e2 1 true = (c3, e3, o3)) {y : En} (h : EntOk c y) :
    e3 = 0 ∧ key = y.key ∧ (0 < y.first → beVal o3 = 1 ∧ c3 = numB y.long 4 4 ++ numB y.first 4 4) ∧ (¬ 0 < y.first → beVal o3 = 0 ∧ c3 = numB y.val.length 2 2 ++ y.val) := by
  obtain ⟨hc, hg⟩ := h
  have hkl := hg.kl
  have hbk : beVal (numB (y.key.length : Int) 1 1) = (y.key.length : Int) := be1 (by omega) (by omega)
  by_cases hf : 0 < y.first
  · rw [cellB, if_pos hf, List.append_assoc, List.append_assoc, List.append_assoc] at hc
    rw [hc, nx_app (by rw [numB_len]; rfl)] at x1
    injection x1 with a1 x1; injection x1 with a2 a3
    subst a1; subst a2; subst a3
    rw [hbk, nx_app rfl] at x2
    injection x2 with a1 x2; injection x2 with a2 a3
    subst a1; subst a2; subst a3
    rw [nx_app (by rw [numB_len]; rfl)] at x3
    injection x3 with a1 x3; injection x3 with a2 a3
    subst a1; subst a2; subst a3
    exact ⟨rfl, rfl, fun _ => ⟨be1 (by omega) (by omega), rfl⟩, fun h => absurd hf h⟩
  · rw [cellB, if_neg hf, List.append_assoc, List.append_assoc, List.append_assoc] at hc
    rw [hc, nx_app (by rw [numB_len]; rfl)] at x1
    injection x1 with a1 x1; injection x1 with a2 a3
    subst a1; subst a2; subst a3
    rw [hbk, nx_app rfl] at x2
    injection x2 with a1 x2; injection x2 with a2 a3
    subst a1; subst a2; subst a3
    rw [nx_app (by rw [numB_len]; rfl)] at x3
    injection x3 with a1 x3; injection x3 with a2 a3
    subst a1; subst a2; subst a3
    exact ⟨rfl, rfl, fun h => absurd h hf, fun _ => ⟨be1 (by omega) (by omega), rfl⟩⟩
theorem ent_bad {c c1 c2 c3 o1 key o3 : List Int} {e1 e2 e3 : Int} (x1 : nx c 0 1 true = (c1, e1, o1)) (x2 : nx c1 e1 (beVal o1) true = (c2, e2, key)) (x3 : nx c2 e2 1 true = (c3, e3, o3)) (h0 : beVal o3 ≠ 0) (h1 : beVal o3 ≠ 1) (y : En) : ¬ EntOk c y := by
  intro h
  obtain ⟨_, _, hf, hh⟩ := ent_start x1 x2 x3 h
  by_cases hy : 0 < y.first
  · exact h1 (hf hy).1
  · exact h0 (hh hy).1
theorem ent_head {c c1 c2 c3 o1 key o3 : List Int} {e1 e2 : Int} (x1 : nx c 0 1 true = (c1, e1, o1)) (x2 : nx c1 e1 (beVal o1) true = (c2, e2, key)) (x3 : nx c2 e2 1 true = (c3, 0, o3)) (hb : Byt c) :
    c = (numB key.length 1 1 ++ key ++ numB (beVal o3) 1 1) ++ c3 ∧ key.length ≤ 255 ∧ Byt key := by
  obtain ⟨b1, bo1, _, _⟩ := nx_both x1 hb
  obtain ⟨b2, bk, _, _⟩ := nx_both x2 b1
  obtain ⟨b3, bo3, _, _⟩ := nx_both x3 b2
  obtain ⟨h2, hc2, l3⟩ := nx_ok x3 (by decide)
  subst h2
  have hv0 := (beVal_bound o1 bo1).1
  obtain ⟨h1, hc1, l2⟩ := nx_ok x2 hv0
  subst h1
  obtain ⟨_, hc, l1⟩ := nx_ok x1 (by decide)
  have hlt := beVal_lt o1 bo1 1 (by omega)
  refine ⟨?_, by omega, bk⟩
  rw [l2, num1 bo1 (by omega), num1 bo3 (by omega), hc, hc1, hc2]
  simp
theorem ent_here {c c1 c2 c3 c4 c5 o1 key o3 o4 val : List Int} {e1 e2 e3 e4 e5 : Int} (x1 : nx c 0 1 true = (c1, e1, o1)) (x2 : nx c1 e1 (beVal o1) true = (c2, e2, key)) (x3 : nx c2 e2 1 true = (c3, e3, o3)) (h0 : beVal o3 = 0)
    (x4 : nx c3 e3 2 true = (c4, e4, o4)) (x5 : nx c4 e4 (beVal o4) true = (c5, e5, val)) (hb : Byt c) : (endOf c5 e5 = 0 → EntOk c ⟨key, val, 0, 0⟩) ∧ (endOf c5 e5 ≠ 0 → ∀ y, ¬ EntOk c y) := by
  obtain ⟨b1, bo1, _, _⟩ := nx_both x1 hb
  obtain ⟨b2, bk, _, _⟩ := nx_both x2 b1
  obtain ⟨b3, bo3, _, _⟩ := nx_both x3 b2
  obtain ⟨b4, bo4, _, _⟩ := nx_both x4 b3
  obtain ⟨b5, bv, _, _⟩ := nx_both x5 b4
  have hv0 := (beVal_bound o4 bo4).1
  refine ⟨fun he => ?_, fun he y hy => he ?_⟩
  · obtain ⟨h5, rfl⟩ := endOf_ok he
    subst h5
    obtain ⟨h4, hc4, l5⟩ := nx_ok x5 hv0
    subst h4
    obtain ⟨h3, hc3, l4⟩ := nx_ok x4 (by decide)
    subst h3
    obtain ⟨hc, hkl, _⟩ := ent_head x1 x2 x3 hb
    have hlt := beVal_lt o4 bo4 2 (by omega)
    refine ⟨?_, bk, bv, hkl, (fun h => absurd h (Int.lt_irrefl 0)), fun _ => ⟨rfl, rfl, by show val.length ≤ 65535; omega⟩⟩
    rw [cellB, if_neg (Int.lt_irrefl 0), hc, h0, hc3, hc4]
    show _ = _ ++ numB (val.length : Int) 2 2 ++ val
    rw [l5, num2 bo4 (by omega)]
    simp
  · obtain ⟨r3, rk, hf, hh⟩ := ent_start x1 x2 x3 hy
    by_cases hfy : 0 < y.first
    · have := (hf hfy).1; omega
    · obtain ⟨_, hc3⟩ := hh hfy
      obtain ⟨g1, g2, g3⟩ := hy.2.here hfy
      subst r3
      rw [hc3, nx_app (by rw [numB_len]; rfl)] at x4
      injection x4 with a1 x4; injection x4 with a2 a3
      subst a1; subst a2; subst a3
      rw [be2 (by omega) (by omega), show y.val = y.val ++ [] by simp, nx_app (by simp)] at x5
      injection x5 with a1 x5; injection x5 with a2 a3
      subst a1; subst a2
      rfl
theorem ent_far {c c1 c2 c3 c4 c5 o1 key o3 o4 o5 : List Int} {e1 e2 e3 e4 e5 : Int} (x1 : nx c 0 1 true = (c1, e1, o1)) (x2 : nx c1 e1 (beVal o1) true = (c2, e2, key)) (x3 : nx c2 e2 1 true = (c3, e3, o3)) (h1 : beVal o3 = 1)
    (x4 : nx c3 e3 4 true = (c4, e4, o4)) (x5 : nx c4 e4 4 true = (c5, e5, o5)) (hb : Byt c) : (endOf c5 e5 = 0 → 0 < beVal o5 → EntOk c ⟨key, [], beVal o4, beVal o5⟩) ∧ (¬ (endOf c5 e5 = 0 ∧ 0 < beVal o5) → ∀ y, ¬ EntOk c y) := by
  obtain ⟨b1, bo1, _, _⟩ := nx_both x1 hb
  obtain ⟨b2, bk, _, _⟩ := nx_both x2 b1
  obtain ⟨b3, bo3, _, _⟩ := nx_both x3 b2
  obtain ⟨b4, bo4, _, _⟩ := nx_both x4 b3
  obtain ⟨b5, bo5, _, _⟩ := nx_both x5 b4
  have hv0 := (beVal_bound o4 bo4).1
  refine ⟨fun he hp => ?_, fun he y hy => he ?_⟩
  · obtain ⟨h5, rfl⟩ := endOf_ok he
    subst h5
    obtain ⟨h4, hc4, l5⟩ := nx_ok x5 (by decide)
    subst h4
    obtain ⟨h3, hc3, l4⟩ := nx_ok x4 (by decide)
    subst h3
    obtain ⟨hc, hkl, _⟩ := ent_head x1 x2 x3 hb
    have hlt4 := beVal_lt o4 bo4 4 (by omega)
    have hlt5 := beVal_lt o5 bo5 4 (by omega)
    refine ⟨?_, bk, (fun x hx => by simp at hx), hkl, fun _ => ⟨rfl, hv0, by simpa using hlt4, by simpa using hlt5⟩, fun h => absurd hp h⟩
    rw [cellB, if_pos hp, hc, h1, hc3, hc4]
    show _ = _ ++ numB (beVal o4) 4 4 ++ numB (beVal o5) 4 4
    rw [num4 bo4 (by omega), num4 bo5 (by omega)]
    simp
  · obtain ⟨r3, rk, hf, hh⟩ := ent_start x1 x2 x3 hy
    by_cases hfy : 0 < y.first
    · obtain ⟨_, hc3⟩ := hf hfy
      obtain ⟨g1, g2, g3, g4⟩ := hy.2.far hfy
      subst r3
      rw [hc3, nx_app (by rw [numB_len]; rfl)] at x4
      injection x4 with a1 x4; injection x4 with a2 a3
      subst a1; subst a2; subst a3
      rw [show numB y.first 4 4 = numB y.first 4 4 ++ [] by simp, nx_app (by rw [numB_len]; rfl)] at x5
      injection x5 with a1 x5; injection x5 with a2 a3
      subst a1; subst a2; subst a3
      exact ⟨rfl, by rw [be4 (by omega) g4]; exact hfy⟩
    · have := (hh hfy).1; omega

/-- What stands while bytes are read. -/
structure RS (g : Nat) (w0 w : World) (bs : List Int) (e : Int) : Prop where
  rd : RdAt w g bs e
  byt : Byt bs
  len : bs.length ≤ 140737488355328
  g0 : w0.heap.size ≤ g
  bel : Below w0.heap.size w0 w
theorem RS.far {g : Nat} {w0 w w' : World} {bs : List Int} {e : Int} (h : RS g w0 w bs e) (k : w.grownBy w' none) : RS g w0 w' bs e :=
  ⟨h.rd.kept (fun i hi => k.block i (by have := h.rd.lt; omega) (by simp)), h.byt, h.len, h.g0, h.bel.trans ((gbelow k).mono h.bel.size)⟩
theorem RS.set {g : Nat} {w0 w : World} {bs : List Int} {e : Int} (h : RS g w0 w bs e) (a : Addr) (u : Value) (ha : g < a.block) : RS g w0 (w.setCell a u) bs e :=
  ⟨h.rd.kept (fun i hi => Below.heap_setCell _ _ _ _ (by omega)), h.byt, h.len, h.g0, h.bel.setCell (by have := h.g0; omega) u⟩
theorem RS.num {g : Nat} {w0 w : World} {bs b1 out : List Int} {e e1 : Int} (h : RS g w0 w bs e) (n : Int) (h1 : 1 ≤ n) (h8 : n ≤ 8) (hx : nx bs e n true = (b1, e1, out)) :
    Calls Try.prog 84 #[.pointer (some ⟨g, 0, none⟩), .int .i64 n] w fun r w' => r = .returned (.int .u64 (beVal out)) ∧ RS g w0 w' b1 e1 ∧ w.grownBy w' (some g) := by
  have hd : (decide (1 ≤ n) && decide (n ≤ 8)) = true := by simp [h1, h8]
  have hq := num_any w g bs e n h.rd h.byt (by have := h.len; omega)
  rw [hd, hx] at hq
  obtain ⟨q1, q2, q3, q4⟩ := nx_both hx h.byt
  exact hq.mono fun r w' ⟨er, hr, hg⟩ => ⟨er, ⟨hr, q1, by have := h.len; omega, h.g0, h.bel.grown hg h.bel.size (fun k hk => by injection hk with hk; have := h.g0; omega)⟩, hg⟩
theorem RS.raw {g : Nat} {w0 w : World} {bs b1 out : List Int} {e e1 : Int} (h : RS g w0 w bs e) (n : Int) (t : Bool) (ht : decide (0 ≤ n) = t) (hx : nx bs e n t = (b1, e1, out)) :
    Calls Try.prog 86 #[.pointer (some ⟨g, 0, none⟩), .int .i64 n] w fun r w' => ∃ ao c, r = .returned (.slice ao out.length c) ∧ w'.ownsRow w.heap.size 5 1 (.slice ao out.length c) out.length (out.map (Value.int .u8)) ∧
      RS g w0 w' b1 e1 ∧ w.grownBy w' (some g) := by
  subst ht
  have hq := raw_any w g bs e n h.rd (by have := h.len; omega)
  rw [hx] at hq
  obtain ⟨q1, q2, q3, q4⟩ := nx_both hx h.byt
  exact hq.mono fun r w' ⟨ao, c, er, ho, hr, hg⟩ => ⟨ao, c, er, ho, ⟨hr, q1, by have := h.len; omega, h.g0, h.bel.grown hg h.bel.size (fun k hk => by injection hk with hk; have := h.g0; omega)⟩, hg⟩

end Go.Proofs.Ytnodclijlhoobaa
