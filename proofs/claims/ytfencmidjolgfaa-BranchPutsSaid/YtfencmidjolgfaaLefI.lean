/-
  Layer 4: the contract of entryOf. Own work.
-/
import Derived.Test.YtfencmidjolgfaaLefG
import Derived.Test.YtfencmidjolgfaaLefD
import Derived.Test.YtfencmidjolgfaaLefH
import Derived.Deep.RegionHeld3
namespace Go.Proofs.Ytfencmidjolgfaa
open Go.RowKit

/-- The slice value v is a row of bytes of the call's own. -/
abbrev OwnB (base : Nat) (w : World) (v : Value) (bs : List Int) : Prop := w.ownsRow base 5 1 v bs.length (bs.map (Value.int .u8))
theorem OwnB.seq {base : Nat} {w : World} {v : Value} {bs : List Int} (h : OwnB base w v bs) : Seq w.heap.size w v bs := Seq.owned h
theorem OwnB.nil (base : Nat) (w : World) : OwnB base w (.slice none 0 0) [] := World.ownsRow_nil _ _ _ _
/-- A row of bytes stays, whatever a call writes but for a block of another type. -/
theorem OwnB.far {base q : Nat} {w w' : World} {v : Value} {bs : List Int} {cs : Array Value} {t : TypeId} {f : Nat × Nat} (h : OwnB base w v bs) (k : w.grownBy w' (some q)) (hq : w.heap[q]? = some (.cells cs t f)) (ht : t ≠ 5) : OwnB base w' v bs := by
  refine World.ownsRow.kept h k ?_
  rcases h.2 with ⟨rfl, _⟩ | ⟨g, cap, cur, rfl, _, hh, _⟩
  · exact .inl rfl
  · right
    intro e
    have : g = q := by injection e
    subst this
    rw [hh] at hq
    injection hq with hq
    injection hq with _ h2
    exact ht h2.symm
theorem OwnB.grown {base : Nat} {w w' : World} {v : Value} {bs : List Int} (h : OwnB base w v bs) (k : w.grownBy w' none) : OwnB base w' v bs := World.ownsRow.kept h k (by cases v.ownBlock <;> simp)
theorem OwnB.base {base base' : Nat} {w : World} {v : Value} {bs : List Int} (h : OwnB base w v bs) (k : base' ≤ base) : OwnB base' w v bs := own_base h k

theorem RdAt.tag {w : World} {g : Nat} {bs : List Int} {e : Int} (h : RdAt w g bs e) : ∃ cs, w.heap[g]? = some (.cells cs 135 (0, 0)) := by
  obtain ⟨v, _, hv⟩ := h; exact ⟨_, hv⟩
theorem OwnB.rd {base g : Nat} {w w' : World} {v : Value} {bs xs : List Int} {e : Int} (h : OwnB base w v bs) (k : w.grownBy w' (some g)) (hr : RdAt w g xs e) : OwnB base w' v bs := by
  obtain ⟨cs, hcs⟩ := hr.tag
  exact h.far k hcs (by decide)

/-- What entryOf tells. -/
def EntryR (c : List Int) (w w' : World) (r : Ending) : Prop := ∃ (k v : Value) (x : En) (ok : Bool), r = .returned (.tuple #[.agg (ecs k v x.long x.first), .bool ok]) ∧ (ok = true → EntOk leafY c x) ∧ (ok = false → ∀ y, ¬ EntOk leafY c y) ∧
  OwnB w.heap.size w' k x.key ∧ OwnB w.heap.size w' v x.val ∧ w.grownBy w' none

theorem results_E {fn : Func} {p u : Tmp} (h : fn.results = #[.cell p 43, .tmp u]) (tmps : Array Value) (W : World) (q : Nat) (cs : Array Value) (e : Value) (hp : tmps.getD p undef = .pointer (some ⟨q, 0, none⟩)) (he : tmps.getD u undef = e)
    (hq : W.heap[q]? = some (.cells cs 43 (0, 0))) (hs : cs.size = 4) : (results fn tmps).run Try.prog W = .ok (.tuple #[.agg cs, e]) W := by
  have hld := run_loadVar_row (P := Try.prog) W q 43 43 cs (0, 0) _ hq Try.underlying43 rfl (by rw [hs]; kernel_rfl)
  have hp' : tmps[p]?.getD undef = .pointer (some ⟨q, 0, none⟩) := by simpa using hp
  have he' : tmps[u]?.getD undef = e := by simpa using he
  simp [results, h, hp', he', asAddr, hld]

theorem four_free {w : World} {q : Nat} {a b c d : Value} {t : TypeId} (h : w.heap[q]? = some (.cells #[a, b, c, d] t (0, 0))) :
    w.frozen? ⟨q, 0, none⟩ = false ∧ w.frozen? ⟨q, 1, none⟩ = false ∧ w.frozen? ⟨q, 2, none⟩ = false ∧ w.frozen? ⟨q, 3, none⟩ = false := by
  refine ⟨?_, ?_, ?_, ?_⟩ <;> simp [World.frozen?, h]
theorem set_in {w : World} {q i : Nat} {cs : Array Value} {t : TypeId} {f : Nat × Nat} (u : Value) (h : w.heap[q]? = some (.cells cs t f)) : (w.setCell ⟨q, i, none⟩ u).heap[q]? = some (.cells (cs.setIfInBounds i u) t f) := by
  simp [World.setCell, Array.getElem?_modify, h]
theorem store4 {w : World} {q : Nat} {a b c d : Value} {t : TypeId} (a' b' c' d' : Value) (h : w.heap[q]? = some (.cells #[a, b, c, d] t (0, 0))) :
    ((((w.setCell ⟨q, 0, none⟩ a').setCell ⟨q, 1, none⟩ b').setCell ⟨q, 2, none⟩ c').setCell ⟨q, 3, none⟩ d').heap[q]? = some (.cells #[a', b', c', d'] t (0, 0)) :=
  set_in d' (set_in c' (set_in b' (set_in a' h)))

theorem isFar_g (w : World) (k v : Value) (l f : Int) (b : Bool) (hb : decide (0 < f) = b) :
    Calls Try.prog 50 #[.agg (ecs k v l f)] w fun r w' => r = .returned (.bool b) ∧ w.grownBy w' none := by
  subst hb
  exact (isFar_any w k v l f).mono fun r w' ⟨e, h⟩ => ⟨e, by rw [← h]; exact World.grownBy_alloc _ _ _⟩

/-- What stands while an entry is read: q2 the result's block, q5 the entry's. -/
structure E2 (g q2 q5 : Nat) (w0 w : World) (bs : List Int) (e : Int) (k v : Value) (key val : List Int) (L F : Int) : Prop where
  rs : RS g w0 w bs e
  h2 : w.heap[q2]? = some (.cells (ecs (.slice none 0 0) (.slice none 0 0) 0 0) 43 (0, 0))
  h5 : w.heap[q5]? = some (.cells (ecs k v L F) 43 (0, 0))
  ok : OwnB w0.heap.size w k key
  ov : OwnB w0.heap.size w v val
  g2 : q2 < g
  g5 : g < q5
  q0 : w0.heap.size ≤ q2
theorem E2.move {g q2 q5 : Nat} {w0 w w' : World} {bs bs' : List Int} {e e' : Int} {k v : Value} {key val : List Int} {L F : Int} (h : E2 g q2 q5 w0 w bs e k v key val L F) (hr : RS g w0 w' bs' e') (hg : w.grownBy w' (some g)) : E2 g q2 q5 w0 w' bs' e' k v key val L F :=
  ⟨hr, (hg.block _ (lt_of_block h.h2) (by intro x; injection x with x; have := h.g2; omega)).trans h.h2, (hg.block _ (lt_of_block h.h5) (by intro x; injection x with x; have := h.g5; omega)).trans h.h5,
    h.ok.rd hg h.rs.rd, h.ov.rd hg h.rs.rd, h.g2, h.g5, h.q0⟩
theorem own_set {base : Nat} {w : World} {v : Value} {bs : List Int} {q : Nat} {cs : Array Value} {t : TypeId} {f : Nat × Nat} (h : OwnB base w v bs) (hq : w.heap[q]? = some (.cells cs t f)) (ht : t ≠ 5) (i : Nat) (u : Value) : OwnB base (w.setCell ⟨q, i, none⟩ u) v bs :=
  h.far (gset w ⟨q, i, none⟩ u) hq ht
theorem E2.set {g q2 q5 : Nat} {w0 w : World} {bs : List Int} {e : Int} {k v : Value} {key val : List Int} {L F : Int} (h : E2 g q2 q5 w0 w bs e k v key val L F) (i : Nat) (u : Value) {v' : Value} {val' : List Int} {L' F' : Int}
    (hc : (ecs k v L F).setIfInBounds i u = ecs k v' L' F') (hv : OwnB w0.heap.size w v' val') : E2 g q2 q5 w0 (w.setCell ⟨q5, i, none⟩ u) bs e k v' key val' L' F' :=
  ⟨h.rs.set _ _ h.g5, (Below.heap_setCell _ _ _ _ (by have := h.g2; have := h.g5; show q2 ≠ q5; omega)).trans h.h2, by rw [← hc]; exact set_in u h.h5, own_set h.ok h.h5 (by decide) i u, own_set hv h.h5 (by decide) i u, h.g2, h.g5, h.q0⟩
theorem E2.grown {g q2 q5 : Nat} {w0 w w' : World} {bs : List Int} {e : Int} {k v : Value} {key val : List Int} {L F : Int} (h : E2 g q2 q5 w0 w bs e k v key val L F) (hg : w.grownBy w' none) : E2 g q2 q5 w0 w' bs e k v key val L F :=
  ⟨h.rs.far hg, (hg.block _ (lt_of_block h.h2) (by simp)).trans h.h2, (hg.block _ (lt_of_block h.h5) (by simp)).trans h.h5, h.ok.grown hg, h.ov.grown hg, h.g2, h.g5, h.q0⟩
theorem E2.num {g q2 q5 : Nat} {w0 w : World} {bs b1 out : List Int} {e e1 : Int} {k v : Value} {key val : List Int} {L F : Int} (h : E2 g q2 q5 w0 w bs e k v key val L F) (n : Int) (h1 : 1 ≤ n) (h8 : n ≤ 8) (hx : nx bs e n true = (b1, e1, out)) :
    Calls Try.prog 69 #[.pointer (some ⟨g, 0, none⟩), .int .i64 n] w fun r w' => r = .returned (.int .u64 (beVal out)) ∧ E2 g q2 q5 w0 w' b1 e1 k v key val L F :=
  (h.rs.num n h1 h8 hx).mono fun _ _ ⟨er, hr, hg⟩ => ⟨er, h.move hr hg⟩
theorem E2.raw {g q2 q5 : Nat} {w0 w : World} {bs b1 out : List Int} {e e1 : Int} {k v : Value} {key val : List Int} {L F : Int} (h : E2 g q2 q5 w0 w bs e k v key val L F) (n : Int) (ht : decide (0 ≤ n) = true) (hx : nx bs e n true = (b1, e1, out)) :
    Calls Try.prog 70 #[.pointer (some ⟨g, 0, none⟩), .int .i64 n] w fun r w' => ∃ ao c, r = .returned (.slice ao out.length c) ∧ OwnB w0.heap.size w' (.slice ao out.length c) out ∧ E2 g q2 q5 w0 w' b1 e1 k v key val L F :=
  (h.rs.raw n true ht hx).mono fun _ _ ⟨ao, c, er, ho, hr, hg⟩ => ⟨ao, c, er, OwnB.base ho h.rs.bel.size, h.move hr hg⟩
/-- The result is stored. -/
theorem E2.last {g q2 q5 : Nat} {w0 w : World} {bs : List Int} {e : Int} {k v : Value} {key val : List Int} {L F : Int} (h : E2 g q2 q5 w0 w bs e k v key val L F) {k' v' : Value} {key' val' : List Int} {L' F' : Int} (ok : OwnB w0.heap.size w k' key') (ov : OwnB w0.heap.size w v' val') :
    let W := ((((w.setCell ⟨q2, 0, none⟩ k').setCell ⟨q2, 1, none⟩ v').setCell ⟨q2, 2, none⟩ (.int .i64 L')).setCell ⟨q2, 3, none⟩ (.int .u32 F'))
    W.heap[q2]? = some (.cells (ecs k' v' L' F') 43 (0, 0)) ∧ OwnB w0.heap.size W k' key' ∧ OwnB w0.heap.size W v' val' ∧ w0.grownBy W none := by
  have hq := h.q0
  have s1 := set_in (i := 0) k' h.h2
  have s2 := set_in (i := 1) v' s1
  have s3 := set_in (i := 2) (.int .i64 L') s2
  refine ⟨store4 _ _ _ _ h.h2, own_set (own_set (own_set (own_set ok h.h2 (by decide) _ _) s1 (by decide) _ _) s2 (by decide) _ _) s3 (by decide) _ _,
    own_set (own_set (own_set (own_set ov h.h2 (by decide) _ _) s1 (by decide) _ _) s2 (by decide) _ _) s3 (by decide) _ _, gof ((((h.rs.bel.setCell hq _).setCell hq _).setCell hq _).setCell hq _) none⟩

set_option maxRecDepth 100000 in
set_option maxHeartbeats 8000000 in
theorem entryOf_any (w : World) (B : Nat) (ao : Option Addr) (n c0 : Nat) (c : List Int) (h : Seq B w (.slice ao n c0) c) (hB : B ≤ w.heap.size) (hb : Byt c) (hl : c.length ≤ 140737488355328) :
    Calls Try.prog 52 #[.slice ao n c0] w fun r w' => EntryR c w w' r := by
  obtain ⟨c1, e1, o1, x1⟩ : ∃ a b d, nx c 0 1 true = (a, b, d) := ⟨_, _, _, rfl⟩
  obtain ⟨b1, bo1, _, _⟩ := nx_both x1 hb
  have l1 := nx_outlen x1 (by decide)
  have hK0 := (beVal_bound o1 bo1).1
  have hK1 := beVal_lt o1 bo1 1 (by omega)
  obtain ⟨c2, e2, key, x2⟩ : ∃ a b d, nx c1 e1 (beVal o1) true = (a, b, d) := ⟨_, _, _, rfl⟩
  obtain ⟨b2, bk, _, _⟩ := nx_both x2 b1
  obtain ⟨c3, e3, o3, x3⟩ : ∃ a b d, nx c2 e2 1 true = (a, b, d) := ⟨_, _, _, rfl⟩
  obtain ⟨b3, bo3, _, _⟩ := nx_both x3 b2
  have l3 := nx_outlen x3 (by decide)
  have hW0 := (beVal_bound o3 bo3).1
  have hW1 := beVal_lt o3 bo3 1 (by omega)
  have hdK : decide (0 ≤ beVal o1) = true := by simpa using hK0
  have X1 := Lib.hid x1
  have X3 := Lib.hid x3
  have HDK := Lib.hid hdK
  have HC := Lib.hid hb
  have HL := Lib.hid hl
  have H := Lib.hid (h.below (w' := w.alloc (.cells (ecs (.slice none 0 0) (.slice none 0 0) 0 0) 43)) (fun i hi => Below.heap_alloc _ _ _ (by omega)))
  clear x1 x3 hdK b1 bo1 b2 bk b3 bo3 l1 l3 h hb hl
  obtain ⟨K, hK⟩ : ∃ K, K = beVal o1 := ⟨_, rfl⟩
  obtain ⟨W, hW⟩ : ∃ W, W = beVal o3 := ⟨_, rfl⟩
  rw [← hK] at hK0 hK1 HDK
  rw [← hW] at hW0 hW1
  have X2 := Lib.hid (show nx c1 e1 K true = (c2, e2, key) by rw [hK]; exact x2)
  have HK := Lib.hid hK
  have HW := Lib.hid hW
  clear hK hW x2
  go_enter Try.func52, Try.ntmps52
  go_wp2_with (first
    | (go_at_call 73; refine (newR_any _ B _ c H.out (by simp; omega) (by have := HL.out; omega)).mono ?_; rintro r wr ⟨g, rfl, hgg, hrd, hgr⟩; have hr0 : RS g w wr c 0 := ⟨hrd, HC.out, by have := HL.out; omega, by simp at hgg; omega, gbelow (gtrans (World.grownBy_alloc w (.cells (ecs (.slice none 0 0) (.slice none 0 0) 0 0) 43) none) hgr)⟩; have HR := Lib.hid hr0; have hz : wr.heap[w.heap.size]? = some (.cells (ecs (.slice none 0 0) (.slice none 0 0) 0 0) 43 (0, 0)) := (hgr.block _ (by simp) (by simp)).trans (heap_alloc_new _ _); have HQ := Lib.hid hz; have HGG := Lib.hid (show w.heap.size < g by simp at hgg; omega); clear hr0 hrd hgr hgg hz)
    | (go_at_call 69; have Kc := HR.out.num 1 (by decide) (by decide) X1.out; ((with_reducible refine Kc.mono ?_); clear Kc; rintro r wn ⟨rfl, hs, hg⟩); rw [← HK.out]; have hq := (hg.block _ (lt_of_block HQ.out) (by have := HGG.out; intro e; injection e with e; omega)).trans HQ.out; have HR1 := Lib.hid hs; have HQ1 := Lib.hid hq; clear hs hq hg)
    | (go_at_call 70; have Kc := HR1.out.raw K true HDK.out X2.out; ((with_reducible refine Kc.mono ?_); clear Kc; rintro r wn ⟨ak, ck, rfl, ho, hs, hg⟩); have hq := (hg.block _ (lt_of_block HQ1.out) (by have := HGG.out; intro e; injection e with e; omega)).trans HQ1.out; have HR2 := Lib.hid hs; have HQ2 := Lib.hid hq; have HO2 := Lib.hid (OwnB.base ho HR1.out.bel.size); clear hs hq hg ho))
  have hE : E2 g w.heap.size wn.heap.size w (wn.alloc (.cells (ecs (.slice ak key.length ck) (.slice none 0 0) 0 0) 43)) c2 e2 (.slice ak key.length ck) (.slice none 0 0) key [] 0 0 := by
    have hg := World.grownBy_alloc wn (.cells (ecs (.slice ak key.length ck) (.slice none 0 0) 0 0) 43) none
    exact ⟨HR2.out.far hg, (hg.block _ (lt_of_block HQ2.out) (by simp)).trans HQ2.out, heap_alloc_new _ _, HO2.out.grown hg, OwnB.nil _ _, HGG.out, HR2.out.rd.lt, Nat.le_refl _⟩
  have HE := Lib.hid hE
  clear hE HR2 HQ2 HO2 HGG H HDK
  generalize wn.alloc (.cells (ecs (.slice ak key.length ck) (.slice none 0 0) 0 0) 43) = wa at *
  generalize wn.heap.size = q5 at *
  by_cases hw0 : W = 0
  · subst hw0
    obtain ⟨c4, e4, o4, x4⟩ : ∃ a b d, nx c3 e3 2 true = (a, b, d) := ⟨_, _, _, rfl⟩
    obtain ⟨b1, bo1, _, _⟩ := nx_both X1.out HC.out
    obtain ⟨b2, bk, _, _⟩ := nx_both X2.out b1
    obtain ⟨b3, bo3, _, _⟩ := nx_both X3.out b2
    obtain ⟨b4, bo4, _, _⟩ := nx_both x4 b3
    have l4 := nx_outlen x4 (by decide)
    have hV0 := (beVal_bound o4 bo4).1
    have hV1 := beVal_lt o4 bo4 2 (by omega)
    obtain ⟨V, hV⟩ : ∃ V, V = beVal o4 := ⟨_, rfl⟩
    rw [← hV] at hV0 hV1
    obtain ⟨c5, e5, val, x5⟩ : ∃ a b d, nx c4 e4 V true = (a, b, d) := ⟨_, _, _, rfl⟩
    have hdV : decide (0 ≤ V) = true := by simpa using hV0
    have HEND := Lib.hid (ent_here X1.out (show nx c1 e1 (beVal o1) true = (c2, e2, key) by rw [← HK.out]; exact X2.out) X3.out HW.out.symm x4 (show nx c4 e4 (beVal o4) true = (c5, e5, val) by rw [← hV]; exact x5) HC.out)
    have X4 := Lib.hid x4
    have X5 := Lib.hid x5
    have HV := Lib.hid hV
    have HDV := Lib.hid hdV
    clear b1 bo1 b2 bk b3 bo3 b4 bo4 l4 x4 x5 hV hdV
    obtain ⟨E, hEe⟩ : ∃ E, E = endOf c5 e5 := ⟨_, rfl⟩
    rw [← hEe] at HEND
    have HEe := Lib.hid hEe
    clear hEe
    by_cases hE0 : E = 0
    · subst hE0
      have HG := Lib.hid (HEND.out.1 rfl)
      clear HEND
      go_wp2_with (first
        | (go_at_call 69; have Kc := HE.out.num 1 (by decide) (by decide) X3.out; ((with_reducible refine Kc.mono ?_); clear Kc; rintro r wb ⟨rfl, hs⟩); rw [← HW.out]; have HE3 := Lib.hid hs; clear hs)
        | (go_at_call 69; have Kc := HE3.out.num 2 (by decide) (by decide) X4.out; ((with_reducible refine Kc.mono ?_); clear Kc; rintro r wc ⟨rfl, hs⟩); rw [← HV.out]; have HE4 := Lib.hid hs; clear hs)
        | (go_at_call 70; have Kc := HE4.out.raw V HDV.out X5.out; ((with_reducible refine Kc.mono ?_); clear Kc; rintro r wd ⟨av, cv, rfl, ho, hs⟩); have HE5 := Lib.hid (hs.set 1 (.slice av val.length cv) (v' := .slice av val.length cv) (val' := val) (L' := 0) (F' := 0) rfl ho); obtain ⟨y0, y1, y2, y3⟩ := four_cells hs.h5; obtain ⟨f0, f1, f2, f3⟩ := four_free hs.h5; clear hs ho))
      generalize wd.setCell ⟨q5, 1, none⟩ (.slice av val.length cv) = we at *
      obtain ⟨t0, t1, t2, t3⟩ := four_cells HE5.out.h5
      obtain ⟨s0, s1, s2, s3⟩ := four_cells HE5.out.h2
      obtain ⟨g0, g1, g2, g3⟩ := four_free HE5.out.h2
      clear y0 y1 y2 y3 f0 f1 f2 f3
      have HRD := Lib.hid (show RdAt we.drew g c5 e5 from HE5.out.rs.rd.kept (fun _ _ => rfl))
      go_region_law (first
        | (go_simp; go_at_call 74; refine (end_any _ g c5 e5 HRD.out).mono ?_; rw [← HEe.out]; rintro r wb ⟨rfl, rfl⟩)
        | (go_simp; go_at_call 50; refine (isFar_g we.drew _ _ _ _ false (by decide)).mono ?_; rintro r wb ⟨rfl, hgb⟩; have HE6 := Lib.hid (HE5.out.grown (gtrans (gdrew we) hgb)); clear hgb; obtain ⟨y0, y1, y2, y3⟩ := four_cells HE6.out.h5; obtain ⟨p0, p1, p2, p3⟩ := four_cells HE6.out.h2; obtain ⟨f0, f1, f2, f3⟩ := four_free HE6.out.h2))
      all_goals
        go_wp2
        have HLa := HE6.out.last (L' := 0) (F' := 0) HE6.out.ok HE6.out.ov
        exact bodyPost_ret (results_E rfl _ _ w.heap.size _ _ rfl rfl HLa.1 rfl) rfl ⟨_, _, ⟨key, val, 0, 0⟩, true, rfl, fun _ => HG.out, (fun h => by cases h), HLa.2.1, HLa.2.2.1, HLa.2.2.2⟩
    · have hEb : (E == 0) = false := by simpa using hE0
      have HBd := Lib.hid (HEND.out.2 hE0)
      clear HEND
      go_wp2_with (first
        | (go_at_call 69; have Kc := HE.out.num 1 (by decide) (by decide) X3.out; ((with_reducible refine Kc.mono ?_); clear Kc; rintro r wb ⟨rfl, hs⟩); rw [← HW.out]; have HE3 := Lib.hid hs; clear hs)
        | (go_at_call 69; have Kc := HE3.out.num 2 (by decide) (by decide) X4.out; ((with_reducible refine Kc.mono ?_); clear Kc; rintro r wc ⟨rfl, hs⟩); rw [← HV.out]; have HE4 := Lib.hid hs; clear hs)
        | (go_at_call 70; have Kc := HE4.out.raw V HDV.out X5.out; ((with_reducible refine Kc.mono ?_); clear Kc; rintro r wd ⟨av, cv, rfl, ho, hs⟩); have HE5 := Lib.hid (hs.set 1 (.slice av val.length cv) (v' := .slice av val.length cv) (val' := val) (L' := 0) (F' := 0) rfl ho); obtain ⟨y0, y1, y2, y3⟩ := four_cells hs.h5; obtain ⟨f0, f1, f2, f3⟩ := four_free hs.h5; clear hs ho))
      generalize wd.setCell ⟨q5, 1, none⟩ (.slice av val.length cv) = we at *
      obtain ⟨t0, t1, t2, t3⟩ := four_cells HE5.out.h5
      obtain ⟨s0, s1, s2, s3⟩ := four_cells HE5.out.h2
      obtain ⟨g0, g1, g2, g3⟩ := four_free HE5.out.h2
      clear y0 y1 y2 y3 f0 f1 f2 f3
      have HRD := Lib.hid (show RdAt we.drew g c5 e5 from HE5.out.rs.rd.kept (fun _ _ => rfl))
      refine wp_region_any (by kernel_rfl) ?_
      change wpAny _ _ _ _ _ _ _ (World.drew _)
      refine wpAny_take (i := 1) (v := .pointer (some ⟨g, 0, none⟩)) rfl (by kernel_rfl) (by kernel_rfl) (by kernel_rfl) (fun _ _ _ h => h) (Or.inl ⟨by rfl, fun w => (by go_simp)⟩) ?_
      change wpAny _ _ _ _ _ _ ⟨#[_, _, _, _, _, _, _, _, _, _, _, _, _, _, _, _, _, _, _, _, _, _, _, _, _, _, _, _, _, _, _, _, _, _, _, _, _, _, _, _, _, _, _, _, _, _, _, _], []⟩ _
      refine wpAny_ready (rs := [0, 2]) (by kernel_rfl) (by simp) ?_
      refine AllReady.cons rfl (fun K hK => ?_) (AllReady.cons rfl (fun K hK => ?_) AllReady.nil)
      · go_simp
        refine hK _ _ ?_; clear hK K
        refine wpAny_ready (rs := [2]) (by kernel_rfl) (by simp) ?_
        refine AllReady.cons rfl (fun K hK => ?_) AllReady.nil
        go_simp
        go_at_call 74; refine (end_any _ g c5 e5 HRD.out).mono ?_; rw [← HEe.out]; rintro r wb ⟨rfl, rfl⟩
        refine hK _ _ ?_; clear hK K
        refine wpAny_take (i := 3) (v := .bool false) rfl (by kernel_rfl) (by kernel_rfl) (by kernel_rfl) (fun _ _ _ h => h) (Or.inl ⟨by rfl, fun w => (by go_simp)⟩) ?_
        change wpAny _ _ _ _ _ _ ⟨#[_, _, _, _, _, _, _, _, _, _, _, _, _, _, _, _, _, _, _, _, _, _, _, _, _, _, _, _, _, _, _, _, _, _, _, _, _, _, _, _, _, _, _, _, _, _, _, _], []⟩ _
        refine wpAny_take (i := 4) (v := .bool false) rfl (by kernel_rfl) (by kernel_rfl) (by kernel_rfl) (fun _ _ _ h => h) (Or.inl ⟨by rfl, fun w => (by go_simp)⟩) ?_
        change wpAny _ _ _ _ _ _ ⟨#[_, _, _, _, _, _, _, _, _, _, _, _, _, _, _, _, _, _, _, _, _, _, _, _, _, _, _, _, _, _, _, _, _, _, _, _, _, _, _, _, _, _, _, _, _, _, _, _], []⟩ _
        refine wpAny_take (i := 5) (v := undef) rfl (by kernel_rfl) (by kernel_rfl) (by kernel_rfl) (fun _ _ _ h => h) (Or.inr ⟨by rfl, rfl⟩) ?_
        change wpAny _ _ _ _ _ _ ⟨#[_, _, _, _, _, _, _, _, _, _, _, _, _, _, _, _, _, _, _, _, _, _, _, _, _, _, _, _, _, _, _, _, _, _, _, _, _, _, _, _, _, _, _, _, _, _, _, _], []⟩ _
        refine wpAny_take (i := 6) (v := undef) rfl (by kernel_rfl) (by kernel_rfl) (by kernel_rfl) (fun _ _ _ h => h) (Or.inr ⟨by rfl, rfl⟩) ?_
        change wpAny _ _ _ _ _ _ ⟨#[_, _, _, _, _, _, _, _, _, _, _, _, _, _, _, _, _, _, _, _, _, _, _, _, _, _, _, _, _, _, _, _, _, _, _, _, _, _, _, _, _, _, _, _, _, _, _, _], []⟩ _
        refine wpAny_take (i := 7) (v := undef) rfl (by kernel_rfl) (by kernel_rfl) (by kernel_rfl) (fun _ _ _ h => h) (Or.inr ⟨by rfl, rfl⟩) ?_
        change wpAny _ _ _ _ _ _ ⟨#[_, _, _, _, _, _, _, _, _, _, _, _, _, _, _, _, _, _, _, _, _, _, _, _, _, _, _, _, _, _, _, _, _, _, _, _, _, _, _, _, _, _, _, _, _, _, _, _], []⟩ _
        refine wpAny_take (i := 8) (v := undef) rfl (by kernel_rfl) (by kernel_rfl) (by kernel_rfl) (fun _ _ _ h => h) (Or.inr ⟨by rfl, rfl⟩) ?_
        change wpAny _ _ _ _ _ _ ⟨#[_, _, _, _, _, _, _, _, _, _, _, _, _, _, _, _, _, _, _, _, _, _, _, _, _, _, _, _, _, _, _, _, _, _, _, _, _, _, _, _, _, _, _, _, _, _, _, _], []⟩ _
        refine wpAny_take (i := 9) (v := undef) rfl (by kernel_rfl) (by kernel_rfl) (by kernel_rfl) (fun _ _ _ h => h) (Or.inr ⟨by rfl, rfl⟩) ?_
        change wpAny _ _ _ _ _ _ ⟨#[_, _, _, _, _, _, _, _, _, _, _, _, _, _, _, _, _, _, _, _, _, _, _, _, _, _, _, _, _, _, _, _, _, _, _, _, _, _, _, _, _, _, _, _, _, _, _, _], []⟩ _
        refine wpAny_take (i := 10) (v := .bool false) rfl (by kernel_rfl) (by kernel_rfl) (by kernel_rfl) (fun _ _ _ h => h) (Or.inl ⟨by rfl, fun w => (by go_simp)⟩) ?_
        change wpAny _ _ _ _ _ _ ⟨#[_, _, _, _, _, _, _, _, _, _, _, _, _, _, _, _, _, _, _, _, _, _, _, _, _, _, _, _, _, _, _, _, _, _, _, _, _, _, _, _, _, _, _, _, _, _, _, _], []⟩ _
        refine wpAny_ready (rs := [11]) (by kernel_rfl) (by simp) ?_
        refine AllReady.cons rfl (fun K hK => ?_) AllReady.nil
        go_simp
        refine hK _ _ ?_; clear hK K
        refine wpAny_take (i := 12) (v := .bool false) rfl (by kernel_rfl) (by kernel_rfl) (by kernel_rfl) (fun _ _ _ h => h) (Or.inl ⟨by rfl, fun w => (by go_simp)⟩) ?_
        change wpAny _ _ _ _ _ _ ⟨#[_, _, _, _, _, _, _, _, _, _, _, _, _, _, _, _, _, _, _, _, _, _, _, _, _, _, _, _, _, _, _, _, _, _, _, _, _, _, _, _, _, _, _, _, _, _, _, _], []⟩ _
        refine wpAny_done (by kernel_rfl) ?_ _
        go_wp2
        have HLa := (HE5.out.grown (gdrew we)).last (L' := 0) (F' := 0) (HE5.out.grown (gdrew we)).ok (HE5.out.grown (gdrew we)).ov
        exact bodyPost_ret (results_E rfl _ _ w.heap.size _ _ rfl rfl HLa.1 rfl) rfl ⟨_, _, ⟨key, val, 0, 0⟩, false, rfl, (fun h => by cases h), fun _ => HBd.out, HLa.2.1, HLa.2.2.1, HLa.2.2.2⟩
      · go_simp
        go_at_call 74; refine (end_any _ g c5 e5 HRD.out).mono ?_; rw [← HEe.out]; rintro r wb ⟨rfl, rfl⟩
        refine hK _ _ ?_; clear hK K
        refine wpAny_take (i := 3) (v := .bool false) rfl (by kernel_rfl) (by kernel_rfl) (by kernel_rfl) (fun _ _ _ h => h) (Or.inl ⟨by rfl, fun w => (by go_simp)⟩) ?_
        change wpAny _ _ _ _ _ _ ⟨#[_, _, _, _, _, _, _, _, _, _, _, _, _, _, _, _, _, _, _, _, _, _, _, _, _, _, _, _, _, _, _, _, _, _, _, _, _, _, _, _, _, _, _, _, _, _, _, _], []⟩ _
        refine wpAny_take (i := 4) (v := .bool false) rfl (by kernel_rfl) (by kernel_rfl) (by kernel_rfl) (fun _ _ _ h => h) (Or.inl ⟨by rfl, fun w => (by go_simp)⟩) ?_
        change wpAny _ _ _ _ _ _ ⟨#[_, _, _, _, _, _, _, _, _, _, _, _, _, _, _, _, _, _, _, _, _, _, _, _, _, _, _, _, _, _, _, _, _, _, _, _, _, _, _, _, _, _, _, _, _, _, _, _], []⟩ _
        refine wpAny_take (i := 5) (v := undef) rfl (by kernel_rfl) (by kernel_rfl) (by kernel_rfl) (fun _ _ _ h => h) (Or.inr ⟨by rfl, rfl⟩) ?_
        change wpAny _ _ _ _ _ _ ⟨#[_, _, _, _, _, _, _, _, _, _, _, _, _, _, _, _, _, _, _, _, _, _, _, _, _, _, _, _, _, _, _, _, _, _, _, _, _, _, _, _, _, _, _, _, _, _, _, _], []⟩ _
        refine wpAny_take (i := 6) (v := undef) rfl (by kernel_rfl) (by kernel_rfl) (by kernel_rfl) (fun _ _ _ h => h) (Or.inr ⟨by rfl, rfl⟩) ?_
        change wpAny _ _ _ _ _ _ ⟨#[_, _, _, _, _, _, _, _, _, _, _, _, _, _, _, _, _, _, _, _, _, _, _, _, _, _, _, _, _, _, _, _, _, _, _, _, _, _, _, _, _, _, _, _, _, _, _, _], []⟩ _
        refine wpAny_take (i := 7) (v := undef) rfl (by kernel_rfl) (by kernel_rfl) (by kernel_rfl) (fun _ _ _ h => h) (Or.inr ⟨by rfl, rfl⟩) ?_
        change wpAny _ _ _ _ _ _ ⟨#[_, _, _, _, _, _, _, _, _, _, _, _, _, _, _, _, _, _, _, _, _, _, _, _, _, _, _, _, _, _, _, _, _, _, _, _, _, _, _, _, _, _, _, _, _, _, _, _], []⟩ _
        refine wpAny_take (i := 8) (v := undef) rfl (by kernel_rfl) (by kernel_rfl) (by kernel_rfl) (fun _ _ _ h => h) (Or.inr ⟨by rfl, rfl⟩) ?_
        change wpAny _ _ _ _ _ _ ⟨#[_, _, _, _, _, _, _, _, _, _, _, _, _, _, _, _, _, _, _, _, _, _, _, _, _, _, _, _, _, _, _, _, _, _, _, _, _, _, _, _, _, _, _, _, _, _, _, _], []⟩ _
        refine wpAny_take (i := 9) (v := undef) rfl (by kernel_rfl) (by kernel_rfl) (by kernel_rfl) (fun _ _ _ h => h) (Or.inr ⟨by rfl, rfl⟩) ?_
        change wpAny _ _ _ _ _ _ ⟨#[_, _, _, _, _, _, _, _, _, _, _, _, _, _, _, _, _, _, _, _, _, _, _, _, _, _, _, _, _, _, _, _, _, _, _, _, _, _, _, _, _, _, _, _, _, _, _, _], []⟩ _
        refine wpAny_take (i := 10) (v := .bool false) rfl (by kernel_rfl) (by kernel_rfl) (by kernel_rfl) (fun _ _ _ h => h) (Or.inl ⟨by rfl, fun w => (by go_simp)⟩) ?_
        change wpAny _ _ _ _ _ _ ⟨#[_, _, _, _, _, _, _, _, _, _, _, _, _, _, _, _, _, _, _, _, _, _, _, _, _, _, _, _, _, _, _, _, _, _, _, _, _, _, _, _, _, _, _, _, _, _, _, _], []⟩ _
        refine wpAny_ready (rs := [0]) (by kernel_rfl) (by simp) ?_
        refine AllReady.cons rfl (fun K hK => ?_) AllReady.nil
        go_simp
        refine hK _ _ ?_; clear hK K
        refine wpAny_ready (rs := [11]) (by kernel_rfl) (by simp) ?_
        refine AllReady.cons rfl (fun K hK => ?_) AllReady.nil
        go_simp
        refine hK _ _ ?_; clear hK K
        refine wpAny_take (i := 12) (v := .bool false) rfl (by kernel_rfl) (by kernel_rfl) (by kernel_rfl) (fun _ _ _ h => h) (Or.inl ⟨by rfl, fun w => (by go_simp)⟩) ?_
        change wpAny _ _ _ _ _ _ ⟨#[_, _, _, _, _, _, _, _, _, _, _, _, _, _, _, _, _, _, _, _, _, _, _, _, _, _, _, _, _, _, _, _, _, _, _, _, _, _, _, _, _, _, _, _, _, _, _, _], []⟩ _
        refine wpAny_done (by kernel_rfl) ?_ _
        go_wp2
        have HLa := (HE5.out.grown (gdrew we)).last (L' := 0) (F' := 0) (HE5.out.grown (gdrew we)).ok (HE5.out.grown (gdrew we)).ov
        exact bodyPost_ret (results_E rfl _ _ w.heap.size _ _ rfl rfl HLa.1 rfl) rfl ⟨_, _, ⟨key, val, 0, 0⟩, false, rfl, (fun h => by cases h), fun _ => HBd.out, HLa.2.1, HLa.2.2.1, HLa.2.2.2⟩
  · by_cases hw1 : W = 1
    · subst hw1
      obtain ⟨c4, e4, o4, x4⟩ : ∃ a b d, nx c3 e3 4 true = (a, b, d) := ⟨_, _, _, rfl⟩
      obtain ⟨c5, e5, o5, x5⟩ : ∃ a b d, nx c4 e4 4 true = (a, b, d) := ⟨_, _, _, rfl⟩
      obtain ⟨b1, bo1, _, _⟩ := nx_both X1.out HC.out
      obtain ⟨b2, bk, _, _⟩ := nx_both X2.out b1
      obtain ⟨b3, bo3, _, _⟩ := nx_both X3.out b2
      obtain ⟨b4, bo4, _, _⟩ := nx_both x4 b3
      obtain ⟨b5, bo5, _, _⟩ := nx_both x5 b4
      have l4 := nx_outlen x4 (by decide)
      have l5 := nx_outlen x5 (by decide)
      have hL0 := (beVal_bound o4 bo4).1
      have hL1 := beVal_lt o4 bo4 4 (by omega)
      have hF0 := (beVal_bound o5 bo5).1
      have hF1 := beVal_lt o5 bo5 4 (by omega)
      have HEND := Lib.hid (ent_far X1.out (show nx c1 e1 (beVal o1) true = (c2, e2, key) by rw [← HK.out]; exact X2.out) X3.out HW.out.symm x4 x5 HC.out)
      obtain ⟨L, hL⟩ : ∃ L, L = beVal o4 := ⟨_, rfl⟩
      obtain ⟨F, hF⟩ : ∃ F, F = beVal o5 := ⟨_, rfl⟩
      rw [← hL] at hL0 hL1
      rw [← hF] at hF0 hF1
      rw [← hL, ← hF] at HEND
      have X4 := Lib.hid x4
      have X5 := Lib.hid x5
      have HLv := Lib.hid hL
      have HFv := Lib.hid hF
      clear b1 bo1 b2 bk b3 bo3 b4 bo4 b5 bo5 l4 l5 x4 x5 hL hF
      have hL2 : L < 4294967296 := by simpa using hL1
      have hF2 : F < 4294967296 := by simpa using hF1
      clear hL1 hF1
      obtain ⟨E, hEe⟩ : ∃ E, E = endOf c5 e5 := ⟨_, rfl⟩
      rw [← hEe] at HEND
      have HEe := Lib.hid hEe
      clear hEe
      by_cases hE0 : E = 0
      · subst hE0
        by_cases hFp : 0 < F
        · have HG := Lib.hid (HEND.out.1 rfl hFp)
          clear HEND
          go_wp2_with (first
            | (go_at_call 69; have Kc := HE.out.num 1 (by decide) (by decide) X3.out; ((with_reducible refine Kc.mono ?_); clear Kc; rintro r wb ⟨rfl, hs⟩); rw [← HW.out]; have HE3 := Lib.hid hs; clear hs)
            | (go_at_call 69; have Kc := HE3.out.num 4 (by decide) (by decide) X4.out; ((with_reducible refine Kc.mono ?_); clear Kc; rintro r wc ⟨rfl, hs⟩); rw [← HLv.out]; have HE4 := Lib.hid (hs.set 2 (.int .i64 L) (L' := L) (F' := 0) rfl hs.ov); obtain ⟨y0, y1, y2, y3⟩ := four_cells hs.h5; obtain ⟨f0, f1, f2, f3⟩ := four_free hs.h5; clear hs)
            | (go_at_call 69; have Kc := HE4.out.num 4 (by decide) (by decide) X5.out; ((with_reducible refine Kc.mono ?_); clear Kc; rintro r wd ⟨rfl, hs⟩); rw [← HFv.out]; have HE5 := Lib.hid (hs.set 3 (.int .u32 F) (L' := L) (F' := F) rfl hs.ov); clear y0 y1 y2 y3 f0 f1 f2 f3; obtain ⟨y0, y1, y2, y3⟩ := four_cells hs.h5; obtain ⟨f0, f1, f2, f3⟩ := four_free hs.h5; clear hs))
          generalize wd.setCell ⟨q5, 3, none⟩ (.int .u32 F) = we at *
          obtain ⟨t0, t1, t2, t3⟩ := four_cells HE5.out.h5
          obtain ⟨s0, s1, s2, s3⟩ := four_cells HE5.out.h2
          obtain ⟨g0, g1, g2, g3⟩ := four_free HE5.out.h2
          clear y0 y1 y2 y3 f0 f1 f2 f3
          have HRD := Lib.hid (show RdAt we.drew g c5 e5 from HE5.out.rs.rd.kept (fun _ _ => rfl))
          go_region_law (first
            | (go_simp; go_at_call 74; refine (end_any _ g c5 e5 HRD.out).mono ?_; rw [← HEe.out]; rintro r wb ⟨rfl, rfl⟩)
            | (go_simp; go_at_call 50; refine (isFar_g we.drew _ _ _ _ true (by simpa using hFp)).mono ?_; rintro r wb ⟨rfl, hgb⟩; have HE6 := Lib.hid (HE5.out.grown (gtrans (gdrew we) hgb)); clear hgb; obtain ⟨y0, y1, y2, y3⟩ := four_cells HE6.out.h5; obtain ⟨p0, p1, p2, p3⟩ := four_cells HE6.out.h2; obtain ⟨f0, f1, f2, f3⟩ := four_free HE6.out.h2))
          all_goals
            go_wp2
            have HLa := HE6.out.last (L' := L) (F' := F) HE6.out.ok HE6.out.ov
            exact bodyPost_ret (results_E rfl _ _ w.heap.size _ _ rfl rfl HLa.1 rfl) rfl ⟨_, _, ⟨key, [], L, F⟩, true, rfl, fun _ => HG.out, (fun h => by cases h), HLa.2.1, HLa.2.2.1, HLa.2.2.2⟩
        · have hFd : decide (0 < F) = false := by simpa using hFp
          have HBd := Lib.hid (HEND.out.2 (fun h => hFp h.2))
          clear HEND
          go_wp2_with (first
            | (go_at_call 69; have Kc := HE.out.num 1 (by decide) (by decide) X3.out; ((with_reducible refine Kc.mono ?_); clear Kc; rintro r wb ⟨rfl, hs⟩); rw [← HW.out]; have HE3 := Lib.hid hs; clear hs)
            | (go_at_call 69; have Kc := HE3.out.num 4 (by decide) (by decide) X4.out; ((with_reducible refine Kc.mono ?_); clear Kc; rintro r wc ⟨rfl, hs⟩); rw [← HLv.out]; have HE4 := Lib.hid (hs.set 2 (.int .i64 L) (L' := L) (F' := 0) rfl hs.ov); obtain ⟨y0, y1, y2, y3⟩ := four_cells hs.h5; obtain ⟨f0, f1, f2, f3⟩ := four_free hs.h5; clear hs)
            | (go_at_call 69; have Kc := HE4.out.num 4 (by decide) (by decide) X5.out; ((with_reducible refine Kc.mono ?_); clear Kc; rintro r wd ⟨rfl, hs⟩); rw [← HFv.out]; have HE5 := Lib.hid (hs.set 3 (.int .u32 F) (L' := L) (F' := F) rfl hs.ov); clear y0 y1 y2 y3 f0 f1 f2 f3; obtain ⟨y0, y1, y2, y3⟩ := four_cells hs.h5; obtain ⟨f0, f1, f2, f3⟩ := four_free hs.h5; clear hs))
          generalize wd.setCell ⟨q5, 3, none⟩ (.int .u32 F) = we at *
          obtain ⟨t0, t1, t2, t3⟩ := four_cells HE5.out.h5
          obtain ⟨s0, s1, s2, s3⟩ := four_cells HE5.out.h2
          obtain ⟨g0, g1, g2, g3⟩ := four_free HE5.out.h2
          clear y0 y1 y2 y3 f0 f1 f2 f3
          have HRD := Lib.hid (show RdAt we.drew g c5 e5 from HE5.out.rs.rd.kept (fun _ _ => rfl))
          go_region_law (first
            | (go_simp; go_at_call 74; refine (end_any _ g c5 e5 HRD.out).mono ?_; rw [← HEe.out]; rintro r wb ⟨rfl, rfl⟩)
            | (go_simp; go_at_call 50; refine (isFar_g we.drew _ _ _ _ false hFd).mono ?_; rintro r wb ⟨rfl, hgb⟩; have HE6 := Lib.hid (HE5.out.grown (gtrans (gdrew we) hgb)); clear hgb; obtain ⟨y0, y1, y2, y3⟩ := four_cells HE6.out.h5; obtain ⟨p0, p1, p2, p3⟩ := four_cells HE6.out.h2; obtain ⟨f0, f1, f2, f3⟩ := four_free HE6.out.h2))
          all_goals
            go_wp2
            have HLa := HE6.out.last (L' := L) (F' := F) HE6.out.ok HE6.out.ov
            exact bodyPost_ret (results_E rfl _ _ w.heap.size _ _ rfl rfl HLa.1 rfl) rfl ⟨_, _, ⟨key, [], L, F⟩, false, rfl, (fun h => by cases h), fun _ => HBd.out, HLa.2.1, HLa.2.2.1, HLa.2.2.2⟩
      · have hEb : (E == 0) = false := by simpa using hE0
        have HBd := Lib.hid (HEND.out.2 (fun h => hE0 h.1))
        clear HEND
        go_wp2_with (first
          | (go_at_call 69; have Kc := HE.out.num 1 (by decide) (by decide) X3.out; ((with_reducible refine Kc.mono ?_); clear Kc; rintro r wb ⟨rfl, hs⟩); rw [← HW.out]; have HE3 := Lib.hid hs; clear hs)
          | (go_at_call 69; have Kc := HE3.out.num 4 (by decide) (by decide) X4.out; ((with_reducible refine Kc.mono ?_); clear Kc; rintro r wc ⟨rfl, hs⟩); rw [← HLv.out]; have HE4 := Lib.hid (hs.set 2 (.int .i64 L) (L' := L) (F' := 0) rfl hs.ov); obtain ⟨y0, y1, y2, y3⟩ := four_cells hs.h5; obtain ⟨f0, f1, f2, f3⟩ := four_free hs.h5; clear hs)
          | (go_at_call 69; have Kc := HE4.out.num 4 (by decide) (by decide) X5.out; ((with_reducible refine Kc.mono ?_); clear Kc; rintro r wd ⟨rfl, hs⟩); rw [← HFv.out]; have HE5 := Lib.hid (hs.set 3 (.int .u32 F) (L' := L) (F' := F) rfl hs.ov); clear y0 y1 y2 y3 f0 f1 f2 f3; obtain ⟨y0, y1, y2, y3⟩ := four_cells hs.h5; obtain ⟨f0, f1, f2, f3⟩ := four_free hs.h5; clear hs))
        generalize wd.setCell ⟨q5, 3, none⟩ (.int .u32 F) = we at *
        obtain ⟨t0, t1, t2, t3⟩ := four_cells HE5.out.h5
        obtain ⟨s0, s1, s2, s3⟩ := four_cells HE5.out.h2
        obtain ⟨g0, g1, g2, g3⟩ := four_free HE5.out.h2
        clear y0 y1 y2 y3 f0 f1 f2 f3
        have HRD := Lib.hid (show RdAt we.drew g c5 e5 from HE5.out.rs.rd.kept (fun _ _ => rfl))
        refine wp_region_any (by kernel_rfl) ?_
        change wpAny _ _ _ _ _ _ _ (World.drew _)
        refine wpAny_take (i := 1) (v := .pointer (some ⟨g, 0, none⟩)) rfl (by kernel_rfl) (by kernel_rfl) (by kernel_rfl) (fun _ _ _ h => h) (Or.inl ⟨by rfl, fun w => (by go_simp)⟩) ?_
        change wpAny _ _ _ _ _ _ ⟨#[_, _, _, _, _, _, _, _, _, _, _, _, _, _, _, _, _, _, _, _, _, _, _, _, _, _, _, _, _, _, _, _, _, _, _, _, _, _, _, _, _, _, _, _, _, _, _, _], []⟩ _
        refine wpAny_ready (rs := [0, 2]) (by kernel_rfl) (by simp) ?_
        refine AllReady.cons rfl (fun K hK => ?_) (AllReady.cons rfl (fun K hK => ?_) AllReady.nil)
        · go_simp
          refine hK _ _ ?_; clear hK K
          refine wpAny_ready (rs := [2]) (by kernel_rfl) (by simp) ?_
          refine AllReady.cons rfl (fun K hK => ?_) AllReady.nil
          go_simp
          go_at_call 74; refine (end_any _ g c5 e5 HRD.out).mono ?_; rw [← HEe.out]; rintro r wb ⟨rfl, rfl⟩
          refine hK _ _ ?_; clear hK K
          refine wpAny_take (i := 3) (v := .bool false) rfl (by kernel_rfl) (by kernel_rfl) (by kernel_rfl) (fun _ _ _ h => h) (Or.inl ⟨by rfl, fun w => (by go_simp)⟩) ?_
          change wpAny _ _ _ _ _ _ ⟨#[_, _, _, _, _, _, _, _, _, _, _, _, _, _, _, _, _, _, _, _, _, _, _, _, _, _, _, _, _, _, _, _, _, _, _, _, _, _, _, _, _, _, _, _, _, _, _, _], []⟩ _
          refine wpAny_take (i := 4) (v := .bool false) rfl (by kernel_rfl) (by kernel_rfl) (by kernel_rfl) (fun _ _ _ h => h) (Or.inl ⟨by rfl, fun w => (by go_simp)⟩) ?_
          change wpAny _ _ _ _ _ _ ⟨#[_, _, _, _, _, _, _, _, _, _, _, _, _, _, _, _, _, _, _, _, _, _, _, _, _, _, _, _, _, _, _, _, _, _, _, _, _, _, _, _, _, _, _, _, _, _, _, _], []⟩ _
          refine wpAny_take (i := 5) (v := undef) rfl (by kernel_rfl) (by kernel_rfl) (by kernel_rfl) (fun _ _ _ h => h) (Or.inr ⟨by rfl, rfl⟩) ?_
          change wpAny _ _ _ _ _ _ ⟨#[_, _, _, _, _, _, _, _, _, _, _, _, _, _, _, _, _, _, _, _, _, _, _, _, _, _, _, _, _, _, _, _, _, _, _, _, _, _, _, _, _, _, _, _, _, _, _, _], []⟩ _
          refine wpAny_take (i := 6) (v := undef) rfl (by kernel_rfl) (by kernel_rfl) (by kernel_rfl) (fun _ _ _ h => h) (Or.inr ⟨by rfl, rfl⟩) ?_
          change wpAny _ _ _ _ _ _ ⟨#[_, _, _, _, _, _, _, _, _, _, _, _, _, _, _, _, _, _, _, _, _, _, _, _, _, _, _, _, _, _, _, _, _, _, _, _, _, _, _, _, _, _, _, _, _, _, _, _], []⟩ _
          refine wpAny_take (i := 7) (v := undef) rfl (by kernel_rfl) (by kernel_rfl) (by kernel_rfl) (fun _ _ _ h => h) (Or.inr ⟨by rfl, rfl⟩) ?_
          change wpAny _ _ _ _ _ _ ⟨#[_, _, _, _, _, _, _, _, _, _, _, _, _, _, _, _, _, _, _, _, _, _, _, _, _, _, _, _, _, _, _, _, _, _, _, _, _, _, _, _, _, _, _, _, _, _, _, _], []⟩ _
          refine wpAny_take (i := 8) (v := undef) rfl (by kernel_rfl) (by kernel_rfl) (by kernel_rfl) (fun _ _ _ h => h) (Or.inr ⟨by rfl, rfl⟩) ?_
          change wpAny _ _ _ _ _ _ ⟨#[_, _, _, _, _, _, _, _, _, _, _, _, _, _, _, _, _, _, _, _, _, _, _, _, _, _, _, _, _, _, _, _, _, _, _, _, _, _, _, _, _, _, _, _, _, _, _, _], []⟩ _
          refine wpAny_take (i := 9) (v := undef) rfl (by kernel_rfl) (by kernel_rfl) (by kernel_rfl) (fun _ _ _ h => h) (Or.inr ⟨by rfl, rfl⟩) ?_
          change wpAny _ _ _ _ _ _ ⟨#[_, _, _, _, _, _, _, _, _, _, _, _, _, _, _, _, _, _, _, _, _, _, _, _, _, _, _, _, _, _, _, _, _, _, _, _, _, _, _, _, _, _, _, _, _, _, _, _], []⟩ _
          refine wpAny_take (i := 10) (v := .bool false) rfl (by kernel_rfl) (by kernel_rfl) (by kernel_rfl) (fun _ _ _ h => h) (Or.inl ⟨by rfl, fun w => (by go_simp)⟩) ?_
          change wpAny _ _ _ _ _ _ ⟨#[_, _, _, _, _, _, _, _, _, _, _, _, _, _, _, _, _, _, _, _, _, _, _, _, _, _, _, _, _, _, _, _, _, _, _, _, _, _, _, _, _, _, _, _, _, _, _, _], []⟩ _
          refine wpAny_ready (rs := [11]) (by kernel_rfl) (by simp) ?_
          refine AllReady.cons rfl (fun K hK => ?_) AllReady.nil
          go_simp
          refine hK _ _ ?_; clear hK K
          refine wpAny_take (i := 12) (v := .bool false) rfl (by kernel_rfl) (by kernel_rfl) (by kernel_rfl) (fun _ _ _ h => h) (Or.inl ⟨by rfl, fun w => (by go_simp)⟩) ?_
          change wpAny _ _ _ _ _ _ ⟨#[_, _, _, _, _, _, _, _, _, _, _, _, _, _, _, _, _, _, _, _, _, _, _, _, _, _, _, _, _, _, _, _, _, _, _, _, _, _, _, _, _, _, _, _, _, _, _, _], []⟩ _
          refine wpAny_done (by kernel_rfl) ?_ _
          go_wp2
          have HLa := (HE5.out.grown (gdrew we)).last (L' := L) (F' := F) (HE5.out.grown (gdrew we)).ok (HE5.out.grown (gdrew we)).ov
          exact bodyPost_ret (results_E rfl _ _ w.heap.size _ _ rfl rfl HLa.1 rfl) rfl ⟨_, _, ⟨key, [], L, F⟩, false, rfl, (fun h => by cases h), fun _ => HBd.out, HLa.2.1, HLa.2.2.1, HLa.2.2.2⟩
        · go_simp
          go_at_call 74; refine (end_any _ g c5 e5 HRD.out).mono ?_; rw [← HEe.out]; rintro r wb ⟨rfl, rfl⟩
          refine hK _ _ ?_; clear hK K
          refine wpAny_take (i := 3) (v := .bool false) rfl (by kernel_rfl) (by kernel_rfl) (by kernel_rfl) (fun _ _ _ h => h) (Or.inl ⟨by rfl, fun w => (by go_simp)⟩) ?_
          change wpAny _ _ _ _ _ _ ⟨#[_, _, _, _, _, _, _, _, _, _, _, _, _, _, _, _, _, _, _, _, _, _, _, _, _, _, _, _, _, _, _, _, _, _, _, _, _, _, _, _, _, _, _, _, _, _, _, _], []⟩ _
          refine wpAny_take (i := 4) (v := .bool false) rfl (by kernel_rfl) (by kernel_rfl) (by kernel_rfl) (fun _ _ _ h => h) (Or.inl ⟨by rfl, fun w => (by go_simp)⟩) ?_
          change wpAny _ _ _ _ _ _ ⟨#[_, _, _, _, _, _, _, _, _, _, _, _, _, _, _, _, _, _, _, _, _, _, _, _, _, _, _, _, _, _, _, _, _, _, _, _, _, _, _, _, _, _, _, _, _, _, _, _], []⟩ _
          refine wpAny_take (i := 5) (v := undef) rfl (by kernel_rfl) (by kernel_rfl) (by kernel_rfl) (fun _ _ _ h => h) (Or.inr ⟨by rfl, rfl⟩) ?_
          change wpAny _ _ _ _ _ _ ⟨#[_, _, _, _, _, _, _, _, _, _, _, _, _, _, _, _, _, _, _, _, _, _, _, _, _, _, _, _, _, _, _, _, _, _, _, _, _, _, _, _, _, _, _, _, _, _, _, _], []⟩ _
          refine wpAny_take (i := 6) (v := undef) rfl (by kernel_rfl) (by kernel_rfl) (by kernel_rfl) (fun _ _ _ h => h) (Or.inr ⟨by rfl, rfl⟩) ?_
          change wpAny _ _ _ _ _ _ ⟨#[_, _, _, _, _, _, _, _, _, _, _, _, _, _, _, _, _, _, _, _, _, _, _, _, _, _, _, _, _, _, _, _, _, _, _, _, _, _, _, _, _, _, _, _, _, _, _, _], []⟩ _
          refine wpAny_take (i := 7) (v := undef) rfl (by kernel_rfl) (by kernel_rfl) (by kernel_rfl) (fun _ _ _ h => h) (Or.inr ⟨by rfl, rfl⟩) ?_
          change wpAny _ _ _ _ _ _ ⟨#[_, _, _, _, _, _, _, _, _, _, _, _, _, _, _, _, _, _, _, _, _, _, _, _, _, _, _, _, _, _, _, _, _, _, _, _, _, _, _, _, _, _, _, _, _, _, _, _], []⟩ _
          refine wpAny_take (i := 8) (v := undef) rfl (by kernel_rfl) (by kernel_rfl) (by kernel_rfl) (fun _ _ _ h => h) (Or.inr ⟨by rfl, rfl⟩) ?_
          change wpAny _ _ _ _ _ _ ⟨#[_, _, _, _, _, _, _, _, _, _, _, _, _, _, _, _, _, _, _, _, _, _, _, _, _, _, _, _, _, _, _, _, _, _, _, _, _, _, _, _, _, _, _, _, _, _, _, _], []⟩ _
          refine wpAny_take (i := 9) (v := undef) rfl (by kernel_rfl) (by kernel_rfl) (by kernel_rfl) (fun _ _ _ h => h) (Or.inr ⟨by rfl, rfl⟩) ?_
          change wpAny _ _ _ _ _ _ ⟨#[_, _, _, _, _, _, _, _, _, _, _, _, _, _, _, _, _, _, _, _, _, _, _, _, _, _, _, _, _, _, _, _, _, _, _, _, _, _, _, _, _, _, _, _, _, _, _, _], []⟩ _
          refine wpAny_take (i := 10) (v := .bool false) rfl (by kernel_rfl) (by kernel_rfl) (by kernel_rfl) (fun _ _ _ h => h) (Or.inl ⟨by rfl, fun w => (by go_simp)⟩) ?_
          change wpAny _ _ _ _ _ _ ⟨#[_, _, _, _, _, _, _, _, _, _, _, _, _, _, _, _, _, _, _, _, _, _, _, _, _, _, _, _, _, _, _, _, _, _, _, _, _, _, _, _, _, _, _, _, _, _, _, _], []⟩ _
          refine wpAny_ready (rs := [0]) (by kernel_rfl) (by simp) ?_
          refine AllReady.cons rfl (fun K hK => ?_) AllReady.nil
          go_simp
          refine hK _ _ ?_; clear hK K
          refine wpAny_ready (rs := [11]) (by kernel_rfl) (by simp) ?_
          refine AllReady.cons rfl (fun K hK => ?_) AllReady.nil
          go_simp
          refine hK _ _ ?_; clear hK K
          refine wpAny_take (i := 12) (v := .bool false) rfl (by kernel_rfl) (by kernel_rfl) (by kernel_rfl) (fun _ _ _ h => h) (Or.inl ⟨by rfl, fun w => (by go_simp)⟩) ?_
          change wpAny _ _ _ _ _ _ ⟨#[_, _, _, _, _, _, _, _, _, _, _, _, _, _, _, _, _, _, _, _, _, _, _, _, _, _, _, _, _, _, _, _, _, _, _, _, _, _, _, _, _, _, _, _, _, _, _, _], []⟩ _
          refine wpAny_done (by kernel_rfl) ?_ _
          go_wp2
          have HLa := (HE5.out.grown (gdrew we)).last (L' := L) (F' := F) (HE5.out.grown (gdrew we)).ok (HE5.out.grown (gdrew we)).ov
          exact bodyPost_ret (results_E rfl _ _ w.heap.size _ _ rfl rfl HLa.1 rfl) rfl ⟨_, _, ⟨key, [], L, F⟩, false, rfl, (fun h => by cases h), fun _ => HBd.out, HLa.2.1, HLa.2.2.1, HLa.2.2.2⟩
    · have hb0 : (W == 0) = false := by simpa using hw0
      have hb1 : (W == 1) = false := by simpa using hw1
      have HBAD := Lib.hid (fun y => ent_bad X1.out (show nx c1 e1 (beVal o1) true = (c2, e2, key) by rw [← HK.out]; exact X2.out) X3.out (by rw [← HW.out]; exact hw0) (by rw [← HW.out]; exact hw1) y)
      clear hw0 hw1
      go_wp2_with (go_at_call 69; have Kc := HE.out.num 1 (by decide) (by decide) X3.out; ((with_reducible refine Kc.mono ?_); clear Kc; rintro r wb ⟨rfl, hs⟩); rw [← HW.out]; have HE3 := Lib.hid hs; obtain ⟨y0, y1, y2, y3⟩ := four_cells hs.h2; obtain ⟨f0, f1, f2, f3⟩ := four_free hs.h2; clear hs)
      have HLa := HE3.out.last (L' := 0) (F' := 0) (OwnB.nil _ _) (OwnB.nil _ _)
      exact bodyPost_ret (results_E rfl _ _ w.heap.size _ _ rfl rfl HLa.1 rfl) rfl ⟨_, _, ⟨[], [], 0, 0⟩, false, rfl, (fun h => by cases h), fun _ => HBAD.out, HLa.2.1, HLa.2.2.1, HLa.2.2.2⟩

end Go.Proofs.Ytfencmidjolgfaa
