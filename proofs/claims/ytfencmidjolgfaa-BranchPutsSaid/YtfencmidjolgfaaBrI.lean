/-
  Layer 5: the contract of branch's entryOf. Own work.
-/
import Derived.Test.YtfencmidjolgfaaBrD
import Derived.Test.YtfencmidjolgfaaLefI
namespace Go.Proofs.Ytfencmidjolgfaa
open Go.RowKit

/-- What entryOf tells. -/
def BEntryR (c : List Int) (w w' : World) (r : Ending) : Prop := ∃ (k : Value) (x : En) (ok : Bool), r = .returned (.tuple #[.agg (bcs k x.first), .bool ok]) ∧ (ok = true → EntOk brY c x) ∧ (ok = false → ∀ y, ¬ EntOk brY c y) ∧
  OwnB w.heap.size w' k x.key ∧ w.grownBy w' none

theorem results_B {fn : Func} {p u : Tmp} (h : fn.results = #[.cell p 79, .tmp u]) (tmps : Array Value) (W : World) (q : Nat) (cs : Array Value) (e : Value) (hp : tmps.getD p undef = .pointer (some ⟨q, 0, none⟩)) (he : tmps.getD u undef = e)
    (hq : W.heap[q]? = some (.cells cs 79 (0, 0))) (hs : cs.size = 2) : (results fn tmps).run Try.prog W = .ok (.tuple #[.agg cs, e]) W := by
  have hld := run_loadVar_row (P := Try.prog) W q 79 79 cs (0, 0) _ hq Try.underlying79 rfl (by rw [hs]; kernel_rfl)
  have hp' : tmps[p]?.getD undef = .pointer (some ⟨q, 0, none⟩) := by simpa using hp
  have he' : tmps[u]?.getD undef = e := by simpa using he
  simp [results, h, hp', he', asAddr, hld]

theorem two_free {w : World} {q : Nat} {a b : Value} {t : TypeId} (h : w.heap[q]? = some (.cells #[a, b] t (0, 0))) : w.frozen? ⟨q, 0, none⟩ = false ∧ w.frozen? ⟨q, 1, none⟩ = false := by
  refine ⟨?_, ?_⟩ <;> simp [World.frozen?, h]
theorem store2 {w : World} {q : Nat} {a b : Value} {t : TypeId} (a' b' : Value) (h : w.heap[q]? = some (.cells #[a, b] t (0, 0))) :
    ((w.setCell ⟨q, 0, none⟩ a').setCell ⟨q, 1, none⟩ b').heap[q]? = some (.cells #[a', b'] t (0, 0)) := set_in b' (set_in a' h)

/-- What stands while an entry is read: q2 the result's block, q5 the entry's. -/
structure B2 (g q2 q5 : Nat) (w0 w : World) (bs : List Int) (e : Int) (k : Value) (key : List Int) (F : Int) : Prop where
  rs : RS g w0 w bs e
  h2 : w.heap[q2]? = some (.cells (bcs (.slice none 0 0) 0) 79 (0, 0))
  h5 : w.heap[q5]? = some (.cells (bcs k F) 79 (0, 0))
  ok : OwnB w0.heap.size w k key
  g2 : q2 < g
  g5 : g < q5
  q0 : w0.heap.size ≤ q2
theorem B2.move {g q2 q5 : Nat} {w0 w w' : World} {bs bs' : List Int} {e e' : Int} {k : Value} {key : List Int} {F : Int} (h : B2 g q2 q5 w0 w bs e k key F) (hr : RS g w0 w' bs' e') (hg : w.grownBy w' (some g)) : B2 g q2 q5 w0 w' bs' e' k key F :=
  ⟨hr, (hg.block _ (lt_of_block h.h2) (by intro x; injection x with x; have := h.g2; omega)).trans h.h2, (hg.block _ (lt_of_block h.h5) (by intro x; injection x with x; have := h.g5; omega)).trans h.h5,
    h.ok.rd hg h.rs.rd, h.g2, h.g5, h.q0⟩
theorem B2.set {g q2 q5 : Nat} {w0 w : World} {bs : List Int} {e : Int} {k : Value} {key : List Int} {F : Int} (h : B2 g q2 q5 w0 w bs e k key F) (F' : Int) : B2 g q2 q5 w0 (w.setCell ⟨q5, 1, none⟩ (.int .u32 F')) bs e k key F' :=
  ⟨h.rs.set _ _ h.g5, (Below.heap_setCell _ _ _ _ (by have := h.g2; have := h.g5; show q2 ≠ q5; omega)).trans h.h2, set_in _ h.h5, own_set h.ok h.h5 (by decide) 1 _, h.g2, h.g5, h.q0⟩
theorem B2.grown {g q2 q5 : Nat} {w0 w w' : World} {bs : List Int} {e : Int} {k : Value} {key : List Int} {F : Int} (h : B2 g q2 q5 w0 w bs e k key F) (hg : w.grownBy w' none) : B2 g q2 q5 w0 w' bs e k key F :=
  ⟨h.rs.far hg, (hg.block _ (lt_of_block h.h2) (by simp)).trans h.h2, (hg.block _ (lt_of_block h.h5) (by simp)).trans h.h5, h.ok.grown hg, h.g2, h.g5, h.q0⟩
theorem B2.num {g q2 q5 : Nat} {w0 w : World} {bs b1 out : List Int} {e e1 : Int} {k : Value} {key : List Int} {F : Int} (h : B2 g q2 q5 w0 w bs e k key F) (n : Int) (h1 : 1 ≤ n) (h8 : n ≤ 8) (hx : nx bs e n true = (b1, e1, out)) :
    Calls Try.prog 69 #[.pointer (some ⟨g, 0, none⟩), .int .i64 n] w fun r w' => r = .returned (.int .u64 (beVal out)) ∧ B2 g q2 q5 w0 w' b1 e1 k key F :=
  (h.rs.num n h1 h8 hx).mono fun _ _ ⟨er, hr, hg⟩ => ⟨er, h.move hr hg⟩
/-- The result is stored. -/
theorem B2.last {g q2 q5 : Nat} {w0 w : World} {bs : List Int} {e : Int} {k : Value} {key : List Int} {F : Int} (h : B2 g q2 q5 w0 w bs e k key F) :
    let W := (w.setCell ⟨q2, 0, none⟩ k).setCell ⟨q2, 1, none⟩ (.int .u32 F)
    W.heap[q2]? = some (.cells (bcs k F) 79 (0, 0)) ∧ OwnB w0.heap.size W k key ∧ w0.grownBy W none := by
  have hq := h.q0
  have s1 := set_in (i := 0) k h.h2
  refine ⟨store2 _ _ h.h2, own_set (own_set h.ok h.h2 (by decide) _ _) s1 (by decide) _ _, gof ((h.rs.bel.setCell hq _).setCell hq _) none⟩

set_option maxRecDepth 100000 in
set_option maxHeartbeats 8000000 in
theorem bentryOf_any (w : World) (B : Nat) (ao : Option Addr) (n c0 : Nat) (c : List Int) (h : Seq B w (.slice ao n c0) c) (hB : B ≤ w.heap.size) (hb : Byt c) (hl : c.length ≤ 140737488355328) :
    Calls Try.prog 61 #[.slice ao n c0] w fun r w' => BEntryR c w w' r := by
  obtain ⟨c1, e1, o1, x1⟩ : ∃ a b d, nx c 0 1 true = (a, b, d) := ⟨_, _, _, rfl⟩
  obtain ⟨b1, bo1, _, _⟩ := nx_both x1 hb
  have l1 := nx_outlen x1 (by decide)
  have hK0 := (beVal_bound o1 bo1).1
  have hK1 := beVal_lt o1 bo1 1 (by omega)
  obtain ⟨c2, e2, key, x2⟩ : ∃ a b d, nx c1 e1 (beVal o1) true = (a, b, d) := ⟨_, _, _, rfl⟩
  obtain ⟨b2, bk, _, _⟩ := nx_both x2 b1
  obtain ⟨c3, e3, o3, x3⟩ : ∃ a b d, nx c2 e2 4 true = (a, b, d) := ⟨_, _, _, rfl⟩
  obtain ⟨b3, bo3, _, _⟩ := nx_both x3 b2
  have l3 := nx_outlen x3 (by decide)
  have hF0 := (beVal_bound o3 bo3).1
  have hF1 := beVal_lt o3 bo3 4 (by omega)
  have hdK : decide (0 ≤ beVal o1) = true := by simpa using hK0
  have HEND := Lib.hid (bent_ok x1 x2 x3 hb)
  have X1 := Lib.hid x1
  have X3 := Lib.hid x3
  have HDK := Lib.hid hdK
  have HC := Lib.hid hb
  have HL := Lib.hid hl
  have H := Lib.hid (h.below (w' := w.alloc (.cells (bcs (.slice none 0 0) 0) 79)) (fun i hi => Below.heap_alloc _ _ _ (by omega)))
  have hF2 : beVal o3 < 4294967296 := by simpa using hF1
  clear x1 x3 hdK b1 bo1 b2 bk b3 bo3 l1 l3 h hb hl hF1
  obtain ⟨K, hK⟩ : ∃ K, K = beVal o1 := ⟨_, rfl⟩
  obtain ⟨F, hF⟩ : ∃ F, F = beVal o3 := ⟨_, rfl⟩
  rw [← hK] at hK0 hK1 HDK
  rw [← hF] at hF0 hF2 HEND
  have X2 := Lib.hid (show nx c1 e1 K true = (c2, e2, key) by rw [hK]; exact x2)
  have HK := Lib.hid hK
  have HFv := Lib.hid hF
  obtain ⟨E, hEe⟩ : ∃ E, E = endOf c3 e3 := ⟨_, rfl⟩
  rw [← hEe] at HEND
  have HEe := Lib.hid hEe
  clear hK hF x2 hEe
  go_enter Try.func61, Try.ntmps61
  go_wp2_with (first
    | (go_at_call 73; refine (newR_any _ B _ c H.out (by simp; omega) (by have := HL.out; omega)).mono ?_; rintro r wr ⟨g, rfl, hgg, hrd, hgr⟩; have hr0 : RS g w wr c 0 := ⟨hrd, HC.out, by have := HL.out; omega, by simp at hgg; omega, gbelow (gtrans (World.grownBy_alloc w (.cells (bcs (.slice none 0 0) 0) 79) none) hgr)⟩; have HR := Lib.hid hr0; have hz : wr.heap[w.heap.size]? = some (.cells (bcs (.slice none 0 0) 0) 79 (0, 0)) := (hgr.block _ (by simp) (by simp)).trans (heap_alloc_new _ _); have HQ := Lib.hid hz; have HGG := Lib.hid (show w.heap.size < g by simp at hgg; omega); clear hr0 hrd hgr hgg hz)
    | (go_at_call 69; have Kc := HR.out.num 1 (by decide) (by decide) X1.out; ((with_reducible refine Kc.mono ?_); clear Kc; rintro r wn ⟨rfl, hs, hg⟩); rw [← HK.out]; have hq := (hg.block _ (lt_of_block HQ.out) (by have := HGG.out; intro e; injection e with e; omega)).trans HQ.out; have HR1 := Lib.hid hs; have HQ1 := Lib.hid hq; clear hs hq hg)
    | (go_at_call 70; have Kc := HR1.out.raw K true HDK.out X2.out; ((with_reducible refine Kc.mono ?_); clear Kc; rintro r wn ⟨ak, ck, rfl, ho, hs, hg⟩); have hq := (hg.block _ (lt_of_block HQ1.out) (by have := HGG.out; intro e; injection e with e; omega)).trans HQ1.out; have HR2 := Lib.hid hs; have HQ2 := Lib.hid hq; have HO2 := Lib.hid (OwnB.base ho HR1.out.bel.size); clear hs hq hg ho))
  have hE : B2 g w.heap.size wn.heap.size w (wn.alloc (.cells (bcs (.slice ak key.length ck) 0) 79)) c2 e2 (.slice ak key.length ck) key 0 := by
    have hg := World.grownBy_alloc wn (.cells (bcs (.slice ak key.length ck) 0) 79) none
    exact ⟨HR2.out.far hg, (hg.block _ (lt_of_block HQ2.out) (by simp)).trans HQ2.out, heap_alloc_new _ _, HO2.out.grown hg, HGG.out, HR2.out.rd.lt, Nat.le_refl _⟩
  have HE := Lib.hid hE
  clear hE HR2 HQ2 HO2 HGG H HDK
  generalize wn.alloc (.cells (bcs (.slice ak key.length ck) 0) 79) = wa at *
  generalize wn.heap.size = q5 at *
  go_wp2_with (go_at_call 69; have Kc := HE.out.num 4 (by decide) (by decide) X3.out; ((with_reducible refine Kc.mono ?_); clear Kc; rintro r wb ⟨rfl, hs⟩); rw [← HFv.out]; have HE5 := Lib.hid (hs.set F); obtain ⟨y0, y1⟩ := two_cells2 hs.h5; obtain ⟨f0, f1⟩ := two_free hs.h5; clear hs)
  generalize wb.setCell ⟨q5, 1, none⟩ (.int .u32 F) = we at *
  obtain ⟨t0, t1⟩ := two_cells2 HE5.out.h5
  obtain ⟨s0, s1⟩ := two_cells2 HE5.out.h2
  obtain ⟨g0, g1⟩ := two_free HE5.out.h2
  clear y0 y1 f0 f1
  have HRD := Lib.hid (show RdAt we.drew g c3 e3 from HE5.out.rs.rd.kept (fun _ _ => rfl))
  go_region_law ((go_simp; go_at_call 74; refine (end_any _ g c3 e3 HRD.out).mono ?_; rw [← HEe.out]; rintro r wf ⟨rfl, rfl⟩))
  all_goals
    go_wp2
    have HLa := (HE5.out.grown (gdrew we)).last
    exact bodyPost_ret (results_B rfl _ _ w.heap.size _ _ rfl rfl HLa.1 rfl) rfl ⟨_, ⟨key, [], 0, F⟩, _, rfl, fun e => HEND.out.1 (by simpa using e), fun e => HEND.out.2 (by simpa using e), HLa.2.1, HLa.2.2⟩

end Go.Proofs.Ytfencmidjolgfaa
