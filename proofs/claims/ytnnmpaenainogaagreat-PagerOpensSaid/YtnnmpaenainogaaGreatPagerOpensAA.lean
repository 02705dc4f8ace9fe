/-
  Layer 11: Open of nothing; fresh pages of a new file, one behind the other. Own work.
-/
import Derived.Test.YtnnmpaenainogaaGreatPgrBP

namespace Go.Proofs.YtnnmpaenainogaaGreat
open Go.RowKit Go.Maps

set_option maxHeartbeats 1000000 in
theorem open_nil (w : World) : Calls Tryz.prog 16 #[.pointer none] w fun r w' => r = .returned (.tuple #[.pointer none, .int .i64 1]) ∧ w = w' := by
  go_enter Tryz.func16, Tryz.ntmps16
  go_wp2
  go_ret2
  exact ⟨rfl, rfl⟩
/-- j pages were taken behind the metas of a new file. -/
structure PnI (B d f t x : Nat) (w : World) (lim c : Nat) (M : SM) (D : Nat → List Int) (T : TV) (V : Nat → Nat) (I : List Nat) (E : Nat → List Int) (j : Nat) : Prop where
  lt : LT B d f t x w 512 lim c 0 M fv0 [] [] D T V I E
  us : T.sp.us = []
  en : T.sp.en = 2 + j
  i : ∀ q, q ∈ I ↔ 2 ≤ q ∧ q < 2 + j
section
variable {B d f t x lim c : Nat} {w w' : World} {M : SM} {D E : Nat → List Int} {T : TV} {V : Nat → Nat} {I : List Nat} {j : Nat}
theorem take_empty {sp : Sp} (h : sp.us = []) (hl : sp.en ≠ sp.lim) : takeM sp = ({ sp with en := sp.en + 1, fr := ins sp.en sp.fr }, sp.en, 0) := by
  unfold takeM
  rw [h]
  simp only
  rw [if_neg hl]
theorem pn_new {ao : Option Addr} {b0 cc : Nat} {b : List Int} (h : PnI B d f t x w lim c M D T V I E j) (hj : 2 + j < lim) (hs : Own8 b0 w 512 (.slice ao 512 cc) b) (hb : Byt b) :
    Calls Tryz.prog 19 #[.pointer (some ⟨t, 0, none⟩), .slice ao 512 cc] w fun r w' => r = .returned (.tuple #[.int .u32 ((2 + j : Nat) : Int), .int .i64 0]) ∧ Kfr KS B w w' ∧ ∃ T' V' I' E', PnI B d f t x w' lim c M D T' V' I' E' (j + 1) := by
  have hlim : T.sp.lim = lim := h.lt.ch.c.g.lim
  have ht := take_empty h.us (by rw [h.en, hlim]; omega)
  refine (law_new h.lt hs hb).mono ?_
  rintro r w' ⟨rfl, hk, hx⟩
  rcases hx with ⟨a1, a2, a3, a4, a5, a6, a7⟩ | ⟨_, _, _, _, a5, _⟩
  · rw [ht] at a5
    simp only [Prod.mk.injEq] at a5
    obtain ⟨b1, b2, _⟩ := a5
    rw [h.en] at b2
    rw [a1]
    generalize (newT T b).2.1 = p at b2 a7 ⊢
    subst b2
    refine ⟨rfl, hk, _, _, _, _, a7, ?_, ?_, fun q => ?_⟩
    · rw [← b1]; exact h.us
    · rw [← b1]; show T.sp.en + 1 = _; rw [h.en]; omega
    · simp only [List.mem_append, List.mem_singleton, h.i q]
      omega
  · rw [h.en] at a5; omega
theorem pn_in (h : PnI B d f t x w lim c M D T V I E j) (p : Nat) : (p ∈ T.K ↔ 2 ≤ p ∧ p < 2 + j) ∧ (p ∈ T.sp.fr ↔ 2 ≤ p ∧ p < 2 + j) := by
  have h3 : ∀ q, q ∈ I → V q = 3 := fun q hq => by
    rcases h.lt.ch.c.i q hq with k | ⟨_, k⟩
    · exact k
    · cases k
  have hI : ∀ q, V q = 3 → q ∈ I := fun q hq => by
    rcases h.lt.ch.c.i3 q hq with k | k
    · exact k
    · cases k
  constructor
  · rw [h.lt.ch.k p, ← h.i p]
    exact ⟨fun k => k.1, fun k => ⟨k, h3 p k⟩⟩
  · rw [← h.lt.ch.c.g.k3 p, ← h.i p]
    exact ⟨hI p, h3 p⟩
/-- Read. -/
theorem pn_read (h : PnI B d f t x w lim c M D T V I E j) (hc : c ≤ 100000) (p : Nat) (hp : p < 4294967296) (y : Int) (hy : y = (p : Int)) :
    Calls Tryz.prog 41 #[.pointer (some ⟨t, 0, none⟩), .int .u32 y] w fun r w' => ∃ v, r = .returned (.tuple #[v, .int .i64 (if 2 ≤ p ∧ p < 2 + j then 0 else 24)]) ∧ w.grownBy w' none := by
  subst hy
  by_cases hr : 2 ≤ p ∧ p < 2 + j
  · refine (tread_own h.lt.tx h.lt.dr hp ((pn_in h p).1.2 hr) (by decide)).mono ?_
    rintro r w' ⟨ao, cc, rfl, _, g⟩
    rw [if_pos hr]
    exact ⟨_, rfl, g⟩
  · have hsz := h.lt.ls.re.sz
    refine (tread_file h.lt.tx (by rw [hsz]; exact h.lt.dr) h.lt.ls.fl h.lt.ls.pd hp (fun k => hr ((pn_in h p).1.1 k)) (h.lt.ls.re.wel.fine hc) h.lt.ls.re.wel.s2 h.lt.ls.calm h.lt.ls.re.len).mono ?_
    rintro r w' hk
    unfold TReadR at hk
    rw [if_neg (by rintro ⟨_, k1, k2⟩; have : p < 2 := k2; omega)] at hk
    rw [if_neg hr]
    exact ⟨_, hk.1, hk.2⟩
/-- Free: the change goes on. -/
theorem pn_free (h : PnI B d f t x w lim c M D T V I E j) (p : Nat) (hp : p < 4294967296) (y : Int) (hy : y = (p : Int)) :
    Calls Tryz.prog 22 #[.pointer (some ⟨t, 0, none⟩), .int .u32 y] w fun r w' => r = .returned (.int .i64 (if 2 ≤ p ∧ p < 2 + j then 0 else 24)) ∧ Kfr KS B w w' ∧ ∃ U : TV, U.n = 2 ∧ DraftAt B w' x 512 U := by
  subst hy
  refine (tfree_any h.lt.tx h.lt.dr hp).mono ?_
  rintro r w' ⟨rfl, hd, hk⟩
  have hn : (freeT T p).1.n = 2 := by
    have e : T.n = 2 := h.lt.ch.n
    unfold freeT
    split <;> exact e
  refine ⟨?_, hk, _, hn, hd⟩
  rcases g_give (M' := (giveM T.sp p).1) (e := (giveM T.sp p).2) h.lt.ch.c.g rfl with ⟨e0, hV, _⟩ | ⟨e0, hV, h2, hl, _⟩ | ⟨e1, _, k⟩
  · have : 2 ≤ p ∧ p < 2 + j := (pn_in h p).2.1 ((h.lt.ch.c.g.k3 p).1 hV)
    rw [if_pos this]
    unfold freeT
    rw [if_pos e0]
  · have : p < 2 := hl
    omega
  · have : ¬ (2 ≤ p ∧ p < 2 + j) := fun hr => k (.inl ((h.lt.ch.c.g.k3 p).2 ((pn_in h p).2.2 hr)))
    rw [if_neg this]
    unfold freeT
    rw [if_neg (by rw [e1]; decide)]
end

theorem tcommit_one {B t f d x S : Nat} {w : World} {T : TV} (hT : TxnAt B w t f (some x)) (hF : FileAt B w f d fv0) (hD : DraftAt B w x S T) (hn : T.n = 2) :
    Calls Tryz.prog 24 #[.pointer (some ⟨t, 0, none⟩), .int .u32 1] w fun r w' => r = .returned (.int .i64 1) ∧ TxnAt B w' t f none ∧ Kfr (fun k => k = some 150) B w w' :=
  tcommit_bad (main := 1) hT hF hD rfl hn.symm (by rw [hn]; decide) (by decide) (by unfold rmain; simp)
theorem tnew_after {B B1 B2 t f d c S lim k : Nat} {ao : Option Addr} {w : World} {F : FV} {M : SM} {rs : List Rc} {H : List Nat} {D : Nat → List Int} (h : TxnAt B w t f none) (hf : FileAt B1 w f d F) (hd : PD B2 w d M) (hr : Rest S lim k M F rs H D) :
    Calls Tryz.prog 19 #[.pointer (some ⟨t, 0, none⟩), .slice ao S c] w fun r w' => r = .returned (.tuple #[.int .u32 0, .int .i64 34]) ∧ w = w' := by
  have := hr.sz
  subst this
  exact tnew_over h hf hd

/-- A meta's fields, read off its value. -/
theorem meta_fields (a b c d : Value) : (∀ w : World, (Instr.field 44 (.agg #[a, b, c, d]) 0).run Tryz.prog w = .ok a w) ∧ (∀ w : World, (Instr.field 44 (.agg #[a, b, c, d]) 1).run Tryz.prog w = .ok b w) ∧ (∀ w : World, (Instr.field 44 (.agg #[a, b, c, d]) 2).run Tryz.prog w = .ok c w) :=
  ⟨fun _ => by kernel_rfl, fun _ => by kernel_rfl, fun _ => by kernel_rfl⟩

/-- A byte that came in. -/
theorem seq_byte {W w : World} {a : Option Addr} {n c : Nat} {bs : List Int} (h : Seq W.heap.size W (.slice a n c) bs) (hb : Byt bs) (hk : ∀ i, i < W.heap.size → w.heap[i]? = W.heap[i]?) (p : Nat) (hp : p < n) : ∃ b o y, a = some ⟨b, o, none⟩ ∧ w.cell? ⟨b, o + p, none⟩ = some (.int .u8 y) ∧ 0 ≤ y ∧ y ≤ 255 := by
  have hn : n = bs.length := by obtain ⟨_, _, hv, _⟩ := h; injection hv
  obtain ⟨ao', c', hv, h1, h2, h3, h4⟩ := h.below (w' := w) hk
  cases hv
  obtain ⟨b, o, ha, hb2, hc⟩ := h4 (fun e => by have := congrArg List.length e; simp only [List.length_nil] at this; omega)
  have y := hb.get p
  exact ⟨b, o, _, ha, hc p (by omega), y.1, y.2⟩

end Go.Proofs.YtnnmpaenainogaaGreat
