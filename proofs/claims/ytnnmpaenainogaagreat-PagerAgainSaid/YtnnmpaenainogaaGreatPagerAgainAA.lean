/-
  Layer 11: a change of one page, as PagerAgain uses it. Own work.
-/
import Derived.Test.YtnnmpaenainogaaGreatPgrBP
import Derived.Deep.LoopGhost

namespace Go.Proofs.YtnnmpaenainogaaGreat
open Go.RowKit Go.Maps

/-- The change at its begin; the page that it takes. -/
def agT (F : FV) (rs : List Rc) : TV := ⟨F.mt.t + 1, spOf F.mt.e 20 (F.mt.t - 1) rs, [], fun _ => []⟩
def agP (F : FV) (rs : List Rc) (b : List Int) : Nat := (newT (agT F rs) b).2.1
def AgS (B d f t x : Nat) (w : World) (c : Nat) (M : SM) (F : FV) (rs : List Rc) (H : List Nat) (D : Nat → List Int) : Prop := LT B d f t x w 512 20 c (F.mt.t - 1) M F rs H D (agT F rs) (fillR (F.mt.t - 1) (fun _ => 0) rs) H D
def AgN (B d f t x : Nat) (w : World) (c : Nat) (M : SM) (F : FV) (rs : List Rc) (H : List Nat) (D : Nat → List Int) (I : List Nat) (p : Nat) (b : List Int) (k : Nat) : Prop :=
  ∃ T V E, LT B d f t x w 512 20 c (F.mt.t - 1) M F rs H D T V I E ∧ AgC (flOf F rs) H T.sp V I [] [] k ∧ E p = b ∧ 2 ≤ p ∧ p < 4294967296
section
variable {B d f t x c : Nat} {w w' : World} {M : SM} {F : FV} {rs : List Rc} {H I : List Nat} {D : Nat → List Int} {p k : Nat} {b : List Int}
theorem AgS.new (h : AgS B d f t x w c M F rs H D) (g : w.grownBy w' none) : AgS B d f t x w' c M F rs H D := LT.new h g
theorem ag_begin_law (h : LS B d f w 512 20 c M F rs H D) (hc : c ≤ 80000) :
    Calls Tryz.prog 17 #[.pointer (some ⟨f, 0, none⟩), .int .u64 18446744073709551615] w fun r w' => ∃ t x, r = .returned (.tuple #[.pointer (some ⟨t, 0, none⟩), .int .i64 0]) ∧ AgS B d f t x w' c M F rs H D ∧ w.grownBy w' none := by
  have ht := h.re.tb
  have hm : min 18446744073709551615 (F.mt.t - 1) = F.mt.t - 1 := by omega
  refine (law_begin h hc (o := 18446744073709551615) (by decide) (fun _ => []) 18446744073709551615 rfl).mono ?_
  rintro r w' ⟨t, x, rfl, a, g⟩
  rw [hm] at a
  exact ⟨t, x, rfl, a, g⟩
theorem ag_new_law {b0 cc : Nat} {ao : Option Addr} (h : AgS B d f t x w c M F rs H D) (hA : AgF (flOf F rs) H) (hs : Own8 b0 w 512 (.slice ao 512 cc) b) (hb : Byt b) :
    Calls Tryz.prog 19 #[.pointer (some ⟨t, 0, none⟩), .slice ao 512 cc] w fun r w' => r = .returned (.tuple #[.int .u32 ((agP F rs b : Nat) : Int), .int .i64 0]) ∧ Kfr KS B w w' ∧ AgN B d f t x w' c M F rs H D (H ++ [agP F rs b]) (agP F rs b) b 0 := by
  refine (law_new h hs hb).mono ?_
  rintro r w' ⟨rfl, hk, hx⟩
  have hac := ag_begin hA
  obtain ⟨e0, hac'⟩ := ag_new hA hac (M' := (takeM (agT F rs).sp).1) (p := (takeM (agT F rs).sp).2.1) (e := (takeM (agT F rs).sp).2.2) rfl
  have hn : newT (agT F rs) b = ({ agT F rs with sp := (takeM (agT F rs).sp).1, K := ins (takeM (agT F rs).sp).2.1 (agT F rs).K, C := updC (agT F rs).C (takeM (agT F rs).sp).2.1 b }, (takeM (agT F rs).sp).2.1, 0) := by unfold newT; rw [if_pos e0]
  have hp : agP F rs b = (takeM (agT F rs).sp).2.1 := by unfold agP; rw [hn]
  rcases hx with ⟨a1, a2, a3, a4, a5, a6, a7⟩ | ⟨a1, _⟩
  · rw [a1]
    refine ⟨rfl, hk, _, _, _, a7, ?_, ?_, a3, ?_⟩
    · rw [hn, hp]; exact hac'
    · show updC D (agP F rs b) b (agP F rs b) = b
      unfold updC; rw [if_pos rfl]
    · have h1 := a7.ch.c.g.en2
      have h2 := h.ls.re.l1
      show (newT (agT F rs) b).2.1 < _
      omega
  · rw [hn] at a1; exact absurd a1 (by show ¬ ((0 : Int) = 21); decide)
theorem ag_free_law {q : Nat} (h : AgN B d f t x w c M F rs [q] D ([q] ++ [p]) p b 0) (hA : AgF (flOf F rs) [q]) (y : Int) (hy : y = (q : Int)) :
    Calls Tryz.prog 22 #[.pointer (some ⟨t, 0, none⟩), .int .u32 y] w fun r w' => r = .returned (.int .i64 0) ∧ Kfr KS B w w' ∧ AgN B d f t x w' c M F rs [q] D [p] p b 1 := by
  obtain ⟨T, V, E, hl, hac, hE, h2, h32⟩ := h
  have hnd : q ≠ p := fun k => by have := hl.ch.c.nd; simp [k] at this
  refine (law_free (p := q) hl (by simp) (I' := [p]) (by simp) (fun z => by
    simp only [List.cons_append, List.nil_append, List.mem_cons, List.not_mem_nil, or_false]
    constructor
    · rintro rfl; exact ⟨.inr rfl, fun k => hnd k.symm⟩
    · rintro ⟨k | k, k2⟩
      · exact absurd k k2
      · exact k) y hy).mono ?_
  rintro r w' ⟨rfl, hk, hg, v, hv, hl'⟩
  have hrs := congrArg Prod.fst hg
  obtain ⟨_, hac'⟩ := ag_free hA hac (M' := (freeT T q).1.sp) (e := 0) hg
  have hv4 : v = 4 := by
    rcases hv with ⟨h3, _⟩ | ⟨_, _, e⟩
    · rcases hac.c.h q (by simp) with z | ⟨z, _⟩ <;> omega
    · exact e
  subst hv4
  exact ⟨rfl, hk, _, _, _, hl', hac', hE, h2, h32⟩
theorem ag_commit_law (h : AgN B d f t x w c M F rs H D [p] p b k) (hA : AgF (flOf F rs) H) (hk : k ≤ 1) (hc : c ≤ 70000) (y : Int) (hy : y = (p : Int)) :
    Calls Tryz.prog 24 #[.pointer (some ⟨t, 0, none⟩), .int .u32 y] w fun r w' => r = .returned (.int .i64 0) ∧ Kfr KCT B w w' ∧ ∃ N F' rs' E, LS B d f w' 512 20 (c + 26) N F' rs' [p] E ∧ AgF (flOf F' rs') [p] ∧ E p = b := by
  obtain ⟨T, V, E, hl, hac, hE, h2, h32⟩ := h
  refine (tcommit_ag (Mr := 42) hl.tx hl.ls.fl hl.dr hl.ls.pd hl.ls.re hl.ch hl.ls.calm hA hac hk (by simp) hc (.inr (by simp)) (by decide) y hy).mono ?_
  rintro r w' ⟨rfl, _, hkf, N, F', rs', a1, a2, a3, a4, a5, _, _⟩
  exact ⟨rfl, hkf, N, F', rs', E, ⟨a1, a2, a4, a3⟩, a5, hE⟩
theorem ag_abort_law (h : AgN B d f t x w c M F rs H D I p b k) :
    Calls Tryz.prog 25 #[.pointer (some ⟨t, 0, none⟩)] w fun r w' => r = .returned (.tuple #[]) ∧ Kfr (fun k => k = some 150) B w w' ∧ LS B d f w' 512 20 c M F rs H D := by
  obtain ⟨T, V, E, hl, _⟩ := h
  refine (abort_any hl.tx).mono ?_
  rintro r w' ⟨rfl, _, hk⟩
  exact ⟨rfl, hk, hl.ls.kfr hk (by simp) (by simp) (by simp) (by simp) (by simp) (by simp) (by simp)⟩
/-- A new file has one page at most. -/
theorem ag_first : AgF (flOf fv0 []) [] := ⟨finv_first (by decide), by simp, by simp [flOf, fv0], (by intro r hr; cases hr), by show (2 : Nat) ≤ 8; decide, by show (1 : Nat) ≤ 1; decide⟩
end

end Go.Proofs.YtnnmpaenainogaaGreat

namespace Go.Proofs.YtnnmpaenainogaaGreat
open Go.RowKit Go.Maps

set_option maxHeartbeats 1000000 in
theorem open_nil (w : World) : Calls Tryz.prog 16 #[.pointer none] w fun r w' => r = .returned (.tuple #[.pointer none, .int .i64 1]) ∧ w = w' := by
  go_enter Tryz.func16, Tryz.ntmps16
  go_wp2
  go_ret2
  exact ⟨rfl, rfl⟩
/-- j pages were taken behind the metas of a new file. -/
structure PnI (B d f t x : Nat) (w : World) (lim c : Nat) (M : SM) (D : Nat → List Int) (T : TV) (V : Nat → Nat) (I : List Nat) (E : Nat → List Int) (j : Nat) : Prop where
  lt : LT B d f t x w 512 lim c 0 M fv0 [] [] D T V I E
  us : T.sp.us = []
  en : T.sp.en = 2 + j
  i : ∀ q, q ∈ I ↔ 2 ≤ q ∧ q < 2 + j
section
variable {B d f t x lim c : Nat} {w w' : World} {M : SM} {D E : Nat → List Int} {T : TV} {V : Nat → Nat} {I : List Nat} {j : Nat}
theorem take_empty {sp : Sp} (h : sp.us = []) (hl : sp.en ≠ sp.lim) : takeM sp = ({ sp with en := sp.en + 1, fr := ins sp.en sp.fr }, sp.en, 0) := by
  unfold takeM
  rw [h]
  simp only
  rw [if_neg hl]
theorem pn_new {ao : Option Addr} {b0 cc : Nat} {b : List Int} (h : PnI B d f t x w lim c M D T V I E j) (hj : 2 + j < lim) (hs : Own8 b0 w 512 (.slice ao 512 cc) b) (hb : Byt b) :
    Calls Tryz.prog 19 #[.pointer (some ⟨t, 0, none⟩), .slice ao 512 cc] w fun r w' => r = .returned (.tuple #[.int .u32 ((2 + j : Nat) : Int), .int .i64 0]) ∧ Kfr KS B w w' ∧ ∃ T' V' I' E', PnI B d f t x w' lim c M D T' V' I' E' (j + 1) := by
  have hlim : T.sp.lim = lim := h.lt.ch.c.g.lim
  have ht := take_empty h.us (by rw [h.en, hlim]; omega)
  refine (law_new h.lt hs hb).mono ?_
  rintro r w' ⟨rfl, hk, hx⟩
  rcases hx with ⟨a1, a2, a3, a4, a5, a6, a7⟩ | ⟨_, _, _, _, a5, _⟩
  · rw [ht] at a5
    simp only [Prod.mk.injEq] at a5
    obtain ⟨b1, b2, _⟩ := a5
    rw [h.en] at b2
    rw [a1]
    generalize (newT T b).2.1 = p at b2 a7 ⊢
    subst b2
    refine ⟨rfl, hk, _, _, _, _, a7, ?_, ?_, fun q => ?_⟩
    · rw [← b1]; exact h.us
    · rw [← b1]; show T.sp.en + 1 = _; rw [h.en]; omega
    · simp only [List.mem_append, List.mem_singleton, h.i q]
      omega
  · rw [h.en] at a5; omega
theorem pn_in (h : PnI B d f t x w lim c M D T V I E j) (p : Nat) : (p ∈ T.K ↔ 2 ≤ p ∧ p < 2 + j) ∧ (p ∈ T.sp.fr ↔ 2 ≤ p ∧ p < 2 + j) := by
  have h3 : ∀ q, q ∈ I → V q = 3 := fun q hq => by
    rcases h.lt.ch.c.i q hq with k | ⟨_, k⟩
    · exact k
    · cases k
  have hI : ∀ q, V q = 3 → q ∈ I := fun q hq => by
    rcases h.lt.ch.c.i3 q hq with k | k
    · exact k
    · cases k
  constructor
  · rw [h.lt.ch.k p, ← h.i p]
    exact ⟨fun k => k.1, fun k => ⟨k, h3 p k⟩⟩
  · rw [← h.lt.ch.c.g.k3 p, ← h.i p]
    exact ⟨hI p, h3 p⟩
/-- Read. -/
theorem pn_read (h : PnI B d f t x w lim c M D T V I E j) (hc : c ≤ 100000) (p : Nat) (hp : p < 4294967296) (y : Int) (hy : y = (p : Int)) :
    Calls Tryz.prog 41 #[.pointer (some ⟨t, 0, none⟩), .int .u32 y] w fun r w' => ∃ v, r = .returned (.tuple #[v, .int .i64 (if 2 ≤ p ∧ p < 2 + j then 0 else 24)]) ∧ w.grownBy w' none := by
  subst hy
  by_cases hr : 2 ≤ p ∧ p < 2 + j
  · refine (tread_own h.lt.tx h.lt.dr hp ((pn_in h p).1.2 hr) (by decide)).mono ?_
    rintro r w' ⟨ao, cc, rfl, _, g⟩
    rw [if_pos hr]
    exact ⟨_, rfl, g⟩
  · have hsz := h.lt.ls.re.sz
    refine (tread_file h.lt.tx (by rw [hsz]; exact h.lt.dr) h.lt.ls.fl h.lt.ls.pd hp (fun k => hr ((pn_in h p).1.1 k)) (h.lt.ls.re.wel.fine hc) h.lt.ls.re.wel.s2 h.lt.ls.calm h.lt.ls.re.len).mono ?_
    rintro r w' hk
    unfold TReadR at hk
    rw [if_neg (by rintro ⟨_, k1, k2⟩; have : p < 2 := k2; omega)] at hk
    rw [if_neg hr]
    exact ⟨_, hk.1, hk.2⟩
/-- Free: the change goes on. -/
theorem pn_free (h : PnI B d f t x w lim c M D T V I E j) (p : Nat) (hp : p < 4294967296) (y : Int) (hy : y = (p : Int)) :
    Calls Tryz.prog 22 #[.pointer (some ⟨t, 0, none⟩), .int .u32 y] w fun r w' => r = .returned (.int .i64 (if 2 ≤ p ∧ p < 2 + j then 0 else 24)) ∧ Kfr KS B w w' ∧ ∃ U : TV, U.n = 2 ∧ DraftAt B w' x 512 U := by
  subst hy
  refine (tfree_any h.lt.tx h.lt.dr hp).mono ?_
  rintro r w' ⟨rfl, hd, hk⟩
  have hn : (freeT T p).1.n = 2 := by
    have e : T.n = 2 := h.lt.ch.n
    unfold freeT
    split <;> exact e
  refine ⟨?_, hk, _, hn, hd⟩
  rcases g_give (M' := (giveM T.sp p).1) (e := (giveM T.sp p).2) h.lt.ch.c.g rfl with ⟨e0, hV, _⟩ | ⟨e0, hV, h2, hl, _⟩ | ⟨e1, _, k⟩
  · have : 2 ≤ p ∧ p < 2 + j := (pn_in h p).2.1 ((h.lt.ch.c.g.k3 p).1 hV)
    rw [if_pos this]
    unfold freeT
    rw [if_pos e0]
  · have : p < 2 := hl
    omega
  · have : ¬ (2 ≤ p ∧ p < 2 + j) := fun hr => k (.inl ((h.lt.ch.c.g.k3 p).2 ((pn_in h p).2.2 hr)))
    rw [if_neg this]
    unfold freeT
    rw [if_neg (by rw [e1]; decide)]
end

theorem tcommit_one {B t f d x S : Nat} {w : World} {T : TV} (hT : TxnAt B w t f (some x)) (hF : FileAt B w f d fv0) (hD : DraftAt B w x S T) (hn : T.n = 2) :
    Calls Tryz.prog 24 #[.pointer (some ⟨t, 0, none⟩), .int .u32 1] w fun r w' => r = .returned (.int .i64 1) ∧ TxnAt B w' t f none ∧ Kfr (fun k => k = some 150) B w w' :=
  tcommit_bad (main := 1) hT hF hD rfl hn.symm (by rw [hn]; decide) (by decide) (by unfold rmain; simp)
theorem tnew_after {B B1 B2 t f d c S lim k : Nat} {ao : Option Addr} {w : World} {F : FV} {M : SM} {rs : List Rc} {H : List Nat} {D : Nat → List Int} (h : TxnAt B w t f none) (hf : FileAt B1 w f d F) (hd : PD B2 w d M) (hr : Rest S lim k M F rs H D) :
    Calls Tryz.prog 19 #[.pointer (some ⟨t, 0, none⟩), .slice ao S c] w fun r w' => r = .returned (.tuple #[.int .u32 0, .int .i64 34]) ∧ w = w' := by
  have := hr.sz
  subst this
  exact tnew_over h hf hd

/-- A meta's fields, read off its value. -/
theorem meta_fields (a b c d : Value) : (∀ w : World, (Instr.field 44 (.agg #[a, b, c, d]) 0).run Tryz.prog w = .ok a w) ∧ (∀ w : World, (Instr.field 44 (.agg #[a, b, c, d]) 1).run Tryz.prog w = .ok b w) ∧ (∀ w : World, (Instr.field 44 (.agg #[a, b, c, d]) 2).run Tryz.prog w = .ok c w) :=
  ⟨fun _ => by kernel_rfl, fun _ => by kernel_rfl, fun _ => by kernel_rfl⟩

/-- A byte that came in. -/
theorem seq_byte {W w : World} {a : Option Addr} {n c : Nat} {bs : List Int} (h : Seq W.heap.size W (.slice a n c) bs) (hb : Byt bs) (hk : ∀ i, i < W.heap.size → w.heap[i]? = W.heap[i]?) (p : Nat) (hp : p < n) : ∃ b o y, a = some ⟨b, o, none⟩ ∧ w.cell? ⟨b, o + p, none⟩ = some (.int .u8 y) ∧ 0 ≤ y ∧ y ≤ 255 := by
  have hn : n = bs.length := by obtain ⟨_, _, hv, _⟩ := h; injection hv
  obtain ⟨ao', c', hv, h1, h2, h3, h4⟩ := h.below (w' := w) hk
  cases hv
  obtain ⟨b, o, ha, hb2, hc⟩ := h4 (fun e => by have := congrArg List.length e; simp only [List.length_nil] at this; omega)
  have y := hb.get p
  exact ⟨b, o, _, ha, hc p (by omega), y.1, y.2⟩

end Go.Proofs.YtnnmpaenainogaaGreat

namespace Go.Proofs.YtnnmpaenainogaaGreat
open Go.RowKit Go.Maps

/-- Between two rounds: k changes were made. -/
def AgL (B d f : Nat) (W wr : World) (k last : Nat) : Prop := ∃ M F rs H D, LS B d f wr 512 20 (25 + 30 * k) M F rs H D ∧ AgF (flOf F rs) H ∧ (last = 0 ∧ H = [] ∨ 2 ≤ last ∧ H = [last]) ∧ last < 4294967296 ∧ Kfr KT B W wr
theorem byt_rep7 {n : Nat} {x : Int} (h0 : 0 ≤ x) (h1 : x ≤ 255) : Byt (List.replicate n x) := fun y hy => by have := List.eq_of_mem_replicate hy; omega

set_option maxRecDepth 1000000 in
set_option maxHeartbeats 16000000 in
theorem pagain_walk (W : World) (x : Int) (a1 : Option Addr) (n1 c1 : Nat) (bs : List Int) (x0 : 0 ≤ x) (x1 : x ≤ 255) (h1 : Seq W.heap.size W (.slice a1 n1 c1) bs) (b1 : Byt bs) (g1 : n1 ≤ 100) :
    Calls Tryz.prog 7 #[.int .u8 x, .slice a1 n1 c1] W fun r w' => r = .returned (.bool true) ∧ Below W.heap.size W w' := by
  have hmay : May ((512 : Nat) : Int) ((20 : Nat) : Int) := by decide
  have e1 : n1 = bs.length := by obtain ⟨_, _, hv, _⟩ := h1; injection hv
  have H1 := Lib.hid h1
  have B1 := Lib.hid b1
  have E1 := Lib.hid e1
  have d0 : decide ((100 : Int) < (n1 : Int)) = false := by simp; omega
  have d0' : decide (100 < n1) = false := by simp; omega
  obtain ⟨Y, rfl⟩ : ∃ Y : Nat, x = (Y : Int) := ⟨x.toNat, by omega⟩
  obtain ⟨m, hm⟩ : ∃ m : Nat, m = Y % 60 := ⟨_, rfl⟩
  have hm6 : m < 60 := by omega
  have hYm : (Y : Int).tmod 60 = (m : Int) := by rw [hm]; rfl
  have hwm : IntKind.u8.wrap (m : Int) = (m : Int) := by rw [show IntKind.u8.wrap (m : Int) = (m : Int) % 256 from rfl]; omega
  have hwm2 : IntKind.i64.wrap (m : Int) = (m : Int) := IntWalk.i64_in _ (by omega)
  clear h1 b1 e1 hm x0 x1
  go_enter Tryz.func7, Tryz.ntmps7
  go_wp2_with (first
    | (go_at_call 14; ((with_reducible refine (awake11_any W).mono ?_); rintro r w1 ⟨rfl, hg⟩; have HG1 := Lib.hid (kt_new (B := W.heap.size) hg); clear hg))
    | (go_at_call 15; refine (new_good _ 512 20 hmay).mono ?_; rintro e w3 ⟨rfl, hw0⟩; have hpn := pd_new (B := W.heap.size) HG1.out.size hw0; have HP3 := Lib.hid hpn.1; have HG3 := Lib.hid (HG1.out.trans (kt_new (B := W.heap.size) hpn.2)); clear hpn hw0)
    | (go_at_call 16; refine (law_open (fun _ => []) HP3.out (by decide) (by decide)).mono ?_; rintro e w4 ⟨f, M4, rfl, hl, hd⟩; have HL4 := Lib.hid hl; have HG4 := Lib.hid (HG3.out.trans (kt_dfr hd)); clear hl hd HP3))
  have HS : Hid (AgL W.heap.size w1.heap.size f W w4 0 0) := Lib.hid ⟨_, _, _, _, _, HL4.out, ag_first, .inl ⟨rfl, rfl⟩, by decide, HG4.out⟩
  obtain ⟨d, hd⟩ : ∃ d, d = w1.heap.size := ⟨_, rfl⟩
  rw [← hd] at HS ⊢
  clear HL4 HG4 HG3 HG1 hd
  go_loopg [10, 11] m (fun gk la i wr => ∃ k last : Nat, k + gk = m ∧ i = .int .i64 k ∧ la = .int .u32 last ∧ Hid (AgL W.heap.size d f W wr k last))
  case atStart => exact ⟨0, 0, by omega, rfl, rfl, HS⟩
  case round =>
    obtain ⟨k, last, hk, rfl, rfl, hh⟩ := hrel
    clear HS
    by_cases hlt : k < m
    · obtain ⟨gq, rfl⟩ : ∃ g, gk = g + 1 := ⟨gk - 1, by omega⟩
      have hki : (k : Int) < (m : Int) := by omega
      have hw8 : IntKind.u8.wrap (k : Int) = (k : Int) := by rw [show IntKind.u8.wrap (k : Int) = (k : Int) % 256 from rfl]; omega
      obtain ⟨M, F, rs, H, D, hls, hagf, hlast, hl32, hkf⟩ := hh.out
      have HL0 := Lib.hid hls
      have HA0 := Lib.hid hagf
      have HG0 := Lib.hid hkf
      have hin : ∀ i, i < W.heap.size → wr.heap[i]? = W.heap[i]? := fun i hi => hkf.block i hi (.inl hi)
      have HIN := Lib.hid hin
      have HL32 := Lib.hid hl32
      clear hh hls hagf hkf hin hl32
      obtain ⟨b, hb⟩ : ∃ b, b = List.replicate 512 (k : Int) := ⟨_, rfl⟩
      have HB := Lib.hid hb
      have HBY := Lib.hid (show Byt b by rw [hb]; exact byt_rep7 (by omega) (by omega))
      obtain ⟨p, hp⟩ : ∃ p, p = agP F rs b := ⟨_, rfl⟩
      have HPE := Lib.hid hp
      clear hb hp
      rcases hlast with ⟨rfl, rfl⟩ | ⟨hl2, rfl⟩
      · go_upto_region 16 with (first
          | (go_at_call 17; ((with_reducible refine (ag_begin_law HL0.out (by omega)).mono ?_); rintro r w1 ⟨t, x, rfl, hl, hg⟩; have HL1 := Lib.hid hl; have HG1 := Lib.hid (HG0.out.trans (kt_new hg)); clear hl hg))
          | (go_at_call 20; (refine (page_any w1 512 (k : Int) (by decide)).mono ?_; rintro e w2 ⟨g, rfl, ho, hg⟩; rw [← HB.out] at ho; have HO2 := Lib.hid ho; have HL2 := Lib.hid (HL1.out.new hg); have HG2 := Lib.hid (HG1.out.trans (kt_new hg)); clear ho hg HL1))
          | (go_at_call 19; ((with_reducible refine (ag_new_law HL2.out HA0.out HO2.out HBY.out).mono ?_); rintro e w3 ⟨rfl, hk3, hl⟩; rw [← HPE.out] at hl ⊢; have HL3 := Lib.hid hl; have HG3 := Lib.hid (HG2.out.trans hk3.any); clear hl hk3 HL2 HO2)))
        have HP2 : Hid (2 ≤ p ∧ p < 4294967296) := Lib.hid (by obtain ⟨_, _, _, _, _, _, h2, h3⟩ := HL3.out; exact ⟨h2, h3⟩)
        by_cases hka : k < n1
        · obtain ⟨ba, oa, y, rfl, hcell, hy0, hy1⟩ := seq_byte H1.out B1.out (fun i hi => (HG3.out.block i hi (.inl hi))) k hka
          have hkai : (k : Int) < (n1 : Int) := by omega
          by_cases hyb : bits .and .u8 y 1 = 1
          · have hyd : (bits .and .u8 y 1 == 1) = true := by rw [hyb]; rfl
            go_wp2_with (first
              | (go_at_call 25; ((with_reducible refine (ag_abort_law HL3.out).mono ?_); rintro e w5 ⟨rfl, hk5, hl⟩; have HL5 := Lib.hid hl; have HG5 := Lib.hid (HG3.out.trans hk5.any); clear hl hk5 HL3))
              | (go_at_call 17; ((with_reducible refine (ag_begin_law HL5.out (by omega)).mono ?_); rintro r w6 ⟨u, y, rfl, hl, hg⟩; have HL6 := Lib.hid hl; have HG6 := Lib.hid (HG5.out.trans (kt_new hg)); clear hl hg HL5))
              | (go_at_call 20; (refine (page_any w6 512 (k : Int) (by decide)).mono ?_; rintro e w7 ⟨g7, rfl, ho, hg⟩; rw [← HB.out] at ho; have HO7 := Lib.hid ho; have HL7 := Lib.hid (HL6.out.new hg); have HG7 := Lib.hid (HG6.out.trans (kt_new hg)); clear ho hg HL6))
              | (go_at_call 19; ((with_reducible refine (ag_new_law HL7.out HA0.out HO7.out HBY.out).mono ?_); rintro e w8 ⟨rfl, hk8, hl⟩; rw [← HPE.out] at hl ⊢; have HL8 := Lib.hid hl; have HG8 := Lib.hid (HG7.out.trans hk8.any); clear hl hk8 HL7 HO7))
              | (go_at_call 24; ((with_reducible refine (ag_commit_law HL8.out HA0.out (by decide) (by omega) _ rfl).mono ?_); rintro e wA ⟨rfl, hkA, N, F', rs', E, hl, hag, hE⟩; have HLA := Lib.hid hl; have HAA := Lib.hid hag; have HEA := Lib.hid hE; have HGA := Lib.hid (HG8.out.trans hkA.any); clear hl hag hE hkA))
              | (go_at_call 18; ((with_reducible refine (fmeta_any HLA.out.fl).mono ?_); rintro e wB ⟨he, hg⟩; have hme := meta_fields (.int .u64 (F'.mt.t : Int)) (.int .u32 (F'.mt.e : Int)) (.int .u32 (F'.mt.m : Int)) (.int .u32 (F'.mt.f : Int)); obtain rfl : e = .returned (.agg #[.int .u64 (F'.mt.t : Int), .int .u32 (F'.mt.e : Int), .int .u32 (F'.mt.m : Int), .int .u32 (F'.mt.f : Int)]) := he; have hfe := hme.2.1; have he8 : F'.mt.e ≤ 8 := HAA.out.e; have he16 : ¬ (16 : Int) < (F'.mt.e : Int) := (by omega); have he16d : decide ((16 : Int) < (F'.mt.e : Int)) = false := (by simp; omega); have HLB := Lib.hid (HLA.out.new hg); have HGB := Lib.hid (HGA.out.trans (kt_new hg)); clear hg hme HLA))
              | (go_at_call 40; ((with_reducible refine (law_fheld HLB.out (by omega) (List.mem_singleton.2 rfl) _ rfl).mono ?_); rintro e wC ⟨ao, cc, rfl, ho, hk, hl⟩; rw [HEA.out, HB.out] at ho; obtain ⟨q8, rfl, -, -, k8⟩ := ho.at (by decide); have k9 : wC.cell? ⟨q8, 0, none⟩ = some (.int .u8 (k : Int)) := k8 0 (by decide); have HLC := Lib.hid hl; have HGC := Lib.hid (HGB.out.trans (kt_dfr hk)); clear hk hl ho k8)))
            go_roundg gq
            case measure => omega
            case rel => exact ⟨k + 1, p, by omega, by go_num, rfl, Lib.hid ⟨_, _, _, _, _, HLC.out.mono (by omega), HAA.out, .inr ⟨HP2.out.1, rfl⟩, HP2.out.2, HGC.out⟩⟩
          · have hyd : (bits .and .u8 y 1 == 1) = false := by simpa using hyb
            go_wp2_with (first
              | (go_at_call 24; ((with_reducible refine (ag_commit_law HL3.out HA0.out (by decide) (by omega) _ rfl).mono ?_); rintro e wA ⟨rfl, hkA, N, F', rs', E, hl, hag, hE⟩; have HLA := Lib.hid hl; have HAA := Lib.hid hag; have HEA := Lib.hid hE; have HGA := Lib.hid (HG3.out.trans hkA.any); clear hl hag hE hkA))
              | (go_at_call 18; ((with_reducible refine (fmeta_any HLA.out.fl).mono ?_); rintro e wB ⟨he, hg⟩; have hme := meta_fields (.int .u64 (F'.mt.t : Int)) (.int .u32 (F'.mt.e : Int)) (.int .u32 (F'.mt.m : Int)) (.int .u32 (F'.mt.f : Int)); obtain rfl : e = .returned (.agg #[.int .u64 (F'.mt.t : Int), .int .u32 (F'.mt.e : Int), .int .u32 (F'.mt.m : Int), .int .u32 (F'.mt.f : Int)]) := he; have hfe := hme.2.1; have he8 : F'.mt.e ≤ 8 := HAA.out.e; have he16 : ¬ (16 : Int) < (F'.mt.e : Int) := (by omega); have he16d : decide ((16 : Int) < (F'.mt.e : Int)) = false := (by simp; omega); have HLB := Lib.hid (HLA.out.new hg); have HGB := Lib.hid (HGA.out.trans (kt_new hg)); clear hg hme HLA))
              | (go_at_call 40; ((with_reducible refine (law_fheld HLB.out (by omega) (List.mem_singleton.2 rfl) _ rfl).mono ?_); rintro e wC ⟨ao, cc, rfl, ho, hk, hl⟩; rw [HEA.out, HB.out] at ho; obtain ⟨q8, rfl, -, -, k8⟩ := ho.at (by decide); have k9 : wC.cell? ⟨q8, 0, none⟩ = some (.int .u8 (k : Int)) := k8 0 (by decide); have HLC := Lib.hid hl; have HGC := Lib.hid (HGB.out.trans (kt_dfr hk)); clear hk hl ho k8)))
            go_roundg gq
            case measure => omega
            case rel => exact ⟨k + 1, p, by omega, by go_num, rfl, Lib.hid ⟨_, _, _, _, _, HLC.out.mono (by omega), HAA.out, .inr ⟨HP2.out.1, rfl⟩, HP2.out.2, HGC.out⟩⟩
        · have hkai : ¬ (k : Int) < (n1 : Int) := by omega
          go_wp2_with (first
            | (go_at_call 24; ((with_reducible refine (ag_commit_law HL3.out HA0.out (by decide) (by omega) _ rfl).mono ?_); rintro e wA ⟨rfl, hkA, N, F', rs', E, hl, hag, hE⟩; have HLA := Lib.hid hl; have HAA := Lib.hid hag; have HEA := Lib.hid hE; have HGA := Lib.hid (HG3.out.trans hkA.any); clear hl hag hE hkA))
            | (go_at_call 18; ((with_reducible refine (fmeta_any HLA.out.fl).mono ?_); rintro e wB ⟨he, hg⟩; have hme := meta_fields (.int .u64 (F'.mt.t : Int)) (.int .u32 (F'.mt.e : Int)) (.int .u32 (F'.mt.m : Int)) (.int .u32 (F'.mt.f : Int)); obtain rfl : e = .returned (.agg #[.int .u64 (F'.mt.t : Int), .int .u32 (F'.mt.e : Int), .int .u32 (F'.mt.m : Int), .int .u32 (F'.mt.f : Int)]) := he; have hfe := hme.2.1; have he8 : F'.mt.e ≤ 8 := HAA.out.e; have he16 : ¬ (16 : Int) < (F'.mt.e : Int) := (by omega); have he16d : decide ((16 : Int) < (F'.mt.e : Int)) = false := (by simp; omega); have HLB := Lib.hid (HLA.out.new hg); have HGB := Lib.hid (HGA.out.trans (kt_new hg)); clear hg hme HLA))
            | (go_at_call 40; ((with_reducible refine (law_fheld HLB.out (by omega) (List.mem_singleton.2 rfl) _ rfl).mono ?_); rintro e wC ⟨ao, cc, rfl, ho, hk, hl⟩; rw [HEA.out, HB.out] at ho; obtain ⟨q8, rfl, -, -, k8⟩ := ho.at (by decide); have k9 : wC.cell? ⟨q8, 0, none⟩ = some (.int .u8 (k : Int)) := k8 0 (by decide); have HLC := Lib.hid hl; have HGC := Lib.hid (HGB.out.trans (kt_dfr hk)); clear hk hl ho k8)))
          go_roundg gq
          case measure => omega
          case rel => exact ⟨k + 1, p, by omega, by go_num, rfl, Lib.hid ⟨_, _, _, _, _, HLC.out.mono (by omega), HAA.out, .inr ⟨HP2.out.1, rfl⟩, HP2.out.2, HGC.out⟩⟩
      · have hl0 : ((last : Int) != 0) = true := by simp; omega
        have hl0e : ((last : Int) == 0) = false := by simp; omega
        have hl0n : ¬ (last : Int) = 0 := by omega
        have hl0m : ¬ last = 0 := by omega
        go_upto_region 16 with (first
          | (go_at_call 17; ((with_reducible refine (ag_begin_law HL0.out (by omega)).mono ?_); rintro r w1 ⟨t, x, rfl, hl, hg⟩; have HL1 := Lib.hid hl; have HG1 := Lib.hid (HG0.out.trans (kt_new hg)); clear hl hg))
          | (go_at_call 20; (refine (page_any w1 512 (k : Int) (by decide)).mono ?_; rintro e w2 ⟨g, rfl, ho, hg⟩; rw [← HB.out] at ho; have HO2 := Lib.hid ho; have HL2 := Lib.hid (HL1.out.new hg); have HG2 := Lib.hid (HG1.out.trans (kt_new hg)); clear ho hg HL1))
          | (go_at_call 19; ((with_reducible refine (ag_new_law HL2.out HA0.out HO2.out HBY.out).mono ?_); rintro e w3 ⟨rfl, hk3, hl⟩; rw [← HPE.out] at hl ⊢; have HL3 := Lib.hid hl; have HG3 := Lib.hid (HG2.out.trans hk3.any); clear hl hk3 HL2 HO2))
          | (go_at_call 22; ((with_reducible refine (ag_free_law HL3.out HA0.out _ rfl).mono ?_); rintro e w4 ⟨rfl, hk4, hl⟩; have HL4 := Lib.hid hl; have HG4 := Lib.hid (HG3.out.trans hk4.any); clear hl hk4 HL3)))
        have HP2 : Hid (2 ≤ p ∧ p < 4294967296) := Lib.hid (by obtain ⟨_, _, _, _, _, _, h2, h3⟩ := HL4.out; exact ⟨h2, h3⟩)
        by_cases hka : k < n1
        · obtain ⟨ba, oa, y, rfl, hcell, hy0, hy1⟩ := seq_byte H1.out B1.out (fun i hi => (HG4.out.block i hi (.inl hi))) k hka
          have hkai : (k : Int) < (n1 : Int) := by omega
          by_cases hyb : bits .and .u8 y 1 = 1
          · have hyd : (bits .and .u8 y 1 == 1) = true := by rw [hyb]; rfl
            go_wp2_with (first
              | (go_at_call 25; ((with_reducible refine (ag_abort_law HL4.out).mono ?_); rintro e w5 ⟨rfl, hk5, hl⟩; have HL5 := Lib.hid hl; have HG5 := Lib.hid (HG4.out.trans hk5.any); clear hl hk5 HL4))
              | (go_at_call 17; ((with_reducible refine (ag_begin_law HL5.out (by omega)).mono ?_); rintro r w6 ⟨u, y, rfl, hl, hg⟩; have HL6 := Lib.hid hl; have HG6 := Lib.hid (HG5.out.trans (kt_new hg)); clear hl hg HL5))
              | (go_at_call 20; (refine (page_any w6 512 (k : Int) (by decide)).mono ?_; rintro e w7 ⟨g7, rfl, ho, hg⟩; rw [← HB.out] at ho; have HO7 := Lib.hid ho; have HL7 := Lib.hid (HL6.out.new hg); have HG7 := Lib.hid (HG6.out.trans (kt_new hg)); clear ho hg HL6))
              | (go_at_call 19; ((with_reducible refine (ag_new_law HL7.out HA0.out HO7.out HBY.out).mono ?_); rintro e w8 ⟨rfl, hk8, hl⟩; rw [← HPE.out] at hl ⊢; have HL8 := Lib.hid hl; have HG8 := Lib.hid (HG7.out.trans hk8.any); clear hl hk8 HL7 HO7))
              | (go_at_call 22; ((with_reducible refine (ag_free_law HL8.out HA0.out _ rfl).mono ?_); rintro e w9 ⟨rfl, hk9, hl⟩; have HL9 := Lib.hid hl; have HG9 := Lib.hid (HG8.out.trans hk9.any); clear hl hk9 HL8))
              | (go_at_call 24; ((with_reducible refine (ag_commit_law HL9.out HA0.out (by decide) (by omega) _ rfl).mono ?_); rintro e wA ⟨rfl, hkA, N, F', rs', E, hl, hag, hE⟩; have HLA := Lib.hid hl; have HAA := Lib.hid hag; have HEA := Lib.hid hE; have HGA := Lib.hid (HG9.out.trans hkA.any); clear hl hag hE hkA))
              | (go_at_call 18; ((with_reducible refine (fmeta_any HLA.out.fl).mono ?_); rintro e wB ⟨he, hg⟩; have hme := meta_fields (.int .u64 (F'.mt.t : Int)) (.int .u32 (F'.mt.e : Int)) (.int .u32 (F'.mt.m : Int)) (.int .u32 (F'.mt.f : Int)); obtain rfl : e = .returned (.agg #[.int .u64 (F'.mt.t : Int), .int .u32 (F'.mt.e : Int), .int .u32 (F'.mt.m : Int), .int .u32 (F'.mt.f : Int)]) := he; have hfe := hme.2.1; have he8 : F'.mt.e ≤ 8 := HAA.out.e; have he16 : ¬ (16 : Int) < (F'.mt.e : Int) := (by omega); have he16d : decide ((16 : Int) < (F'.mt.e : Int)) = false := (by simp; omega); have HLB := Lib.hid (HLA.out.new hg); have HGB := Lib.hid (HGA.out.trans (kt_new hg)); clear hg hme HLA))
              | (go_at_call 40; ((with_reducible refine (law_fheld HLB.out (by omega) (List.mem_singleton.2 rfl) _ rfl).mono ?_); rintro e wC ⟨ao, cc, rfl, ho, hk, hl⟩; rw [HEA.out, HB.out] at ho; obtain ⟨q8, rfl, -, -, k8⟩ := ho.at (by decide); have k9 : wC.cell? ⟨q8, 0, none⟩ = some (.int .u8 (k : Int)) := k8 0 (by decide); have HLC := Lib.hid hl; have HGC := Lib.hid (HGB.out.trans (kt_dfr hk)); clear hk hl ho k8)))
            go_roundg gq
            case measure => omega
            case rel => exact ⟨k + 1, p, by omega, by go_num, rfl, Lib.hid ⟨_, _, _, _, _, HLC.out.mono (by omega), HAA.out, .inr ⟨HP2.out.1, rfl⟩, HP2.out.2, HGC.out⟩⟩
          · have hyd : (bits .and .u8 y 1 == 1) = false := by simpa using hyb
            go_wp2_with (first
              | (go_at_call 24; ((with_reducible refine (ag_commit_law HL4.out HA0.out (by decide) (by omega) _ rfl).mono ?_); rintro e wA ⟨rfl, hkA, N, F', rs', E, hl, hag, hE⟩; have HLA := Lib.hid hl; have HAA := Lib.hid hag; have HEA := Lib.hid hE; have HGA := Lib.hid (HG4.out.trans hkA.any); clear hl hag hE hkA))
              | (go_at_call 18; ((with_reducible refine (fmeta_any HLA.out.fl).mono ?_); rintro e wB ⟨he, hg⟩; have hme := meta_fields (.int .u64 (F'.mt.t : Int)) (.int .u32 (F'.mt.e : Int)) (.int .u32 (F'.mt.m : Int)) (.int .u32 (F'.mt.f : Int)); obtain rfl : e = .returned (.agg #[.int .u64 (F'.mt.t : Int), .int .u32 (F'.mt.e : Int), .int .u32 (F'.mt.m : Int), .int .u32 (F'.mt.f : Int)]) := he; have hfe := hme.2.1; have he8 : F'.mt.e ≤ 8 := HAA.out.e; have he16 : ¬ (16 : Int) < (F'.mt.e : Int) := (by omega); have he16d : decide ((16 : Int) < (F'.mt.e : Int)) = false := (by simp; omega); have HLB := Lib.hid (HLA.out.new hg); have HGB := Lib.hid (HGA.out.trans (kt_new hg)); clear hg hme HLA))
              | (go_at_call 40; ((with_reducible refine (law_fheld HLB.out (by omega) (List.mem_singleton.2 rfl) _ rfl).mono ?_); rintro e wC ⟨ao, cc, rfl, ho, hk, hl⟩; rw [HEA.out, HB.out] at ho; obtain ⟨q8, rfl, -, -, k8⟩ := ho.at (by decide); have k9 : wC.cell? ⟨q8, 0, none⟩ = some (.int .u8 (k : Int)) := k8 0 (by decide); have HLC := Lib.hid hl; have HGC := Lib.hid (HGB.out.trans (kt_dfr hk)); clear hk hl ho k8)))
            go_roundg gq
            case measure => omega
            case rel => exact ⟨k + 1, p, by omega, by go_num, rfl, Lib.hid ⟨_, _, _, _, _, HLC.out.mono (by omega), HAA.out, .inr ⟨HP2.out.1, rfl⟩, HP2.out.2, HGC.out⟩⟩
        · have hkai : ¬ (k : Int) < (n1 : Int) := by omega
          go_wp2_with (first
            | (go_at_call 24; ((with_reducible refine (ag_commit_law HL4.out HA0.out (by decide) (by omega) _ rfl).mono ?_); rintro e wA ⟨rfl, hkA, N, F', rs', E, hl, hag, hE⟩; have HLA := Lib.hid hl; have HAA := Lib.hid hag; have HEA := Lib.hid hE; have HGA := Lib.hid (HG4.out.trans hkA.any); clear hl hag hE hkA))
            | (go_at_call 18; ((with_reducible refine (fmeta_any HLA.out.fl).mono ?_); rintro e wB ⟨he, hg⟩; have hme := meta_fields (.int .u64 (F'.mt.t : Int)) (.int .u32 (F'.mt.e : Int)) (.int .u32 (F'.mt.m : Int)) (.int .u32 (F'.mt.f : Int)); obtain rfl : e = .returned (.agg #[.int .u64 (F'.mt.t : Int), .int .u32 (F'.mt.e : Int), .int .u32 (F'.mt.m : Int), .int .u32 (F'.mt.f : Int)]) := he; have hfe := hme.2.1; have he8 : F'.mt.e ≤ 8 := HAA.out.e; have he16 : ¬ (16 : Int) < (F'.mt.e : Int) := (by omega); have he16d : decide ((16 : Int) < (F'.mt.e : Int)) = false := (by simp; omega); have HLB := Lib.hid (HLA.out.new hg); have HGB := Lib.hid (HGA.out.trans (kt_new hg)); clear hg hme HLA))
            | (go_at_call 40; ((with_reducible refine (law_fheld HLB.out (by omega) (List.mem_singleton.2 rfl) _ rfl).mono ?_); rintro e wC ⟨ao, cc, rfl, ho, hk, hl⟩; rw [HEA.out, HB.out] at ho; obtain ⟨q8, rfl, -, -, k8⟩ := ho.at (by decide); have k9 : wC.cell? ⟨q8, 0, none⟩ = some (.int .u8 (k : Int)) := k8 0 (by decide); have HLC := Lib.hid hl; have HGC := Lib.hid (HGB.out.trans (kt_dfr hk)); clear hk hl ho k8)))
          go_roundg gq
          case measure => omega
          case rel => exact ⟨k + 1, p, by omega, by go_num, rfl, Lib.hid ⟨_, _, _, _, _, HLC.out.mono (by omega), HAA.out, .inr ⟨HP2.out.1, rfl⟩, HP2.out.2, HGC.out⟩⟩
    · obtain rfl : k = m := by omega
      obtain ⟨M, F, rs, H, D, _, _, _, _, hkf⟩ := hh.out
      go_wp2
      go_ret
      exact ⟨rfl, hkf.below (Nat.le_refl _)⟩

end Go.Proofs.YtnnmpaenainogaaGreat
