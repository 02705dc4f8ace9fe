/-
  Layer 5: the contract of branch's cellOf. Own work.
-/
import Derived.Test.YtfencmidjolgfaaBrB
import Derived.Test.YtfencmidjolgfaaLayC
namespace Go.Proofs.Ytfencmidjolgfaa
open Go.RowKit

theorem bout_len {w : World} {g n : Nat} {bs : List Int} (h : WrAt w g bs) (hn : bs.length = n) (hl : n ≤ 140737488355328) :
    Calls Try.prog 64 #[.pointer (some ⟨g, 0, none⟩)] w fun r w' => ∃ ao c, r = .returned (.slice ao n c) ∧
      w'.ownsRow w.heap.size 5 1 (.slice ao n c) n (bs.map (Value.int .u8)) ∧ w.grownBy w' none := by
  subst hn
  exact out_any w g bs h hl

/-- What stands while a cell is put: the Writer at g has put bs; the entry lies in block q. -/
structure BSt (B q g : Nat) (w0 w : World) (k : Value) (x : En) (bs : List Int) : Prop where
  wr : WrAt w g bs
  hp : w.heap[q]? = some (.cells (bcs k x.first) 79 (0, 0))
  sk : Seq B w k x.key
  qg : q < g
  Bg : B ≤ g
  bel : Below w0.heap.size w0 w
  q0 : w0.heap.size ≤ q
theorem BSt.step {B q g : Nat} {w0 w w' : World} {k : Value} {x : En} {bs bs' : List Int} (h : BSt B q g w0 w k x bs) (hw : WrAt w' g bs') (hf : Fw g w w') : BSt B q g w0 w' k x bs' :=
  ⟨hw, fw_heap hf h.wr h.qg h.hp, fw_seq hf h.wr h.Bg h.sk, h.qg, h.Bg, h.bel.trans ((hf.below h.wr).mono (by have := h.q0; have := h.qg; omega)), h.q0⟩
theorem BSt.num {B q g : Nat} {w0 w : World} {k : Value} {x : En} {bs : List Int} (h : BSt B q g w0 w k x bs) (X : Int) (n : Nat) (m : Int) (hm : m = (n : Int)) (h0 : 0 ≤ X) (h1 : X ≤ 18446744073709551615) (hn1 : 1 ≤ n) (hn8 : n ≤ 8) (hl : bs.length ≤ 1000000) :
    Calls Try.prog 63 #[.pointer (some ⟨g, 0, none⟩),   .int .u64 X, .int .i64 m] w fun r w' => r = .returned (.tuple #[]) ∧ BSt B q g w0 w' k x (bs ++ numB X n n) := by
  subst hm
  exact (wnum_in w g n X bs h.wr h0 h1 hn1 hn8 (by omega)).mono fun r w' ⟨e, hw, hf⟩ => ⟨e, h.step hw hf⟩
theorem BSt.rawk {B q g : Nat} {w0 w : World} {k : Value} {x : En} {bs : List Int} (h : BSt B q g w0 w k x bs) (hl : bs.length ≤ 1000000) (hk : x.key.length ≤ 100000) :
    Calls Try.prog 66 #[.pointer (some ⟨g, 0, none⟩), k] w fun r w' => r = .returned (.tuple #[]) ∧ BSt B q g w0 w' k x (bs ++ x.key) :=
  (wraw_any w g B bs x.key k h.wr h.sk (by omega)).mono fun r w' ⟨e, hw, hf⟩ => ⟨e, h.step hw hf⟩
theorem BSt.start {B : Nat} {w : World} {k : Value} {x : En} {w1 : World} (h1 : Seq B w k x.key) (hB : B ≤ w.heap.size)
    (hw : WrAt w1 (w.alloc (.cells (bcs k x.first) 79)).heap.size []) (hg : (w.alloc (.cells (bcs k x.first) 79)).grownBy w1 none) :
    BSt B w.heap.size (w.heap.size + 1) w w1 k x [] := by
  have ha := gtrans (World.grownBy_alloc w (.cells (bcs k x.first) 79) none) hg
  have e : (w.alloc (.cells (bcs k x.first) 79)).heap.size = w.heap.size + 1 := by simp
  rw [e] at hw
  exact ⟨hw, (hg.block w.heap.size (by simp) (by simp)).trans (heap_alloc_new _ _), h1.below (fun i hi => ha.block i (by omega) (by simp)), by omega, by omega, gbelow ha, Nat.le_refl _⟩

set_option maxRecDepth 100000 in
set_option maxHeartbeats 4000000 in
theorem bcellOf_any (w : World) (B : Nat) (a1 : Option Addr) (c1 : Nat) (x : En) (h : BOk x) (h1 : Seq B w (.slice a1 x.key.length c1) x.key) (hB : B ≤ w.heap.size) :
    Calls Try.prog 56 #[.agg (bcs (.slice a1 x.key.length c1) x.first)] w fun r w' => ∃ ao c, r = .returned (.slice ao (bcl x) c) ∧
      w'.ownsRow w.heap.size 5 1 (.slice ao (bcl x) c) (bcl x) ((bcellB x).map (.int .u8)) ∧ w.grownBy w' none := by
  have hk := h.ok.kl
  have hf0 := h.ok.f0
  have hf1 := h.ok.f1
  have H1 := Lib.hid h1
  have HCL := Lib.hid (bcellB_len x)
  have HCB := Lib.hid (show bcl x ≤ 140737488355328 from Nat.le_trans (bcl_le h) (by decide))
  have HX := Lib.hid (show bcellB x = (([] ++ numB x.key.length 1 1) ++ x.key) ++ numB x.first 4 4 from rfl)
  clear h1 h
  go_enter Try.func56, Try.ntmps56
  go_wp2_with (go_at_call 65; refine (newW_any _).mono ?_; rintro r w1 ⟨rfl, hw1, hg1⟩; have HS := Lib.hid (BSt.start H1.out hB hw1 hg1); clear hw1 hg1; obtain ⟨z0, z1⟩ := two_cells2 HS.out.hp)
  go_wp2_with (go_at_call 63; have K := HS.out.num (x.key.length : Int) 1 1 rfl (by omega) (by omega) (by omega) (by omega) (by simp [numB_len]; try omega); ((with_reducible refine K.mono ?_); clear K; rintro r wn ⟨rfl, hs⟩); clear HS z0 z1; have HS := Lib.hid hs; obtain ⟨z0, z1⟩ := two_cells2 hs.hp; clear hs)
  go_wp2_with (go_at_call 66; have K := HS.out.rawk (by simp [numB_len]; try omega) hk; ((with_reducible refine K.mono ?_); clear K; rintro r wn ⟨rfl, hs⟩); clear HS z0 z1; have HS := Lib.hid hs; obtain ⟨z0, z1⟩ := two_cells2 hs.hp; clear hs)
  go_wp2_with (go_at_call 63; have K := HS.out.num x.first 4 4 rfl (by omega) (by omega) (by omega) (by omega) (by simp [numB_len]; try omega); ((with_reducible refine K.mono ?_); clear K; rintro r wn ⟨rfl, hs⟩); clear HS z0 z1; have HS := Lib.hid hs; clear hs)
  go_wp2_with (go_at_call 64; have K := bout_len HS.out.wr (n := bcl x) (by rw [← HCL.out, HX.out]) HCB.out; ((with_reducible refine K.mono ?_); clear K; rintro r wn ⟨ao, c, rfl, ho, hgo⟩; have HO := Lib.hid ho; have HGO := Lib.hid hgo; have HBL := Lib.hid HS.out.bel; clear ho hgo HS))
  go_ret
  refine ⟨ao, c, rfl, own_base (by rw [HX.out]; simpa using HO.out) HBL.out.size, ?_⟩
  exact gof (HBL.out.trans ((gbelow HGO.out).mono HBL.out.size)) none

end Go.Proofs.Ytfencmidjolgfaa
