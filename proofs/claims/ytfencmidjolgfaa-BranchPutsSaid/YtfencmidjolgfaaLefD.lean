/-
  Layer 4: the contract of leaf's cellOf. Own work.
-/
import Derived.Test.YtfencmidjolgfaaLefC
import Derived.Test.YtfencmidjolgfaaLayC
namespace Go.Proofs.Ytfencmidjolgfaa
open Go.RowKit

theorem four_cells {w : World} {q : Nat} {a b c d : Value} {t : TypeId} (h : w.heap[q]? = some (.cells #[a, b, c, d] t (0, 0))) :
    w.cell? ⟨q, 0, none⟩ = some a ∧ w.cell? ⟨q, 1, none⟩ = some b ∧ w.cell? ⟨q, 2, none⟩ = some c ∧ w.cell? ⟨q, 3, none⟩ = some d := by
  refine ⟨?_, ?_, ?_, ?_⟩ <;> simp [World.cell?, h]
/-- What stands while a cell is put: the Writer at g has put bs; the entry lies in block q. -/
structure CSt (B q g : Nat) (w0 w : World) (k v : Value) (x : En) (bs : List Int) : Prop where
  wr : WrAt w g bs
  hp : w.heap[q]? = some (.cells (ecs k v x.long x.first) 43 (0, 0))
  sk : Seq B w k x.key
  sv : Seq B w v x.val
  qg : q < g
  Bg : B ≤ g
  bel : Below w0.heap.size w0 w
  q0 : w0.heap.size ≤ q
theorem CSt.step {B q g : Nat} {w0 w w' : World} {k v : Value} {x : En} {bs bs' : List Int} (h : CSt B q g w0 w k v x bs) (hw : WrAt w' g bs') (hf : Fw g w w') : CSt B q g w0 w' k v x bs' :=
  ⟨hw, fw_heap hf h.wr h.qg h.hp, fw_seq hf h.wr h.Bg h.sk, fw_seq hf h.wr h.Bg h.sv, h.qg, h.Bg, h.bel.trans ((hf.below h.wr).mono (by have := h.q0; have := h.qg; omega)), h.q0⟩
theorem CSt.alloc {B q g : Nat} {w0 w : World} {k v : Value} {x : En} {bs : List Int} (h : CSt B q g w0 w k v x bs) (o : Obj) : CSt B q g w0 (w.alloc o) k v x bs := by
  have hg := World.grownBy_alloc w o none
  have hl := h.wr.lt
  exact ⟨h.wr.kept hg, (hg.block q (lt_of_block h.hp) (by simp)).trans h.hp, h.sk.below (fun i hi => hg.block i (by have := h.Bg; omega) (by simp)), h.sv.below (fun i hi => hg.block i (by have := h.Bg; omega) (by simp)), h.qg, h.Bg, h.bel.alloc (by have := h.q0; have := h.qg; omega) o, h.q0⟩
theorem CSt.num {B q g : Nat} {w0 w : World} {k v : Value} {x : En} {bs : List Int} (h : CSt B q g w0 w k v x bs) (X : Int) (n : Nat) (m : Int) (hm : m = (n : Int)) (h0 : 0 ≤ X) (h1 : X ≤ 18446744073709551615) (hn1 : 1 ≤ n) (hn8 : n ≤ 8) (hl : bs.length ≤ 1000000) :
    Calls Try.prog 63 #[.pointer (some ⟨g, 0, none⟩),   .int .u64 X, .int .i64 m] w fun r w' => r = .returned (.tuple #[]) ∧ CSt B q g w0 w' k v x (bs ++ numB X n n) := by
  subst hm
  exact (wnum_in w g n X bs h.wr h0 h1 hn1 hn8 (by omega)).mono fun r w' ⟨e, hw, hf⟩ => ⟨e, h.step hw hf⟩
theorem CSt.rawk {B q g : Nat} {w0 w : World} {k v : Value} {x : En} {bs : List Int} (h : CSt B q g w0 w k v x bs) (hl : bs.length ≤ 1000000) (hk : x.key.length ≤ 100000) :
    Calls Try.prog 66 #[.pointer (some ⟨g, 0, none⟩), k] w fun r w' => r = .returned (.tuple #[]) ∧ CSt B q g w0 w' k v x (bs ++ x.key) :=
  (wraw_any w g B bs x.key k h.wr h.sk (by omega)).mono fun r w' ⟨e, hw, hf⟩ => ⟨e, h.step hw hf⟩
theorem CSt.rawv {B q g : Nat} {w0 w : World} {k v : Value} {x : En} {bs : List Int} (h : CSt B q g w0 w k v x bs) (hl : bs.length ≤ 1000000) (hk : x.val.length ≤ 100000) :
    Calls Try.prog 66 #[.pointer (some ⟨g, 0, none⟩), v] w fun r w' => r = .returned (.tuple #[]) ∧ CSt B q g w0 w' k v x (bs ++ x.val) :=
  (wraw_any w g B bs x.val v h.wr h.sv (by omega)).mono fun r w' ⟨e, hw, hf⟩ => ⟨e, h.step hw hf⟩
theorem CSt.start {B : Nat} {w : World} {k v : Value} {x : En} {w1 : World} (h1 : Seq B w k x.key) (h2 : Seq B w v x.val) (hB : B ≤ w.heap.size)
    (hw : WrAt w1 (w.alloc (.cells (ecs k v x.long x.first) 43)).heap.size []) (hg : (w.alloc (.cells (ecs k v x.long x.first) 43)).grownBy w1 none) :
    CSt B w.heap.size (w.heap.size + 1) w w1 k v x [] := by
  have ha := gtrans (World.grownBy_alloc w (.cells (ecs k v x.long x.first) 43) none) hg
  have e : (w.alloc (.cells (ecs k v x.long x.first) 43)).heap.size = w.heap.size + 1 := by simp
  rw [e] at hw
  exact ⟨hw, (hg.block w.heap.size (by simp) (by simp)).trans (heap_alloc_new _ _), h1.below (fun i hi => ha.block i (by omega) (by simp)), h2.below (fun i hi => ha.block i (by omega) (by simp)), by omega, by omega, gbelow ha, Nat.le_refl _⟩

set_option maxRecDepth 100000 in
set_option maxHeartbeats 4000000 in
theorem cellOf_any (w : World) (B : Nat) (a1 a2 : Option Addr) (c1 c2 : Nat) (x : En) (h : EnOk x) (h1 : Seq B w (.slice a1 x.key.length c1) x.key) (h2 : Seq B w (.slice a2 x.val.length c2) x.val) (hB : B ≤ w.heap.size) (hl : 0 ≤ x.long) :
    Calls Try.prog 43 #[.agg (ecs (.slice a1 x.key.length c1) (.slice a2 x.val.length c2) x.long x.first)] w fun r w' => ∃ ao c, r = .returned (.slice ao (cl x) c) ∧
      w'.ownsRow w.heap.size 5 1 (.slice ao (cl x) c) (cl x) ((cellB x).map (.int .u8)) ∧ w.grownBy w' none := by
  have hk := h.kl
  have hv := h.vl
  have hl1 := h.l1
  have hf0 := h.f0
  have hf1 := h.f1
  have H1 := Lib.hid h1
  have H2 := Lib.hid h2
  have HCL := Lib.hid (cellB_len x)
  have HCB := Lib.hid (show cl x ≤ 140737488355328 from Nat.le_trans (cl_le h) (by decide))
  clear h1 h2 h
  by_cases hf : 0 < x.first
  · have hd : decide (0 < x.first) = true := by simpa using hf
    have HX := Lib.hid (show cellB x = ((((numB x.key.length 1 1 ++ x.key) ++ numB 1 1 1) ++ numB x.long 4 4) ++ numB x.first 4 4) from if_pos hf)
    go_enter Try.func43, Try.ntmps43
    go_wp2_with (go_at_call 65; refine (newW_any _).mono ?_; rintro r w1 ⟨rfl, hw1, hg1⟩; have HS := Lib.hid (CSt.start H1.out H2.out hB hw1 hg1); clear hw1 hg1; obtain ⟨z0, z1, z2, z3⟩ := four_cells HS.out.hp)
    go_wp2_with (go_at_call 63; have K := HS.out.num (x.key.length : Int) 1 1 rfl (by omega) (by omega) (by omega) (by omega) (by simp [numB_len]; try omega); ((with_reducible refine K.mono ?_); clear K; rintro r wn ⟨rfl, hs⟩); clear HS z0 z1 z2 z3; have HS := Lib.hid hs; obtain ⟨z0, z1, z2, z3⟩ := four_cells hs.hp; clear hs)
    go_wp2_with (go_at_call 66; have K := HS.out.rawk (by simp [numB_len]; try omega) hk; ((with_reducible refine K.mono ?_); clear K; rintro r wn ⟨rfl, hs⟩); clear HS z0 z1 z2 z3; have HS := Lib.hid hs; obtain ⟨z0, z1, z2, z3⟩ := four_cells hs.hp; clear hs)
    go_wp2_with (go_at_call 50; refine (isFar_any _ _ _ _ _).mono ?_; rintro r wn ⟨rfl, rfl⟩; have hs := HS.out.alloc (.cells (ecs (.slice a1 x.key.length c1) (.slice a2 x.val.length c2) x.long x.first) 43); clear HS z0 z1 z2 z3; have HS := Lib.hid hs; obtain ⟨z0, z1, z2, z3⟩ := four_cells hs.hp; clear hs)
    go_wp2_with (go_at_call 63; have K := HS.out.num 1 1 1 rfl (by omega) (by omega) (by omega) (by omega) (by simp [numB_len]; try omega); ((with_reducible refine K.mono ?_); clear K; rintro r wn ⟨rfl, hs⟩); clear HS z0 z1 z2 z3; have HS := Lib.hid hs; obtain ⟨z0, z1, z2, z3⟩ := four_cells hs.hp; clear hs)
    go_wp2_with (go_at_call 63; have K := HS.out.num x.long 4 4 rfl (by omega) (by omega) (by omega) (by omega) (by simp [numB_len]; try omega); ((with_reducible refine K.mono ?_); clear K; rintro r wn ⟨rfl, hs⟩); clear HS z0 z1 z2 z3; have HS := Lib.hid hs; obtain ⟨z0, z1, z2, z3⟩ := four_cells hs.hp; clear hs)
    go_wp2_with (go_at_call 63; have K := HS.out.num x.first 4 4 rfl (by omega) (by omega) (by omega) (by omega) (by simp [numB_len]; try omega); ((with_reducible refine K.mono ?_); clear K; rintro r wn ⟨rfl, hs⟩); clear HS z0 z1 z2 z3; have HS := Lib.hid hs; obtain ⟨z0, z1, z2, z3⟩ := four_cells hs.hp; clear hs)
    go_wp2_with (go_at_call 64; have K := out_len HS.out.wr (n := cl x) (by rw [← HCL.out, HX.out]; rfl) HCB.out; ((with_reducible refine K.mono ?_); clear K; rintro r wn ⟨ao, c, rfl, ho, hgo⟩; have HO := Lib.hid ho; have HGO := Lib.hid hgo; have HBL := Lib.hid HS.out.bel; have HQ0 := Lib.hid HS.out.wr.lt; clear ho hgo HS z0 z1 z2 z3))
    go_ret
    refine ⟨ao, c, rfl, own_base (by rw [HX.out]; simpa using HO.out) HBL.out.size, ?_⟩
    exact gof (HBL.out.trans ((gbelow HGO.out).mono HBL.out.size)) none
  · have hd : decide (0 < x.first) = false := by simpa using hf
    have HX := Lib.hid (show cellB x = ((((numB x.key.length 1 1 ++ x.key) ++ numB 0 1 1) ++ numB x.val.length 2 2) ++ x.val) from if_neg hf)
    go_enter Try.func43, Try.ntmps43
    go_wp2_with (go_at_call 65; refine (newW_any _).mono ?_; rintro r w1 ⟨rfl, hw1, hg1⟩; have HS := Lib.hid (CSt.start H1.out H2.out hB hw1 hg1); clear hw1 hg1; obtain ⟨z0, z1, z2, z3⟩ := four_cells HS.out.hp)
    go_wp2_with (go_at_call 63; have K := HS.out.num (x.key.length : Int) 1 1 rfl (by omega) (by omega) (by omega) (by omega) (by simp [numB_len]; try omega); ((with_reducible refine K.mono ?_); clear K; rintro r wn ⟨rfl, hs⟩); clear HS z0 z1 z2 z3; have HS := Lib.hid hs; obtain ⟨z0, z1, z2, z3⟩ := four_cells hs.hp; clear hs)
    go_wp2_with (go_at_call 66; have K := HS.out.rawk (by simp [numB_len]; try omega) hk; ((with_reducible refine K.mono ?_); clear K; rintro r wn ⟨rfl, hs⟩); clear HS z0 z1 z2 z3; have HS := Lib.hid hs; obtain ⟨z0, z1, z2, z3⟩ := four_cells hs.hp; clear hs)
    go_wp2_with (go_at_call 50; refine (isFar_any _ _ _ _ _).mono ?_; rintro r wn ⟨rfl, rfl⟩; have hs := HS.out.alloc (.cells (ecs (.slice a1 x.key.length c1) (.slice a2 x.val.length c2) x.long x.first) 43); clear HS z0 z1 z2 z3; have HS := Lib.hid hs; obtain ⟨z0, z1, z2, z3⟩ := four_cells hs.hp; clear hs)
    go_wp2_with (go_at_call 63; have K := HS.out.num 0 1 1 rfl (by omega) (by omega) (by omega) (by omega) (by simp [numB_len]; try omega); ((with_reducible refine K.mono ?_); clear K; rintro r wn ⟨rfl, hs⟩); clear HS z0 z1 z2 z3; have HS := Lib.hid hs; obtain ⟨z0, z1, z2, z3⟩ := four_cells hs.hp; clear hs)
    go_wp2_with (go_at_call 63; have K := HS.out.num (x.val.length : Int) 2 2 rfl (by omega) (by omega) (by omega) (by omega) (by simp [numB_len]; try omega); ((with_reducible refine K.mono ?_); clear K; rintro r wn ⟨rfl, hs⟩); clear HS z0 z1 z2 z3; have HS := Lib.hid hs; obtain ⟨z0, z1, z2, z3⟩ := four_cells hs.hp; clear hs)
    go_wp2_with (go_at_call 66; have K := HS.out.rawv (by simp [numB_len]; try omega) hv; ((with_reducible refine K.mono ?_); clear K; rintro r wn ⟨rfl, hs⟩); clear HS z0 z1 z2 z3; have HS := Lib.hid hs; obtain ⟨z0, z1, z2, z3⟩ := four_cells hs.hp; clear hs)
    go_wp2_with (go_at_call 64; have K := out_len HS.out.wr (n := cl x) (by rw [← HCL.out, HX.out]; rfl) HCB.out; ((with_reducible refine K.mono ?_); clear K; rintro r wn ⟨ao, c, rfl, ho, hgo⟩; have HO := Lib.hid ho; have HGO := Lib.hid hgo; have HBL := Lib.hid HS.out.bel; have HQ0 := Lib.hid HS.out.wr.lt; clear ho hgo HS z0 z1 z2 z3))
    go_ret
    refine ⟨ao, c, rfl, own_base (by rw [HX.out]; simpa using HO.out) HBL.out.size, ?_⟩
    exact gof (HBL.out.trans ((gbelow HGO.out).mono HBL.out.size)) none

end Go.Proofs.Ytfencmidjolgfaa
