/-
  Layer 9: the document's example. Own work.
-/
import Derived.Test.YtoaglkbobndmeaaRdE
namespace Go.Proofs.Ytoaglkbobndmeaa
open Go.RowKit

def e9a : List Sl := [slz, slz]
def e9b : List Sl := [⟨1, 1, 5⟩, slz]
def e9c : List Sl := [⟨1, 1, 5⟩, ⟨1, 1, 7⟩]
def e9d : List Sl := [⟨0, 1, 0⟩, ⟨1, 1, 7⟩]
def e9e : List Sl := [⟨0, 1, 0⟩, ⟨2, 1, 7⟩]
def e9f : List Sl := [⟨0, 1, 0⟩, ⟨0, 1, 0⟩]

def X9New (w : World) (L : List Sl) (r : Ending) (w' : World) : Prop := ∃ b, r = .returned (.tuple #[.pointer (some ⟨b, 0, none⟩), .int .i64 0]) ∧ w.heap.size ≤ b ∧ TabAt b w' L ∧ w.grownBy w' none
theorem new9_ex (w : World) (n : Nat) (h1 : 1 ≤ n) (h2 : n ≤ 126) : Calls Try.prog 9 #[.int .i64 (n : Int)] w fun r w' => X9New w (List.replicate n slz) r w' :=
  (new9_good w n h1 h2).mono fun _ _ ⟨h, k, l⟩ => ⟨_, h, Nat.le_refl _, k, l⟩
theorem x9_new (w : World) : Calls Try.prog 9 #[.int .i64 2] w fun r w' => X9New w e9a r w' := new9_ex w 2 (by decide) (by decide)
theorem x9_b1 (w : World) (b : Nat) (h : TabAt b w e9a) : Calls Try.prog 11 #[.pointer (some ⟨b, 0, none⟩), .int .u64 5] w fun r w' => r = .returned (.tuple #[.agg #[.int .i64 0, .int .u64 1], .int .i64 0]) ∧ TabTo b w w' e9b :=
  begin_at w b e9a 5 0 slz h (fun j hj => absurd hj (by omega)) rfl rfl (by decide)
theorem x9_b2 (w : World) (b : Nat) (h : TabAt b w e9b) : Calls Try.prog 11 #[.pointer (some ⟨b, 0, none⟩), .int .u64 7] w fun r w' => r = .returned (.tuple #[.agg #[.int .i64 1, .int .u64 1], .int .i64 0]) ∧ TabTo b w w' e9c :=
  begin_at w b e9b 7 1 slz h (fun j hj s hs => by obtain rfl : j = 0 := by omega
                                                  obtain rfl : (⟨1, 1, 5⟩ : Sl) = s := by simpa [e9b] using hs
                                                  decide) rfl rfl (by decide)
theorem x9_b3 (w : World) (b : Nat) (h : TabAt b w e9c) : Calls Try.prog 11 #[.pointer (some ⟨b, 0, none⟩), .int .u64 8] w fun r w' => r = .returned (.tuple #[.agg #[.int .i64 0, .int .u64 0], .int .i64 22]) ∧ w.grownBy w' none :=
  begin_full w b e9c 8 h (fun s hs => by
    rcases (by simpa [e9c] using hs : s = ⟨1, 1, 5⟩ ∨ s = ⟨1, 1, 7⟩) with rfl | rfl <;> decide)
theorem x9_o1 (w : World) (b : Nat) (h : TabAt b w e9c) : Calls Try.prog 21 #[.pointer (some ⟨b, 0, none⟩), .int .u64 9] w fun r w' => r = .returned (.int .u64 5) ∧ w = w' := oldest_any w b e9c 9 h
theorem x9_o2 (w : World) (b : Nat) (h : TabAt b w e9d) : Calls Try.prog 21 #[.pointer (some ⟨b, 0, none⟩), .int .u64 9] w fun r w' => r = .returned (.int .u64 7) ∧ w = w' := oldest_any w b e9d 9 h
theorem x9_e (w : World) (b : Nat) (h : TabAt b w e9c) : Calls Try.prog 13 #[.pointer (some ⟨b, 0, none⟩), .agg #[.int .i64 0, .int .u64 1]] w fun r w' => r = .returned (.int .i64 0) ∧ TabTo b w w' e9d := end_yes w b e9c 0 1 ⟨1, 1, 5⟩ h rfl
theorem x9_t1 (w : World) (b : Nat) (h : TabAt b w e9d) : Calls Try.prog 19 #[.pointer (some ⟨b, 0, none⟩), .agg #[.int .i64 0, .int .u64 1]] w fun r w' => r = .returned (.tuple #[.int .u64 0, .int .i64 25]) ∧ w.grownBy w' none := txn_any w b e9d 0 1 h none rfl
theorem x9_t2 (w : World) (b : Nat) (h : TabAt b w e9d) : Calls Try.prog 19 #[.pointer (some ⟨b, 0, none⟩), .agg #[.int .i64 1, .int .u64 1]] w fun r w' => r = .returned (.tuple #[.int .u64 7, .int .i64 0]) ∧ w.grownBy w' none := txn_any w b e9d 1 1 h (some ⟨1, 1, 7⟩) rfl
theorem x9_l1 (w : World) (b : Nat) (h : TabAt b w e9d) : Calls Try.prog 23 #[.pointer (some ⟨b, 0, none⟩)] w fun r w' => r = .returned (.int .i64 1) ∧ w = w' := live_any w b e9d h
theorem x9_d (w : World) (b : Nat) (h : TabAt b w e9d) : Calls Try.prog 15 #[.pointer (some ⟨b, 0, none⟩), .int .i64 1] w fun r w' => r = .returned (.bool true) ∧ TabTo b w w' e9e := dead_yes w b e9d 1 ⟨1, 1, 7⟩ h rfl
theorem x9_c (w : World) (b : Nat) (h : TabAt b w e9e) : Calls Try.prog 17 #[.pointer (some ⟨b, 0, none⟩)] w fun r w' => r = .returned (.int .i64 1) ∧ TabTo b w w' e9f := clear_any w b e9e h
theorem x9_l2 (w : World) (b : Nat) (h : TabAt b w e9f) : Calls Try.prog 23 #[.pointer (some ⟨b, 0, none⟩)] w fun r w' => r = .returned (.int .i64 0) ∧ w = w' := live_any w b e9f h

theorem TabTo.grown {b : Nat} {w0 w w' : World} {L : List Sl} (h : TabTo b w w' L) (g : w0.grownBy w none) (hb : w0.heap.size ≤ b) : w0.grownBy w' none := gnew g h.2 hb
theorem hdl_at {w : World} {q : Nat} {x y : Value} (h : w.heap[q]? = some (.cells #[x, y] 36 (0, 0))) {w' : World} {b : Nat} {L : List Sl} (ht : TabAt b w L) (hg : w.grownBy w' (some b)) : w'.heap[q]? = some (.cells #[x, y] 36 (0, 0)) :=
  (hg.block q (lt_of_block h) (by intro e; injection e with e; subst e; rw [ht.box] at h; injection h with h; injection h with _ ht _; exact absurd ht (by decide))).trans h

set_option maxRecDepth 30000 in
set_option maxHeartbeats 8000000 in
theorem awake9_any (w : World) : Calls Try.prog 8 #[] w fun r w' => r = .returned (.bool true) ∧ w.grownBy w' none := by
  go_enter Try.func8, Try.ntmps8
  go_wp2_with (first
    | (go_at_call 9; (with_reducible refine (x9_new w).mono ?_); rintro r w1 ⟨b, rfl, hb, hs, hg⟩; have H1 := Lib.hid hs; have G1 := Lib.hid hg; clear hs hg)
    | (go_at_call 11; (with_reducible refine (x9_b1 w1 b H1.out).mono ?_); rintro r w2 ⟨rfl, ht⟩; have H2 := Lib.hid (ht.1.grown (World.grownBy_alloc w2 (.cells #[.int .i64 0, .int .u64 1] 36) none)); have G2 := Lib.hid (gtrans (ht.grown G1.out hb) (World.grownBy_alloc w2 (.cells #[.int .i64 0, .int .u64 1] 36) none)); have A2 := Lib.hid (heap_alloc_new w2 (.cells #[.int .i64 0, .int .u64 1] 36 (0, 0))); clear ht)
    | (go_at_call 11; (with_reducible refine (x9_b2 _ b H2.out).mono ?_); rintro r w3 ⟨rfl, ht⟩; have H3 := Lib.hid (ht.1.grown (World.grownBy_alloc w3 (.cells #[.int .i64 1, .int .u64 1] 36) none)); have G3 := Lib.hid (gtrans (ht.grown G2.out hb) (World.grownBy_alloc w3 (.cells #[.int .i64 1, .int .u64 1] 36) none)); have A3 := Lib.hid (keep_alloc1 (hdl_at A2.out H2.out ht.2) (.cells #[.int .i64 1, .int .u64 1] 36)); have B3 := Lib.hid (heap_alloc_new w3 (.cells #[.int .i64 1, .int .u64 1] 36 (0, 0))); clear ht)
    | (go_at_call 11; (with_reducible refine (x9_b3 _ b H3.out).mono ?_); rintro r w4 ⟨rfl, hg⟩; have hg2 := gtrans hg (World.grownBy_alloc w4 (.cells #[.int .i64 0, .int .u64 0] 36) none); have H4 := Lib.hid (H3.out.grown hg2); have G4 := Lib.hid (gtrans G3.out hg2); have A4 := Lib.hid (hdl_at A3.out H3.out (gwide hg2)); have B4 := Lib.hid (hdl_at B3.out H3.out (gwide hg2)); have k4 := cells2 A4.out; clear hg hg2)
    | (go_at_call 21; (with_reducible refine (x9_o1 _ b H4.out).mono ?_); rintro r wq ⟨rfl, rfl⟩)
    | (go_at_call 13; (with_reducible refine (x9_e _ b H4.out).mono ?_); rintro r w5 ⟨rfl, ht⟩; have H5 := Lib.hid ht.1; have G5 := Lib.hid (ht.grown G4.out hb); have A5 := Lib.hid (hdl_at A4.out H4.out ht.2); have B5 := Lib.hid (hdl_at B4.out H4.out ht.2); have k5 := cells2 A5.out; have m5 := cells2 B5.out; clear ht)
    | (go_at_call 21; (with_reducible refine (x9_o2 w5 b H5.out).mono ?_); rintro r wq ⟨rfl, rfl⟩)
    | (go_at_call 19; (with_reducible refine (x9_t1 w5 b H5.out).mono ?_); rintro r w6 ⟨rfl, hg⟩; have H6 := Lib.hid (H5.out.grown hg); have G6 := Lib.hid (gtrans G5.out hg); have B6 := Lib.hid (hdl_at B5.out H5.out (gwide hg)); have m6 := cells2 B6.out; clear hg)
    | (go_at_call 19; (with_reducible refine (x9_t2 w6 b H6.out).mono ?_); rintro r w7 ⟨rfl, hg⟩; have H7 := Lib.hid (H6.out.grown hg); have G7 := Lib.hid (gtrans G6.out hg); clear hg)
    | (go_at_call 23; (with_reducible refine (x9_l1 w7 b H7.out).mono ?_); rintro r wq ⟨rfl, rfl⟩)
    | (go_at_call 15; (with_reducible refine (x9_d w7 b H7.out).mono ?_); rintro r w8 ⟨rfl, ht⟩; have H8 := Lib.hid ht.1; have G8 := Lib.hid (ht.grown G7.out hb); clear ht)
    | (go_at_call 17; (with_reducible refine (x9_c w8 b H8.out).mono ?_); rintro r w9 ⟨rfl, ht⟩; have H9 := Lib.hid ht.1; have G9 := Lib.hid (ht.grown G8.out hb); clear ht)
    | (go_at_call 23; (with_reducible refine (x9_l2 w9 b H9.out).mono ?_); rintro r wq ⟨rfl, rfl⟩)
    | go_in)
  go_ret
  exact ⟨rfl, G9.out⟩

end Go.Proofs.Ytoaglkbobndmeaa
