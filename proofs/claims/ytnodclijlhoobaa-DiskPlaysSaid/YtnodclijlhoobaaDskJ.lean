/-
  Layer 3: the page of noughts, made once. Own work.
-/
import Derived.Test.YtnodclijlhoobaaDskH
import Derived.Test.YtnodclijlhoobaaDskI
import Derived.Deep.OwnRows
namespace Go.Proofs.Ytnodclijlhoobaa
open Go.RowKit

def Same (w' w : World) : Prop := w'.heap = w.heap ∧ w'.os = w.os ∧ w'.tape = w.tape ∧ w'.output = w.output
theorem Same.grown {a b c : World} {row : Option Nat} (h : Same c b) (g : a.grownBy b row) : a.grownBy c row :=
  ⟨h.2.1.trans g.os, h.2.2.1.trans g.tape, h.2.2.2.trans g.output, by rw [h.1]; exact g.size, fun k hk hn => by rw [h.1]; exact g.block k hk hn⟩

theorem keep_alloc1 {w : World} {i : Nat} {x : Obj} (h : w.heap[i]? = some x) (o : Obj) : (w.alloc o).heap[i]? = some x := (Below.heap_alloc w o i (lt_of_block h)).trans h

theorem bload_any (a : Addr) (x : Int) (w : World) (hc : w.cell? a = some (.int .u32 x)) :
    Calls Try.prog 90 #[.pointer (some a)] w fun r w' => r = .returned (.bool (x != 0)) ∧ w = w' := by
  have hl := run_call_load (P := Try.prog) Try.func97 (by kernel_rfl) (by kernel_rfl) (by kernel_rfl) .u32 (by kernel_rfl) hc
  go_enter Try.func90, Try.ntmps90
  go_wp2
  go_ret
  exact ⟨rfl, rfl⟩

set_option maxRecDepth 100000 in
set_option maxHeartbeats 1000000 in
theorem blank1_any (pl : Addr) (d n : Nat) (x1 x2 x3 x4 x5 x6 x7 x8 x9 x10 : Value) (w : World) (hp : w.cell? pl = some (.pointer (some ⟨d, 0, none⟩))) (hn : n ≤ 4096)
    (hb : w.heap[d]? = some (.cells #[.int .i64 (n : Int), x1, x2, x3, x4, x5, x6, x7, x8, x9, x10] 111 (0, 0))) :
    Calls Try.prog 78 #[.pointer (some pl)] w fun e w' => e = .returned (.tuple #[]) ∧ Same w' ((w.alloc (.cells (madeCells #[Value.int .u8 0] n) 5)).setCell ⟨d, 10, none⟩ (.slice (some ⟨w.heap.size, 0, none⟩) n n)) := by
  have hmk := run_make_row' (P := Try.prog) 22 5 (.int .u8 0) 1 Try.underlying22 infoU8 rfl .i64 .i64 n (by omega) (by omega)
  have c0 := (cells11 hb).1
  have c10 : (w.alloc (.cells (madeCells #[Value.int .u8 0] n) 5)).cell? ⟨d, 10, none⟩ = some x10 := cell_alloc (cells11 hb).2.2.2.2.2.2.2.2.2.2
  have f10 : (w.alloc (.cells (madeCells #[Value.int .u8 0] n) 5)).frozen? ⟨d, 10, none⟩ = false := free11 ((Below.heap_alloc w _ d (lt_of_block hb)).trans hb) 10
  have hp2 : (w.alloc (.cells (madeCells #[Value.int .u8 0] n) 5)).cell? pl = some (.pointer (some ⟨d, 0, none⟩)) := cell_alloc hp
  have c02 : (w.alloc (.cells (madeCells #[Value.int .u8 0] n) 5)).cell? ⟨d, 0, none⟩ = some (.int .i64 (n : Int)) := cell_alloc c0
  go_enter Try.func78, Try.ntmps78
  go_wp2
  go_region
  all_goals (go_end0; exact ⟨rfl, rfl, rfl, rfl, rfl⟩)

/-- What 'doSlow' leaves. -/
def SlowP (w : World) (d n : Nat) (x1 x2 x3 x4 x5 x6 x9 : Value) (e : Ending) (w' : World) : Prop :=
  ∃ v, e = .returned (.tuple #[]) ∧ w'.heap[d]? = some (.cells #[.int .i64 (n : Int), x1, x2, x3, x4, x5, x6, .int .u32 1, .int .i32 0, x9, v] 111 (0, 0)) ∧ Own8 w.heap.size w' n v (List.replicate n 0) ∧ w.grownBy w' (some d)

set_option maxRecDepth 100000 in
set_option maxHeartbeats 2000000 in
theorem slow_any (pl : Addr) (d n : Nat) (hpd : pl.block ≠ d) (x1 x2 x3 x4 x5 x6 x9 x10 : Value) (w : World) (hp : w.cell? pl = some (.pointer (some ⟨d, 0, none⟩))) (hn : n ≤ 4096)
    (hb : w.heap[d]? = some (.cells #[.int .i64 (n : Int), x1, x2, x3, x4, x5, x6, .int .u32 0, .int .i32 0, x9, x10] 111 (0, 0))) :
    Calls Try.prog 91 #[.pointer (some ⟨d, 7, none⟩), .func (.func 78) #[] #[.pointer (some pl)]] w (SlowP w d n x1 x2 x3 x4 x5 x6 x9) := by
  have hlt := lt_of_block hb
  have b1 : (w.setCell ⟨d, 8, none⟩ (.int .i32 1)).heap[d]? = some (.cells #[.int .i64 (n : Int), x1, x2, x3, x4, x5, x6, .int .u32 0, .int .i32 1, x9, x10] 111 (0, 0)) := set_box hb 8 _
  have HB1 := Lib.hid b1
  have h7 := (cells11 b1).2.2.2.2.2.2.2.1
  have h8 := (cells11 hb).2.2.2.2.2.2.2.2.1
  have f8 := free11 hb 8
  have hp1 : (w.setCell ⟨d, 8, none⟩ (.int .i32 1)).cell? pl = some (.pointer (some ⟨d, 0, none⟩)) := (World.cell?_setCell_other _ ⟨d, 8, none⟩ pl _ (fun h => hpd (by rw [← h]))).trans hp
  have hnot : ∀ (x : Bool) (w : World), (Op.unary .not (.bool x)).run Try.prog w = .ok (.bool (!x)) w := fun _ _ => rfl
  clear hb b1
  go_enter_defers Try.func91, Try.ntmps91
  go_wp2_with (first
    | (go_at_call 98; refine (lock_free ⟨d, 8, none⟩ _ h8 f8).mono ?_; rintro e w' ⟨rfl, rfl⟩)
    | (go_at_call 90; refine (bload_any ⟨d, 7, none⟩ 0 _ h7).mono ?_; rintro e w' ⟨rfl, rfl⟩)
    | (go_at_call 78; refine (blank1_any pl d n x1 x2 x3 x4 x5 x6 _ _ x9 x10 _ hp1 hn HB1.out).mono ?_; rintro e w3 ⟨rfl, hal⟩))
  obtain ⟨q, hq⟩ : ∃ q, q = w.heap.size := ⟨_, rfl⟩
  have hsz : (w.setCell ⟨d, 8, none⟩ (.int .i32 1)).heap.size = q := by rw [hq]; simp [World.setCell]
  rw [hsz] at hal
  have ha3 : w3.heap[d]? = some (.cells #[.int .i64 (n : Int), x1, x2, x3, x4, x5, x6, .int .u32 0, .int .i32 1, x9, .slice (some ⟨q, 0, none⟩) n n] 111 (0, 0)) := by
    rw [hal.1]; exact set_box (keep_alloc1 HB1.out _) 10 _
  have hq3 : w3.heap[q]? = some (.cells (madeCells #[Value.int .u8 0] n) 5 (0, 0)) := by
    rw [hal.1, ← hsz]
    exact (heap_setCell_other _ _ _ _ (by rw [hsz, hq]; show w.heap.size ≠ d; omega)).trans (heap_alloc_new _ _)
  have hg3 : w.grownBy w3 (some d) := hal.grown (gtrans (gset w ⟨d, 8, none⟩ _) (gtrans (World.grownBy_alloc _ _ _) (gset _ ⟨d, 10, none⟩ _)))
  have HA := Lib.hid ha3
  have HQ := Lib.hid hq3
  have HG := Lib.hid hg3
  clear hal hsz ha3 hq3 hg3
  go_wp2
  have b7 := (cells11 HA.out).2.2.2.2.2.2.2.1
  have k7 : (w3.drew.setCell ⟨d, 7, none⟩ (.int .u32 1)).heap[d]? = some (.cells #[.int .i64 (n : Int), x1, x2, x3, x4, x5, x6, .int .u32 1, .int .i32 1, x9, .slice (some ⟨q, 0, none⟩) n n] 111 (0, 0)) := set_box (W := w3.drew) HA.out 7 _
  refine leaves_cons (f := 100) (args := #[.pointer (some ⟨d, 7, none⟩), .bool true]) (by simp) (by simp [go_sem]) ?_
  refine (store_deferred ⟨d, 7, none⟩ (.int .u32 0) .returning _ b7 (free11 HA.out 7)).mono ?_
  rintro e u' w'' ⟨rfl, rfl, rfl⟩
  refine leaves_cons (f := 99) (args := #[.pointer (some ⟨d, 8, none⟩)]) (by simp [settle]) (by simp [go_sem]) ?_
  refine (unlock_deferred ⟨d, 8, none⟩ _ _ (cells11 k7).2.2.2.2.2.2.2.2.1 (free11 k7 8)).mono ?_
  rintro e u' w'' ⟨rfl, rfl, rfl⟩
  have HK := Lib.hid (set_box k7 8 (.int .i32 0))
  have hfin : SlowP w d n x1 x2 x3 x4 x5 x6 x9 (.returned (.tuple #[])) ((w3.drew.setCell ⟨d, 7, none⟩ (.int .u32 1)).setCell ⟨d, 8, none⟩ (.int .i32 0)) := by
    have hdq : q ≠ d := by omega
    refine ⟨_, rfl, HK.out, ?_, gtrans HG.out (gtrans (gwide (gdrew w3)) (gtrans (gset _ ⟨d, 7, none⟩ _) (gset _ ⟨d, 8, none⟩ _)))⟩
    have hq4 : ((w3.drew.setCell ⟨d, 7, none⟩ (.int .u32 1)).setCell ⟨d, 8, none⟩ (.int .i32 0)).heap[q]? = some (.cells (madeCells #[Value.int .u8 0] n) 5 (0, 0)) :=
      (heap_setCell_other _ _ _ _ hdq).trans ((heap_setCell_other _ _ _ _ hdq).trans HQ.out)
    refine ⟨by simp, .inr ⟨q, n, _, rfl, by omega, hq4, Nat.le_refl _, by unfold maxLen; omega, by rw [size_madeCells, Nat.mul_one], ?_⟩⟩
    rw [toList_madeCells_one, Nat.mul_one, List.map_replicate, List.take_of_length_le (by simp)]
  have HF := Lib.hid hfin
  clear hfin
  clear HK k7 b7 HA HQ HG
  generalize ((w3.drew.setCell ⟨d, 7, none⟩ (.int .u32 1)).setCell ⟨d, 8, none⟩ (.int .i32 0)) = wz at HF ⊢
  have hr := HF.out
  have HR : Hid (∀ e, e = .returned (.tuple #[]) → SlowP w d n x1 x2 x3 x4 x5 x6 x9 e wz) := Lib.hid (fun e he => by rw [he]; exact hr)
  clear HF hr
  generalize SlowP w d n x1 x2 x3 x4 x5 x6 x9 = PP at HR ⊢
  have hgo : PP (.returned (.tuple #[])) wz := HR.out _ rfl
  simp [Leaves, settle, results, Try.results91, hgo]

/-- 'Do', not yet done. -/
theorem do_first (pl : Addr) (d n : Nat) (hpd : pl.block ≠ d) (x1 x2 x3 x4 x5 x6 x9 x10 : Value) (w : World) (hp : w.cell? pl = some (.pointer (some ⟨d, 0, none⟩))) (hn : n ≤ 4096)
    (hb : w.heap[d]? = some (.cells #[.int .i64 (n : Int), x1, x2, x3, x4, x5, x6, .int .u32 0, .int .i32 0, x9, x10] 111 (0, 0))) :
    Calls Try.prog 77 #[.pointer (some ⟨d, 7, none⟩), .func (.func 78) #[] #[.pointer (some pl)]] w (SlowP w d n x1 x2 x3 x4 x5 x6 x9) := by
  have h7 := (cells11 hb).2.2.2.2.2.2.2.1
  have hnot : ∀ (x : Bool) (w : World), (Op.unary .not (.bool x)).run Try.prog w = .ok (.bool (!x)) w := fun _ _ => rfl
  have HB := Lib.hid hb
  clear hb
  go_enter Try.func77, Try.ntmps77
  go_wp2_with (first
    | (go_at_call 90; refine (bload_any ⟨d, 7, none⟩ 0 _ h7).mono ?_; rintro e w' ⟨rfl, rfl⟩)
    | (go_at_call 91; refine (slow_any pl d n hpd x1 x2 x3 x4 x5 x6 x9 x10 _ hp hn HB.out).mono ?_; rintro e w3 ⟨v, rfl, h1, h2, h3⟩; have H1 := Lib.hid h1; have H2 := Lib.hid h2; have H3 := Lib.hid h3; clear h1 h2 h3))
  go_end0
  exact ⟨v, rfl, H1.out, H2.out, H3.out⟩

/-- 'Do', done already. -/
theorem do_done (d : Nat) (x : Int) (hx : (x != 0) = true) (fv : Value) (w : World) (h7 : w.cell? ⟨d, 7, none⟩ = some (.int .u32 x)) :
    Calls Try.prog 77 #[.pointer (some ⟨d, 7, none⟩), fv] w fun e w' => e = .returned (.tuple #[]) ∧ w = w' := by
  have hnot : ∀ (x : Bool) (w : World), (Op.unary .not (.bool x)).run Try.prog w = .ok (.bool (!x)) w := fun _ _ => rfl
  go_enter Try.func77, Try.ntmps77
  go_wp2_with (first
    | (go_at_call 90; refine (bload_any ⟨d, 7, none⟩ x _ h7).mono ?_; rintro e w' ⟨rfl, rfl⟩))
  go_end0
  exact ⟨rfl, rfl⟩

end Go.Proofs.Ytnodclijlhoobaa
