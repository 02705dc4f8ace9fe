/-
  Layer 3: the page of noughts, made once. Own work.
-/
import Derived.Test.YtnnmpaenainogaaGreatPrnAT
import Derived.Test.YtnnmpaenainogaaGreatPrnAS
import Derived.Deep.OwnRows
import Derived.Test.YtnnmpaenainogaaGreatPrnAA

set_option linter.unusedVariables false
set_option linter.unusedSimpArgs false
namespace Go.Proofs.YtnnmpaenainogaaGreat
open Go.RowKit
def Same (w' w : World) : Prop := w'.heap = w.heap∧w'.os = w.os∧w'.tape = w.tape∧w'.output = w.output
theorem Same.grown {a b c : World} {row : Option Nat} (h : Same c b) (g : a.grownBy b row) : a.grownBy c row :=
  ⟨h.2.1.trans g.os,h.2.2.1.trans g.tape,h.2.2.2.trans g.output,by rw [h.1]; exact g.size,fun k hk hn => by rw [h.1]; exact g.block k hk hn⟩
theorem keep_alloc1 {w : World} {i : Nat} {x : Obj} (h : w.heap[i]? = some x) (o : Obj) : (w.alloc o).heap[i]? = some x := (Below.heap_alloc w o i (lt_of_block h)).trans h
theorem bload_any (a : Addr) (x : Int) (w : World) (hc : w.cell? a = some (.int .u32 x)) :
    Calls Tryz.prog 281 #[.pointer (some a)] w fun r w' => r = .returned (.bool (x != 0))∧w = w' := by
  have hl := run_call_load (P := Tryz.prog) Tryz.func289 (by kernel_rfl) (by kernel_rfl) (by kernel_rfl) .u32 (by kernel_rfl) hc
  go_enter Tryz.func281,Tryz.ntmps281
  go_wp2
  go_ret
  exact ⟨rfl,rfl⟩
set_option maxRecDepth 100000 in
set_option maxHeartbeats 1000000 in
theorem blank1_any (pl : Addr) (d n : Nat) (x1 x2 x3 x4 x5 x6 x7 x8 x9 x10 : Value) (w : World) (hp : w.cell? pl = some (.pointer (some ⟨d,0,none⟩))) (hn : n≤4096)
    (hb : w.heap[d]? = some (.cells #[.int .i64 (n : Int),x1,x2,x3,x4,x5,x6,x7,x8,x9,x10] 129 (0,0))) :
    Calls Tryz.prog 260 #[.pointer (some pl)] w fun e w' => e = .returned (.tuple #[])∧Same w' ((w.alloc (.cells (madeCells #[Value.int .u8 0] n) 5)).setCell ⟨d,10,none⟩ (.slice (some ⟨w.heap.size,0,none⟩) n n)) := by
  have hmk := run_make_row' (P := Tryz.prog) 32 5 (.int .u8 0) 1 Tryz.underlying32 infoU8 rfl .i64 .i64 n (by omega) (by omega)
  have c0 := (cells11 hb).1
  have c10 : (w.alloc (.cells (madeCells #[Value.int .u8 0] n) 5)).cell? ⟨d,10,none⟩ = some x10 := cell_alloc (cells11 hb).2.2.2.2.2.2.2.2.2.2
  have f10 : (w.alloc (.cells (madeCells #[Value.int .u8 0] n) 5)).frozen? ⟨d,10,none⟩ = false := free11 ((Below.heap_alloc w _ d (lt_of_block hb)).trans hb) 10
  have hp2 : (w.alloc (.cells (madeCells #[Value.int .u8 0] n) 5)).cell? pl = some (.pointer (some ⟨d,0,none⟩)) := cell_alloc hp
  have c02 : (w.alloc (.cells (madeCells #[Value.int .u8 0] n) 5)).cell? ⟨d,0,none⟩ = some (.int .i64 (n : Int)) := cell_alloc c0
  go_enter Tryz.func260,Tryz.ntmps260
  go_wp2
  go_region
  all_goals (go_end0; exact ⟨rfl,rfl,rfl,rfl,rfl⟩)
def SlowP (w : World) (d n : Nat) (x1 x2 x3 x4 x5 x6 x9 : Value) (e : Ending) (w' : World) : Prop :=
  ∃ v,e = .returned (.tuple #[])∧w'.heap[d]? = some (.cells #[.int .i64 (n : Int),x1,x2,x3,x4,x5,x6,.int .u32 1,.int .i32 0,x9,v] 129 (0,0))∧Own8 w.heap.size w' n v (List.replicate n 0)∧w.grownBy w' (some d)
set_option maxRecDepth 100000 in
set_option maxHeartbeats 2000000 in
theorem slow_any (pl : Addr) (d n : Nat) (hpd : pl.block≠d) (x1 x2 x3 x4 x5 x6 x9 x10 : Value) (w : World) (hp : w.cell? pl = some (.pointer (some ⟨d,0,none⟩))) (hn : n≤4096)
    (hb : w.heap[d]? = some (.cells #[.int .i64 (n : Int),x1,x2,x3,x4,x5,x6,.int .u32 0,.int .i32 0,x9,x10] 129 (0,0))) :
    Calls Tryz.prog 282 #[.pointer (some ⟨d,7,none⟩),.func (.func 260) #[] #[.pointer (some pl)]] w (SlowP w d n x1 x2 x3 x4 x5 x6 x9) := by
  have hlt := lt_of_block hb
  have b1 : (w.setCell ⟨d,8,none⟩ (.int .i32 1)).heap[d]? = some (.cells #[.int .i64 (n : Int),x1,x2,x3,x4,x5,x6,.int .u32 0,.int .i32 1,x9,x10] 129 (0,0)) := set_box hb 8 _
  have HB1 := Lib.hid b1
  have h7 := (cells11 b1).2.2.2.2.2.2.2.1
  have h8 := (cells11 hb).2.2.2.2.2.2.2.2.1
  have f8 := free11 hb 8
  have hp1 : (w.setCell ⟨d,8,none⟩ (.int .i32 1)).cell? pl = some (.pointer (some ⟨d,0,none⟩)) := (World.cell?_setCell_other _ ⟨d,8,none⟩ pl _ (fun h => hpd (by rw [← h]))).trans hp
  have hnot : ∀ (x : Bool) (w : World),(Op.unary .not (.bool x)).run Tryz.prog w = .ok (.bool (!x)) w := fun _ _ => rfl
  clear hb b1
  go_enter_defers Tryz.func282,Tryz.ntmps282
  go_wp2_with (first
    | (go_at_call 290; refine (lock_free ⟨d,8,none⟩ _ h8 f8).mono ?_; rintro e w' ⟨rfl,rfl⟩)
    | (go_at_call 281; refine (bload_any ⟨d,7,none⟩ 0 _ h7).mono ?_; rintro e w' ⟨rfl,rfl⟩)
    | (go_at_call 260; refine (blank1_any pl d n x1 x2 x3 x4 x5 x6 _ _ x9 x10 _ hp1 hn HB1.out).mono ?_; rintro e w3 ⟨rfl,hal⟩))
  obtain ⟨q,hq⟩ : ∃ q,q = w.heap.size := ⟨_,rfl⟩
  have hsz : (w.setCell ⟨d,8,none⟩ (.int .i32 1)).heap.size = q := by rw [hq]; simp [World.setCell]
  rw [hsz] at hal
  have ha3 : w3.heap[d]? = some (.cells #[.int .i64 (n : Int),x1,x2,x3,x4,x5,x6,.int .u32 0,.int .i32 1,x9,.slice (some ⟨q,0,none⟩) n n] 129 (0,0)) := by
    rw [hal.1]; exact set_box (keep_alloc1 HB1.out _) 10 _
  have hq3 : w3.heap[q]? = some (.cells (madeCells #[Value.int .u8 0] n) 5 (0,0)) := by
    rw [hal.1,← hsz]
    exact (heap_setCell_other _ _ _ _ (by rw [hsz,hq]; show w.heap.size≠d; omega)).trans (heap_alloc_new _ _)
  have hg3 : w.grownBy w3 (some d) := hal.grown (gtrans (gset w ⟨d,8,none⟩ _) (gtrans (World.grownBy_alloc _ _ _) (gset _ ⟨d,10,none⟩ _)))
  have HA := Lib.hid ha3
  have HQ := Lib.hid hq3
  have HG := Lib.hid hg3
  clear hal hsz ha3 hq3 hg3
  go_wp2
  have b7 := (cells11 HA.out).2.2.2.2.2.2.2.1
  have k7 : (w3.drew.setCell ⟨d,7,none⟩ (.int .u32 1)).heap[d]? = some (.cells #[.int .i64 (n : Int),x1,x2,x3,x4,x5,x6,.int .u32 1,.int .i32 1,x9,.slice (some ⟨q,0,none⟩) n n] 129 (0,0)) := set_box (W := w3.drew) HA.out 7 _
  refine leaves_cons (f := 292) (args := #[.pointer (some ⟨d,7,none⟩),.bool true]) (by simp) (by simp [go_sem]) ?_
  refine (store_deferred ⟨d,7,none⟩ (.int .u32 0) .returning _ b7 (free11 HA.out 7)).mono ?_
  rintro e u' w'' ⟨rfl,rfl,rfl⟩
  refine leaves_cons (f := 291) (args := #[.pointer (some ⟨d,8,none⟩)]) (by simp [settle]) (by simp [go_sem]) ?_
  refine (unlock_deferred ⟨d,8,none⟩ _ _ (cells11 k7).2.2.2.2.2.2.2.2.1 (free11 k7 8)).mono ?_
  rintro e u' w'' ⟨rfl,rfl,rfl⟩
  have HK := Lib.hid (set_box k7 8 (.int .i32 0))
  have hfin : SlowP w d n x1 x2 x3 x4 x5 x6 x9 (.returned (.tuple #[])) ((w3.drew.setCell ⟨d,7,none⟩ (.int .u32 1)).setCell ⟨d,8,none⟩ (.int .i32 0)) := by
    have hdq : q≠d := by omega
    refine ⟨_,rfl,HK.out,?_,gtrans HG.out (gtrans (gwide (gdrew w3)) (gtrans (gset _ ⟨d,7,none⟩ _) (gset _ ⟨d,8,none⟩ _)))⟩
    have hq4 : ((w3.drew.setCell ⟨d,7,none⟩ (.int .u32 1)).setCell ⟨d,8,none⟩ (.int .i32 0)).heap[q]? = some (.cells (madeCells #[Value.int .u8 0] n) 5 (0,0)) :=
      (heap_setCell_other _ _ _ _ hdq).trans ((heap_setCell_other _ _ _ _ hdq).trans HQ.out)
    refine ⟨by simp,.inr ⟨q,n,_,rfl,by omega,hq4,Nat.le_refl _,by unfold maxLen; omega,by rw [size_madeCells,Nat.mul_one],?_⟩⟩
    rw [toList_madeCells_one,Nat.mul_one,List.map_replicate,List.take_of_length_le (by simp)]
  have HF := Lib.hid hfin
  clear hfin
  clear HK k7 b7 HA HQ HG
  generalize ((w3.drew.setCell ⟨d,7,none⟩ (.int .u32 1)).setCell ⟨d,8,none⟩ (.int .i32 0)) = wz at HF ⊢
  have hr := HF.out
  have HR : Hid (∀ e,e = .returned (.tuple #[])→SlowP w d n x1 x2 x3 x4 x5 x6 x9 e wz) := Lib.hid (fun e he => by rw [he]; exact hr)
  clear HF hr
  generalize SlowP w d n x1 x2 x3 x4 x5 x6 x9 = PP at HR ⊢
  have hgo : PP (.returned (.tuple #[])) wz := HR.out _ rfl
  simp [Leaves,settle,results,Tryz.results282,hgo]
theorem do_first (pl : Addr) (d n : Nat) (hpd : pl.block≠d) (x1 x2 x3 x4 x5 x6 x9 x10 : Value) (w : World) (hp : w.cell? pl = some (.pointer (some ⟨d,0,none⟩))) (hn : n≤4096)
    (hb : w.heap[d]? = some (.cells #[.int .i64 (n : Int),x1,x2,x3,x4,x5,x6,.int .u32 0,.int .i32 0,x9,x10] 129 (0,0))) :
    Calls Tryz.prog 259 #[.pointer (some ⟨d,7,none⟩),.func (.func 260) #[] #[.pointer (some pl)]] w (SlowP w d n x1 x2 x3 x4 x5 x6 x9) := by
  have h7 := (cells11 hb).2.2.2.2.2.2.2.1
  have hnot : ∀ (x : Bool) (w : World),(Op.unary .not (.bool x)).run Tryz.prog w = .ok (.bool (!x)) w := fun _ _ => rfl
  have HB := Lib.hid hb
  clear hb
  go_enter Tryz.func259,Tryz.ntmps259
  go_wp2_with (first
    | (go_at_call 281; refine (bload_any ⟨d,7,none⟩ 0 _ h7).mono ?_; rintro e w' ⟨rfl,rfl⟩)
    | (go_at_call 282; refine (slow_any pl d n hpd x1 x2 x3 x4 x5 x6 x9 x10 _ hp hn HB.out).mono ?_; rintro e w3 ⟨v,rfl,h1,h2,h3⟩; have H1 := Lib.hid h1; have H2 := Lib.hid h2; have H3 := Lib.hid h3; clear h1 h2 h3))
  go_end0
  exact ⟨v,rfl,H1.out,H2.out,H3.out⟩
theorem do_done (d : Nat) (x : Int) (hx : (x != 0) = true) (fv : Value) (w : World) (h7 : w.cell? ⟨d,7,none⟩ = some (.int .u32 x)) :
    Calls Tryz.prog 259 #[.pointer (some ⟨d,7,none⟩),fv] w fun e w' => e = .returned (.tuple #[])∧w = w' := by
  have hnot : ∀ (x : Bool) (w : World),(Op.unary .not (.bool x)).run Tryz.prog w = .ok (.bool (!x)) w := fun _ _ => rfl
  go_enter Tryz.func259,Tryz.ntmps259
  go_wp2_with (first
    | (go_at_call 281; refine (bload_any ⟨d,7,none⟩ x _ h7).mono ?_; rintro e w' ⟨rfl,rfl⟩))
  go_end0
  exact ⟨rfl,rfl⟩
end Go.Proofs.YtnnmpaenainogaaGreat

namespace Go.Proofs.YtnnmpaenainogaaGreat
open Go.RowKit
def cF (f : Bool) (a : Int) : Bool := f && decide (0 < a)
def cA (f : Bool) (a : Int) : Int := if f && decide (0 < a) then a - 1 else a
def cE (f : Bool) (a : Int) : Int := if f && !decide (0 < a) then 20 else 0
set_option maxHeartbeats 1000000 in
theorem count_any (w : World) (d : Nat) (x0 x1 x2 x3 x7 x8 x9 x10 : Value) (c : Nat) (f : Bool) (a : Int) (ha1 : -9223372036854775808≤a) (ha2 : a≤9223372036854775807) (hc : c < 9223372036854775807)
    (hb : w.heap[d]? = some (.cells #[x0,x1,x2,x3,.int .i64 (c : Int),.bool f,.int .i64 a,x7,x8,x9,x10] 129 (0,0))) :
    Calls Tryz.prog 108 #[.pointer (some ⟨d,0,none⟩)] w fun r w' => r = .returned (.int .i64 (cE f a))∧w'.heap[d]? = some (.cells #[x0,x1,x2,x3,.int .i64 ((c + 1 : Nat) : Int),.bool (cF f a),.int .i64 (cA f a),x7,x8,x9,x10] 129 (0,0))∧w.grownBy w' (some d)∧w'.heap.size = w.heap.size := by
  have b1 : (w.setCell ⟨d,4,none⟩ (.int .i64 ((c : Int) + 1))).heap[d]? = some (.cells #[x0,x1,x2,x3,.int .i64 ((c : Int) + 1),.bool f,.int .i64 a,x7,x8,x9,x10] 129 (0,0)) := set_box hb 4 _
  have c4 := (cells11 hb).2.2.2.2.1
  have f4 := free11 hb 4
  have k5 := (cells11 b1).2.2.2.2.2.1
  have k6 := (cells11 b1).2.2.2.2.2.2.1
  have g5 := free11 b1 5
  have g6 := free11 b1 6
  have HB := Lib.hid b1
  have hnot : ∀ (x : Bool) (w : World),(Op.unary .not (.bool x)).run Tryz.prog w = .ok (.bool (!x)) w := fun _ _ => rfl
  clear hb b1
  cases f with
  | false =>
    go_enter Tryz.func108,Tryz.ntmps108
    go_wp2_with (first | (go_at_call 161; refine (iadd_any ⟨d,4,none⟩ (c : Int) _ c4 rfl f4 (by omega) (by omega)).mono ?_; rintro e w' ⟨rfl,rfl⟩))
    go_ret
    exact ⟨rfl,HB.out,gset _ ⟨d,4,none⟩ _,by simp [World.setCell]⟩
  | true =>
    by_cases h : 0 < a
    · have HF := Lib.hid (show cE true a = 0∧cF true a = true∧cA true a = a - 1 by simp [cE,cF,cA,h])
      rw [HF.out.1,HF.out.2.1,HF.out.2.2]
      go_enter Tryz.func108,Tryz.ntmps108
      go_wp2_with (first | (go_at_call 161; refine (iadd_any ⟨d,4,none⟩ (c : Int) _ c4 rfl f4 (by omega) (by omega)).mono ?_; rintro e w' ⟨rfl,rfl⟩))
      go_ret
      exact ⟨rfl,set_box HB.out 6 _,gtrans (gset _ ⟨d,4,none⟩ _) (gset _ ⟨d,6,none⟩ _),by simp [World.setCell]⟩
    · have HF := Lib.hid (show cE true a = 20∧cF true a = false∧cA true a = a by simp [cE,cF,cA,h])
      rw [HF.out.1,HF.out.2.1,HF.out.2.2]
      go_enter Tryz.func108,Tryz.ntmps108
      go_wp2_with (first | (go_at_call 161; refine (iadd_any ⟨d,4,none⟩ (c : Int) _ c4 rfl f4 (by omega) (by omega)).mono ?_; rintro e w' ⟨rfl,rfl⟩))
      go_ret
      exact ⟨rfl,set_box HB.out 5 _,gtrans (gset _ ⟨d,4,none⟩ _) (gset _ ⟨d,5,none⟩ _),by simp [World.setCell]⟩
set_option maxHeartbeats 400000 in
theorem dlen_any (w : World) (d : Nat) (ao : Option Addr) (n c : Nat) (h : w.cell? ⟨d,2,none⟩ = some (.slice ao n c)) :
    Calls Tryz.prog 38 #[.pointer (some ⟨d,0,none⟩)] w fun r w' => r = .returned (.int .i64 (n : Int))∧w = w' := by
  go_enter Tryz.func38,Tryz.ntmps38
  go_wp2
  go_ret
  exact ⟨rfl,rfl⟩
set_option maxHeartbeats 400000 in
theorem size_any (w : World) (d : Nat) (x : Value) (h : w.cell? ⟨d,0,none⟩ = some x) :
    Calls Tryz.prog 88 #[.pointer (some ⟨d,0,none⟩)] w fun r w' => r = .returned x∧w = w' := by
  go_enter Tryz.func88,Tryz.ntmps88
  go_wp2
  go_ret
  exact ⟨rfl,rfl⟩
set_option maxHeartbeats 400000 in
theorem limit_any (w : World) (d : Nat) (x : Value) (h : w.cell? ⟨d,1,none⟩ = some x) :
    Calls Tryz.prog 65 #[.pointer (some ⟨d,0,none⟩)] w fun r w' => r = .returned x∧w = w' := by
  go_enter Tryz.func65,Tryz.ntmps65
  go_wp2
  go_ret
  exact ⟨rfl,rfl⟩
set_option maxHeartbeats 400000 in
theorem place_in (w : World) (d : Nat) (ao : Option Addr) (n c i : Nat) (h : w.cell? ⟨d,2,none⟩ = some (.slice ao n c)) (hi : i < n) :
    Calls Tryz.prog 182 #[.pointer (some ⟨d,0,none⟩),.int .i64 (i : Int)] w fun r w' => r = .returned (.int .i64 0)∧w = w' := by
  have h1 : (i : Int) < (n : Int) := by omega
  go_enter Tryz.func182,Tryz.ntmps182
  go_wp2_with (first | (go_at_call 38; refine (dlen_any _ d ao n c h).mono ?_; rintro e w' ⟨rfl,rfl⟩))
  go_ret
  exact ⟨rfl,rfl⟩
def May (s l : Int) : Prop := 512≤s∧s≤4096∧s % 128 = 0∧1≤l∧l≤65536
instance (s l : Int) : Decidable (May s l) := by unfold May; exact inferInstance
abbrev boxNew (s l : Nat) : Array Value := #[.int .i64 (s : Int),.int .i64 (l : Int),.slice none 0 0,.slice none 0 0,.int .i64 0,.bool false,.int .i64 0,.int .u32 0,.int .i32 0,.int .u32 0,.slice none 0 0]
set_option maxHeartbeats 1000000 in
theorem new_good (w : World) (s l : Nat) (h : May s l) :
    Calls Tryz.prog 15 #[.int .i64 (s : Int),.int .i64 (l : Int)] w fun r w' => r = .returned (.tuple #[.pointer (some ⟨w.heap.size,0,none⟩),.int .i64 0])∧w.alloc (.cells (boxNew s l) 129) = w' := by
  obtain ⟨h1,h2,h3,h4,h5⟩ := h
  have e1 : ¬ (s : Int) < 512 := by omega
  have e2 : ¬ (4096 : Int) < s := by omega
  have e4 : ¬ (l : Int) < 1 := by omega
  have e5 : ¬ (65536 : Int) < l := by omega
  have hnot : ∀ (x : Bool) (w : World),(Op.unary .not (.bool x)).run Tryz.prog w = .ok (.bool (!x)) w := fun _ _ => rfl
  go_enter Tryz.func15,Tryz.ntmps15
  go_wp2
  go_ret2
  exact ⟨rfl,rfl⟩
end Go.Proofs.YtnnmpaenainogaaGreat

namespace Go.Proofs.YtnnmpaenainogaaGreat
open Go.RowKit
set_option maxHeartbeats 1000000 in
theorem fail_any (w : World) (d : Nat) (x0 x1 x2 x3 x4 x5 x6 x7 x8 x9 x10 : Value) (n : Int)
    (hb : w.heap[d]? = some (.cells #[x0,x1,x2,x3,x4,x5,x6,x7,x8,x9,x10] 129 (0,0))) :
    Calls Tryz.prog 28 #[.pointer (some ⟨d,0,none⟩),.int .i64 n] w fun r w' => r = .returned (.tuple #[])∧w'.heap[d]? = some (.cells #[x0,x1,x2,x3,x4,.bool (decide (0≤n)),.int .i64 n,x7,x8,x9,x10] 129 (0,0))∧w.grownBy w' (some d)∧w'.heap.size = w.heap.size := by
  have b1 : (w.setCell ⟨d,5,none⟩ (.bool (decide (0≤n)))).heap[d]? = some (.cells #[x0,x1,x2,x3,x4,.bool (decide (0≤n)),x6,x7,x8,x9,x10] 129 (0,0)) := set_box hb 5 _
  have k5 := (cells11 hb).2.2.2.2.2.1
  have k6 := (cells11 hb).2.2.2.2.2.2.1
  have g5 := free11 hb 5
  have g6 := free11 hb 6
  have HB := Lib.hid b1
  clear hb b1
  by_cases hn : 0≤n
  · have hd : decide (0≤n) = true := by simpa using hn
    rw [hd] at HB ⊢
    go_enter Tryz.func28,Tryz.ntmps28
    go_wp2
    go_end0
    exact ⟨rfl,set_box HB.out 6 _,gtrans (gset _ ⟨d,5,none⟩ _) (gset _ ⟨d,6,none⟩ _),by simp [World.setCell]⟩
  · have hd : decide (0≤n) = false := by simpa using hn
    rw [hd] at HB ⊢
    go_enter Tryz.func28,Tryz.ntmps28
    go_wp2
    go_end0
    exact ⟨rfl,set_box HB.out 6 _,gtrans (gset _ ⟨d,5,none⟩ _) (gset _ ⟨d,6,none⟩ _),by simp [World.setCell]⟩
theorem infoDpage : (Tryz.prog.info? 163).map (fun i => (i.zero,i.size,i.bytes)) = some (some (.agg #[.slice none 0 0,.slice none 0 0]),2,48) := by kernel_rfl
theorem pcells_snoc (ps : List PgV) (y : PgV) : pcells (ps++[y]) = pcells ps++[y.1.1,y.1.2] := by simp [pcells]
theorem Rws.pages {B n : Nat} {w w' : World} {pv pv' lv nv : Value} {ps ps' : List PgV} {ls : List LoV} {once : Bool} {row : Option Nat} (h : Rws B w n pv lv nv ps ls once) (hg : w.grownBy w' row) (hr : ∀ k,row = some k→TagIs w k 163)
    (hown : w'.ownsRow B 163 2 pv' ps'.length (pcells ps')) (hall : ∀ y∈ps',y∈ps∨(Own8 B w n y.1.1 y.2.1∧Own8 B w n y.1.2 y.2.2)) : Rws B w' n pv' lv nv ps' ls once where
  pown := hown
  pall := fun y hy => by
    have := (hall y hy).elim (h.pall y) id
    exact ⟨this.1.far hg hr (by decide),this.2.far hg hr (by decide)⟩
  lown := own_far h.lown hg hr (by decide)
  lall := fun y hy => (h.lall y hy).far hg hr (by decide)
  nown := by
    have := h.nown
    cases once
    · exact this
    · exact Own8.far (this : Own8 _ _ _ _ _) hg hr (by decide)
theorem Rws.looses {B n : Nat} {w w' : World} {pv lv lv' nv : Value} {ps : List PgV} {ls ls' : List LoV} {once : Bool} {row : Option Nat} (h : Rws B w n pv lv nv ps ls once) (hg : w.grownBy w' row) (hr : ∀ k,row = some k→TagIs w k 160)
    (hown : w'.ownsRow B 160 2 lv' ls'.length (wcells ls')) (hall : ∀ y∈ls',y∈ls∨Own8 B w n y.2.1 y.2.2) : Rws B w' n pv lv' nv ps ls' once where
  pown := own_far h.pown hg hr (by decide)
  pall := fun y hy => ⟨(h.pall y hy).1.far hg hr (by decide),(h.pall y hy).2.far hg hr (by decide)⟩
  lown := hown
  lall := fun y hy => ((hall y hy).elim (h.lall y) id).far hg hr (by decide)
  nown := by
    have := h.nown
    cases once
    · exact this
    · exact Own8.far (this : Own8 _ _ _ _ _) hg hr (by decide)
abbrev mkPg (v : Value) (bs : List Int) : PgV := ((v,v),(bs,bs))
set_option maxRecDepth 100000 in
set_option maxHeartbeats 2000000 in
theorem add_rows (B : Nat) (w : World) (d n : Nat) (x0 x1 x4 x5 x6 x7 x8 x9 pv lv nv v : Value) (ps : List PgV) (ls : List LoV) (once : Bool) (bs : List Int) (hB : B≤d)
    (hb : w.heap[d]? = some (.cells #[x0,x1,pv,lv,x4,x5,x6,x7,x8,x9,nv] 129 (0,0))) (hr : Rws B w n pv lv nv ps ls once) (hv : Own8 B w n v bs) (hl : ps.length≤100000) :
    Calls Tryz.prog 80 #[.pointer (some ⟨d,0,none⟩),v] w fun r w' => ∃ pv',r = .returned (.tuple #[])∧w'.heap[d]? = some (.cells #[x0,x1,pv',lv,x4,x5,x6,x7,x8,x9,nv] 129 (0,0))∧Rws B w' n pv' lv nv (ps++[mkPg v bs]) ls once∧Dfr B w w' := by
  obtain ⟨va,vc,rfl⟩ := own_shape hv
  have hlt := lt_of_block hb
  obtain ⟨i0,hi0,hz0,hz1,hz2⟩ := info_parts infoDpage
  have c2 := (cells11 hb).2.2.1
  have HB := Lib.hid hb
  have HR := Lib.hid hr
  have HV := Lib.hid hv
  have hown0 := hr.pown
  obtain ⟨m,hm⟩ : ∃ m,m = ps.length := ⟨_,rfl⟩
  rw [← hm] at hown0 hl
  obtain ⟨pa,pc,rfl⟩ := own_shape hown0
  have HO := Lib.hid hown0
  have HM := Lib.hid hm
  clear hb hr hv hown0 hm
  go_enter Tryz.func80,Tryz.ntmps80
  go_wp2_with (at_builtin; refine wpList_append_own _ rfl _ _ 112 rfl B 163 i0 (.agg #[.slice none 0 0,.slice none 0 0]) 2 48 Tryz.underlying112 hi0 hz0 hz1 hz2 rfl (by decide) _ _ _ rfl (HO.out.alloc _) ⟨w.heap.size,0,none⟩ 1 1 [.slice va n vc,.slice va n vc] rfl rfl ?d1 ?d2 ?d3 ?d4 ?d5 ?_)
  case d1 =>
    intro j u hu
    have hj := (List.getElem?_eq_some_iff.1 hu).1
    rw [Addr.add_lit,Nat.zero_add,World.cell?_alloc_mark,← hu]
    match j,hj with
    | 0,_ => rfl
    | 1,_ => rfl
  case d2 => intro u hu; simp at hu; subst hu; rfl
  case d3 => unfold maxLen; omega
  case d4 => omega
  case d5 => simp; omega
  intro v2 w2 hown2 hg2 _
  obtain ⟨a2,e2,rfl⟩ := own_shape hown2
  have hg : w.grownBy w2 (Value.slice pa m pc).ownBlock := gtrans (World.grownBy_alloc _ _ _) hg2
  have htag : ∀ k,(Value.slice pa m pc).ownBlock = some k→TagIs w k 163 := fun k hk => (own_tag HO.out k hk).2.2
  have hdne : some d≠(Value.slice pa m pc).ownBlock := fun e => by
    have h1 := htag d e.symm
    have h2 : TagIs w d 129 := ⟨_,_,HB.out⟩
    exact absurd (h1.uniq h2) (by decide)
  have hb2 := (hg.block d hlt hdne).trans HB.out
  have k2 := (cells11 hb2).2.2.1
  have g2 := free11 hb2 2
  have hown2' : w2.ownsRow B 163 2 (.slice a2 (m + 1) e2) (ps++[mkPg (.slice va n vc) bs]).length (pcells (ps++[mkPg (.slice va n vc) bs])) := by
    rw [pcells_snoc,List.length_append,← HM.out]; exact hown2
  have hrw := HR.out.pages hg htag hown2' (fun y hy => by
    rw [List.mem_append,List.mem_singleton] at hy
    rcases hy with hy | rfl
    · exact .inl hy
    · exact .inr ⟨HV.out,HV.out⟩)
  have HB2 := Lib.hid hb2
  have HRW := Lib.hid hrw
  have HFR : Hid (Dfr B w w2) := Lib.hid (dfr_row hg fun k hk => ⟨(own_tag HO.out k hk).1,Dtag.of (htag k hk) (by decide)⟩)
  clear hown2 hg2 hg htag hdne hb2 hown2' hrw hi0 hz0 hz1 hz2 c2
  go_wp2
  go_end0
  refine ⟨.slice a2 (m + 1) e2,rfl,set_box HB2.out 2 _,HRW.out.far (gset w2 ⟨d,2,none⟩ _) (fun k e => ?_),HFR.out.trans (dfr_row (gset w2 ⟨d,2,none⟩ _) fun k e => ?_)⟩
  · injection e with e; subst e; exact ⟨_,_,HB2.out⟩
  · injection e with e; subst e; exact ⟨hB,Dtag.of ⟨_,_,HB2.out⟩ (by decide)⟩
theorem DskAt.add {B d : Nat} {w : World} {M : SM} {v : Value} {bs : List Int} (h : DskAt B w d M) (hv : Own8 B w M.size v bs) (hl : M.pg.length≤100000) :
    Calls Tryz.prog 80 #[.pointer (some ⟨d,0,none⟩),v] w fun r w' => r = .returned (.tuple #[])∧DskAt B w' d { M with pg := M.pg++[(bs,bs)] }∧Dfr B w w' := by
  obtain ⟨pv,lv,nv,ps,ls,h1,h2,h3,h4,h5⟩ := h
  refine (add_rows B w d M.size _ _ _ _ _ _ _ _ pv lv nv v ps ls M.once bs h1 h2 h3 hv (by rw [h4] at hl; simpa using hl)).mono ?_
  rintro r w' ⟨pv',rfl,hb,hr,hf⟩
  exact ⟨rfl,⟨pv',lv,nv,_,ls,h1,hb,hr,by simp [h4],h5⟩,hf⟩
end Go.Proofs.YtnnmpaenainogaaGreat

namespace Go.Proofs.YtnnmpaenainogaaGreat
open Go.RowKit
theorem newM {w : World} {s l : Nat} {B : Nat} (hB : B≤w.heap.size) : DskAt B (w.alloc (.cells (boxNew s l) 129)) w.heap.size { size := s,limit := l,pg := [],loose := [],fails := false,ahead := 0,calls := 0,once := false } :=
  ⟨_,_,_,[],[],hB,heap_alloc_new _ _,⟨World.ownsRow_nil _ _ _ _,fun y hy => by simp at hy,World.ownsRow_nil _ _ _ _,fun y hy => by simp at hy,rfl⟩,rfl,rfl⟩
def cntM (M : SM) : SM := { M with calls := M.calls + 1,fails := cF M.fails M.ahead,ahead := cA M.fails M.ahead }
def Fine (M : SM) : Prop := -9223372036854775808≤M.ahead∧M.ahead≤9223372036854775807∧M.calls < 9223372036854775807
theorem count_rows {B d n : Nat} {w : World} {x0 x1 x7 x8 x9 pv lv nv : Value} {c : Nat} {f : Bool} {a : Int} {ps : List PgV} {ls : List LoV} {once : Bool} (hB : B≤d)
    (hb : w.heap[d]? = some (.cells #[x0,x1,pv,lv,.int .i64 (c : Int),.bool f,.int .i64 a,x7,x8,x9,nv] 129 (0,0))) (hr : Rws B w n pv lv nv ps ls once)
    (ha1 : -9223372036854775808≤a) (ha2 : a≤9223372036854775807) (hc : c < 9223372036854775807) :
    Calls Tryz.prog 108 #[.pointer (some ⟨d,0,none⟩)] w fun r w' => r = .returned (.int .i64 (cE f a))∧w'.heap[d]? = some (.cells #[x0,x1,pv,lv,.int .i64 ((c + 1 : Nat) : Int),.bool (cF f a),.int .i64 (cA f a),x7,x8,x9,nv] 129 (0,0))∧Rws B w' n pv lv nv ps ls once ∧
      w.grownBy w' (some d)∧w'.heap.size = w.heap.size∧Dfr B w w' := by
  refine (count_any w d x0 x1 pv lv x7 x8 x9 nv c f a ha1 ha2 hc hb).mono ?_
  rintro r w' ⟨rfl,h1,h2,h3⟩
  have ht : ∀ k,some d = some k→TagIs w k 129 := fun k e => by injection e with e; subst e; exact ⟨_,_,hb⟩
  exact ⟨rfl,h1,hr.far h2 ht,h2,h3,dfr_row h2 fun k e => ⟨by injection e with e; omega,Dtag.of (ht k e) (by decide)⟩⟩
theorem DskAt.count {B d : Nat} {w : World} {M : SM} (h : DskAt B w d M) (hF : Fine M) :
    Calls Tryz.prog 108 #[.pointer (some ⟨d,0,none⟩)] w fun r w' => r = .returned (.int .i64 (cE M.fails M.ahead))∧DskAt B w' d (cntM M)∧w.grownBy w' (some d)∧w'.heap.size = w.heap.size∧Dfr B w w' := by
  obtain ⟨pv,lv,nv,ps,ls,h1,h2,h3,h4,h5⟩ := h
  refine (count_rows h1 h2 h3 hF.1 hF.2.1 hF.2.2).mono ?_
  rintro r w' ⟨rfl,a1,a2,a3,a4,a5⟩
  exact ⟨rfl,⟨pv,lv,nv,ps,ls,h1,a1,a2,h4,h5⟩,a3,a4,a5⟩
set_option maxRecDepth 100000 in
set_option maxHeartbeats 2000000 in
theorem blank_rows (B : Nat) (w : World) (d n : Nat) (x1 x4 x5 x6 pv lv nv : Value) (ps : List PgV) (ls : List LoV) (once : Bool) (hB : B≤d) (hn : n≤4096)
    (hb : w.heap[d]? = some (.cells #[.int .i64 (n : Int),x1,pv,lv,x4,x5,x6,.int .u32 (if once then 1 else 0),.int .i32 0,.int .u32 0,nv] 129 (0,0))) (hr : Rws B w n pv lv nv ps ls once) :
    Calls Tryz.prog 238 #[.pointer (some ⟨d,0,none⟩)] w fun r w' => ∃ nv',r = .returned nv'∧w'.heap[d]? = some (.cells #[.int .i64 (n : Int),x1,pv,lv,x4,x5,x6,.int .u32 1,.int .i32 0,.int .u32 0,nv'] 129 (0,0))∧Rws B w' n pv lv nv' ps ls true∧Dfr B w w' := by
  have hlt := lt_of_block hb
  have hmf : ∀ (fn : Fn) (first cap : Array Value) (w : World),(Instr.makeFunc fn first cap).run Tryz.prog w = .ok (.func fn first cap) w := fun _ _ _ _ => rfl
  have hpd : (⟨w.heap.size,0,none⟩ : Addr).block≠d := by show w.heap.size≠d; omega
  have p0 : (w.alloc (.cells #[.pointer (some ⟨d,0,none⟩)] 24)).cell? ⟨w.heap.size,0,none⟩ = some (.pointer (some ⟨d,0,none⟩)) := by simp
  cases once with
  | true =>
    have c7 : (w.alloc (.cells #[.pointer (some ⟨d,0,none⟩)] 24)).cell? ⟨d,7,none⟩ = some (.int .u32 1) := cell_alloc (cells11 hb).2.2.2.2.2.2.2.1
    have c10 : (w.alloc (.cells #[.pointer (some ⟨d,0,none⟩)] 24)).cell? ⟨d,10,none⟩ = some nv := cell_alloc (cells11 hb).2.2.2.2.2.2.2.2.2.2
    obtain ⟨na,nc,rfl⟩ := own_shape (show w.ownsRow B 5 1 nv n _ from hr.nown)
    have HB := Lib.hid hb
    have HR := Lib.hid hr
    clear hb hr
    go_enter Tryz.func238,Tryz.ntmps238
    go_wp2_with (first | (go_at_call 259; refine (do_done d 1 rfl _ _ c7).mono ?_; rintro e w' ⟨rfl,rfl⟩))
    go_ret
    exact ⟨_,rfl,keep_alloc1 HB.out _,HR.out.new (World.grownBy_alloc _ _ _),dfr_new (World.grownBy_alloc _ _ _)⟩
  | false =>
    have hb1 := keep_alloc1 hb (.cells #[.pointer (some ⟨d,0,none⟩)] 24)
    have HB := Lib.hid hb
    have HB1 := Lib.hid hb1
    have HR := Lib.hid hr
    clear hb hr hb1
    go_enter Tryz.func238,Tryz.ntmps238
    go_wp2_with (first | (go_at_call 259; refine (do_first ⟨w.heap.size,0,none⟩ d n hpd x1 pv lv x4 x5 x6 (.int .u32 0) nv _ p0 hn HB1.out).mono ?_; rintro e w3 ⟨v,rfl,h1,h2,h3⟩; have hgz : w.grownBy w3 (some d) := gtrans (World.grownBy_alloc _ _ _) h3; have p3 : w3.cell? ⟨w.heap.size,0,none⟩ = some (.pointer (some ⟨d,0,none⟩)) := h3.cell p0 (by simp; omega); have k10 := (cells11 h1).2.2.2.2.2.2.2.2.2.2; obtain ⟨na,nc,rfl⟩ := own_shape h2; have HG := Lib.hid hgz; have H1 := Lib.hid h1; have H2 := Lib.hid h2; clear h1 h2 h3 hgz p0))
    go_ret
    have ht : ∀ k,some d = some k→TagIs w k 129 := fun k e => by injection e with e; subst e; exact ⟨_,_,HB.out⟩
    have hr3 := HR.out.far HG.out ht
    exact ⟨_,rfl,H1.out,⟨hr3.pown,hr3.pall,hr3.lown,hr3.lall,own_base (show w3.ownsRow _ 5 1 _ n _ from H2.out) (by simp; omega)⟩,dfr_row HG.out fun k e => ⟨by injection e with e; omega,Dtag.of (ht k e) (by decide)⟩⟩
theorem DskAt.blank {B d : Nat} {w : World} {M : SM} (h : DskAt B w d M) (hn : M.size≤4096) :
    Calls Tryz.prog 238 #[.pointer (some ⟨d,0,none⟩)] w fun r w' => ∃ nv,r = .returned nv∧Own8 B w' M.size nv (List.replicate M.size 0)∧DskAt B w' d { M with once := true }∧Dfr B w w' := by
  obtain ⟨pv,lv,nv,ps,ls,h1,h2,h3,h4,h5⟩ := h
  refine (blank_rows B w d M.size _ _ _ _ pv lv nv ps ls M.once h1 hn h2 h3).mono ?_
  rintro r w' ⟨nv',rfl,a1,a2,a3⟩
  exact ⟨nv',rfl,a2.nown,⟨pv,lv,nv',ps,ls,h1,a1,a2,h4,h5⟩,a3⟩
theorem pcells_get : ∀ (ps : List PgV) (k : Nat) (y : PgV),ps[k]? = some y→(pcells ps)[k * 2]? = some y.1.1∧(pcells ps)[k * 2 + 1]? = some y.1.2
  | [],k,x,h => by simp at h
  | y :: l,0,x,h => by
    simp only [List.getElem?_cons_zero,Option.some.injEq] at h
    subst h
    exact ⟨rfl,rfl⟩
  | y :: l,k + 1,x,h => by
    simp only [List.getElem?_cons_succ] at h
    obtain ⟨h1,h2⟩ := pcells_get l k x h
    exact ⟨by rw [show (k + 1) * 2 = k * 2 + 1 + 1 by omega]; exact h1,by rw [show (k + 1) * 2 + 1 = k * 2 + 1 + 1 + 1 by omega]; exact h2⟩
theorem Rws.page {B n i : Nat} {w : World} {pv lv nv : Value} {ps : List PgV} {ls : List LoV} {once : Bool} (h : Rws B w n pv lv nv ps ls once) (hi : i < ps.length) :
    ∃ g c y,pv = .slice (some ⟨g,0,none⟩) ps.length c∧ps[i]? = some y∧w.cell? ⟨g,i * 2,none⟩ = some y.1.1∧w.cell? ⟨g,i * 2 + 1,none⟩ = some y.1.2∧Own8 B w n y.1.1 y.2.1∧Own8 B w n y.1.2 y.2.2 := by
  obtain ⟨y,hy⟩ : ∃ y,ps[i]? = some y := ⟨_,List.getElem?_eq_getElem hi⟩
  have hm := h.pall y (List.mem_of_getElem? hy)
  have ho := h.pown
  have ho' := ho
  obtain ⟨c1,c2⟩ := pcells_get ps i y hy
  rcases ho.2 with ⟨rfl,h0⟩ | ⟨g,cap,cur,rfl,hb,hg,hc,hmx,hs,ht⟩
  · omega
  · exact ⟨g,cap,y,rfl,hy,by rw [ho'.cellAt _ (by omega),c1],by rw [ho'.cellAt _ (by omega),c2],hm.1,hm.2⟩
set_option maxHeartbeats 2000000 in
theorem read_rows (B : Nat) (w : World) (d n i : Nat) (x1 x7 x8 x9 pv lv nv : Value) (c : Nat) (f : Bool) (a : Int) (ps : List PgV) (ls : List LoV) (once : Bool) (hB : B≤d)
    (hb : w.heap[d]? = some (.cells #[.int .i64 (n : Int),x1,pv,lv,.int .i64 (c : Int),.bool f,.int .i64 a,x7,x8,x9,nv] 129 (0,0))) (hr : Rws B w n pv lv nv ps ls once)
    (ha1 : -9223372036854775808≤a) (ha2 : a≤9223372036854775807) (hc : c < 9223372036854775807) (hi : i < ps.length) (hn : n≤4096) (h0 : cE f a = 0) (y : PgV) (hy : ps[i]? = some y) :
    Calls Tryz.prog 127 #[.pointer (some ⟨d,0,none⟩),.int .i64 (i : Int)] w fun r w' => ∃ wc ao e,r = .returned (.tuple #[.slice ao n e,.int .i64 0]) ∧
      wc.heap[d]? = some (.cells #[.int .i64 (n : Int),x1,pv,lv,.int .i64 ((c + 1 : Nat) : Int),.bool (cF f a),.int .i64 (cA f a),x7,x8,x9,nv] 129 (0,0))∧Rws B wc n pv lv nv ps ls once∧w.grownBy wc (some d)∧wc.heap.size = w.heap.size∧Dfr B w wc ∧
      wc.grownBy w' none∧Own8 wc.heap.size w' n (.slice ao n e) y.2.2 := by
  obtain ⟨g,pc,-,rfl,-,-,-,-,-⟩ := hr.page hi
  have c2 := (cells11 hb).2.2.1
  have HB := Lib.hid hb
  have HR := Lib.hid hr
  have HY := Lib.hid hy
  have HI := Lib.hid hi
  have H0 := Lib.hid h0
  obtain ⟨m,hm⟩ : ∃ m,m = ps.length := ⟨_,rfl⟩
  rw [← hm] at c2 hi HB HR
  have HM := Lib.hid hm
  have hii : (i : Int) < (m : Int) := by omega
  clear hb hr hy h0 hm
  go_enter Tryz.func127,Tryz.ntmps127
  go_wp2_with (first
    | (go_at_call 182; ((with_reducible refine (place_in _ d _ m pc i c2 hi).mono ?_); rintro e w' ⟨rfl,rfl⟩))
    | (go_at_call 108; ((with_reducible refine (count_rows hB HB.out HR.out ha1 ha2 hc).mono ?_); rintro e w1 ⟨rfl,b1,r1,g1,s1,d1⟩; rw [H0.out]; have c21 := (cells11 b1).2.2.1; obtain ⟨g',pc',y1,hv,hy1,k1,k2,o1,o2⟩ := r1.page HI.out; rw [HY.out] at hy1; injection hy1 with hy1; subst hy1; simp only [Value.slice.injEq,Option.some.injEq,Addr.mk.injEq,and_true] at hv; obtain ⟨rfl,_,rfl⟩ := hv; obtain ⟨va,vc,hv2⟩ := own_shape o2; rw [hv2] at k2; have O2 : Hid (Own8 B w1 n (.slice va n vc) y.2.2) := Lib.hid (by rw [← hv2]; exact o2); have B1 := Lib.hid b1; have R1 := Lib.hid r1; have G1 := Lib.hid g1; have S1 := Lib.hid s1; have D1 := Lib.hid d1; have L2 := Lib.hid o2.len; clear b1 r1 g1 s1 d1 o1 o2 k1 hv2 c2))
    | (go_at_call 68; have K := clone_any w1 _ _ _ O2.out.seq (Nat.le_refl _) (by have := L2.out; omega); rw [L2.out] at K; ((with_reducible refine K.mono ?_); clear K; rintro e w2 ⟨ao,ce,rfl,hown,hg2⟩; have HO := Lib.hid hown; have HG := Lib.hid hg2; clear hown hg2)))
  go_ret2
  have hm := HM.out
  subst hm
  exact ⟨w1,ao,ce,rfl,B1.out,R1.out,G1.out,S1.out,D1.out,HG.out,HO.out⟩
def lastM (M : SM) (i : Nat) : List Int := (M.pg.getD i ([],[])).2
theorem DskAt.read {B d i : Nat} {w : World} {M : SM} (h : DskAt B w d M) (hF : Fine M) (hi : i < M.pg.length) (hn : M.size≤4096) (h0 : cE M.fails M.ahead = 0) :
    Calls Tryz.prog 127 #[.pointer (some ⟨d,0,none⟩),.int .i64 (i : Int)] w fun r w' => ∃ wc ao e,r = .returned (.tuple #[.slice ao M.size e,.int .i64 0]) ∧
      DskAt B wc d (cntM M)∧wc.heap.size = w.heap.size∧Dfr B w wc∧wc.grownBy w' none∧Own8 wc.heap.size w' M.size (.slice ao M.size e) (lastM M i) := by
  obtain ⟨pv,lv,nv,ps,ls,h1,h2,h3,h4,h5⟩ := h
  have hi' : i < ps.length := by rw [h4] at hi; simpa using hi
  refine (read_rows B w d M.size i _ _ _ _ pv lv nv _ _ _ ps ls M.once h1 h2 h3 hF.1 hF.2.1 hF.2.2 hi' hn h0 ps[i] (List.getElem?_eq_getElem hi')).mono ?_
  rintro r w' ⟨wc,ao,e,rfl,a1,a2,a3,a4,a5,a6,a7⟩
  refine ⟨wc,ao,e,rfl,⟨pv,lv,nv,ps,ls,h1,a1,a2,h4,h5⟩,a4,a5,a6,?_⟩
  have e1 : lastM M i = ps[i].2.2 := by simp [lastM,h4,List.getD_eq_getElem?_getD,List.getElem?_eq_getElem hi']
  rw [e1]; exact a7
end Go.Proofs.YtnnmpaenainogaaGreat

namespace Go.Proofs.YtnnmpaenainogaaGreat
open Go.RowKit
theorem infoWrite : (Tryz.prog.info? 160).map (fun i => (i.zero,i.size,i.bytes)) = some (some (.agg #[.int .i64 0,.slice none 0 0]),2,32) := by kernel_rfl
theorem wcells_snoc (ls : List LoV) (y : LoV) : wcells (ls++[y]) = wcells ls++[.int .i64 (y.1 : Int),y.2.1] := by simp [wcells]
theorem pcells_last : ∀ (ps : List PgV) (i : Nat) (y : PgV) (v : Value) (z : List Int × List Int),ps[i]? = some y→pcells (ps.set i ((y.1.1,v),z)) = (pcells ps).set (i * 2 + 1) v
  | [],i,y,v,z,h => by simp at h
  | x :: l,0,y,v,z,h => by
    simp only [List.getElem?_cons_zero,Option.some.injEq] at h
    subst h
    rfl
  | x :: l,i + 1,y,v,z,h => by
    simp only [List.getElem?_cons_succ] at h
    have ih := pcells_last l i y v z h
    rw [show (i + 1) * 2 + 1 = i * 2 + 1 + 1 + 1 by omega]
    show _ :: _ :: pcells (l.set i _) = _ :: _ :: (pcells l).set _ _
    rw [ih]
theorem pcells_good : ∀ (ps : List PgV) (i : Nat) (y : PgV) (v : Value) (z : List Int × List Int),ps[i]? = some y→pcells (ps.set i ((v,y.1.2),z)) = (pcells ps).set (i * 2) v
  | [],i,y,v,z,h => by simp at h
  | x :: l,0,y,v,z,h => by
    simp only [List.getElem?_cons_zero,Option.some.injEq] at h
    subst h
    rfl
  | x :: l,i + 1,y,v,z,h => by
    simp only [List.getElem?_cons_succ] at h
    have ih := pcells_good l i y v z h
    rw [show (i + 1) * 2 = i * 2 + 1 + 1 by omega]
    show _ :: _ :: pcells (l.set i _) = _ :: _ :: (pcells l).set _ _
    rw [ih]
theorem disk_free {w : World} {d : Nat} {cs : Array Value} {base size n : Nat} {e : TypeId} {v : Value} {xs : List Value} (h : w.ownsRow base e size v n xs) (hb : w.heap[d]? = some (.cells cs 129 (0,0))) (he : 129≠e) : some d≠v.ownBlock := fun e' =>
  he (TagIs.uniq (w := w) (k := d) ⟨_,_,hb⟩ (own_tag h d e'.symm).2.2)
set_option maxRecDepth 100000 in
set_option maxHeartbeats 4000000 in
theorem write_rows (B b0 : Nat) (w : World) (d n i : Nat) (x1 x7 x8 x9 pv lv nv : Value) (c : Nat) (f : Bool) (a : Int) (ps : List PgV) (ls : List LoV) (once : Bool) (ba : Option Addr) (bc : Nat) (bs : List Int) (hB : B≤d)
    (hb : w.heap[d]? = some (.cells #[.int .i64 (n : Int),x1,pv,lv,.int .i64 (c : Int),.bool f,.int .i64 a,x7,x8,x9,nv] 129 (0,0))) (hr : Rws B w n pv lv nv ps ls once)
    (ha1 : -9223372036854775808≤a) (ha2 : a≤9223372036854775807) (hc : c < 9223372036854775807) (hi : i < ps.length) (hn : n≤4096) (h0 : cE f a = 0) (y : PgV) (hy : ps[i]? = some y) (hbs : Own8 b0 w n (.slice ba n bc) bs) (hl : ls.length≤100000) :
    Calls Tryz.prog 179 #[.pointer (some ⟨d,0,none⟩),.int .i64 (i : Int),.slice ba n bc] w fun r w' => ∃ lv' v',r = .returned (.int .i64 0) ∧
      w'.heap[d]? = some (.cells #[.int .i64 (n : Int),x1,pv,lv',.int .i64 ((c + 1 : Nat) : Int),.bool (cF f a),.int .i64 (cA f a),x7,x8,x9,nv] 129 (0,0))∧Rws B w' n pv lv' nv (ps.set i ((y.1.1,v'),(y.2.1,bs))) (ls++[(i,(v',bs))]) once∧Dfr B w w' := by
  obtain ⟨g,pc,-,rfl,-,-,-,-,-⟩ := hr.page hi
  have c2 := (cells11 hb).2.2.1
  have c0 := (cells11 hb).1
  have HB := Lib.hid hb
  have HR := Lib.hid hr
  have HY := Lib.hid hy
  have HI := Lib.hid hi
  have H0 := Lib.hid h0
  have HS := Lib.hid hbs
  obtain ⟨m,hm⟩ : ∃ m,m = ps.length := ⟨_,rfl⟩
  obtain ⟨k,hk⟩ : ∃ k,k = ls.length := ⟨_,rfl⟩
  rw [← hm] at c2 hi HB HR
  rw [← hk] at hl
  have HM := Lib.hid hm
  have HK := Lib.hid hk
  obtain ⟨la,lc,rfl⟩ := own_shape hr.lown
  rw [← hk] at HB HR
  have hii : (i : Int) < (m : Int) := by omega
  obtain ⟨i0,hi0,hz0,hz1,hz2⟩ := info_parts infoWrite
  clear hb hr hy h0 hm hk hbs
  go_enter Tryz.func179,Tryz.ntmps179
  go_wp2_with (first
    | (go_at_call 182; ((with_reducible refine (place_in _ d _ m pc i c2 hi).mono ?_); rintro e w' ⟨rfl,rfl⟩))
    | (go_at_call 108; ((with_reducible refine (count_rows hB HB.out HR.out ha1 ha2 hc).mono ?_); rintro e w1 ⟨rfl,b1,r1,g1,s1,d1⟩; rw [H0.out]; have B1 := Lib.hid b1; have R1 := Lib.hid r1; have D1 := Lib.hid d1; have S1 := Lib.hid (HS.out.far g1 (fun k e => by injection e with e; subst e; exact ⟨_,_,HB.out⟩) (by decide)); clear b1 r1 g1 s1 d1 c2 c0))
    | (go_at_call 68; have K := clone_any w1 _ _ _ S1.out.seq (Nat.le_refl _) (by have := S1.out.len; omega); rw [S1.out.len] at K; ((with_reducible refine K.mono ?_); clear K; rintro e w2 ⟨va,vc,rfl,hown,hg2⟩; have HV := Lib.hid hown; have b2 := (hg2.block d (lt_of_block B1.out) (by simp)).trans B1.out; have B2 := Lib.hid b2; have R2 := Lib.hid (R1.out.new hg2); have D2 := Lib.hid (D1.out.trans (dfr_new hg2)); have L2 : Hid (w2.ownsRow B 160 2 (.slice la k lc) k (wcells ls)) := Lib.hid (by have h := R2.out.lown; rw [← HK.out] at h; exact h); have c3 := (cells11 b2).2.2.2.1; clear hown hg2 b2))
    | (at_builtin; refine wpList_append_own _ rfl _ _ 113 rfl B 160 i0 (.agg #[.int .i64 0,.slice none 0 0]) 2 32 Tryz.underlying113 hi0 hz0 hz1 hz2 rfl (by decide) _ _ _ rfl (L2.out.alloc _) ⟨w2.heap.size,0,none⟩ 1 1 [.int .i64 (i : Int),.slice va n vc] rfl rfl ?d1 ?d2 ?d3 ?d4 ?d5 ?_))
  case d1 =>
    intro j u hu
    have hj := (List.getElem?_eq_some_iff.1 hu).1
    rw [Addr.add_lit,Nat.zero_add,World.cell?_alloc_mark,← hu]
    match j,hj with
    | 0,_ => rfl
    | 1,_ => rfl
  case d2 => intro u hu; simp at hu; rcases hu with rfl | rfl <;> rfl
  case d3 => unfold maxLen; omega
  case d4 => omega
  case d5 => have := lt_of_block B2.out; simp; omega
  intro v3 w3 hown3 hg3 _
  obtain ⟨a3,e3,rfl⟩ := own_shape hown3
  have hg : w2.grownBy w3 (Value.slice la k lc).ownBlock := gtrans (World.grownBy_alloc _ _ _) hg3
  have htag : ∀ q,(Value.slice la k lc).ownBlock = some q→TagIs w2 q 160 := fun q hq => (own_tag L2.out q hq).2.2
  have b3 := (hg.block d (lt_of_block B2.out) (disk_free L2.out B2.out (by decide))).trans B2.out
  have r3 : Rws B w3 n (.slice (some ⟨g,0,none⟩) m pc) (.slice a3 (k + 1) e3) nv ps (ls++[(i,(.slice va n vc,bs))]) once := R2.out.looses hg htag (by rw [wcells_snoc,List.length_append,← HK.out]; exact hown3) (fun y hy => by
    rw [List.mem_append,List.mem_singleton] at hy
    rcases hy with hy | rfl
    · exact .inl hy
    · exact .inr (own_base HV.out (by have := D1.out.size; have := lt_of_block HB.out; omega)))
  have d3 := D2.out.trans (dfr_row hg fun q hq => ⟨(own_tag L2.out q hq).1,Dtag.of (htag q hq) (by decide)⟩)
  have k3 := (cells11 b3).2.2.2.1
  have f3 := free11 b3 3
  have b4 : (w3.setCell ⟨d,3,none⟩ (.slice a3 (k + 1) e3)).heap[d]? = _ := set_box b3 3 (.slice a3 (k + 1) e3)
  have r4 := r3.far (gset w3 ⟨d,3,none⟩ (.slice a3 (k + 1) e3)) (fun q e => by injection e with e; subst e; exact ⟨_,_,b3⟩)
  have d4 := d3.trans (dfr_row (gset w3 ⟨d,3,none⟩ (.slice a3 (k + 1) e3)) fun q e => by injection e with e; subst e; exact ⟨hB,Dtag.of ⟨_,_,b3⟩ (by decide)⟩)
  have c42 := (cells11 b4).2.2.1
  have hi4 : i * 2 + 1 < ps.length * 2 := by have := HI.out; omega
  have hp4 : (w3.setCell ⟨d,3,none⟩ (.slice a3 (k + 1) e3)).ownsRow B 163 2 (.slice (some ⟨g,0,none⟩) m pc) m (pcells ps) := by have h := r4.pown; rw [← HM.out] at h; exact h
  have kp : (w3.setCell ⟨d,3,none⟩ (.slice a3 (k + 1) e3)).cell? ⟨g,i * 2 + 1,none⟩ = some y.1.2 := by
    rw [hp4.cellAt _ (by omega)]; exact (pcells_get ps i y HY.out).2
  have fp := hp4.frozenAt (i * 2 + 1)
  have HG := Lib.hid (own_tag hp4 g rfl)
  have HP := Lib.hid hp4
  have B3 := Lib.hid b3
  have B4 := Lib.hid b4
  have R4 := Lib.hid r4
  have D4 := Lib.hid d4
  generalize y.1.2 = yold at kp
  clear hown3 hg3 hg htag b3 r3 d3 b4 r4 d4 hi4 hp4 hi0 hz0 hz1 hz2
  go_wp2
  go_ret
  obtain ⟨st1,st2⟩ := HP.out.stored (i * 2 + 1) (.slice va n vc)
  have hps : (ps.set i ((y.1.1,.slice va n vc),(y.2.1,bs))).length = m := by rw [List.length_set,HM.out]
  have hgd : g≠d := fun e => by
    have h1 := HG.out.2.2
    rw [e] at h1
    exact absurd (h1.uniq ⟨_,_,B4.out⟩) (by decide)
  have hm := HM.out
  subst hm
  refine ⟨.slice a3 (k + 1) e3,.slice va n vc,rfl,(st2.block d (lt_of_block B4.out) (fun e => by injection e with e; exact hgd e.symm)).trans B4.out,?_,D4.out.trans (dfr_row st2 fun q e => by injection e with e; subst e; exact ⟨HG.out.1,Dtag.of HG.out.2.2 (by decide)⟩)⟩
  refine R4.out.pages st2 (fun q e => by injection e with e; subst e; exact HG.out.2.2) (by rw [hps,pcells_last ps i y _ _ HY.out]; exact st1) (fun z hz => ?_)
  rcases List.mem_or_eq_of_mem_set hz with hz | rfl
  · exact .inl hz
  · have hy := R4.out.pall y (List.mem_of_getElem? HY.out)
    have hv := R4.out.lall (i,(.slice va n vc,bs)) (by simp)
    exact .inr ⟨hy.1,hv⟩
def wrM (M : SM) (i : Nat) (bs : List Int) : SM := { cntM M with pg := M.pg.set i ((M.pg.getD i ([],[])).1,bs),loose := M.loose++[(i,bs)] }
theorem DskAt.write {B b0 d i : Nat} {w : World} {M : SM} {ba : Option Addr} {bc : Nat} {bs : List Int} (h : DskAt B w d M) (hF : Fine M) (hi : i < M.pg.length) (hn : M.size≤4096) (h0 : cE M.fails M.ahead = 0) (hbs : Own8 b0 w M.size (.slice ba M.size bc) bs) (hl : M.loose.length≤100000) :
    Calls Tryz.prog 179 #[.pointer (some ⟨d,0,none⟩),.int .i64 (i : Int),.slice ba M.size bc] w fun r w' => r = .returned (.int .i64 0)∧DskAt B w' d (wrM M i bs)∧Dfr B w w' := by
  obtain ⟨pv,lv,nv,ps,ls,h1,h2,h3,h4,h5⟩ := h
  have hi' : i < ps.length := by rw [h4] at hi; simpa using hi
  refine (write_rows B b0 w d M.size i _ _ _ _ pv lv nv _ _ _ ps ls M.once ba bc bs h1 h2 h3 hF.1 hF.2.1 hF.2.2 hi' hn h0 ps[i] (List.getElem?_eq_getElem hi') hbs (by rw [h5] at hl; simpa using hl)).mono ?_
  rintro r w' ⟨lv',v',rfl,a1,a2,a3⟩
  refine ⟨rfl,⟨pv,lv',nv,_,_,h1,a1,a2,?_,?_⟩,a3⟩
  · simp [wrM,h4,List.map_set,List.getD_eq_getElem?_getD,List.getElem?_eq_getElem hi']
  · simp [wrM,h5]
set_option maxHeartbeats 1000000 in
theorem DskAt.write_io {B d i n bn bc : Nat} {ba : Option Addr} {w : World} {M : SM} (h : DskAt B w d M) (hF : Fine M) (hi : i < M.pg.length) (hb : bn = M.size) (h0 : cE M.fails M.ahead = 20) :
    Calls Tryz.prog 179 #[.pointer (some ⟨d,0,none⟩),.int .i64 (i : Int),.slice ba bn bc] w fun r w' => r = .returned (.int .i64 20)∧DskAt B w' d (cntM M)∧Dfr B w w' := by
  have h' := h
  obtain ⟨pv,lv,nv,ps,ls,h1,h2,h3,h4,h5⟩ := h
  have c2 := (cells11 h2).2.2.1
  have c0 := (cells11 h2).1
  rw [← hb] at c0
  have hi' : i < ps.length := by rw [h4] at hi; simpa using hi
  obtain ⟨pa,pc,rfl⟩ := own_shape h3.pown
  obtain ⟨m,hm⟩ : ∃ m,m = ps.length := ⟨_,rfl⟩
  rw [← hm] at c2 hi'
  have H0 := Lib.hid h0
  have HD := Lib.hid h'
  have HF := Lib.hid hF
  clear h1 h2 h3 h4 h5 h0 h' hF hm hi hb
  go_enter Tryz.func179,Tryz.ntmps179
  go_wp2_with (first
    | (go_at_call 182; ((with_reducible refine (place_in _ d _ m pc i c2 hi').mono ?_); rintro e w' ⟨rfl,rfl⟩))
    | (go_at_call 108; ((with_reducible refine (HD.out.count HF.out).mono ?_); rintro e w1 ⟨rfl,b1,g1,s1,d1⟩; rw [H0.out]; have B1 := Lib.hid b1; have D1 := Lib.hid d1; clear b1 g1 s1 d1)))
  go_ret
  exact ⟨rfl,B1.out,D1.out⟩
end Go.Proofs.YtnnmpaenainogaaGreat

namespace Go.Proofs.YtnnmpaenainogaaGreat
open Go.RowKit
theorem DskAt.len {B d : Nat} {w : World} {M : SM} (h : DskAt B w d M) : ∃ ao c,w.cell? ⟨d,2,none⟩ = some (.slice ao M.pg.length c) := by
  obtain ⟨pv,lv,nv,ps,ls,h1,h2,h3,h4,h5⟩ := h
  have c2 := (cells11 h2).2.2.1
  obtain ⟨pa,pc,rfl⟩ := own_shape h3.pown
  exact ⟨pa,pc,by rw [c2,h4]; simp⟩
theorem DskAt.lim {B d : Nat} {w : World} {M : SM} (h : DskAt B w d M) : w.cell? ⟨d,0,none⟩ = some (.int .i64 (M.size : Int))∧w.cell? ⟨d,1,none⟩ = some (.int .i64 (M.limit : Int))∧w.cell? ⟨d,4,none⟩ = some (.int .i64 (M.calls : Int)) := by
  obtain ⟨pv,lv,nv,ps,ls,h1,h2,h3,h4,h5⟩ := h
  exact ⟨(cells11 h2).1,(cells11 h2).2.1,(cells11 h2).2.2.2.2.1⟩
def growM (M : SM) (k : Nat) (o : Bool) : SM := { M with pg := M.pg++List.replicate k (List.replicate M.size 0,List.replicate M.size 0),once := o }
theorem growM_zero (M : SM) : growM M 0 M.once = M := by simp [growM]
theorem growM_succ (M : SM) (k : Nat) (o o' : Bool) : growM M (k + 1) o' = { growM M k o with once := o',pg := (growM M k o).pg++[(List.replicate (growM M k o).size 0,List.replicate (growM M k o).size 0)] } := by
  simp [growM,List.replicate_succ']
set_option maxHeartbeats 1000000 in
theorem DskAt.grow_arg {B d : Nat} {n : Int} {w : World} {M : SM} (h : DskAt B w d M) (hn : n < (M.pg.length : Int)) :
    Calls Tryz.prog 207 #[.pointer (some ⟨d,0,none⟩),.int .i64 n] w fun r w' => r = .returned (.int .i64 1)∧w = w' := by
  obtain ⟨ao,c,c2⟩ := h.len
  generalize M.pg.length = m at hn c2
  clear h
  go_enter Tryz.func207,Tryz.ntmps207
  go_wp2_with (first | (go_at_call 38; ((with_reducible refine (dlen_any _ d ao m c c2).mono ?_); rintro e w' ⟨rfl,rfl⟩)))
  go_ret
  exact ⟨rfl,rfl⟩
set_option maxHeartbeats 1000000 in
theorem DskAt.grow_full {B d : Nat} {n : Int} {w : World} {M : SM} (h : DskAt B w d M) (hn : ¬ n < (M.pg.length : Int)) (hl : (M.limit : Int) < n) :
    Calls Tryz.prog 207 #[.pointer (some ⟨d,0,none⟩),.int .i64 n] w fun r w' => r = .returned (.int .i64 21)∧w = w' := by
  obtain ⟨ao,c,c2⟩ := h.len
  have c1 := h.lim.2.1
  generalize M.pg.length = m at hn c2
  generalize M.limit = l at hl c1
  clear h
  go_enter Tryz.func207,Tryz.ntmps207
  go_wp2_with (first | (go_at_call 38; ((with_reducible refine (dlen_any _ d ao m c c2).mono ?_); rintro e w' ⟨rfl,rfl⟩)))
  go_ret
  exact ⟨rfl,rfl⟩
set_option maxHeartbeats 1000000 in
theorem DskAt.grow_io {B d : Nat} {n : Int} {w : World} {M : SM} (h : DskAt B w d M) (hF : Fine M) (hn : ¬ n < (M.pg.length : Int)) (hl : ¬ (M.limit : Int) < n) (h0 : cE M.fails M.ahead = 20) :
    Calls Tryz.prog 207 #[.pointer (some ⟨d,0,none⟩),.int .i64 n] w fun r w' => r = .returned (.int .i64 20)∧DskAt B w' d (cntM M)∧Dfr B w w' := by
  obtain ⟨ao,c,c2⟩ := h.len
  have c1 := h.lim.2.1
  have H0 := Lib.hid h0
  have HD := Lib.hid h
  have HF := Lib.hid hF
  generalize M.pg.length = m at hn c2
  generalize M.limit = l at hl c1
  clear h h0 hF
  go_enter Tryz.func207,Tryz.ntmps207
  go_wp2_with (first
    | (go_at_call 38; ((with_reducible refine (dlen_any _ d ao m c c2).mono ?_); rintro e w' ⟨rfl,rfl⟩))
    | (go_at_call 108; ((with_reducible refine (HD.out.count HF.out).mono ?_); rintro e w1 ⟨rfl,b1,g1,s1,d1⟩; rw [H0.out]; have B1 := Lib.hid b1; have D1 := Lib.hid d1; clear b1 g1 s1 d1)))
  go_ret
  exact ⟨rfl,B1.out,D1.out⟩
set_option maxHeartbeats 2000000 in
theorem DskAt.grow {B d n : Nat} {w : World} {M : SM} (h : DskAt B w d M) (hF : Fine M) (hn : M.pg.length≤n) (hl : n≤M.limit) (hs : M.size≤4096) (hl2 : M.limit≤65536) (h0 : cE M.fails M.ahead = 0) :
    Calls Tryz.prog 207 #[.pointer (some ⟨d,0,none⟩),.int .i64 (n : Int)] w fun r w' => ∃ o,r = .returned (.int .i64 0)∧DskAt B w' d (growM (cntM M) (n - M.pg.length) o)∧Dfr B w w' := by
  obtain ⟨ao,c,c2⟩ := h.len
  have c1 := h.lim.2.1
  have H0 := Lib.hid h0
  have HD := Lib.hid h
  have HF := Lib.hid hF
  obtain ⟨m,hm⟩ : ∃ m,m = M.pg.length := ⟨_,rfl⟩
  have HM := Lib.hid hm
  have HS := Lib.hid hs
  rw [← hm] at hn c2 ⊢
  have hl3 : n≤65536 := by omega
  have hn1 : ¬ (n : Int) < (m : Int) := by omega
  generalize M.limit = l at hl c1
  have hl1 : ¬ (l : Int) < (n : Int) := by omega
  clear h h0 hF hm hl2 hs
  go_enter Tryz.func207,Tryz.ntmps207
  go_wp2_with (first
    | (go_at_call 38; ((with_reducible refine (dlen_any _ d ao m c c2).mono ?_); rintro e w' ⟨rfl,rfl⟩))
    | (go_at_call 108; ((with_reducible refine (HD.out.count HF.out).mono ?_); rintro e w1 ⟨rfl,b1,g1,s1,d1⟩; rw [H0.out]; have B1 := Lib.hid b1; have D1 := Lib.hid d1; clear b1 g1 s1 d1 c1 c2)))
  go_loopg [] (n - m) (fun g wr => ∃ k o,k + g = n - m∧DskAt B wr d (growM (cntM M) k o)∧Dfr B w wr)
  case atStart => exact ⟨0,_,by omega,by rw [growM_zero]; exact B1.out,D1.out⟩
  case round =>
    obtain ⟨k,o,hk,hd,hf⟩ := hrel
    obtain ⟨ak,ck,c3⟩ := hd.len
    obtain ⟨q,hq⟩ : ∃ q,q = m + k := ⟨_,rfl⟩
    have HL := Lib.hid (show (growM (cntM M) k o).pg.length = q by rw [hq]; simp [growM,cntM,HM.out])
    have HZ := Lib.hid (show (growM (cntM M) k o).size≤4096 from HS.out)
    have HQ := Lib.hid hq
    rw [HL.out] at c3
    have HG3 := Lib.hid (show q≤65536→(growM (cntM M) k o).pg.length≤100000 by rw [HL.out]; omega)
    have HDk := Lib.hid hd
    have HFk := Lib.hid hf
    clear hd hf B1 D1 hq
    by_cases hlt : q < n
    · obtain ⟨g,rfl⟩ : ∃ g,gk = g + 1 := ⟨gk - 1,by have := HQ.out; omega⟩
      have hlti : (q : Int) < (n : Int) := by omega
      go_wp2_with (first
        | (go_at_call 38; ((with_reducible refine (dlen_any _ d ak q ck c3).mono ?_); rintro e w' ⟨rfl,rfl⟩))
        | (go_at_call 238; ((with_reducible refine (HDk.out.blank HZ.out).mono ?_); rintro e w2 ⟨nv,rfl,o2,b2,d2⟩; have O2 := Lib.hid o2; have B2 := Lib.hid b2; have D2 := Lib.hid (HFk.out.trans d2); clear o2 b2 d2 c3))
        | (go_at_call 80; ((with_reducible refine (B2.out.add O2.out (HG3.out (by omega))).mono ?_); rintro e w3 ⟨rfl,b3,d3⟩; have B3 := Lib.hid b3; have D3 := Lib.hid (D2.out.trans d3); clear b3 d3)))
      go_roundg g
      case measure => (have := HQ.out; omega)
      case rel => exact ⟨k + 1,true,by have := HQ.out; omega,by rw [growM_succ (cntM M) k o true]; exact B3.out,D3.out⟩
    · have hlti : ¬ (q : Int) < (n : Int) := by omega
      have hkn : q = m + k := HQ.out
      obtain rfl : k = n - m := by omega
      clear hkn
      go_wp2_with (first
        | (go_at_call 38; ((with_reducible refine (dlen_any _ d ak q ck c3).mono ?_); rintro e w' ⟨rfl,rfl⟩)))
      go_ret
      exact ⟨o,rfl,HDk.out,HFk.out⟩
end Go.Proofs.YtnnmpaenainogaaGreat
