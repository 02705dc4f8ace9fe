/-
  The contracts of crc's bitMore and halfSums. Own work.
-/
import Derived.Test.YtnnmpaenainogaaGreatRows
import Derived.WalkKit
import Derived.WalkSpells
import Derived.WalkLawsBesides
import Derived.Deep.WholeRow
import Derived.Deep.LoopGhost
import Derived.Lib.Hide
import Derived.Test.YtnnmpaenainogaaGreatPrnAG

set_option linter.unusedVariables false
set_option linter.unusedSimpArgs false
namespace Go.Proofs.YtnnmpaenainogaaGreat
open Go.RowKit
theorem xorI (a b : Nat) (ha : a < 4294967296) (hb : b < 4294967296) : bits .xor .u32 (a : Int) (b : Int) = ((a ^^^ b : Nat) : Int) := u32_xor_nat a b ha hb
set_option maxHeartbeats 400000 in
theorem bitMore_any (n : Nat) (w : World) (hn : n < 4294967296) :
    Calls Tryz.prog 180 #[.int .u32 (n : Int)] w fun r w' => r = .returned (.int .u32 ((bm n : Nat) : Int))∧w = w' := by
  have hx : bits .xor .u32 ((n : Int) / 2) 3988292384 = ((n / 2 ^^^ 3988292384 : Nat) : Int) := xorI (n / 2) 3988292384 (by omega) (by omega)
  by_cases h : n % 2 = 1
  · have h1 : (n : Int) % 2 = 1 := by omega
    have hb : bm n = n / 2 ^^^ 3988292384 := by unfold bm; rw [if_pos h]
    rw [hb]
    clear hb h
    go_enter Tryz.func180,Tryz.ntmps180
    go_wp2_with (rw [hx])
    go_ret
    exact ⟨rfl,rfl⟩
  · have h1 : (n : Int) % 2 = 0 := by omega
    have hb : bm n = n / 2 := by unfold bm; rw [if_neg h]
    rw [hb]
    clear hb h
    go_enter Tryz.func180,Tryz.ntmps180
    go_wp2
    go_ret
    exact ⟨rfl,rfl⟩
theorem gtrans2 {a b c : World} {row : Option Nat} (h : a.grownBy b row) (k : b.grownBy c row) : a.grownBy c row :=
  ⟨k.os.trans h.os,k.tape.trans h.tape,k.output.trans h.output,Nat.le_trans h.size k.size,fun i hi hn => (k.block i (Nat.lt_of_lt_of_le hi h.size) hn).trans (h.block i hi hn)⟩
def halfV (k j : Nat) : Value := .int .u32 ((if j < k then bms 4 j else 0 : Nat) : Int)
def halfC (k : Nat) : Array Value := ((List.range 16).map (halfV k)).toArray
theorem halfC_size (k : Nat) : (halfC k).size = 16 := by simp [halfC]
theorem halfC_get (k j : Nat) (hj : j < 16) : (halfC k)[j]? = some (halfV k j) := by simp [halfC,hj]
theorem halfC_set (k : Nat) (hk : k < 16) : (halfC k).setIfInBounds k (.int .u32 ((bms 4 k : Nat) : Int)) = halfC (k + 1) := by
  apply Array.ext_getElem?
  intro j
  rw [Array.getElem?_setIfInBounds]
  by_cases hj : j < 16
  · rw [halfC_get _ _ hj,halfC_get _ _ hj,halfC_size]
    by_cases he : k = j
    · subst he; simp [halfV,hk]
    · have : (j < k + 1) = (j < k) := by apply propext; omega
      simp [he,halfV,this]
  · have h0 : ∀ k,(halfC k)[j]? = none := fun k => Array.getElem?_eq_none (by rw [halfC_size]; omega)
    rw [h0,h0]
    have : ¬ k = j := by omega
    simp [this]
theorem halfC_full : halfC 16 = #[.int .u32 0,.int .u32 498536548,.int .u32 997073096,.int .u32 651767980,.int .u32 1994146192,.int .u32 1802195444,.int .u32 1303535960,.int .u32 1342533948,.int .u32 3988292384,.int .u32 4027552580,.int .u32 3604390888,.int .u32 3412177804,.int .u32 2607071920,.int .u32 2262029012,.int .u32 2685067896,.int .u32 3183342108] := by kernel_rfl
theorem halfC_none : halfC 0 = #[.int .u32 0,.int .u32 0,.int .u32 0,.int .u32 0,.int .u32 0,.int .u32 0,.int .u32 0,.int .u32 0,.int .u32 0,.int .u32 0,.int .u32 0,.int .u32 0,.int .u32 0,.int .u32 0,.int .u32 0,.int .u32 0] := by kernel_rfl
set_option maxHeartbeats 1000000 in
theorem halfSums_any (w : World) :
    Calls Tryz.prog 123 #[] w fun r w' => r = .returned (.agg (halfC 16))∧w.grownBy w' none := by
  go_enter Tryz.func123,Tryz.ntmps123
  go_wp2
  go_loopg [4] 16 (fun g i wr => ∃ k : Nat,k + g = 16∧i = .int .i64 k∧wr = (w.alloc (.cells (halfC 0) 230)).alloc (.cells (halfC k) 230))
  case atStart => exact ⟨0,rfl,rfl,rfl⟩
  case round =>
    obtain ⟨k,hk,rfl,rfl⟩ := hrel
    by_cases hlt : k < 16
    · obtain ⟨g,rfl⟩ : ∃ g,gk = g + 1 := ⟨gk - 1,by omega⟩
      have hki : (k : Int) < 16 := by omega
      have hsz := halfC_size k
      have HS := Lib.hid (halfC_set k hlt)
      go_wp2
      go_loopg [3,9] 4 (fun g x i wr => ∃ j : Nat,j + g = 4∧i = .int .i64 j∧x = .int .u32 ((bms j k : Nat) : Int)∧wr = (w.alloc (.cells (halfC 0) 230)).alloc (.cells (halfC k) 230))
      case atStart => exact ⟨0,rfl,rfl,by go_num,rfl⟩
      case round =>
        obtain ⟨j,hj,rfl,rfl,rfl⟩ := hrel
        by_cases hj4 : j < 4
        · obtain ⟨h,rfl⟩ : ∃ h,gk = h + 1 := ⟨gk - 1,by omega⟩
          have hji : (j : Int) < 4 := by omega
          have HJ := Lib.hid (bms_succ j k)
          have HL := Lib.hid (bms_lt j (x := k) (by omega))
          obtain ⟨x,hx⟩ : ∃ x,x = bms j k := ⟨_,rfl⟩
          rw [← hx] at HJ HL ⊢
          have HX := Lib.hid hx
          clear hx HS
          go_wp2_with (go_at_call 180; have K := bitMore_any x ((w.alloc (.cells (halfC 0) 230)).alloc (.cells (halfC k) 230)) HL.out; ((with_reducible refine K.mono ?_); clear K; rintro r w' ⟨rfl,rfl⟩))
          go_roundg h
          case measure => omega
          case rel => exact ⟨j + 1,by omega,by go_num,by rw [HJ.out],rfl⟩
        · obtain rfl : j = 4 := by omega
          have hx : (bms 4 k) < 4294967296 := bms_lt 4 (by omega)
          obtain ⟨x,hx⟩ : ∃ x,x = bms 4 k := ⟨_,rfl⟩
          rw [← hx] at HS ⊢
          clear hx
          go_wp2
          go_roundg g
          case measure => omega
          case rel => exact ⟨k + 1,by omega,by go_num,by rw [← HS.out]⟩
    · obtain rfl : k = 16 := by omega
      have H16 := Lib.hid (halfC_size 16)
      rw [halfC_full,halfC_none]
      go_wp2
      rw [← halfC_full]
      have hb : ((w.alloc (.cells (halfC 16) 230)).alloc (.cells (halfC 16) 230)).heap[w.heap.size]? = some (.cells (halfC 16) 230 (0,0)) :=
        (Below.heap_alloc (w.alloc (.cells (halfC 16) 230)) (.cells (halfC 16) 230) w.heap.size (by simp)).trans (heap_alloc_last _ _)
      exact bodyPost_ret (v := .agg (halfC 16)) (results_cell_row rfl _ _ w.heap.size 230 (halfC 16) (0,0) _ rfl hb Tryz.underlying230 rfl (by rw [H16.out]; kernel_rfl)) rfl ⟨rfl,gtrans2 (World.grownBy_alloc _ _ _) (World.grownBy_alloc _ _ _)⟩
end Go.Proofs.YtnnmpaenainogaaGreat
