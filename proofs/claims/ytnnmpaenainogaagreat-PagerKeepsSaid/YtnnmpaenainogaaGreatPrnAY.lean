/-
  Layer 7: the contract of meta's tell: the bytes that are summed. Own work.
-/
import Derived.Test.YtnnmpaenainogaaGreatPrnAH
import Derived.Test.YtnnmpaenainogaaGreatPrnAD
import Derived.Test.YtnnmpaenainogaaGreatPrnAA
import Derived.Test.YtnnmpaenainogaaGreatPrnAC
import Derived.Lib.SlBytesConst
import Derived.OwnWalk

set_option linter.unusedVariables false
set_option linter.unusedSimpArgs false
namespace Go.Proofs.YtnnmpaenainogaaGreat
open Go.RowKit
theorem mt_cells {w : World} {q : Nat} {a b c d : Value} {t : TypeId} (h : w.heap[q]? = some (.cells #[a,b,c,d] t (0,0))) :
    w.cell? ⟨q,0,none⟩ = some a∧w.cell? ⟨q,1,none⟩ = some b∧w.cell? ⟨q,2,none⟩ = some c∧w.cell? ⟨q,3,none⟩ = some d := by
  refine ⟨?_,?_,?_,?_⟩ <;> simp [World.cell?,h]
structure TSt (q g : Nat) (w0 w : World) (M : Mt) (bs : List Int) : Prop where
  wr : WrAt w g bs
  hp : w.heap[q]? = some (.cells (mtC M) 44 (0,0))
  qg : q < g
  bel : Below w0.heap.size w0 w
  q0 : w0.heap.size≤q
theorem TSt.step {q g : Nat} {w0 w w' : World} {M : Mt} {bs bs' : List Int} (h : TSt q g w0 w M bs) (hw : WrAt w' g bs') (hf : Fw g w w') : TSt q g w0 w' M bs' :=
  ⟨hw,fw_heap hf h.wr h.qg h.hp,h.qg,h.bel.trans ((hf.below h.wr).mono (by have := h.q0; have := h.qg; omega)),h.q0⟩
theorem TSt.alloc {q g : Nat} {w0 w : World} {M : Mt} {bs : List Int} (h : TSt q g w0 w M bs) (o : Obj) : TSt q g w0 (w.alloc o) M bs := by
  have hg := World.grownBy_alloc w o none
  exact ⟨h.wr.kept hg,(hg.block q (lt_of_block h.hp) (by simp)).trans h.hp,h.qg,h.bel.alloc (by have := h.q0; have := lt_of_block h.hp; omega) o,h.q0⟩
theorem TSt.num {q g : Nat} {w0 w : World} {M : Mt} {bs : List Int} (h : TSt q g w0 w M bs) (X : Int) (n : Nat) (m : Int) (hm : m = (n : Int)) (h0 : 0≤X) (h1 : X≤18446744073709551615) (hn1 : 1≤n) (hn8 : n≤8) (hl : bs.length≤1000000) :
    Calls Tryz.prog 77 #[.pointer (some ⟨g,0,none⟩),.int .u64 X,.int .i64 m] w fun r w' => r = .returned (.tuple #[])∧TSt q g w0 w' M (bs++numB X n n) := by
  subst hm
  exact (wnum_in w g n X bs h.wr h0 h1 hn1 hn8 (by omega)).mono fun r w' ⟨e,hw,hf⟩ => ⟨e,h.step hw hf⟩
theorem TSt.raw {q g B : Nat} {w0 w : World} {M : Mt} {bs xs : List Int} {v : Value} (h : TSt q g w0 w M bs) (hs : Seq B w v xs) (hl : bs.length≤1000000) (hk : xs.length≤100000) :
    Calls Tryz.prog 76 #[.pointer (some ⟨g,0,none⟩),v] w fun r w' => r = .returned (.tuple #[])∧TSt q g w0 w' M (bs++xs) :=
  (wraw_any w g B bs xs v h.wr hs (by omega)).mono fun r w' ⟨e,hw,hf⟩ => ⟨e,h.step hw hf⟩
theorem TSt.start {w w1 : World} {M : Mt}
    (hw : WrAt w1 (w.alloc (.cells (mtC M) 44)).heap.size []) (hg : (w.alloc (.cells (mtC M) 44)).grownBy w1 none) :
    TSt w.heap.size (w.heap.size + 1) w w1 M [] := by
  have ha := gtrans (World.grownBy_alloc w (.cells (mtC M) 44) none) hg
  have e : (w.alloc (.cells (mtC M) 44)).heap.size = w.heap.size + 1 := by simp
  rw [e] at hw
  exact ⟨hw,(hg.block w.heap.size (by simp) (by simp)).trans (heap_alloc_new _ _),by omega,gbelow ha,Nat.le_refl _⟩
def mpg (M : Mt) : Nat→Nat
  | 0 => M.e
  | 1 => M.m
  | _ => M.f
def pgB (M : Mt) : Nat→List Int
  | 0 => []
  | k + 1 => pgB M k++numB (mpg M k : Int) 4 4
theorem pgB_len (M : Mt) : ∀ k,(pgB M k).length = 4 * k
  | 0 => rfl
  | k + 1 => by rw [pgB,List.length_append,pgB_len M k,numB_len]; omega
set_option maxHeartbeats 2000000 in
theorem tell_any (w : World) (M : Mt) (h : MtOk M) (size : Nat) (hsz : size≤4096) :
    Calls Tryz.prog 74 #[.agg (mtC M),.int .i64 (size : Int)] w fun r w' => ∃ ao c,r = .returned (.slice ao 28 c) ∧
      w'.ownsRow w.heap.size 5 1 (.slice ao 28 c) 28 ((told M size).map (.int .u8))∧w.grownBy w' none := by
  have ht := h.t
  have he := h.e
  have hm := h.m
  have hf := h.f
  have kc := fun (w : World) (C : Array Value) (n c : Nat) => Lib.run_convert_bytes_const (P := Tryz.prog) w 32 5 C n c Tryz.underlying32 Tryz.underlying5
  have HT := Lib.hid (told_len M size)
  have HTE := Lib.hid (show told M size = (((([]++RUB)++numB (size : Int) 4 4)++numB (M.t : Int) 8 8)++pgB M 3) by simp [told,pgB,mpg])
  have HW1 : ∀ w1 : World,Seq (w1.alloc (.cells #[.int .u8 82,.int .u8 85,.int .u8 66,.int .u8 49] 5 (4,5))).heap.size (w1.alloc (.cells #[.int .u8 82,.int .u8 85,.int .u8 66,.int .u8 49] 5 (4,5))) (.slice (some ⟨w1.heap.size,0,none⟩) 4 4) RUB := fun w1 => seq_lit (heap_alloc_new _ _) rfl rfl (by decide)
  have i0 : ∀ w : World,(Instr.index 227 (.agg #[Value.int .u32 (M.e : Int),.int .u32 (M.m : Int),.int .u32 (M.f : Int)]) (.int .i64 0)).run Tryz.prog w = .ok (.int .u32 (M.e : Int)) w := fun _ => by kernel_rfl
  have i1 : ∀ w : World,(Instr.index 227 (.agg #[Value.int .u32 (M.e : Int),.int .u32 (M.m : Int),.int .u32 (M.f : Int)]) (.int .i64 1)).run Tryz.prog w = .ok (.int .u32 (M.m : Int)) w := fun _ => by kernel_rfl
  have i2 : ∀ w : World,(Instr.index 227 (.agg #[Value.int .u32 (M.e : Int),.int .u32 (M.m : Int),.int .u32 (M.f : Int)]) (.int .i64 2)).run Tryz.prog w = .ok (.int .u32 (M.f : Int)) w := fun _ => by kernel_rfl
  have HW := Lib.hid HW1
  clear HW1
  go_enter Tryz.func74,Tryz.ntmps74
  go_wp2_with (first
    | (go_at_call 75; refine (newW_any _).mono ?_; rintro r w1 ⟨rfl,hw1,hg1⟩; have HS := Lib.hid (TSt.start hw1 hg1); clear hw1 hg1)
    | (go_at_call 76; have K := (HS.out.alloc (.cells #[.int .u8 82,.int .u8 85,.int .u8 66,.int .u8 49] 5 (4,5))).raw (HW.out w1) (by simp) (by simp [RUB]); ((with_reducible refine K.mono ?_); clear K; rintro r w2 ⟨rfl,hs⟩); clear HS; have HS2 := Lib.hid hs; clear hs)
    | (go_at_call 77; have K := HS2.out.num (size : Int) 4 4 rfl (by omega) (by omega) (by omega) (by omega) (by simp [RUB]); ((with_reducible refine K.mono ?_); clear K; rintro r w3 ⟨rfl,hs⟩); clear HS2; have HS3 := Lib.hid hs; obtain ⟨z0,z1,z2,z3⟩ := mt_cells hs.hp; clear hs)
    | (go_at_call 77; have K := HS3.out.num (M.t : Int) 8 8 rfl (by omega) (by omega) (by omega) (by omega) (by simp [RUB,numB_len]); ((with_reducible refine K.mono ?_); clear K; rintro r w4 ⟨rfl,hs⟩); clear HS3 z0 z1 z2 z3; have HS4 := Lib.hid hs; obtain ⟨z0,z1,z2,z3⟩ := mt_cells hs.hp; clear hs))
  go_loopw [28] (fun i wr => ∃ k : Nat,k≤3∧i = .int .i64 k∧Hid (TSt w.heap.size (w.heap.size + 1) w wr M ((((([]++RUB)++numB (size : Int) 4 4)++numB (M.t : Int) 8 8)++pgB M k)))) (fun i _ => 3 - (intOf i).toNat)
  case atStart => exact ⟨0,by omega,rfl,Lib.hid (by simpa [pgB] using HS4.out)⟩
  case round =>
    obtain ⟨k,hk,rfl,HR⟩ := hrel
    by_cases hlt : k < 3
    · rcases (by omega : k = 0∨k = 1∨k = 2) with rfl | rfl | rfl
      · go_wp2_with (go_at_call 77; have K := HR.out.num (M.e : Int) 4 4 rfl (by omega) (by omega) (by omega) (by omega) (by simp [RUB,numB_len,pgB_len]); ((with_reducible refine K.mono ?_); clear K; rintro r w5 ⟨rfl,hs⟩); have HS5 := Lib.hid hs; clear hs)
        go_roundw
        case rel => exact ⟨1,by omega,by go_num,Lib.hid (by have := HS5.out; rw [List.append_assoc] at this; exact this)⟩
        case measure => simp [intOf]
      · go_wp2_with (go_at_call 77; have K := HR.out.num (M.m : Int) 4 4 rfl (by omega) (by omega) (by omega) (by omega) (by simp [RUB,numB_len,pgB_len]); ((with_reducible refine K.mono ?_); clear K; rintro r w5 ⟨rfl,hs⟩); have HS5 := Lib.hid hs; clear hs)
        go_roundw
        case rel => exact ⟨2,by omega,by go_num,Lib.hid (by have := HS5.out; rw [List.append_assoc] at this; exact this)⟩
        case measure => simp [intOf]
      · go_wp2_with (go_at_call 77; have K := HR.out.num (M.f : Int) 4 4 rfl (by omega) (by omega) (by omega) (by omega) (by simp [RUB,numB_len,pgB_len]); ((with_reducible refine K.mono ?_); clear K; rintro r w5 ⟨rfl,hs⟩); have HS5 := Lib.hid hs; clear hs)
        go_roundw
        case rel => exact ⟨3,by omega,by go_num,Lib.hid (by have := HS5.out; rw [List.append_assoc] at this; exact this)⟩
        case measure => simp [intOf]
    · obtain rfl : k = 3 := by omega
      have HL := Lib.hid (show ((((([]++RUB)++numB (size : Int) 4 4)++numB (M.t : Int) 8 8)++pgB M 3)).length = 28 by rw [← HTE.out]; exact HT.out)
      go_wp2_with (go_at_call 79; have K := out_len HR.out.wr HL.out (by decide); ((with_reducible refine K.mono ?_); clear K; rintro r wn ⟨ao,c,rfl,ho,hgo⟩; have HO := Lib.hid ho; have HGO := Lib.hid hgo; clear ho hgo))
      go_ret
      refine ⟨ao,c,rfl,own_base (by rw [HTE.out]; exact HO.out) HR.out.bel.size,?_⟩
      exact gof (HR.out.bel.trans ((gbelow HGO.out).mono HR.out.bel.size)) none
end Go.Proofs.YtnnmpaenainogaaGreat
