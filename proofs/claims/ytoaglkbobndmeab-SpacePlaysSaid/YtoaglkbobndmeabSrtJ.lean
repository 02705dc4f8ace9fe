/-
  slices' nextPowerOfTwo and (*xorshift).Next. Own work.
-/
import Derived.Test.YtoaglkbobndmeabSrtI
import Derived.Laws.Bits64
import Derived.Laws.Bits64b
namespace Go.Proofs.Ytoaglkbobndmeab
open Go.RowKit Go.Maps

theorem bla_zero : ∀ f, Lib.bitLenAux f 0 = 0
  | 0 => rfl
  | f + 1 => by simp [Lib.bitLenAux]
theorem bla_le : ∀ (f x : Nat), 0 < x → 2 ^ Lib.bitLenAux f x ≤ 2 * x
  | 0, x, h => by simp [Lib.bitLenAux]; omega
  | f + 1, x, h => by
    unfold Lib.bitLenAux
    rw [if_neg (by omega), Nat.pow_add]
    by_cases h2 : x / 2 = 0
    · rw [h2, bla_zero]; omega
    · have := bla_le f (x / 2) (by omega)
      omega
theorem blen_le {x : Nat} (h : 0 < x) : 2 ^ Lib.bitLen x ≤ 2 * x := bla_le 64 x h
theorem blen_62 {x : Nat} (h : 0 < x) (h2 : x ≤ 100000) : Lib.bitLen x ≤ 62 := by
  have h1 := blen_le h
  rcases Nat.lt_or_ge 62 (Lib.bitLen x) with e | e
  · exfalso
    have h3 : 2 ^ 62 ≤ 2 ^ Lib.bitLen x := Nat.pow_le_pow_right (by decide) (by omega)
    omega
  · exact e

set_option maxHeartbeats 1000000 in
theorem nextPow_any (x : Nat) (hx : 0 < x) (hx2 : x ≤ 100000) (w : World) :
    Calls Try.prog 54 #[.int .i64 (x : Int)] w fun r w' => (∃ M : Nat, r = .returned (.int .u64 (M : Int)) ∧ 1 ≤ M ∧ M ≤ 2 * x) ∧ w = w' := by
  obtain ⟨k, hk⟩ : ∃ k, k = Lib.bitLen x := ⟨_, rfl⟩
  obtain ⟨M, hM⟩ : ∃ M, M = 2 ^ k := ⟨_, rfl⟩
  have hk62 : k ≤ 62 := by rw [hk]; exact blen_62 hx hx2
  have HM := Lib.hid (show 1 ≤ M ∧ M ≤ 2 * x by rw [hM]; exact ⟨Nat.one_le_two_pow, by rw [hk]; exact blen_le hx⟩)
  have hp : IntKind.u64.wrap ((2 : Int) ^ k) = (M : Int) := by
    have := HM.out
    rw [IntKind.wrap_u64, show ((2 : Int) ^ k) = ((2 ^ k : Nat) : Int) by push_cast; rfl, ← hM]
    omega
  have HK := Lib.hid hk
  clear hk hM
  go_enter Try.func54, Try.ntmps54
  go_wp2_with (first
    | (go_at_call 41; have K := len_any x (by omega) w; rw [← HK.out] at K; refine K.mono ?_; clear K; rintro r w1 ⟨rfl, rfl⟩))
  go_ret
  exact ⟨⟨M, rfl, HM.out⟩, rfl⟩

/-- The row, and a random number beside it. -/
structure RndAt (w0 : World) (blk cap : Nat) (w : World) (d : Array Nat) (g x : Nat) : Prop where
  row : RowAt w0 blk cap w d
  hg : w0.heap.size ≤ g
  box : w.heap[g]? = some (.cells #[.int .u64 (x : Int)] 103 (0, 0))
  lt : x < 18446744073709551616
theorem RndAt.cell {w0 w : World} {blk cap g s : Nat} {d : Array Nat} (h : RndAt w0 blk cap w d g s) : w.cell? ⟨g, 0, none⟩ = some (.int .u64 (s : Int)) := by
  simp only [World.cell?, h.box]
  rfl
theorem RndAt.froz {w0 w : World} {blk cap g s : Nat} {d : Array Nat} (h : RndAt w0 blk cap w d g s) : w.frozen? ⟨g, 0, none⟩ = false := free_row h.box 0
theorem RndAt.put {w0 w : World} {blk cap g s : Nat} {d : Array Nat} (h : RndAt w0 blk cap w d g s) (y : Nat) (hy : y < 18446744073709551616) : RndAt w0 blk cap (w.setCell ⟨g, 0, none⟩ (.int .u64 (y : Int))) d g y := by
  refine ⟨h.row.beside h.hg 0 _, h.hg, ?_, hy⟩
  simp [World.setCell, Array.getElem?_modify, h.box]
theorem RndAt.drew {w0 w : World} {blk cap g s : Nat} {d : Array Nat} (h : RndAt w0 blk cap w d g s) : RndAt w0 blk cap w.drew d g s := ⟨h.row.drew, h.hg, h.box, h.lt⟩

def Nxt (w0 : World) (blk cap : Nat) (d : Array Nat) (g : Nat) (r : Ending) (w' : World) : Prop := ∃ y : Nat, r = .returned (.int .u64 (y : Int)) ∧ RndAt w0 blk cap w' d g y

set_option maxRecDepth 100000 in
set_option maxHeartbeats 1000000 in
theorem next_any (w0 w : World) (blk cap g X : Nat) (d : Array Nat) (h : RndAt w0 blk cap w d g X) :
    Calls Try.prog 55 #[.pointer (some ⟨g, 0, none⟩)] w fun r w' => Nxt w0 blk cap d g r w' := by
  have hX := h.lt
  obtain ⟨A, hA⟩ : ∃ A : Nat, A = X ^^^ (X * 8192 % 18446744073709551616) := ⟨_, rfl⟩
  obtain ⟨B, hB⟩ : ∃ B : Nat, B = A ^^^ (A / 128) := ⟨_, rfl⟩
  obtain ⟨C, hC⟩ : ∃ C : Nat, C = B ^^^ (B * 131072 % 18446744073709551616) := ⟨_, rfl⟩
  have lA : A < 18446744073709551616 := by rw [hA]; exact Nat.xor_lt_two_pow (n := 64) (by omega) (by omega)
  have lB : B < 18446744073709551616 := by rw [hB]; exact Nat.xor_lt_two_pow (n := 64) (by omega) (by omega)
  have lC : C < 18446744073709551616 := by rw [hC]; exact Nat.xor_lt_two_pow (n := 64) (by omega) (by omega)
  have e1 : bits .xor .u64 (X : Int) (IntKind.u64.wrap ((X : Int) * 8192)) = (A : Int) := by
    rw [IntKind.wrap_u64, show ((X : Int) * 8192 % 18446744073709551616) = ((X * 8192 % 18446744073709551616 : Nat) : Int) by omega, bits_xor_u64_nat _ _ hX (by omega), hA]
  have e2 : bits .xor .u64 (A : Int) ((A : Int) / 128) = (B : Int) := by
    rw [show ((A : Int) / 128) = ((A / 128 : Nat) : Int) by omega, bits_xor_u64_nat _ _ lA (by omega), hB]
  have e3 : bits .xor .u64 (B : Int) (IntKind.u64.wrap ((B : Int) * 131072)) = (C : Int) := by
    rw [IntKind.wrap_u64, show ((B : Int) * 131072 % 18446744073709551616) = ((B * 131072 % 18446744073709551616 : Nat) : Int) by omega, bits_xor_u64_nat _ _ lB (by omega), hC]
  clear hA hB hC
  have c0 := h.cell
  have f0 := h.froz
  have HN := Lib.hid (h.put A lA).drew
  clear h
  go_enter Try.func55, Try.ntmps55
  go_wp2_with fail
  go_region
  all_goals
    clear c0 f0
    generalize ((w.setCell ⟨g, 0, none⟩ (.int .u64 (A : Int)))).drew = W1 at HN ⊢
    have c1 := HN.out.cell
    have f1 := HN.out.froz
    have HN2 := Lib.hid (HN.out.put B lB).drew
    go_wp2_with fail
    go_region
  all_goals
    clear c1 f1
    generalize ((W1.setCell ⟨g, 0, none⟩ (.int .u64 (B : Int)))).drew = W2 at HN2 ⊢
    have c2 := HN2.out.cell
    have f2 := HN2.out.froz
    have HN3 := Lib.hid (HN2.out.put C lC).drew
    go_wp2_with fail
    go_region
  all_goals
    clear c2 f2
    generalize ((W2.setCell ⟨g, 0, none⟩ (.int .u64 (C : Int)))).drew = W3 at HN3 ⊢
    have c3 := HN3.out.cell
    go_wp2
    go_ret
    exact ⟨C, rfl, HN3.out⟩

end Go.Proofs.Ytoaglkbobndmeab
