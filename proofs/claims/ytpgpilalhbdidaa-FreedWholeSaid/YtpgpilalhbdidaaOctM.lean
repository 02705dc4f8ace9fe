/-
  Plain numbers: shifts and ors as sums, bytes as numbers. Own work; of no program.
-/
import Derived.Test.YtpgpilalhbdidaaWord
namespace Go.Proofs.Ytpgpilalhbdidaa
open Go.RowKit

theorem join8 (x c : Int) (h0 : 0 ≤ x) (h1 : x < 72057594037927936) (h2 : 0 ≤ c) (h3 : c ≤ 255) : bits BinOp.or IntKind.u64 (IntKind.u64.wrap (x * 256)) (IntKind.u64.wrap c) = x * 256 + c := by
  rw [IntWalk.u64_in _ (by omega), IntWalk.u64_in _ (by omega), u64_or _ _ (by omega) (by omega) (by omega) (by omega), nat_join 8 _ _ (by omega) (by omega)]
  omega
theorem join7 (x c : Int) (h0 : 0 ≤ x) (h1 : x < 144115188075855872) (h2 : 0 ≤ c) (h3 : c ≤ 127) : bits BinOp.or IntKind.u64 (IntKind.u64.wrap (x * 128)) (IntKind.u64.wrap c) = x * 128 + c := by
  rw [IntWalk.u64_in _ (by omega), IntWalk.u64_in _ (by omega), u64_or _ _ (by omega) (by omega) (by omega) (by omega), nat_join 7 _ _ (by omega) (by omega)]
  omega
/-- 'c &^ 128' on a byte. -/
theorem low7 (c : Int) (h2 : 0 ≤ c) (h3 : c ≤ 255) : bits BinOp.andNot IntKind.u8 c 128 = c % 128 := by
  rw [u8_andNot _ _ h2 (by omega) (by omega) (by omega)]
  have : c.toNat &&& (255 - (128 : Int).toNat) = c.toNat % 128 := nat_mask7 _
  rw [this]; omega
/-- '128 | c' on a byte. -/
theorem high7 (c : Int) (h2 : 0 ≤ c) (h3 : c ≤ 255) : bits BinOp.or IntKind.u8 128 c = 128 + c % 128 := by
  rw [u8_or _ _ (by omega) (by omega) h2 (by omega)]
  have h : (128 : Int).toNat ||| c.toNat = 128 + c.toNat % 128 := by
    rcases Nat.lt_or_ge c.toNat 128 with h | h
    · have := nat_join 7 128 c.toNat (by omega) (by omega)
      have e : (128 : Int).toNat = 128 := rfl
      rw [e, this]; omega
    · have h2 : c.toNat = 128 ||| (c.toNat - 128) := by rw [nat_join 7 128 (c.toNat - 128) (by omega) (by omega)]; omega
      have e : (128 : Int).toNat = 128 := rfl
      rw [e]
      have h3 : 128 ||| c.toNat = c.toNat := by
        rw [h2, ← Nat.or_assoc, Nat.or_self]
      rw [h3]; omega
  rw [h]; omega

/-- The number that bytes are, the highest first. -/
def beVal (l : List Int) : Int := l.foldl (fun x c => x * 256 + c) 0
theorem beVal_snoc (l : List Int) (c : Int) : beVal (l ++ [c]) = beVal l * 256 + c := by simp [beVal]
theorem foldl_bound : ∀ (l : List Int) (x : Int) (m : Nat), Byt l → 0 ≤ x → x < 256 ^ m → 0 ≤ l.foldl (fun x c => x * 256 + c) x ∧ l.foldl (fun x c => x * 256 + c) x < 256 ^ (m + l.length)
  | [], x, m, _, h0, h1 => by simpa using ⟨h0, h1⟩
  | c :: l, x, m, hb, h0, h1 => by
    have hc := hb c (by simp)
    have := foldl_bound l (x * 256 + c) (m + 1) (fun y hy => hb y (by simp [hy])) (by omega) (by rw [Int.pow_succ]; omega)
    simpa [Nat.add_assoc, Nat.add_comm 1] using this
theorem beVal_bound (l : List Int) (h : Byt l) : 0 ≤ beVal l ∧ beVal l < 256 ^ l.length := by
  have := foldl_bound l 0 0 h (by omega) (by simp)
  simpa [beVal] using this
theorem pow256_mono (a d : Nat) : (0 : Int) < 256 ^ a ∧ (256 : Int) ^ a ≤ 256 ^ (a + d) := by
  have h0 : ∀ a : Nat, (0 : Int) < 256 ^ a := fun a => by
    induction a with
    | zero => simp
    | succ a ih => rw [Int.pow_succ]; omega
  refine ⟨h0 a, ?_⟩
  induction d with
  | zero => simp
  | succ d ih => rw [← Nat.add_assoc, Int.pow_succ]; have := h0 (a + d); omega
theorem beVal_lt (l : List Int) (h : Byt l) (k : Nat) (hk : l.length ≤ k) : beVal l < 256 ^ k :=
  Int.lt_of_lt_of_le (beVal_bound l h).2 (by
    have := (pow256_mono l.length (k - l.length)).2
    rwa [show l.length + (k - l.length) = k by omega] at this)

/-- What next tells: the rest, the error, the bytes. -/
def nx (bs : List Int) (e n : Int) (right : Bool) : List Int × Int × List Int :=
  if e ≠ 0 then (bs, e, []) else if right = false then (bs, 1, []) else if (bs.length : Int) < n then (bs, 10, []) else (bs.drop n.toNat, 0, bs.take n.toNat)

theorem nx_len (bs : List Int) (e n : Int) (r : Bool) : (nx bs e n r).2.2.length ≤ bs.length := by
  unfold nx; split
  · simp
  · split
    · simp
    · split
      · simp
      · simp; omega
theorem nx_rest (bs : List Int) (e n : Int) (r : Bool) : (nx bs e n r).1.length ≤ bs.length := by
  unfold nx; split
  · simp
  · split
    · simp
    · split
      · simp
      · simp
theorem nx_byt {bs : List Int} (h : Byt bs) (e n : Int) (r : Bool) : Byt (nx bs e n r).1 ∧ Byt (nx bs e n r).2.2 := by
  have h0 : Byt [] := fun x hx => by simp at hx
  unfold nx; split
  · exact ⟨h, h0⟩
  · split
    · exact ⟨h, h0⟩
    · split
      · exact ⟨h, h0⟩
      · exact ⟨h.drop _, h.take _⟩

end Go.Proofs.Ytpgpilalhbdidaa
