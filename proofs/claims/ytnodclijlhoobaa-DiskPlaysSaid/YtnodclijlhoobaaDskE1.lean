/-
  DiskPlays where there is a disk: a round for each act. Own work.
-/
import Derived.Test.YtnodclijlhoobaaDskDD
import Derived.Test.YtnodclijlhoobaaDskCC
namespace Go.Proofs.Ytnodclijlhoobaa
open Go.RowKit

theorem and15 (n : Int) : bits .and .i64 n 15 = n % 16 := by
  have h15 : (BitVec.ofInt 64 15).toNat = 2 ^ 4 - 1 := by decide
  have key : (BitVec.ofInt 64 n &&& BitVec.ofInt 64 15).toNat = (n % ((2 ^ 64 : Nat) : Int)).toNat % 2 ^ 4 := by
    rw [BitVec.toNat_and, BitVec.toNat_ofInt, h15, Nat.and_two_pow_sub_one_eq_mod]
  show IntKind.i64.wrap ((BitVec.ofInt 64 n &&& BitVec.ofInt 64 15).toNat : Nat) = n % 16
  rw [key, IntKind.wrap_i64]
  omega

theorem Dfr.keep {B q : Nat} {w w' : World} {cs : Array Value} {t : TypeId} {f : Nat × Nat} (hd : Dfr B w w') (h : w.heap[q]? = some (.cells cs t f)) (ht : t = 32 ∨ t = 36 := by decide) : w'.heap[q]? = some (.cells cs t f) :=
  (hd.block q (lt_of_block h) (.inr (Dtag.no ⟨cs, f, h⟩ (by rcases ht with rfl | rfl <;> decide)))).trans h
theorem gkeep {q : Nat} {w w' : World} {x : Obj} (hg : w.grownBy w' none) (h : w.heap[q]? = some x) : w'.heap[q]? = some x := (hg.block q (lt_of_block h) (by simp)).trans h
theorem cells4 {W : World} {q : Nat} {a b c d : Value} {t : TypeId} (h : W.heap[q]? = some (.cells #[a, b, c, d] t (0, 0))) :
    W.cell? ⟨q, 0, none⟩ = some a ∧ W.cell? ⟨q, 1, none⟩ = some b ∧ W.cell? ⟨q, 2, none⟩ = some c ∧ W.cell? ⟨q, 3, none⟩ = some d := by
  refine ⟨?_, ?_, ?_, ?_⟩ <;> simp [World.cell?, h]
theorem chunks_len (bs : List Int) (s k : Nat) : (chunks bs s k).length = k := by simp [chunks]
abbrev st0 (bs : List Int) (s l k : Nat) : SM := { size := s, limit := l, pg := chunks bs s k, loose := [], fails := false, ahead := 0, calls := 0, once := false }
theorem pst0 {s l k : Nat} (bs : List Int) (h : May (s : Int) (l : Int)) (hk : k ≤ l) : PSt (st0 bs s l k) (-1) s l 0 := by
  obtain ⟨h1, h2, h3, h4, h5⟩ := h
  refine ⟨rfl, rfl, wf_none (fun p hp => ?_) rfl, ⟨(by decide : (-9223372036854775808 : Int) ≤ 0), (by decide : (0 : Int) ≤ 9223372036854775807), Nat.le_refl _, (by show 512 ≤ s; omega), (by show s ≤ 4096; omega), (by show s % 128 = 0; omega), (by show l ≤ 65536; omega), (by show (chunks bs s k).length ≤ l; rw [chunks_len]; exact hk), Nat.le_refl _, fun x hx => by cases hx⟩, ⟨(fun e => by cases e), (fun _ => rfl)⟩⟩
  have hp' : p < k := by rw [← chunks_len bs s k]; exact hp
  simp [pgAt, chunks, List.getD_eq_getElem?_getD, hp']

/-- The first loop in a text. -/
def firstLoop : Code → Option Code
  | .loop c => some c
  | .seq a b => match firstLoop a with
    | some c => some c
    | none => firstLoop b
  | .block _ c => firstLoop c
  | .scope c => firstLoop c
  | .cond _ a b => match firstLoop a with
    | some c => some c
    | none => firstLoop b
  | _ => none
/-- What DiskPlays does in a round. -/
noncomputable def playsBody : Code := ((Try.f3.body.bind firstLoop).getD .skip)

end Go.Proofs.Ytnodclijlhoobaa
