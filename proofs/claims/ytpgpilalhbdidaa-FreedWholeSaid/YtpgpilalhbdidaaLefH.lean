/-
  Layers 4 and 5: what stands while bytes are read. Own work.
-/
import Derived.Test.YtpgpilalhbdidaaLayM
import Derived.Test.YtpgpilalhbdidaaOctD
namespace Go.Proofs.Ytpgpilalhbdidaa
open Go.RowKit

/-- What stands while bytes are read. -/
structure RS (g : Nat) (w0 w : World) (bs : List Int) (e : Int) : Prop where
  rd : RdAt w g bs e
  byt : Byt bs
  len : bs.length ≤ 140737488355328
  g0 : w0.heap.size ≤ g
  bel : Below w0.heap.size w0 w
theorem RS.far {g : Nat} {w0 w w' : World} {bs : List Int} {e : Int} (h : RS g w0 w bs e) (k : w.grownBy w' none) : RS g w0 w' bs e :=
  ⟨h.rd.kept (fun i hi => k.block i (by have := h.rd.lt; omega) (by simp)), h.byt, h.len, h.g0, h.bel.trans ((gbelow k).mono h.bel.size)⟩
theorem RS.set {g : Nat} {w0 w : World} {bs : List Int} {e : Int} (h : RS g w0 w bs e) (a : Addr) (u : Value) (ha : g < a.block) : RS g w0 (w.setCell a u) bs e :=
  ⟨h.rd.kept (fun i hi => Below.heap_setCell _ _ _ _ (by omega)), h.byt, h.len, h.g0, h.bel.setCell (by have := h.g0; omega) u⟩
theorem RS.num {g : Nat} {w0 w : World} {bs b1 out : List Int} {e e1 : Int} (h : RS g w0 w bs e) (n : Int) (h1 : 1 ≤ n) (h8 : n ≤ 8) (hx : nx bs e n true = (b1, e1, out)) :
    Calls Try.prog 60 #[.pointer (some ⟨g, 0, none⟩), .int .i64 n] w fun r w' => r = .returned (.int .u64 (beVal out)) ∧ RS g w0 w' b1 e1 ∧ w.grownBy w' (some g) := by
  have hd : (decide (1 ≤ n) && decide (n ≤ 8)) = true := by simp [h1, h8]
  have hq := num_any w g bs e n h.rd h.byt (by have := h.len; omega)
  rw [hd, hx] at hq
  obtain ⟨q1, q2, q3, q4⟩ := nx_both hx h.byt
  exact hq.mono fun r w' ⟨er, hr, hg⟩ => ⟨er, ⟨hr, q1, by have := h.len; omega, h.g0, h.bel.grown hg h.bel.size (fun k hk => by injection hk with hk; have := h.g0; omega)⟩, hg⟩
theorem RS.raw {g : Nat} {w0 w : World} {bs b1 out : List Int} {e e1 : Int} (h : RS g w0 w bs e) (n : Int) (t : Bool) (ht : decide (0 ≤ n) = t) (hx : nx bs e n t = (b1, e1, out)) :
    Calls Try.prog 49 #[.pointer (some ⟨g, 0, none⟩), .int .i64 n] w fun r w' => ∃ ao c, r = .returned (.slice ao out.length c) ∧ w'.ownsRow w.heap.size 5 1 (.slice ao out.length c) out.length (out.map (Value.int .u8)) ∧
      RS g w0 w' b1 e1 ∧ w.grownBy w' (some g) := by
  subst ht
  have hq := raw_any w g bs e n h.rd (by have := h.len; omega)
  rw [hx] at hq
  obtain ⟨q1, q2, q3, q4⟩ := nx_both hx h.byt
  exact hq.mono fun r w' ⟨ao, c, er, ho, hr, hg⟩ => ⟨ao, c, er, ho, ⟨hr, q1, by have := h.len; omega, h.g0, h.bel.grown hg h.bel.size (fun k hk => by injection hk with hk; have := h.g0; omega)⟩, hg⟩

end Go.Proofs.Ytpgpilalhbdidaa
