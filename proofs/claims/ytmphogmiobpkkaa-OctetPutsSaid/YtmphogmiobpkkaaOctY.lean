/-
  Opening a law's slice of bytes. Own work; the frame is the guide's.
-/
import Derived.Test.YtmphogmiobpkkaaOctI
import Derived.ProofKit
import Derived.OpenShut
import Derived.ShutString
import Derived.ChangeOld
namespace Go.Proofs.Ytmphogmiobpkkaa
open Go.RowKit Go.ChangeShapes Go.WideShapes Go.ChangeAt

theorem ownKnob0 : ownKnob Try.prog.godebug = none := by kernel_rfl
theorem laidOut0 : laidOutB Try.prog = true := by kernel_rfl

theorem Seq.shape {B : Nat} {w : World} {v : Value} {bs : List Int} (h : Seq B w v bs) : ∃ ao c, v = .slice ao bs.length c ∧ c ≤ maxLen := by
  obtain ⟨ao, c, hv, _, h2, _⟩ := h
  exact ⟨ao, c, hv, h2⟩

/-- Cells that the reading of a row of bytes tells. -/
theorem seq_of_ints {w : World} {x : Addr} {len cap : Nat} {zs : List Int} (hl : len ≤ cap) (hm : cap ≤ maxLen) (hz : zs.length = cap) (hcell : ∀ i, i < zs.length → w.cell? (x.add i) = some (.int .u8 (zs.getD i 0))) :
    Seq w.heap.size w (.slice (some x) len cap) (zs.take len) := by
  have hlen : (zs.take len).length = len := by simp; omega
  refine ⟨some x, cap, by rw [hlen], by omega, hm, by simp, fun hne => ?_⟩
  have hpos : 0 < len := by
    rcases Nat.eq_zero_or_pos len with h | h
    · subst h; simp at hne
    · exact h
  obtain ⟨b, off, hx, hc⟩ := ints_at hcell (by omega)
  subst hx
  refine ⟨b, off, rfl, ?_, fun j hj => ?_⟩
  · have := World.block_lt_of_cell? _ _ (hc 0 (by omega)); simpa using this
  · rw [hc j (by omega)]
    simp [show j < len by omega]

/-- A slice of bytes that came in: what it reads as, and that its bytes are bytes. -/
theorem open_bytes {H : Type} {enc : TypeId × Value → H} {W : World} {d : DataW H} {p : List MemPlace} {a : Option Addr} {len cap : Nat}
    (h : ∃ fuel, DataW.trod enc Try.prog W 0 (fun _ => true) true fuel 27 [.slice a len cap] = some (d, p)) :
    ∃ bs, Seq W.heap.size W (.slice a len cap) bs ∧ Byt bs := by
  obtain ⟨fuel, hf⟩ := h
  rcases open_ints Try.underlying27 Try.underlying5 (by kernel_rfl) hf with ⟨hcs, _⟩ | ⟨x, l, c, zs, hcs, _, hl, hm, hz, _, hcell, hwz⟩
  · simp at hcs
    obtain ⟨rfl, rfl, rfl⟩ := hcs
    exact ⟨[], seq_nil _ _, fun x hx => by simp at hx⟩
  · simp at hcs
    obtain ⟨rfl, rfl, rfl⟩ := hcs
    exact ⟨zs.take len, seq_of_ints hl hm (by simpa using hz) hcell, fun y hy => bounds_u8 (hwz y (List.mem_of_mem_take hy))⟩

end Go.Proofs.Ytmphogmiobpkkaa
