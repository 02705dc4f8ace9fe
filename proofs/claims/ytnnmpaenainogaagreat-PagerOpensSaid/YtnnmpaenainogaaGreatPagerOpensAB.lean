/-
  Layers 4 and 5: bytes of the call's own that are changed one by one; slices of uint16, and of bytes with their bound, that came in. Own work.
-/
import Derived.Test.YtnnmpaenainogaaGreatPgrAD
import Derived.ProofKit
import Derived.OpenShut
import Derived.ShutString
import Derived.ChangeOld
import Derived.SizedLaws
import Derived.Laws.BitsAllLaws

namespace Go.Proofs.YtnnmpaenainogaaGreat
open Go.RowKit Go.ChangeShapes Go.WideShapes Go.ChangeAt

theorem xor_byte {a b : Int} (h0 : 0 ≤ a) (h1 : a ≤ 255) (k0 : 0 ≤ b) (k1 : b ≤ 255) : 0 ≤ bits .xor .u8 a b ∧ bits .xor .u8 a b ≤ 255 := by
  obtain ⟨x, rfl⟩ := Int.eq_ofNat_of_zero_le h0
  obtain ⟨y, rfl⟩ := Int.eq_ofNat_of_zero_le k0
  rw [u8_xor_nat x y (by omega) (by omega)]
  have := Nat.xor_lt_two_pow (n := 8) (x := x) (y := y) (by omega) (by omega)
  omega

theorem set_in_c {w : World} {q i : Nat} {cs : Array Value} {t : TypeId} {f : Nat × Nat} (u : Value) (h : w.heap[q]? = some (.cells cs t f)) : (w.setCell ⟨q, i, none⟩ u).heap[q]? = some (.cells (cs.setIfInBounds i u) t f) := by
  simp [World.setCell, Array.getElem?_modify, h]
/-- Bytes of the call's own, at the head of block q. -/
structure Buf (w : World) (q N c : Nat) (bs : List Int) : Prop where
  row : ∃ cs f, w.heap[q]? = some (.cells cs 5 f) ∧ (∀ j, j < N → cs[j]? = some (.int .u8 (bs.getD j 0))) ∧ ∀ j, j < N → w.frozen? ⟨q, j, none⟩ = false
  byt : Byt bs
  len : bs.length = N
  cap : N ≤ c ∧ c ≤ maxLen
theorem Buf.seq {w : World} {q N c : Nat} {bs : List Int} (h : Buf w q N c bs) : Seq w.heap.size w (.slice (some ⟨q, 0, none⟩) N c) bs := by
  obtain ⟨⟨cs, f, hq, hc, _⟩, hb, rfl, h1, h2⟩ := h
  refine ⟨_, c, rfl, h1, h2, (fun e => by cases e), fun _ => ⟨q, 0, rfl, lt_of_block hq, fun j hj => ?_⟩⟩
  simp [World.cell?, hq, hc j hj]
theorem Buf.at {w : World} {q N c : Nat} {bs : List Int} (h : Buf w q N c bs) (j : Nat) (hj : j < N) : w.cell? ⟨q, j, none⟩ = some (.int .u8 (bs.getD j 0)) ∧ w.frozen? ⟨q, j, none⟩ = false := by
  obtain ⟨cs, f, hq, hc, hf⟩ := h.row
  exact ⟨by simp [World.cell?, hq, hc j hj], hf j hj⟩
theorem Buf.grown {w w' : World} {q N c : Nat} {bs : List Int} (h : Buf w q N c bs) (k : w.grownBy w' none) : Buf w' q N c bs := by
  obtain ⟨cs, f, hq, hc, hf⟩ := h.row
  have hb := k.block q (lt_of_block hq) (by simp)
  refine ⟨⟨cs, f, hb.trans hq, hc, fun j hj => ?_⟩, h.byt, h.len, h.cap⟩
  rw [← hf j hj]
  simp [World.frozen?, hb]
theorem Buf.set {w : World} {q N c : Nat} {bs : List Int} (h : Buf w q N c bs) (j : Nat) (_hj : j < N) (t : Int) (h0 : 0 ≤ t) (h1 : t ≤ 255) : Buf (w.setCell ⟨q, j, none⟩ (.int .u8 t)) q N c (bs.set j t) := by
  obtain ⟨cs, f, hq, hc, hf⟩ := h.row
  have hs := set_in_c (i := j) (.int .u8 t) hq
  refine ⟨⟨_, f, hs, fun i hi => ?_, fun i hi => ?_⟩, fun x hx => ?_, by rw [List.length_set]; exact h.len, h.cap⟩
  · have hci := hc i hi
    have his := (Array.getElem?_eq_some_iff.1 hci).1
    by_cases e : i = j
    · subst e
      have hl : i < bs.length := by rw [h.len]; exact hi
      simp [his, List.getD_eq_getElem?_getD, hl]
    · rw [Array.getElem?_setIfInBounds_ne (Ne.symm e), hci]
      simp [List.getD_eq_getElem?_getD, List.getElem?_set_ne (Ne.symm e)]
  · have := hf i hi
    simp only [World.frozen?, hq] at this
    simp only [World.frozen?, hs]
    exact this
  · rcases List.mem_or_eq_of_mem_set hx with hx | rfl
    · exact h.byt x hx
    · exact ⟨h0, h1⟩

/-- A slice of uint16 that came in. -/
def Seq16 (w : World) (v : Value) (zs : List Int) : Prop :=
  ∃ ao c, v = .slice ao zs.length c ∧ zs.length ≤ c ∧ c ≤ maxLen ∧ (zs ≠ [] → ∃ b o, ao = some ⟨b, o, none⟩ ∧ b < w.heap.size ∧ ∀ j, j < zs.length → w.cell? ⟨b, o + j, none⟩ = some (.int .u16 (zs.getD j 0)) ∧ 0 ≤ zs.getD j 0 ∧ zs.getD j 0 ≤ 65535)
theorem Seq16.at {w : World} {ao : Option Addr} {n c : Nat} {zs : List Int} (h : Seq16 w (.slice ao n c) zs) (j : Nat) (hj : j < n) : ∃ b o, ao = some ⟨b, o, none⟩ ∧ b < w.heap.size ∧ ∃ x : Nat, w.cell? ⟨b, o + j, none⟩ = some (.int .u16 (x : Int)) ∧ x ≤ 65535 := by
  obtain ⟨ao', c', hv, h1, h2, h4⟩ := h
  cases hv
  obtain ⟨b, o, ha, hb, hc⟩ := h4 (by rintro rfl; simp at hj)
  obtain ⟨k1, k2, k3⟩ := hc j hj
  exact ⟨b, o, ha, hb, (zs.getD j 0).toNat, by rw [k1, Int.toNat_of_nonneg k2], by omega⟩
theorem c1u16 : Tryz.prog.cellsOf 63 = 1 := by kernel_rfl
theorem b1u8 : Tryz.prog.bytesOf 5 = 1 := by kernel_rfl
theorem open_u16s {H : Type} {enc : TypeId × Value → H} {W : World} {d : DataW H} {p : List MemPlace} {a : Option Addr} {len cap : Nat}
    (h : ∃ fuel, DataW.trod enc Tryz.prog W 0 (fun _ => true) true fuel 59 [.slice a len cap] = some (d, p)) : ∃ zs, Seq16 W (.slice a len cap) zs := by
  obtain ⟨fuel, hf⟩ := h
  rcases open_ints Tryz.underlying59 Tryz.underlying63 c1u16 hf with ⟨hcs, _⟩ | ⟨x, l, c, zs, hcs, _, hl, hm, hz, _, hcell, hwz⟩
  · simp at hcs
    obtain ⟨rfl, rfl, rfl⟩ := hcs
    exact ⟨[], none, 0, rfl, Nat.le_refl _, by simp [maxLen], fun h => absurd rfl h⟩
  · simp at hcs
    obtain ⟨rfl, rfl, rfl⟩ := hcs
    have hzl : zs.length = cap := by simpa using hz
    have hlen : (zs.take len).length = len := by simp; omega
    refine ⟨zs.take len, some x, cap, by rw [hlen], by omega, hm, fun hne => ?_⟩
    have hpos : 0 < len := by
      rcases Nat.eq_zero_or_pos len with h | h
      · subst h; simp at hne
      · exact h
    obtain ⟨b, off, hx, hc⟩ := ints_at hcell (by omega)
    subst hx
    refine ⟨b, off, rfl, ?_, fun j hj => ?_⟩
    · have := World.block_lt_of_cell? _ _ (hc 0 (by omega)); simpa using this
    · have hjl : j < len := by omega
      have hg : (zs.take len).getD j 0 = zs.getD j 0 := by simp [List.getD_eq_getElem?_getD, hjl]
      rw [hg]
      have hmem : zs.getD j 0 ∈ zs := by
        rw [List.getD_eq_getElem?_getD, List.getElem?_eq_getElem (show j < zs.length by omega)]
        exact List.getElem_mem _
      have hbd := bounds_u16 (hwz _ hmem)
      exact ⟨hc j (by omega), hbd.1, hbd.2⟩
/-- A slice of bytes that came in, with its bound. -/
theorem open_bytes_sz {H : Type} {enc : TypeId × Value → H} {W : World} {d : DataW H} {p : List MemPlace} {a : Option Addr} {len cap : Nat} {ts : List TypeId} {ds : List (DataW H)} {j : Nat}
    (h : ∃ fuel, DataW.trod enc Tryz.prog W 0 (fun _ => true) true fuel 32 [.slice a len cap] = some (d, p))
    (hsz : (DataW.weightsEach Tryz.prog ts ds).all (· ≤ reachBytes) = true) (ht : ts[j]? = some 32) (hd : ds[j]? = some d) :
    ∃ bs, Seq W.heap.size W (.slice a len cap) bs ∧ Byt bs ∧ bs.length ≤ 140737488355328 := by
  have hop := open_bytes h
  obtain ⟨bs, hs, hb⟩ := hop
  refine ⟨bs, hs, hb, ?_⟩
  have hl : bs.length = len := by obtain ⟨_, _, hv, _⟩ := hs; injection hv with _ e; exact e.symm
  obtain ⟨fuel, hf⟩ := h
  rcases open_ints Tryz.underlying32 Tryz.underlying5 (by kernel_rfl) hf with ⟨hcs, _⟩ | ⟨x, l, c, zs, hcs, _, hl2, hm, hz, hx, hcell, hwz⟩
  · simp at hcs
    omega
  · simp at hcs
    obtain ⟨rfl, rfl, rfl⟩ := hcs
    have hd2 : d = .slice (lits .u8 (zs.take len)) (lits .u8 (zs.drop len)) := (Prod.mk.inj hx).1
    subst hd2
    have := sized_slice hsz ht hd Tryz.underlying32
    rw [b1u8] at this
    simp only [lits, List.length_map, List.length_take, List.length_drop, reachBytes] at this
    have hzl : zs.length = cap := by simpa using hz
    omega

theorem conv_buf {bs : List Int} (hb : Byt bs) (hl : bs.length ≤ 140737488355328) : ∃ (cf : World → Nat) (rf : World → Array Value) (mf : World → Nat × Nat),
    (∀ W, (convert 9 32 (.string (strOfNums bs))).run Tryz.prog W = .ok (.slice (some ⟨W.heap.size, 0, none⟩) bs.length (cf W)) (W.drew.alloc (.cells (rf W) 5 (mf W)))) ∧
    ∀ W w q, w.heap[q]? = some (.cells (rf W) 5 (mf W)) → Buf w q bs.length (cf W) bs := by
  have hsz : (strOfNums bs).size = bs.length := strOfNums_size bs
  refine ⟨fun W => grownCap W bs.length 0 5, fun W => bytesRow (strOfNums bs) (grownCap W bs.length 0 5), fun W => ((bytesRow (strOfNums bs) (grownCap W bs.length 0 5)).size, (bytesRow (strOfNums bs) (grownCap W bs.length 0 5)).size + 1), fun W => ?_, fun W w q hq => ?_⟩
  · have := run_bytes_of_string W 9 32 5 (strOfNums bs) Tryz.underlying9 Tryz.underlying32 Tryz.underlying5
    rw [hsz] at this
    exact this
  · have hat : ∀ j, j < bs.length → (bytesRow (strOfNums bs) (grownCap W bs.length 0 5))[j]? = some (.int .u8 (bs.getD j 0)) := fun j hj => by
      have hj2 : j < (strOfNums bs).data.size := by rw [← strOfNums_size bs] at hj; exact hj
      rw [bytesRow_at _ _ _ hj2]
      have := hb (bs[j]) (List.getElem_mem hj)
      simp [strOfNums, List.getD_eq_getElem?_getD, hj]
      omega
    refine ⟨⟨_, _, hq, hat, fun j hj => ?_⟩, hb, rfl, grownCap_ge _ _ _ _, grownCap_le_maxLen _ _ _ _ (by unfold maxLen; omega)⟩
    have hjs := (Array.getElem?_eq_some_iff.1 (hat j hj)).1
    simp [World.frozen?, hq]
    omega

end Go.Proofs.YtnnmpaenainogaaGreat
