/-
  Layer 11: what PagerOpens stands on: bytes of the call's own; a meta's page, or none; a disk out of bytes. Own work.
-/
import Derived.Test.YtnnmpaenainogaaGreatPagerOpensAA
import Derived.Test.YtnnmpaenainogaaGreatPagerOpensAB
import Derived.Lib.SmallJoins

namespace Go.Proofs.YtnnmpaenainogaaGreat
open Go.RowKit Go.Maps Go.ChangeShapes Go.WideShapes Go.ChangeAt

/-- Bytes of the call's own, of whatever number. -/
theorem buf_make {w : World} {base N c g : Nat} {bs : List Int} (h : w.ownsRow base 5 1 (.slice (some ⟨g, 0, none⟩) N c) N (bs.map (Value.int .u8))) (hb : Byt bs) : base ≤ g ∧ Buf w g N c bs := by
  have hl : bs.length = N := by have := h.1; simpa using this
  have h' := h
  rcases h.2 with ⟨hv, _⟩ | ⟨g', cap, cur, hv, hbg, hg, hc, hm, hs, ht⟩
  · cases hv
  · cases hv
    refine ⟨hbg, ⟨cur, _, hg, fun j hj => ?_, fun j hj => h'.frozenAt j⟩, hb, hl, hc, hm⟩
    have := h'.cellAt j (by omega)
    rw [List.getElem?_map, List.getElem?_eq_getElem (by omega)] at this
    simp only [World.cell?, hg, Option.isSome_none, Bool.false_eq_true, if_false] at this
    rw [this]
    simp [List.getD_eq_getElem?_getD, List.getElem?_eq_getElem (show j < bs.length by omega)]
theorem byt_zero (n : Nat) : Byt (List.replicate n 0) := fun x hx => by have := List.eq_of_mem_replicate hx; omega
/-- A meta that may be is put, any other one isn't. -/
theorem mput_or (w : World) (M : Mt) (h : MtOk M) :
    Calls Tryz.prog 31 #[.agg (mtC M), .int .i64 512] w fun r w' => w.grownBy w' none ∧ ((r = .returned (.tuple #[.slice none 0 0, .int .i64 1])) ∨ ∃ ao c, r = .returned (.tuple #[.slice ao 512 c, .int .i64 0]) ∧ Own8 w.heap.size w' 512 (.slice ao 512 c) (mpage M 512)) := by
  by_cases hr : mright M = true
  · refine (mput_ok w M h hr 512 (by decide) (by decide)).mono ?_
    rintro r w' ⟨ao, c, rfl, a, b⟩
    exact ⟨b, .inr ⟨ao, c, rfl, a⟩⟩
  · refine (mput_no w M 512 (fun k => hr k.1)).mono ?_
    rintro r w' ⟨rfl, b⟩
    exact ⟨b, .inl rfl⟩
/-- A disk out of bytes. -/
abbrev smF (bs : List Int) (l k : Nat) : SM := { size := 512, limit := l, pg := chunks bs 512 k, loose := [], fails := false, ahead := 0, calls := 0, once := false }
theorem chunks_at {bs : List Int} {s k : Nat} {x : List Int × List Int} (h : x ∈ chunks bs s k) : ∃ j, j < k ∧ x = (chunk bs s j, chunk bs s j) := by
  obtain ⟨j, hj, e⟩ := List.mem_map.1 h
  exact ⟨j, List.mem_range.1 hj, e.symm⟩
theorem smF_byd {bs : List Int} {l k : Nat} (hb : Byt bs) (hl : bs.length = k * 512) : Byd (smF bs l k) := by
  refine ⟨fun x hx => ?_, (by intro x hx; cases hx)⟩
  obtain ⟨j, hj, rfl⟩ := chunks_at hx
  have h1 : (chunk bs 512 j).length = 512 := chunk_len bs 512 j (by rw [hl]; have : j * 512 + 512 = (j + 1) * 512 := by omega
                                                                    rw [this]; exact Nat.mul_le_mul_right _ hj)
  have h2 : Byt (chunk bs 512 j) := (hb.drop _).take _
  exact ⟨⟨h2, h1⟩, h2, h1⟩
theorem smF_wel {bs : List Int} {l k : Nat} (h1 : 1 ≤ l) (h2 : l ≤ 65536) (hk : k ≤ l) : Wel (smF bs l k) 0 := by
  have h := wel_sm0 h1 h2
  have hp : (smF bs l k).pg.length ≤ (smF bs l k).limit := by
    have : (chunks bs 512 k).length = k := by unfold chunks; rw [List.length_map, List.length_range]
    exact Nat.le_trans (Nat.le_of_eq this) hk
  exact { a1 := h.a1, a2 := h.a2, cl := h.cl, s1 := h.s1, s2 := h.s2, s3 := h.s3, l := h.l, p := hp, lo := h.lo, lin := fun x hx => absurd (show x ∈ ([] : List (Nat × List Int)) from hx) List.not_mem_nil }
theorem cellsMetaT : Tryz.prog.cellsOf 44 = 4 := by kernel_rfl
set_option maxRecDepth 100000 in
/-- A meta that came in. -/
theorem open_meta {H : Type} {enc : TypeId × Value → H} {W : World} {base : Nat} {v : Value} {d : DataW H} {p : List MemPlace} (hv : Value.okWide Tryz.prog W .any base 44 v)
    (h : DataW.Trod enc Tryz.prog W 0 (fun _ => true) true 44 v d p) : ∃ M, MtOk M ∧ v = .agg (mtC M) := by
  obtain ⟨c0, c1, c2, c3, y0, y1, y2, y3, n, rfl, _, _, h0, h1, h2, h3⟩ := Go.Joins.open_agg4 Tryz.underlying44 (by kernel_rfl) cellsMetaT hv h
  obtain ⟨x0, e0, _, w0⟩ := DataW.trod_int Tryz.underlying35 h0
  obtain ⟨x1, e1, _, w1⟩ := DataW.trod_int Tryz.underlying42 h1
  obtain ⟨x2, e2, _, w2⟩ := DataW.trod_int Tryz.underlying42 h2
  obtain ⟨x3, e3, _, w3⟩ := DataW.trod_int Tryz.underlying42 h3
  simp at e0 e1 e2 e3
  subst e0 e1 e2 e3
  have b0 := bounds_u64 w0
  have b1 := bounds_u32 w1
  have b2 := bounds_u32 w2
  have b3 := bounds_u32 w3
  obtain ⟨t, rfl⟩ := Int.eq_ofNat_of_zero_le b0.1
  obtain ⟨e, rfl⟩ := Int.eq_ofNat_of_zero_le b1.1
  obtain ⟨m, rfl⟩ := Int.eq_ofNat_of_zero_le b2.1
  obtain ⟨f, rfl⟩ := Int.eq_ofNat_of_zero_le b3.1
  exact ⟨⟨t, e, m, f⟩, ⟨by show t < _; omega, by show e < _; omega, by show m < _; omega, by show f < _; omega⟩, rfl⟩

end Go.Proofs.YtnnmpaenainogaaGreat
