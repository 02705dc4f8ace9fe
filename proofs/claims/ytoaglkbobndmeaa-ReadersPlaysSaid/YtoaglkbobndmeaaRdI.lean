/-
  Layer 9: a slice of numbers that came in; the lists of ReadersGone. Own work.
-/
import Derived.Test.YtoaglkbobndmeaaRdH
namespace Go.Proofs.Ytoaglkbobndmeaa
open Go.RowKit Go.ChangeShapes Go.WideShapes Go.ChangeAt

def U64q (B : Nat) (w : World) (v : Value) (zs : List Nat) : Prop :=
  ∃ ao c, v = .slice ao zs.length c ∧ zs.length ≤ c ∧ c ≤ maxLen ∧ (zs ≠ [] → ∃ b o, ao = some ⟨b, o, none⟩ ∧ b < B ∧ ∀ (j x : Nat), zs[j]? = some x → w.cell? ⟨b, o + j, none⟩ = some (.int .u64 (x : Int))) ∧ ∀ x ∈ zs, x < 18446744073709551616
theorem U64q.at {B : Nat} {w : World} {ao : Option Addr} {n c : Nat} {zs : List Nat} (h : U64q B w (.slice ao n c) zs) {j x : Nat} (hj : zs[j]? = some x) : ∃ b o, ao = some ⟨b, o, none⟩ ∧ w.cell? ⟨b, o + j, none⟩ = some (.int .u64 (x : Int)) ∧ x < 18446744073709551616 := by
  obtain ⟨ao', c', hv, h1, h2, h4, h5⟩ := h
  cases hv
  obtain ⟨b, o, ha, hb, hc⟩ := h4 (by rintro rfl; simp at hj)
  exact ⟨b, o, ha, hc j x hj, h5 x (List.mem_of_getElem? hj)⟩
theorem U64q.len {B : Nat} {w : World} {ao : Option Addr} {n c : Nat} {zs : List Nat} (h : U64q B w (.slice ao n c) zs) : n = zs.length ∧ n ≤ maxLen := by
  obtain ⟨ao', c', hv, h1, h2, h4, h5⟩ := h
  cases hv
  exact ⟨rfl, by omega⟩
theorem U64q.below {B : Nat} {w w' : World} {v : Value} {zs : List Nat} (h : U64q B w v zs) (k : ∀ i, i < B → w'.heap[i]? = w.heap[i]?) : U64q B w' v zs := by
  obtain ⟨ao', c', hv, h1, h2, h4, h5⟩ := h
  refine ⟨ao', c', hv, h1, h2, fun hne => ?_, h5⟩
  obtain ⟨b, o, ha, hb, hc⟩ := h4 hne
  refine ⟨b, o, ha, hb, fun j x hj => ?_⟩
  have := hc j x hj
  unfold World.cell? at this ⊢
  rw [k b hb]
  exact this
theorem c1u64 : Try.prog.cellsOf 32 = 1 := by kernel_rfl
theorem open_u64s {H : Type} {enc : TypeId × Value → H} {W : World} {d : DataW H} {p : List MemPlace} {a : Option Addr} {len cap : Nat}
    (h : ∃ fuel, DataW.trod enc Try.prog W 0 (fun _ => true) true fuel 58 [.slice a len cap] = some (d, p)) : ∃ zs, U64q W.heap.size W (.slice a len cap) zs := by
  obtain ⟨fuel, hf⟩ := h
  rcases open_ints Try.underlying58 Try.underlying32 c1u64 hf with ⟨hcs, _⟩ | ⟨x, l, c, zs, hcs, _, hl, hm, hz, _, hcell, hwz⟩
  · simp at hcs
    obtain ⟨rfl, rfl, rfl⟩ := hcs
    exact ⟨[], none, 0, rfl, Nat.le_refl _, by simp [maxLen], fun h => absurd rfl h, fun x hx => by simp at hx⟩
  · simp at hcs
    obtain ⟨rfl, rfl, rfl⟩ := hcs
    have hzl : zs.length = cap := by simpa using hz
    have hlen : (zs.take len).length = len := by simp; omega
    have hbd : ∀ z ∈ zs, 0 ≤ z ∧ z ≤ 18446744073709551615 := fun z hz => bounds_u64 (hwz z hz)
    refine ⟨(zs.take len).map Int.toNat, some x, cap, by simp; omega, by simp; omega, hm, fun hne => ?_, fun z hz => ?_⟩
    · have hpos : 0 < len := by
        rcases Nat.eq_zero_or_pos len with h | h
        · subst h; simp at hne
        · exact h
      obtain ⟨b, off, hx, hc⟩ := ints_at hcell (by omega)
      subst hx
      refine ⟨b, off, rfl, ?_, fun j y hj => ?_⟩
      · have := World.block_lt_of_cell? _ _ (hc 0 (by omega)); simpa using this
      · rw [List.getElem?_map] at hj
        obtain ⟨z, hz2, rfl⟩ := Option.map_eq_some_iff.1 hj
        have hjl : j < len := by have := (List.getElem?_eq_some_iff.1 hz2).1; omega
        rw [List.getElem?_take_of_lt hjl] at hz2
        have hg : zs.getD j 0 = z := by rw [List.getD_eq_getElem?_getD, hz2]; rfl
        have hb := hbd z (List.mem_of_getElem? hz2)
        rw [hc j (by omega), hg, Int.toNat_of_nonneg hb.1]
    · obtain ⟨y, hy, rfl⟩ := List.mem_map.1 hz
      have := hbd y (List.mem_of_mem_take hy)
      omega

/-- Each slot's first reader, but for slot k, whose turn is t. -/
def goneL (k t n : Nat) : List Sl := (freshL (fun i => i) n n).set k ⟨0, t, 0⟩
theorem goneL_at {k t n : Nat} (h : k < n) : (goneL k t n)[k]? = some ⟨0, t, 0⟩ := List.getElem?_set_self (by rw [freshL_len]; exact h)
theorem goneL_other {k t n j : Nat} (h : j < n) (hk : k ≠ j) : (goneL k t n)[j]? = some ⟨1, 1, j⟩ := by
  unfold goneL; rw [List.getElem?_set_ne hk, freshL_at _ _ _ h, if_pos h]
theorem goneL_len (k t n : Nat) : (goneL k t n).length = n := by simp [goneL, freshL_len]
theorem fresh_live (f : Nat → Nat) (n : Nat) : ∀ s ∈ freshL f n n, s.st = 1 := by
  intro s hs
  obtain ⟨i, hi⟩ := List.mem_iff_getElem?.1 hs
  have hl := (List.getElem?_eq_some_iff.1 hi).1
  rw [freshL_len] at hl
  rw [freshL_at f n n hl, if_pos hl] at hi
  cases hi; rfl
theorem goneL_live {k t n : Nat} (h : k < n) : liveN (goneL k t n) = n - 1 := by
  unfold goneL liveN
  rw [List.countP_set (by rw [freshL_len]; exact h)]
  have h1 : (freshL (fun i => i) n n).countP (fun s => s.st != 0) = n := by
    rw [show n = (freshL (fun i => i) n n).length by rw [freshL_len], freshL_len]
    exact (live_all (fun s hs => by rw [fresh_live _ _ s hs]; decide)).trans (freshL_len _ _ _)
  rw [h1]
  have h2 : (freshL (fun i => i) n n)[k]'(by rw [freshL_len]; exact h) = ⟨1, 1, k⟩ := by
    have := freshL_at (fun i => i) n n h
    rw [if_pos h] at this
    exact (List.getElem?_eq_some_iff.1 this).2
  simp [h2]
theorem dying_dead {k n : Nat} (h : k < n) : deadN ((freshL (fun i => i) n n).set k ⟨2, 1, k⟩) = 1 := by
  unfold deadN
  rw [List.countP_set (by rw [freshL_len]; exact h)]
  have h1 : (freshL (fun i => i) n n).countP (fun s => s.st == 2) = 0 := by
    rw [List.countP_eq_zero]
    intro s hs
    rw [fresh_live _ _ s hs]; decide
  rw [h1]
  simp
theorem dying_clear {k n : Nat} (h : k < n) : ((freshL (fun i => i) n n).set k ⟨2, 1, k⟩).map clrM = goneL k 1 n := by
  apply List.ext_getElem?
  intro j
  rw [List.getElem?_map]
  by_cases hj : j < n
  · by_cases e : k = j
    · subst e
      rw [goneL_at h, List.getElem?_set_self (by rw [freshL_len]; exact h)]; rfl
    · rw [goneL_other hj e, List.getElem?_set_ne e, freshL_at _ _ _ hj, if_pos hj]; rfl
  · rw [List.getElem?_eq_none (by rw [List.length_set, freshL_len]; omega), List.getElem?_eq_none (by rw [goneL_len]; omega)]; rfl

theorem gone_dead (w : World) (b k n : Nat) (h : TabAt b w (freshL (fun i => i) n n)) (hk : k < n) :
    Calls Try.prog 15 #[.pointer (some ⟨b, 0, none⟩), .int .i64 (k : Int)] w fun r w' => r = .returned (.bool true) ∧ TabTo b w w' ((freshL (fun i => i) n n).set k ⟨2, 1, k⟩) := by
  have hs := freshL_at (fun i => i) n n hk
  rw [if_pos hk] at hs
  have := dead_yes w b _ (k : Int) ⟨1, 1, k⟩ h (by rw [taken_k hs]; simp)
  rw [show ((k : Int)).toNat = k by omega] at this
  exact this
theorem gone_clear (w : World) (b k n : Nat) (h : TabAt b w ((freshL (fun i => i) n n).set k ⟨2, 1, k⟩)) (hk : k < n) :
    Calls Try.prog 17 #[.pointer (some ⟨b, 0, none⟩)] w fun r w' => r = .returned (.int .i64 1) ∧ TabTo b w w' (goneL k 1 n) := by
  have := clear_any w b _ h
  rw [dying_dead hk, dying_clear hk] at this
  exact this
theorem gone_end1 (w : World) (b k n : Nat) (h : TabAt b w (freshL (fun i => i) n n)) (hk : k < n) :
    Calls Try.prog 13 #[.pointer (some ⟨b, 0, none⟩), .agg #[.int .i64 (k : Int), .int .u64 1]] w fun r w' => r = .returned (.int .i64 0) ∧ TabTo b w w' (goneL k 1 n) := by
  have hs := freshL_at (fun i => i) n n hk
  rw [if_pos hk] at hs
  have := end_yes w b _ (k : Int) 1 ⟨1, 1, k⟩ h (good_at hs (by simp) rfl)
  rw [show ((k : Int)).toNat = k by omega] at this
  exact this
theorem gone_txn (w : World) (b k t n : Nat) (h : TabAt b w (goneL k t n)) (hk : k < n) :
    Calls Try.prog 19 #[.pointer (some ⟨b, 0, none⟩), .agg #[.int .i64 (k : Int), .int .u64 1]] w fun r w' => r = .returned (.tuple #[.int .u64 0, .int .i64 25]) ∧ w.grownBy w' none :=
  txn_any w b _ (k : Int) 1 h none (good_free (goneL_at hk) rfl)
theorem gone_end (w : World) (b k t n : Nat) (h : TabAt b w (goneL k t n)) (hk : k < n) :
    Calls Try.prog 13 #[.pointer (some ⟨b, 0, none⟩), .agg #[.int .i64 (k : Int), .int .u64 1]] w fun r w' => r = .returned (.int .i64 25) ∧ w.grownBy w' none :=
  end_no w b _ (k : Int) 1 h (good_free (goneL_at hk) rfl)
def goneS (k t x n : Nat) : List Sl := (freshL (fun i => i) n n).set k ⟨1, t, x⟩
theorem goneS_at {k t x n : Nat} (h : k < n) : (goneS k t x n)[k]? = some ⟨1, t, x⟩ := List.getElem?_set_self (by rw [freshL_len]; exact h)
theorem gone_begin (w : World) (b k t u x n : Nat) (hu : t + 1 = u) (h : TabAt b w (goneL k t n)) (hk : k < n) (ht : t < 1000) (hx : x < 18446744073709551616) :
    Calls Try.prog 11 #[.pointer (some ⟨b, 0, none⟩), .int .u64 (x : Int)] w fun r w' => r = .returned (.tuple #[.agg #[.int .i64 (k : Int), .int .u64 (u : Int)], .int .i64 0]) ∧ TabTo b w w' (goneS k u x n) := by
  subst hu
  have := begin_at w b _ x k ⟨0, t, 0⟩ h (fun j hj s hs => by
    rw [goneL_other (by omega) (by omega)] at hs
    cases hs; simp) (goneL_at hk) rfl hx
  have e : (t + 1) % 18446744073709551616 = t + 1 := Nat.mod_eq_of_lt (by omega)
  rw [show sbeg ⟨0, t, 0⟩ x = ⟨1, t + 1, x⟩ by simp [sbeg, e]] at this
  unfold goneL at this
  rw [List.set_set] at this
  exact this
theorem gone_read (w : World) (b k t x n : Nat) (h : TabAt b w (goneS k t x n)) (hk : k < n) :
    Calls Try.prog 19 #[.pointer (some ⟨b, 0, none⟩), .agg #[.int .i64 (k : Int), .int .u64 (t : Int)]] w fun r w' => r = .returned (.tuple #[.int .u64 (x : Int), .int .i64 0]) ∧ w.grownBy w' none :=
  txn_any w b _ (k : Int) t h (some ⟨1, t, x⟩) (good_at (goneS_at hk) (by simp) rfl)
theorem gone_again (w : World) (b k t x n : Nat) (h : TabAt b w (goneS k t x n)) (hk : k < n) :
    Calls Try.prog 13 #[.pointer (some ⟨b, 0, none⟩), .agg #[.int .i64 (k : Int), .int .u64 (t : Int)]] w fun r w' => r = .returned (.int .i64 0) ∧ TabTo b w w' (goneL k t n) := by
  have := end_yes w b _ (k : Int) t ⟨1, t, x⟩ h (good_at (goneS_at hk) (by simp) rfl)
  rw [show ((k : Int)).toNat = k by omega] at this
  unfold goneS at this
  rw [List.set_set] at this
  exact this
theorem gone_live (w : World) (b k t n : Nat) (h : TabAt b w (goneL k t n)) (hk : k < n) (m : Nat) (hm : n - 1 = m) :
    Calls Try.prog 23 #[.pointer (some ⟨b, 0, none⟩)] w fun r w' => r = .returned (.int .i64 (m : Int)) ∧ w = w' := by
  have := live_any w b _ h
  rw [goneL_live hk, hm] at this
  exact this

end Go.Proofs.Ytoaglkbobndmeaa
