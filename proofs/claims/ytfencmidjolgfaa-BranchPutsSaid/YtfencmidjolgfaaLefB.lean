/-
  Layer 4: a slice of entries; the contracts of leaf's Fill and Right. Own work.
-/
import Derived.Test.YtfencmidjolgfaaLefA
namespace Go.Proofs.Ytfencmidjolgfaa
open Go.RowKit

/-- The four cells at o of block b are the entry x; its bytes lie below block B. -/
def EnAt (B : Nat) (w : World) (b o : Nat) (x : En) : Prop :=
  ∃ a1 c1 a2 c2, Seq B w (.slice a1 x.key.length c1) x.key ∧ Seq B w (.slice a2 x.val.length c2) x.val ∧ EnOk x ∧
    w.cell? ⟨b, o, none⟩ = some (.slice a1 x.key.length c1) ∧ w.cell? ⟨b, o + 1, none⟩ = some (.slice a2 x.val.length c2) ∧ w.cell? ⟨b, o + 2, none⟩ = some (.int .i64 x.long) ∧ w.cell? ⟨b, o + 3, none⟩ = some (.int .u32 x.first)
/-- The value v is a slice of the entries l; all lies below block B. -/
def Ents (B : Nat) (w : World) (v : Value) (l : List En) : Prop :=
  ∃ ao c, v = .slice ao l.length c ∧ l.length ≤ c ∧ c ≤ maxLen ∧ l.length ≤ 100000 ∧ (l ≠ [] → ∃ b o, ao = some ⟨b, o, none⟩ ∧ b < B ∧ ∀ i x, l[i]? = some x → EnAt B w b (o + i * 4) x)
theorem EnAt.below {B b o : Nat} {w w' : World} {x : En} (h : EnAt B w b o x) (hb : b < B) (k : ∀ i, i < B → w'.heap[i]? = w.heap[i]?) : EnAt B w' b o x := by
  obtain ⟨a1, c1, a2, c2, h1, h2, h3, q0, q1, q2, q3⟩ := h
  have hc : ∀ o, w'.cell? ⟨b, o, none⟩ = w.cell? ⟨b, o, none⟩ := fun o => World.cell?_of_block (w := w) (k b hb)
  exact ⟨a1, c1, a2, c2, h1.below k, h2.below k, h3, (hc _).trans q0, (hc _).trans q1, (hc _).trans q2, (hc _).trans q3⟩
theorem EnAt.mono {B B' b o : Nat} {w : World} {x : En} (h : EnAt B w b o x) (k : B ≤ B') : EnAt B' w b o x := by
  obtain ⟨a1, c1, a2, c2, h1, h2, h3⟩ := h
  exact ⟨a1, c1, a2, c2, h1.mono k, h2.mono k, h3⟩
theorem Ents.below {B : Nat} {w w' : World} {v : Value} {l : List En} (h : Ents B w v l) (k : ∀ i, i < B → w'.heap[i]? = w.heap[i]?) : Ents B w' v l := by
  obtain ⟨ao, c, hv, h1, h2, h3, h4⟩ := h
  refine ⟨ao, c, hv, h1, h2, h3, fun hne => ?_⟩
  obtain ⟨b, o, ha, hb, hc⟩ := h4 hne
  exact ⟨b, o, ha, hb, fun i x hx => (hc i x hx).below hb k⟩
theorem Ents.mono {B B' : Nat} {w : World} {v : Value} {l : List En} (h : Ents B w v l) (k : B ≤ B') : Ents B' w v l := by
  obtain ⟨ao, c, hv, h1, h2, h3, h4⟩ := h
  refine ⟨ao, c, hv, h1, h2, h3, fun hne => ?_⟩
  obtain ⟨b, o, ha, hb, hc⟩ := h4 hne
  exact ⟨b, o, ha, by omega, fun i x hx => (hc i x hx).mono k⟩
theorem Ents.grown {B : Nat} {w w' : World} {v : Value} {l : List En} (h : Ents B w v l) (k : w.grownBy w' none) (hB : B ≤ w.heap.size) : Ents B w' v l := h.below fun i hi => k.block i (by omega) (by simp)
theorem Ents.len {B : Nat} {w : World} {ao : Option Addr} {n c : Nat} {l : List En} (h : Ents B w (.slice ao n c) l) : n = l.length := by
  obtain ⟨_, _, hv, _⟩ := h; injection hv
theorem Ents.few {B : Nat} {w : World} {v : Value} {l : List En} (h : Ents B w v l) : l.length ≤ 100000 := by obtain ⟨_, _, _, _, _, h3, _⟩ := h; exact h3
theorem Ents.shape {B : Nat} {w : World} {v : Value} {l : List En} (h : Ents B w v l) : ∃ ao c, v = .slice ao l.length c := by
  obtain ⟨ao, c, hv, _⟩ := h; exact ⟨ao, c, hv⟩
theorem Ents.at {B : Nat} {w : World} {ao : Option Addr} {n c : Nat} {l : List En} (h : Ents B w (.slice ao n c) l) (i : Nat) (x : En) (hx : l[i]? = some x) :
    ∃ b o, ao = some ⟨b, o, none⟩ ∧ b < B ∧ EnAt B w b (o + i * 4) x := by
  obtain ⟨ao', c', hv, h1, h2, h3, h4⟩ := h
  cases hv
  obtain ⟨b, o, ha, hb, hc⟩ := h4 (by rintro rfl; simp at hx)
  exact ⟨b, o, ha, hb, hc i x hx⟩
theorem Ents.nil (B : Nat) (w : World) : Ents B w (.slice none 0 0) [] := ⟨none, 0, rfl, Nat.le_refl _, by decide, by decide, fun h => absurd rfl h⟩
theorem Ents.take {B : Nat} {w : World} {ao : Option Addr} {n c : Nat} {l : List En} (h : Ents B w (.slice ao n c) l) (k : Nat) (hk : k ≤ l.length) : Ents B w (.slice ao k c) (l.take k) := by
  obtain ⟨ao', c', hv, h1, h2, h3, h4⟩ := h
  cases hv
  have hl : (l.take k).length = k := by simp; omega
  refine ⟨ao, c, by rw [hl], by omega, h2, by omega, fun hne => ?_⟩
  obtain ⟨b, o, ha, hb, hc⟩ := h4 (by rintro rfl; simp at hne)
  refine ⟨b, o, ha, hb, fun i x hx => hc i x ?_⟩
  rw [List.getElem?_take] at hx
  split at hx
  · exact hx
  · cases hx

set_option maxHeartbeats 800000 in
theorem fill_any (w : World) (B : Nat) (ao : Option Addr) (n c : Nat) (l : List En) (h : Ents B w (.slice ao n c) l) (hB : B ≤ w.heap.size) :
    Calls Try.prog 21 #[.slice ao n c] w fun r w' => r = .returned (.int .i64 (fillL leafY l)) ∧ w.grownBy w' none := by
  have hn : n = l.length := h.len
  have hs := h.few
  have hs1 : n ≤ 100000 := by omega
  have HN := Lib.hid hn
  have H := Lib.hid h
  clear hn hs h
  go_enter Try.func21, Try.ntmps21
  go_wp2
  go_loopw [3, 8] (fun s i wr => ∃ k : Nat, k ≤ n ∧ i = .int .i64 k ∧ s = .int .i64 (fillK leafY l k) ∧ fillK leafY l k ≤ 4 + 200006 * k ∧ w.grownBy wr none) (fun _ i _ => n - (intOf i).toNat)
  case atStart => exact ⟨0, Nat.zero_le _, rfl, rfl, Nat.le_refl _, grefl _ _⟩
  case round =>
    obtain ⟨k, hk, rfl, rfl, hf, hg⟩ := hrel
    have HG := Lib.hid hg
    clear hg
    by_cases hlt : k < n
    · obtain ⟨x, hx⟩ : ∃ x, l[k]? = some x := ⟨_, List.getElem?_eq_getElem (by have := HN.out; omega)⟩
      obtain ⟨b, o, rfl, hb, a1, c1, a2, c2, h1, h2, h3, q0, q1, q2, q3⟩ := (H.out.grown HG.out hB).at k x hx
      have HK := Lib.hid (lfillK_snoc hx)
      have hcl := cl_le h3
      have H3 := Lib.hid h3
      clear h1 h2 h3 hx
      obtain ⟨z, hz⟩ : ∃ z, z = cl x := ⟨_, rfl⟩
      obtain ⟨f, hf'⟩ : ∃ f, f = fillK leafY l k := ⟨_, rfl⟩
      rw [← hz] at hcl
      rw [← hf'] at hf ⊢
      have HZ := Lib.hid hz
      have HF := Lib.hid hf'
      clear hz hf'
      go_wp2_with (go_at_call 23; refine (cell_any _ a1 a2 c1 c2 x H3.out).mono ?_; rintro r w1 ⟨rfl, rfl⟩; rw [← HZ.out])
      go_roundw
      case rel => exact ⟨k + 1, by omega, by go_num, by rw [HK.out, ← HF.out, ← HZ.out]; go_num, by rw [HK.out, ← HF.out, ← HZ.out]; omega, gtrans HG.out (gtrans (World.grownBy_alloc _ _ _) (gtrans (World.grownBy_alloc _ _ _) (World.grownBy_alloc _ _ _)))⟩
      case measure => simp [intOf]; omega
    · obtain rfl : k = n := by omega
      go_wp2
      go_ret
      exact ⟨by rw [HN.out]; rfl, HG.out⟩

set_option maxHeartbeats 800000 in
theorem rvalue_any (w : World) (a1 a2 : Option Addr) (c1 c2 : Nat) (x : En) (h : EnOk x) :
    Calls Try.prog 48 #[.agg (ecs (.slice a1 x.key.length c1) (.slice a2 x.val.length c2) x.long x.first)] w fun r w' => r = .returned (.bool (rvB x)) ∧
      (w.alloc (.cells (ecs (.slice a1 x.key.length c1) (.slice a2 x.val.length c2) x.long x.first) 43)).alloc (.cells (ecs (.slice a1 x.key.length c1) (.slice a2 x.val.length c2) x.long x.first) 43) = w' := by
  obtain ⟨hk1, hk2, hkl, hvl, hl0, hl1, hf0, hf1⟩ := h
  obtain ⟨key, val, L, F⟩ := x
  simp only at *
  obtain ⟨n1, hn1⟩ : ∃ n, n = key.length := ⟨_, rfl⟩
  obtain ⟨n2, hn2⟩ : ∃ n, n = val.length := ⟨_, rfl⟩
  have hrv : rvB ⟨key, val, L, F⟩ = if 0 < F then decide (n2 = 0) && decide (1 ≤ L) && decide (L ≤ 32768) else decide (L = 0) := by rw [hn2]; rfl
  rw [hrv, ← hn1, ← hn2]
  clear hrv hk1 hk2 hkl hvl hn1 hn2
  by_cases hf : 0 < F
  · rw [if_pos hf]
    have hd : decide (0 < F) = true := by simpa using hf
    by_cases h0 : n2 = 0
    · subst h0
      by_cases h1 : 1 ≤ L
      · go_enter Try.func48, Try.ntmps48
        go_wp2_with (go_at_call 50; refine (isFar_any _ _ _ _ _).mono ?_; rintro r w1 ⟨rfl, rfl⟩)
        go_ret
        exact ⟨by simp [h1], rfl⟩
      · go_enter Try.func48, Try.ntmps48
        go_wp2_with (go_at_call 50; refine (isFar_any _ _ _ _ _).mono ?_; rintro r w1 ⟨rfl, rfl⟩)
        go_ret
        exact ⟨by simp; omega, rfl⟩
    · have hp : 0 < n2 := by omega
      have hd2 : ((n2 : Int) == 0) = false := by simp; omega
      have HD := Lib.hid (show (decide (n2 = 0) && decide (1 ≤ L) && decide (L ≤ 32768)) = false by simp [h0])
      clear h0
      go_enter Try.func48, Try.ntmps48
      go_wp2_with (go_at_call 50; refine (isFar_any _ _ _ _ _).mono ?_; rintro r w1 ⟨rfl, rfl⟩)
      go_ret
      exact ⟨by rw [HD.out]; rfl, rfl⟩
  · rw [if_neg hf]
    have hd : decide (0 < F) = false := by simpa using hf
    go_enter Try.func48, Try.ntmps48
    go_wp2_with (go_at_call 50; refine (isFar_any _ _ _ _ _).mono ?_; rintro r w1 ⟨rfl, rfl⟩)
    go_ret
    exact ⟨by congr 2, rfl⟩

end Go.Proofs.Ytfencmidjolgfaa
