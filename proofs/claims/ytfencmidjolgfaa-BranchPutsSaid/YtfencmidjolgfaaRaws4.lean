/-
  Opening layer 4's raw entries: a slice of things of four cells each: two slices of bytes, an int, a uint32; few. Own work.
-/
import Derived.Test.YtfencmidjolgfaaLefT
import Derived.ProofKit
import Derived.OpenShut
import Derived.ShutString
import Derived.ChangeOld
import Derived.Deep.Slices
import Derived.Deep.Fields
namespace Go.Proofs.Ytfencmidjolgfaa
open Go.RowKit Go.ChangeShapes Go.WideShapes Go.ChangeAt

/-- What a raw entry's four cells hold. -/
def RawAt (w : World) (b o : Nat) (x : En) : Prop :=
  ∃ a1 c1 a2 c2, Seq w.heap.size w (.slice a1 x.key.length c1) x.key ∧ Seq w.heap.size w (.slice a2 x.val.length c2) x.val ∧ Byt x.key ∧ Byt x.val ∧ (-9223372036854775808 ≤ x.long ∧ x.long ≤ 9223372036854775807) ∧ (0 ≤ x.first ∧ x.first ≤ 4294967295) ∧
    w.cell? ⟨b, o, none⟩ = some (.slice a1 x.key.length c1) ∧ w.cell? ⟨b, o + 1, none⟩ = some (.slice a2 x.val.length c2) ∧ w.cell? ⟨b, o + 2, none⟩ = some (.int .i64 x.long) ∧ w.cell? ⟨b, o + 3, none⟩ = some (.int .u32 x.first)
/-- Raw entries that came in. -/
def Raws (w : World) (v : Value) (l : List En) : Prop := ∃ ao c, v = .slice ao l.length c ∧ l.length ≤ c ∧ c ≤ maxLen ∧ (l ≠ [] → ∃ b o, ao = some ⟨b, o, none⟩ ∧ b < w.heap.size ∧ ∀ i x, l[i]? = some x → RawAt w b (o + i * 4) x)

theorem rawCells : Try.prog.cellsOf 88 = 4 := by kernel_rfl
theorem c1u8 : Try.prog.cellsOf 5 = 1 := by kernel_rfl
theorem c1int : Try.prog.cellsOf 3 = 1 := by kernel_rfl
theorem c1u32 : Try.prog.cellsOf 40 = 1 := by kernel_rfl
theorem c1bs : Try.prog.cellsOf 29 = 1 := by kernel_rfl

theorem open_row {H : Type} {enc : TypeId × Value → H} {W : World} {y : DataW H × List MemPlace} {v : Value} {n : Nat}
    (h : DataW.trod enc Try.prog W 0 (fun _ => true) true n 29 [v] = some y) : ∃ a len cap bs, v = .slice a len cap ∧ Seq W.heap.size W (.slice a len cap) bs ∧ Byt bs := by
  have h' := h
  rcases open_ints Try.underlying29 Try.underlying5 c1u8 h with ⟨hcs, _⟩ | ⟨x, l, c, zs, hcs, _⟩
  · simp at hcs
    subst hcs
    obtain ⟨bs, hs, hb⟩ := open_bytes (d := y.1) (p := y.2) ⟨n, h'⟩
    exact ⟨_, _, _, bs, rfl, hs, hb⟩
  · simp at hcs
    subst hcs
    obtain ⟨bs, hs, hb⟩ := open_bytes (d := y.1) (p := y.2) ⟨n, h'⟩
    exact ⟨_, _, _, bs, rfl, hs, hb⟩

theorem exists_list {p : Nat → En → Prop} : ∀ n, (∀ i, i < n → ∃ x, p i x) → ∃ l : List En, l.length = n ∧ ∀ i x, l[i]? = some x → p i x
  | 0, _ => ⟨[], rfl, fun i x h => by simp at h⟩
  | n + 1, h => by
    obtain ⟨l, hl, hp⟩ := exists_list n (fun i hi => h i (by omega))
    obtain ⟨x, hx⟩ := h n (by omega)
    refine ⟨l ++ [x], by simp [hl], fun i y hy => ?_⟩
    by_cases e : i < n
    · rw [List.getElem?_append_left (by omega)] at hy; exact hp i y hy
    · have hi : i < (l ++ [x]).length := (List.getElem?_eq_some_iff.1 hy).1
      simp [hl] at hi
      obtain rfl : i = n := by omega
      rw [List.getElem?_append_right (by omega), hl, Nat.sub_self] at hy
      cases hy; exact hx

set_option maxRecDepth 100000 in
theorem open_raws {H : Type} {enc : TypeId × Value → H} {W : World} {d : DataW H} {p : List MemPlace} {a : Option Addr} {len cap : Nat}
    (h : ∃ fuel, DataW.trod enc Try.prog W 0 (fun _ => true) true fuel 22 [.slice a len cap] = some (d, p)) :
    ∃ l, Raws W (.slice a len cap) l := by
  obtain ⟨fuel, hf⟩ := h
  rcases Go.Deep.open_slice Try.underlying22 hf with ⟨hcs, _⟩ | ⟨x, l, c, m, n, D, Pl, hcs, _, hl, hm, hmm, _, hi⟩
  · simp at hcs
    obtain ⟨rfl, rfl, rfl⟩ := hcs
    exact ⟨[], none, 0, rfl, Nat.le_refl _, by simp [maxLen], fun h => absurd rfl h⟩
  · simp at hcs
    obtain ⟨rfl, rfl, rfl⟩ := hcs
    have hmc : m = cap := by simpa using hmm
    rw [rawCells] at hi
    have each : ∀ i, i < len → ∃ v0 v1 v2 v3, (∀ j v, [v0, v1, v2, v3][j]? = some v → W.cell? ((x.add (i * 4)).add j) = some v) ∧ (∃ n y, DataW.trod enc Try.prog W 0 (fun _ => true) true n 29 [v0] = some y) ∧
        (∃ n y, DataW.trod enc Try.prog W 0 (fun _ => true) true n 29 [v1] = some y) ∧ (∃ n y, DataW.trod enc Try.prog W 0 (fun _ => true) true n 3 [v2] = some y) ∧ (∃ n y, DataW.trod enc Try.prog W 0 (fun _ => true) true n 40 [v3] = some y) := by
      intro i hil
      obtain ⟨cs', hc, ht⟩ := hi i (by omega)
      obtain ⟨_, hcl, hat⟩ := World.cells?_some hc
      obtain ⟨ys, n', _, _, _, hyl, hg⟩ := DataW.trod_struct Try.underlying88 ht
      match cs', hcl, ys, hyl with
      | [v0, v1, v2, v3], _, [y0, y1, y2, y3], _ =>
        refine ⟨v0, v1, v2, v3, fun j v hj => ?_, ⟨n', y0, ?_⟩, ⟨n', y1, ?_⟩, ⟨n', y2, ?_⟩, ⟨n', y3, ?_⟩⟩
        · have hj4 : j < 4 := (List.getElem?_eq_some_iff.1 hj).1
          exact (hat j hj4).trans hj
        · simpa [c1bs] using hg 0 _ rfl
        · simpa [c1bs] using hg 1 _ rfl
        · simpa [c1int] using hg 2 _ rfl
        · simpa [c1u32] using hg 3 _ rfl
    obtain ⟨b, o, spot⟩ := x
    have hspot : 0 < len → spot = none := fun hp => by
      obtain ⟨v0, _, _, _, hc0, _⟩ := each 0 hp
      simpa [Addr.add] using World.cell?_spot (hc0 0 v0 rfl)
    have hadd : ∀ i j : Nat, (((⟨b, o, none⟩ : Addr).add i).add j) = ⟨b, o + i + j, none⟩ := fun i j => by
      unfold Addr.add; split <;> split <;> simp_all
    obtain ⟨L, hL, hp⟩ := exists_list (p := fun i x => RawAt W b (o + i * 4) x) len fun i hil => by
      obtain ⟨v0, v1, v2, v3, hc, ⟨_, _, t0⟩, ⟨_, _, t1⟩, ⟨_, _, t2⟩, ⟨_, _, t3⟩⟩ := each i hil
      have hs := hspot (by omega)
      subst hs
      obtain ⟨ka, kn, kc, ks, rfl, hs0, hb0⟩ := open_row t0
      obtain ⟨va, vn, vc, vs, rfl, hs1, hb1⟩ := open_row t1
      obtain ⟨X, e1, _, wX⟩ := DataW.trod_int Try.underlying3 t2
      obtain ⟨N, e2, _, wN⟩ := DataW.trod_int Try.underlying40 t3
      simp at e1 e2
      subst e1 e2
      have k0 := hc 0 _ rfl
      have k1 := hc 1 _ rfl
      have k2 := hc 2 _ rfl
      have k3 := hc 3 _ rfl
      rw [hadd] at k0 k1 k2 k3
      have n0 : kn = ks.length := by obtain ⟨_, _, hv, _⟩ := hs0; injection hv
      have n1 : vn = vs.length := by obtain ⟨_, _, hv, _⟩ := hs1; injection hv
      subst n0 n1
      exact ⟨⟨ks, vs, X, N⟩, ka, kc, va, vc, hs0, hs1, hb0, hb1, bounds_i64 wX, bounds_u32 wN, k0, k1, k2, k3⟩
    refine ⟨L, some ⟨b, o, spot⟩, cap, by rw [hL], by omega, hm, fun hne => ?_⟩
    have hpos : 0 < len := by rcases Nat.eq_zero_or_pos len with h | h
                              · exact absurd (List.eq_nil_of_length_eq_zero (hL.trans h)) hne
                              · exact h
    have hs := hspot hpos
    subst hs
    refine ⟨b, o, rfl, ?_, hp⟩
    obtain ⟨v0, _, _, _, hc0, _⟩ := each 0 hpos
    have := World.block_lt_of_cell? _ _ (hc0 0 v0 rfl)
    rw [hadd] at this
    exact this

/-- Are they few, and short? -/
def FewP (l : List En) : Prop := (∀ x ∈ l, x.key.length ≤ 120 ∧ x.val.length ≤ 600) ∧ l.length ≤ 30
theorem Raws.len {w : World} {ao : Option Addr} {n c : Nat} {l : List En} (h : Raws w (.slice ao n c) l) : n = l.length ∧ n ≤ 9223372036854775807 := by
  obtain ⟨_, _, hv, h1, h2, _⟩ := h
  injection hv with _ e1 e2
  unfold maxLen at h2
  exact ⟨e1, by omega⟩
theorem Raws.at {w : World} {ao : Option Addr} {n c : Nat} {l : List En} (h : Raws w (.slice ao n c) l) (i : Nat) (x : En) (hx : l[i]? = some x) : ∃ b o, ao = some ⟨b, o, none⟩ ∧ b < w.heap.size ∧ RawAt w b (o + i * 4) x := by
  obtain ⟨ao', c', hv, h1, h2, h4⟩ := h
  cases hv
  obtain ⟨b, o, ha, hb, hc⟩ := h4 (by rintro rfl; simp at hx)
  exact ⟨b, o, ha, hb, hc i x hx⟩

def FewR (l : List En) (w w' : World) (r : Ending) : Prop := ∃ b, r = .returned (.bool b) ∧ (b = true ↔ FewP l) ∧ w = w'

set_option maxHeartbeats 1000000 in
theorem few_any (w W : World) (ao : Option Addr) (n c : Nat) (l : List En) (h : Raws w (.slice ao n c) l) (hW : Below w.heap.size w W) :
    Calls Try.prog 15 #[.slice ao n c] W fun r w' => FewR l W w' r := by
  obtain ⟨hn, hn9⟩ := h.len
  have HN := Lib.hid hn
  have H := Lib.hid h
  clear hn h
  go_enter Try.func15, Try.ntmps15
  go_wp2
  go_loop [3] (fun i => ∃ k : Nat, k ≤ n ∧ i = .int .i64 k ∧ Hid (∀ j x, j < k → l[j]? = some x → x.key.length ≤ 120 ∧ x.val.length ≤ 600)) (fun i => n - (intOf i).toNat)
  case atStart => exact ⟨0, Nat.zero_le _, rfl, Lib.hid (fun j x hj => by omega)⟩
  case round =>
    obtain ⟨k, hk, rfl, HA⟩ := hrel
    by_cases hlt : k < n
    · obtain ⟨x, hx⟩ : ∃ x, l[k]? = some x := ⟨_, List.getElem?_eq_getElem (by have := HN.out; omega)⟩
      obtain ⟨b, o, rfl, hb, a1, c1, a2, c2, _, _, _, _, _, _, q0, q1, _, _⟩ := H.out.at k x hx
      have z0 := (hW.cell (p := ⟨b, o + k * 4, none⟩) hb).trans q0
      have z1 := (hW.cell (p := ⟨b, o + k * 4 + 1, none⟩) hb).trans q1
      have HX := Lib.hid hx
      clear q0 q1 hx
      by_cases h1 : x.key.length ≤ 120
      · have hd1 : decide ((120 : Int) < (x.key.length : Int)) = false := by simp; omega
        by_cases h2 : x.val.length ≤ 600
        · have hd2 : decide ((600 : Int) < (x.val.length : Int)) = false := by simp; omega
          go_wp2
          go_round
          case rel => exact ⟨k + 1, by omega, by go_num, Lib.hid (fun j y hj hy => by
            by_cases e : j = k
            · subst e; rw [HX.out] at hy; cases hy; exact ⟨h1, h2⟩
            · exact HA.out j y (by omega) hy)⟩
          case measure => simp [intOf]; omega
        · have hd2 : decide ((600 : Int) < (x.val.length : Int)) = true := by simp; omega
          have HF := Lib.hid (show ¬ FewP l from fun hf => h2 (hf.1 x (List.mem_of_getElem? HX.out)).2)
          clear h2
          go_wp2
          go_ret
          exact ⟨false, rfl, ⟨(fun e => by cases e), fun e => absurd e HF.out⟩, rfl⟩
      · have hd1 : decide ((120 : Int) < (x.key.length : Int)) = true := by simp; omega
        have HF := Lib.hid (show ¬ FewP l from fun hf => h1 (hf.1 x (List.mem_of_getElem? HX.out)).1)
        clear h1
        go_wp2
        go_ret
        exact ⟨false, rfl, ⟨(fun e => by cases e), fun e => absurd e HF.out⟩, rfl⟩
    · obtain rfl : k = n := by omega
      have HB := Lib.hid (show k ≤ 30 ↔ FewP l from ⟨fun h => ⟨fun x hx => by
        obtain ⟨i, hi⟩ := List.getElem?_of_mem hx
        exact HA.out i x (by have := (List.getElem?_eq_some_iff.1 hi).1; have := HN.out; omega) hi, by have := HN.out; omega⟩, fun h => by have := h.2; have := HN.out; omega⟩)
      go_wp2
      go_ret
      exact ⟨decide (k ≤ 30), (by simp; omega), by rw [decide_eq_true_iff]; exact HB.out, rfl⟩

end Go.Proofs.Ytfencmidjolgfaa
