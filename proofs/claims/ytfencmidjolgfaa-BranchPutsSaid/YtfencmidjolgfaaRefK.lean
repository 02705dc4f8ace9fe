/-
  Layer 4: the reference's entries: texts, in rows of their own; its Find. Own work.
-/
import Derived.Test.YtfencmidjolgfaaRaws4
import Derived.Lib.Bytes
namespace Go.Proofs.Ytfencmidjolgfaa
open Go.RowKit

theorem less_bytes : ∀ a b : List Int, Byt a → Byt b → Op.bytesLess (Lib.bytesOf a) (Lib.bytesOf b) = decide (cmpL a b < 0)
  | [], [], _, _ => by simp [Op.bytesLess, cmpL, Lib.bytesOf]
  | _ :: _, [], _, _ => by simp [Op.bytesLess, cmpL, Lib.bytesOf]
  | [], _ :: _, _, _ => by simp [Op.bytesLess, cmpL, Lib.bytesOf]
  | x :: a, y :: b, ha, hb => by
    have ih := less_bytes a b (fun z hz => ha z (by simp [hz])) (fun z hz => hb z (by simp [hz]))
    have hx := ha x (by simp)
    have hy := hb y (by simp)
    have e1 : (UInt8.ofNat x.toNat < UInt8.ofNat y.toNat) ↔ x < y := by
      rw [UInt8.lt_iff_toNat_lt, UInt8.toNat_ofNat', UInt8.toNat_ofNat']; omega
    have e2 : (UInt8.ofNat x.toNat = UInt8.ofNat y.toNat) ↔ x = y := by
      constructor
      · intro h
        have := congrArg UInt8.toNat h
        rw [UInt8.toNat_ofNat', UInt8.toNat_ofNat'] at this; omega
      · intro h; rw [h]
    show (decide (UInt8.ofNat x.toNat < UInt8.ofNat y.toNat) || ((UInt8.ofNat x.toNat == UInt8.ofNat y.toNat) && Op.bytesLess (Lib.bytesOf a) (Lib.bytesOf b))) = _
    rw [ih, cmpL]
    by_cases h1 : x < y
    · rw [if_pos h1]; simp [e1.2 h1]
    · rw [if_neg h1, decide_eq_false (fun h => h1 (e1.1 h)), Bool.false_or]
      by_cases h2 : y < x
      · rw [if_pos h2, beq_eq_false_iff_ne.2 (fun h => by have := e2.1 h; omega)]; simp
      · rw [if_neg h2, beq_iff_eq.2 (e2.2 (by omega)), Bool.true_and]
theorem less_str {a b : List Int} (ha : Byt a) (hb : Byt b) : Op.bytesLess (strOfNums a).toList (strOfNums b).toList = decide (cmpL a b < 0) := by
  rw [Lib.strOfNums_toList, Lib.strOfNums_toList, less_bytes a b ha hb]
theorem str_inj {a b : List Int} (ha : Byt a) (hb : Byt b) (h : strOfNums a = strOfNums b) : a = b := by
  have h1 := less_str ha hb
  have h2 := less_str hb ha
  rw [h] at h1
  have h3 := less_str hb hb
  rw [h1] at h3
  rw [← h] at h2
  have h4 := less_str ha ha
  rw [h2] at h4
  rw [cmpL_refl] at h3 h4
  have := cmpL_eq a b
  simp at h3 h4
  rcases cmpL_range a b with e | e | e
  · omega
  · exact this e
  · have := cmpL_eq b a
    rcases cmpL_range b a with e' | e' | e'
    · omega
    · exact (this e').symm
    · exact absurd e' (by have := cmpL_anti a b; omega)
theorem eq_str {a b : List Int} (ha : Byt a) (hb : Byt b) : ((strOfNums a).toList == (strOfNums b).toList) = decide (cmpL a b = 0) := by
  by_cases h : cmpL a b = 0
  · rw [cmpL_eq a b h, cmpL_refl]; simp
  · rw [decide_eq_false h, beq_eq_false_iff_ne]
    intro e
    apply h
    have e2 := less_str ha hb
    rw [e] at e2
    have e3 := less_str hb hb
    have e4 := less_str hb ha
    rw [← e] at e4
    have e5 := less_str ha ha
    rw [e2, cmpL_refl] at e3
    rw [e4, cmpL_refl] at e5
    simp at e3 e5
    rcases cmpL_range a b with k | k | k
    · omega
    · exact k
    · have := cmpL_anti a b; omega

/-- The cells of a model's entry. -/
def rcl (x : En) : List Value := [.string (strOfNums x.key), .string (strOfNums x.val), .int .i64 x.long, .int .u32 x.first]
def RAt (w : World) (b o : Nat) (x : En) : Prop :=
  w.cell? ⟨b, o, none⟩ = some (.string (strOfNums x.key)) ∧ w.cell? ⟨b, o + 1, none⟩ = some (.string (strOfNums x.val)) ∧ w.cell? ⟨b, o + 2, none⟩ = some (.int .i64 x.long) ∧ w.cell? ⟨b, o + 3, none⟩ = some (.int .u32 x.first)
def RRow (w : World) (v : Value) (l : List En) : Prop :=
  ∃ ao c, v = .slice ao l.length c ∧ l.length ≤ 100000 ∧ (l ≠ [] → ∃ b o, ao = some ⟨b, o, none⟩ ∧ b < w.heap.size ∧ ∀ i x, l[i]? = some x → RAt w b (o + i * 4) x)
theorem RRow.len {w : World} {ao : Option Addr} {n c : Nat} {l : List En} (h : RRow w (.slice ao n c) l) : n = l.length ∧ n ≤ 100000 := by
  obtain ⟨_, _, hv, h1, _⟩ := h
  injection hv with _ e1
  exact ⟨e1, by omega⟩
theorem RRow.at {w : World} {ao : Option Addr} {n c : Nat} {l : List En} (h : RRow w (.slice ao n c) l) (i : Nat) (x : En) (hx : l[i]? = some x) : ∃ b o, ao = some ⟨b, o, none⟩ ∧ b < w.heap.size ∧ RAt w b (o + i * 4) x := by
  obtain ⟨ao', c', hv, h1, h4⟩ := h
  cases hv
  obtain ⟨b, o, ha, hb, hc⟩ := h4 (by rintro rfl; simp at hx)
  exact ⟨b, o, ha, hb, hc i x hx⟩
theorem RRow.grown {w w' : World} {v : Value} {l : List En} (h : RRow w v l) (k : w.grownBy w' none) : RRow w' v l := by
  obtain ⟨ao, c, hv, h1, h4⟩ := h
  refine ⟨ao, c, hv, h1, fun hne => ?_⟩
  obtain ⟨b, o, ha, hb, hc⟩ := h4 hne
  have hq : ∀ o, w'.cell? ⟨b, o, none⟩ = w.cell? ⟨b, o, none⟩ := fun o => World.cell?_of_block (w := w) (k.block b hb (by simp))
  refine ⟨b, o, ha, Nat.lt_of_lt_of_le hb k.size, fun i x hx => ?_⟩
  obtain ⟨q0, q1, q2, q3⟩ := hc i x hx
  exact ⟨(hq _).trans q0, (hq _).trans q1, (hq _).trans q2, (hq _).trans q3⟩

def RFindR (l : List En) (key : List Int) (w w' : World) (r : Ending) : Prop :=
  ∃ (p : Nat) (f : Bool), r = .returned (.tuple #[.int .i64 p, .bool f]) ∧ p ≤ l.length ∧ (∀ j x, j < p → l[j]? = some x → cmpL x.key key < 0) ∧ (∀ x, l[p]? = some x → 0 ≤ cmpL x.key key) ∧ (f = true ↔ FoundAt l key p) ∧ w.grownBy w' none

set_option maxHeartbeats 1000000 in
theorem rfind_any (w : World) (ao : Option Addr) (n c : Nat) (l : List En) (key : List Int) (h : RRow w (.slice ao n c) l) (ho : ∀ x ∈ l, EnOk x) (hk : Byt key) :
    Calls Try.prog 28 #[.slice ao n c, .string (strOfNums key)] w fun r w' => RFindR l key w w' r := by
  obtain ⟨hn, hn9⟩ := h.len
  have HN := Lib.hid hn
  have H := Lib.hid h
  have HO := Lib.hid ho
  have HK := Lib.hid hk
  clear hn h ho hk
  obtain ⟨K, hK⟩ : ∃ K, K = strOfNums key := ⟨_, rfl⟩
  rw [← hK]
  have HKE := Lib.hid hK
  clear hK
  go_enter Try.func28, Try.ntmps28
  go_wp2
  go_loop [6] (fun i => ∃ k : Nat, k ≤ n ∧ i = .int .i64 k ∧ Hid (∀ j x, j < k → l[j]? = some x → cmpL x.key key < 0)) (fun i => n - (intOf i).toNat)
  case atStart => exact ⟨0, Nat.zero_le _, rfl, Lib.hid (fun j x hj => by omega)⟩
  case round =>
    obtain ⟨k, hk, rfl, HA⟩ := hrel
    by_cases hlt : k < n
    · obtain ⟨x, hx⟩ : ∃ x, l[k]? = some x := ⟨_, List.getElem?_eq_getElem (by have := HN.out; omega)⟩
      obtain ⟨b, o, rfl, hb, q0, q1, q2, q3⟩ := H.out.at k x hx
      have hxo := HO.out x (List.mem_of_getElem? hx)
      have hl := less_str hxo.k HK.out
      have he := eq_str hxo.k HK.out
      obtain ⟨S, hS⟩ : ∃ S, S = strOfNums x.key := ⟨_, rfl⟩
      rw [← hS] at q0 hl he
      rw [← HKE.out] at hl he
      have HX := Lib.hid hx
      clear q1 q2 q3 hx hxo hS
      by_cases h1 : cmpL x.key key < 0
      · rw [decide_eq_true h1] at hl
        clear he
        go_wp2
        go_round
        case rel => exact ⟨k + 1, by omega, by go_num, Lib.hid (fun j y hj hy => by
          by_cases e : j = k
          · subst e; rw [HX.out] at hy; cases hy; exact h1
          · exact HA.out j y (by omega) hy)⟩
        case measure => simp [intOf]; omega
      · rw [decide_eq_false h1] at hl
        have HF := Lib.hid (show cmpL x.key key = 0 ↔ FoundAt l key k from ⟨fun h => ⟨x, HX.out, h⟩, fun ⟨y, hy, hc⟩ => by rw [HX.out] at hy; cases hy; exact hc⟩)
        have HG := Lib.hid (show ∀ y, l[k]? = some y → 0 ≤ cmpL y.key key from fun y hy => by rw [HX.out] at hy; cases hy; omega)
        obtain ⟨z, hz⟩ : ∃ z, z = decide (cmpL x.key key = 0) := ⟨_, rfl⟩
        rw [← hz] at he
        have HZ := Lib.hid hz
        clear hz h1
        go_wp2
        go_quiet (fail)
        go_wp2
        go_ret2
        exact ⟨k, z, rfl, by have := HN.out; omega, HA.out, HG.out, by rw [HZ.out, decide_eq_true_iff]; exact HF.out, ⟨rfl, rfl, rfl, Nat.le_refl _, fun _ _ _ => rfl⟩⟩
    · obtain rfl : k = n := by omega
      have HF := Lib.hid (show ¬ FoundAt l key k from fun ⟨y, hy, _⟩ => by have := (List.getElem?_eq_some_iff.1 hy).1; have := HN.out; omega)
      have HG := Lib.hid (show ∀ y, l[k]? = some y → 0 ≤ cmpL y.key key from fun y hy => by have := (List.getElem?_eq_some_iff.1 hy).1; have := HN.out; omega)
      go_wp2
      go_ret2
      exact ⟨k, false, rfl, by have := HN.out; omega, HA.out, HG.out, ⟨fun e => by (cases e), fun e => absurd e HF.out⟩, grefl _ _⟩

end Go.Proofs.Ytfencmidjolgfaa
