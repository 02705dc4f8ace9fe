/-
  Layer 9: New, Txn, End, Dead. Own work.
-/
import Derived.Test.YtoaglkbobndmeaaRdB
namespace Go.Proofs.Ytoaglkbobndmeaa
open Go.RowKit

theorem new9_bad (w : World) (n : Int) (h : n < 1 ∨ 126 < n) : Calls Try.prog 9 #[.int .i64 n] w fun r w' => r = .returned (.tuple #[.pointer none, .int .i64 1]) ∧ w = w' := by
  by_cases h1 : n < 1
  · go_enter Try.func9, Try.ntmps9
    go_wp2
    go_ret2
    exact ⟨rfl, rfl⟩
  · have h2 : 126 < n := by omega
    go_enter Try.func9, Try.ntmps9
    go_wp2
    go_ret2
    exact ⟨rfl, rfl⟩

theorem zeroL (n : Nat) (h1 : n ≤ 126) : tabc (List.replicate n slz) = (List.replicate 126 slz).flatMap slc ++ [.int .i64 (n : Int)] := by
  unfold tabc padL
  rw [List.length_replicate, List.replicate_append_replicate, show n + (126 - n) = 126 by omega]

set_option maxRecDepth 100000 in
set_option maxHeartbeats 4000000 in
theorem new9_good (w : World) (n : Nat) (h1 : 1 ≤ n) (h2 : n ≤ 126) : Calls Try.prog 9 #[.int .i64 (n : Int)] w fun r w' => r = .returned (.tuple #[.pointer (some ⟨w.heap.size, 0, none⟩), .int .i64 0]) ∧ TabAt w.heap.size w' (List.replicate n slz) ∧ w.grownBy w' none := by
  have i1 : ¬ (n : Int) < 1 := by omega
  have i2 : ¬ (126 : Int) < (n : Int) := by omega
  obtain ⟨Z, hZ⟩ : ∃ Z : Array Value, Z = ((List.replicate 126 slz).flatMap slc ++ [Value.int .i64 0]).toArray := ⟨_, rfl⟩
  have hz : (zeroValue 75).run Try.prog w = .ok (.agg Z) w := by rw [hZ]; kernel_rfl
  have hsz : Z.size = 379 := by rw [hZ]; rfl
  have hCS : Z.setIfInBounds 378 (Value.int .i64 (n : Int)) = (tabc (List.replicate n slz)).toArray := by rw [hZ, zeroL n h2]; rfl
  have HC := Lib.hid hCS
  clear hCS hZ
  go_enter Try.func9, Try.ntmps9
  go_wp2
  go_ret2
  refine ⟨rfl, ⟨?_, by simpa using h1, by simpa using h2, fun s hs => ?_⟩, World.grownBy_alloc _ _ _⟩
  · rw [← HC.out]
    exact heap_alloc_new _ _
  · have := List.eq_of_mem_replicate hs; subst this; exact ⟨by decide, by decide, by decide⟩

def txnR (s : Option Sl) : Value := match s with | some s => .tuple #[.int .u64 (s.rd : Int), .int .i64 0] | none => .tuple #[.int .u64 0, .int .i64 25]
abbrev hdl (i : Int) (t : Nat) : Value := .agg #[.int .i64 i, .int .u64 (t : Int)]

set_option maxHeartbeats 1000000 in
theorem txn_any (w : World) (b : Nat) (L : List Sl) (i : Int) (t : Nat) (h : TabAt b w L) (x : Option Sl) (hx : goodM L i t = x) :
    Calls Try.prog 19 #[.pointer (some ⟨b, 0, none⟩), hdl i t] w fun r w' => r = .returned (txnR x) ∧ w.grownBy w' none := by
  have H := Lib.hid h
  obtain ⟨e0, e1⟩ := hcells w (.int .i64 i) (.int .u64 (t : Int)) 36
  have HA := Lib.hid (World.grownBy_alloc w (.cells #[.int .i64 i, .int .u64 (t : Int)] 36) none)
  have HX := Lib.hid hx
  clear h
  cases x with
  | none =>
    clear hx
    go_enter Try.func19, Try.ntmps19
    go_wp2_with (first
      | (go_at_call 27; (with_reducible refine (good_any _ b L i t (H.out.grown HA.out)).mono ?_); rintro r w1 ⟨rfl, hg⟩; have HG := Lib.hid hg; clear hg; rw [HX.out, ptrAt])
      | go_in)
    go_ret2
    exact ⟨rfl, gtrans HA.out HG.out⟩
  | some s =>
    obtain ⟨y1, y2⟩ := goodM_some hx
    obtain ⟨q0, q1, q2⟩ := takenM_some y1
    have Q1 := Lib.hid q1
    clear hx y1 y2 q1 q2
    go_enter Try.func19, Try.ntmps19
    go_wp2_with (first
      | (go_at_call 27; (with_reducible refine (good_any _ b L i t (H.out.grown HA.out)).mono ?_); rintro r w1 ⟨rfl, hg⟩; have HG := Lib.hid hg; clear hg; rw [HX.out, ptrAt]
         have c2 := (((H.out.grown HA.out).grown HG.out).cells Q1.out).2.2)
      | (go_at_call 31; (with_reducible refine (uload_any ⟨b, 3 * i.toNat + 2, none⟩ (s.rd : Int) _ rfl c2).mono ?_); rintro r w2 ⟨rfl, rfl⟩)
      | go_in)
    go_ret2
    exact ⟨rfl, gtrans HA.out HG.out⟩

theorem txn_nil (w : World) (i : Int) (t : Nat) : Calls Try.prog 19 #[.pointer none, hdl i t] w fun r w' => r = .returned (.tuple #[.int .u64 0, .int .i64 25]) ∧ w.grownBy w' none := by
  obtain ⟨e0, e1⟩ := hcells w (.int .i64 i) (.int .u64 (t : Int)) 36
  have HA := Lib.hid (World.grownBy_alloc w (.cells #[.int .i64 i, .int .u64 (t : Int)] 36) none)
  go_enter Try.func19, Try.ntmps19
  go_wp2_with (first
    | (go_at_call 27; (with_reducible refine (good_nil _ i t).mono ?_); rintro r w1 ⟨rfl, hg⟩; have HG := Lib.hid hg; clear hg)
    | go_in)
  go_ret2
  exact ⟨rfl, gtrans HA.out HG.out⟩

theorem end_no (w : World) (b : Nat) (L : List Sl) (i : Int) (t : Nat) (h : TabAt b w L) (hx : goodM L i t = none) :
    Calls Try.prog 13 #[.pointer (some ⟨b, 0, none⟩), hdl i t] w fun r w' => r = .returned (.int .i64 25) ∧ w.grownBy w' none := by
  have H := Lib.hid h
  obtain ⟨e0, e1⟩ := hcells w (.int .i64 i) (.int .u64 (t : Int)) 36
  have HA := Lib.hid (World.grownBy_alloc w (.cells #[.int .i64 i, .int .u64 (t : Int)] 36) none)
  have HX := Lib.hid hx
  clear h hx
  go_enter Try.func13, Try.ntmps13
  go_wp2_with (first
    | (go_at_call 27; (with_reducible refine (good_any _ b L i t (H.out.grown HA.out)).mono ?_); rintro r w1 ⟨rfl, hg⟩; have HG := Lib.hid hg; clear hg; rw [HX.out, ptrAt])
    | go_in)
  go_ret
  exact ⟨rfl, gtrans HA.out HG.out⟩
theorem end9_nil (w : World) (i : Int) (t : Nat) : Calls Try.prog 13 #[.pointer none, hdl i t] w fun r w' => r = .returned (.int .i64 25) ∧ w.grownBy w' none := by
  obtain ⟨e0, e1⟩ := hcells w (.int .i64 i) (.int .u64 (t : Int)) 36
  have HA := Lib.hid (World.grownBy_alloc w (.cells #[.int .i64 i, .int .u64 (t : Int)] 36) none)
  go_enter Try.func13, Try.ntmps13
  go_wp2_with (first
    | (go_at_call 27; (with_reducible refine (good_nil _ i t).mono ?_); rintro r w1 ⟨rfl, hg⟩; have HG := Lib.hid hg; clear hg)
    | go_in)
  go_ret
  exact ⟨rfl, gtrans HA.out HG.out⟩

/-- A table whose other blocks are new, or as they were. -/
def TabTo (b : Nat) (w w' : World) (L : List Sl) : Prop := TabAt b w' L ∧ w.grownBy w' (some b)

theorem end_yes (w : World) (b : Nat) (L : List Sl) (i : Int) (t : Nat) (s : Sl) (h : TabAt b w L) (hx : goodM L i t = some s) :
    Calls Try.prog 13 #[.pointer (some ⟨b, 0, none⟩), hdl i t] w fun r w' => r = .returned (.int .i64 0) ∧ TabTo b w w' (L.set i.toNat (send s)) := by
  have H := Lib.hid h
  obtain ⟨e0, e1⟩ := hcells w (.int .i64 i) (.int .u64 (t : Int)) 36
  have HA := Lib.hid (World.grownBy_alloc w (.cells #[.int .i64 i, .int .u64 (t : Int)] 36) none)
  have HX := Lib.hid hx
  obtain ⟨y1, y2⟩ := goodM_some hx
  obtain ⟨q0, q1, q2⟩ := takenM_some y1
  have Q1 := Lib.hid q1
  clear h hx y1 y2 q1 q2
  go_enter Try.func13, Try.ntmps13
  go_wp2_with (first
    | (go_at_call 27; (with_reducible refine (good_any _ b L i t (H.out.grown HA.out)).mono ?_); rintro r w1 ⟨rfl, hg⟩; have HG := Lib.hid hg; clear hg; rw [HX.out, ptrAt])
    | (go_at_call 28; (with_reducible refine (send_any w1 b i.toNat L s ((H.out.grown HA.out).grown HG.out) Q1.out).mono ?_); rintro r w2 ⟨rfl, rfl⟩)
    | go_in)
  go_ret
  refine ⟨rfl, ((H.out.grown HA.out).grown HG.out).set2 Q1.out, gtrans (gtrans (gwide HA.out) (gwide HG.out)) (gtrans (gset w1 ⟨b, _, none⟩ _) (gset _ ⟨b, _, none⟩ _))⟩

theorem dead_no (w : World) (b : Nat) (L : List Sl) (i : Int) (h : TabAt b w L) (hx : takenM L i = none) :
    Calls Try.prog 15 #[.pointer (some ⟨b, 0, none⟩), .int .i64 i] w fun r w' => r = .returned (.bool false) ∧ w = w' := by
  have H := Lib.hid h
  have HX := Lib.hid hx
  clear h hx
  go_enter Try.func15, Try.ntmps15
  go_wp2_with (first
    | (go_at_call 29; (with_reducible refine (taken_any w b L i H.out).mono ?_); rintro r w1 ⟨rfl, rfl⟩; rw [HX.out, ptrAt])
    | go_in)
  go_ret
  exact ⟨rfl, rfl⟩
theorem dead_nil (w : World) (i : Int) : Calls Try.prog 15 #[.pointer none, .int .i64 i] w fun r w' => r = .returned (.bool false) ∧ w = w' := by
  go_enter Try.func15, Try.ntmps15
  go_wp2_with (first
    | (go_at_call 29; (with_reducible refine (taken_nil w i).mono ?_); rintro r w1 ⟨rfl, rfl⟩)
    | go_in)
  go_ret
  exact ⟨rfl, rfl⟩
def sdead (s : Sl) : Sl := ⟨2, s.turn, s.rd⟩
theorem dead_yes (w : World) (b : Nat) (L : List Sl) (i : Int) (s : Sl) (h : TabAt b w L) (hx : takenM L i = some s) :
    Calls Try.prog 15 #[.pointer (some ⟨b, 0, none⟩), .int .i64 i] w fun r w' => r = .returned (.bool true) ∧ TabTo b w w' (L.set i.toNat (sdead s)) := by
  obtain ⟨q0, q1, q2⟩ := takenM_some hx
  have HX := Lib.hid hx
  have Q1 := Lib.hid q1
  have c0 := (h.cells q1).1
  have f0 := h.free (3 * i.toNat)
  have H := Lib.hid h
  clear h hx q1 q2
  go_enter Try.func15, Try.ntmps15
  go_wp2_with (first
    | (go_at_call 29; (with_reducible refine (taken_any w b L i H.out).mono ?_); rintro r w1 ⟨rfl, rfl⟩; rw [HX.out, ptrAt])
    | go_in)
  go_ret
  exact ⟨rfl, H.out.set1 Q1.out, gset w ⟨b, _, none⟩ _⟩

end Go.Proofs.Ytoaglkbobndmeaa
