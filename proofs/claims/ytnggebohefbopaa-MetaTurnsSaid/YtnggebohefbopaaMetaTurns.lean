/-
  'MetaTurns' returns true for every input: of two changes on end the later one's is chosen; if its page isn't there, or only another page's bytes, the earlier one's. No condition. Own work; the frame is the guide's.
-/
import Derived.Test.YtnggebohefbopaaMetY
import Derived.OwnWalk
import Derived.ProofKit
import Derived.OpenShut
import Derived.ShutString
import Derived.ChangeOld
namespace Go.Proofs.Ytnggebohefbopaa
open Go.RowKit

theorem is_none {s : Nat} {l : List Int} (h : mgetE l ≠ 0) : isOf s l = false := by unfold isOf; simp [h]
theorem other_no {xs : List Int} (h : xs = [] ∨ xs.getD 0 0 ≠ 82) : mgetE xs ≠ 0 := by
  rw [mget_mark]
  · decide
  · intro e
    have h4 := congrArg (fun l => l.getD 0 0) e
    rcases h with rfl | h
    · simp [RUB] at h4
    · apply h
      have : (xs.take 4).getD 0 0 = xs.getD 0 0 := getD_take _ _ _ (by decide)
      rw [← this, e]; rfl
theorem chose_any {W : World} {a0 a1 : Option Addr} {n0 c0 n1 c1 : Nat} {a b : List Int} (ha : Seq W.heap.size W (.slice a0 n0 c0) a) (hb : Seq W.heap.size W (.slice a1 n1 c1) b) (hba : Byt a) (hbb : Byt b) :
    Calls Try.prog 21 #[.slice a0 n0 c0, .slice a1 n1 c1] W fun r w' => ∃ x e m f E, r = .returned (.tuple #[.agg #[.int .u64 x, .int .u32 e, .int .u32 m, .int .u32 f], .int .i64 E]) ∧ W.grownBy w' none :=
  (choose_any W a0 n0 c0 a a1 n1 c1 b ha hb hba hbb).mono fun r w' h => ⟨_, _, _, _, _, h.1, h.2⟩

set_option maxRecDepth 30000 in
set_option maxHeartbeats 4000000 in
theorem turns_a (w : World) (t e size : Int) (gone : Bool) (ao : Option Addr) (n c : Nat) (h : size < 512) :
    Calls Try.prog 6 #[.int .u64 t, .int .u32 e, .int .i64 size, .bool gone, .slice ao n c] w fun r w' => r = .returned (.bool true) ∧ Below w.heap.size w w' := by
  have d1 : decide (size < 512) = true := by simp; omega
  go_enter Try.func6, Try.ntmps6
  go_wp2_with (first
    | (go_at_call 10; have K := awake7_any w; ((with_reducible refine K.mono ?_); clear K; rintro r wA ⟨rfl, hgA⟩); have GA := Lib.hid hgA; clear hgA))
  go_ret
  exact ⟨rfl, gbelow GA.out⟩

set_option maxRecDepth 30000 in
set_option maxHeartbeats 4000000 in
theorem turns_b (w : World) (t e size : Int) (gone : Bool) (ao : Option Addr) (n c : Nat) (h1 : ¬ size < 512) (h : 4096 < size) :
    Calls Try.prog 6 #[.int .u64 t, .int .u32 e, .int .i64 size, .bool gone, .slice ao n c] w fun r w' => r = .returned (.bool true) ∧ Below w.heap.size w w' := by
  have d1 : decide (size < 512) = false := by simp; omega
  have d2 : decide ((4096 : Int) < size) = true := by simp; omega
  go_enter Try.func6, Try.ntmps6
  go_wp2_with (first
    | (go_at_call 10; have K := awake7_any w; ((with_reducible refine K.mono ?_); clear K; rintro r wA ⟨rfl, hgA⟩); have GA := Lib.hid hgA; clear hgA))
  go_ret
  exact ⟨rfl, gbelow GA.out⟩

set_option maxRecDepth 30000 in
set_option maxHeartbeats 4000000 in
theorem turns_c (w : World) (t e size : Int) (gone : Bool) (ao : Option Addr) (n c : Nat) (h1 : ¬ size < 512) (h2 : ¬ 4096 < size) (h : t < 1) :
    Calls Try.prog 6 #[.int .u64 t, .int .u32 e, .int .i64 size, .bool gone, .slice ao n c] w fun r w' => r = .returned (.bool true) ∧ Below w.heap.size w w' := by
  have d1 : decide (size < 512) = false := by simp; omega
  have d2 : decide ((4096 : Int) < size) = false := by simp; omega
  have d3 : decide (t < 1) = true := by simp; omega
  go_enter Try.func6, Try.ntmps6
  go_wp2_with (first
    | (go_at_call 10; have K := awake7_any w; ((with_reducible refine K.mono ?_); clear K; rintro r wA ⟨rfl, hgA⟩); have GA := Lib.hid hgA; clear hgA))
  go_ret
  exact ⟨rfl, gbelow GA.out⟩

set_option maxRecDepth 30000 in
set_option maxHeartbeats 4000000 in
theorem turns_d (w : World) (t e size : Int) (gone : Bool) (ao : Option Addr) (n c : Nat) (h1 : ¬ size < 512) (h2 : ¬ 4096 < size) (h3 : ¬ t < 1) (h : t = 18446744073709551615) :
    Calls Try.prog 6 #[.int .u64 t, .int .u32 e, .int .i64 size, .bool gone, .slice ao n c] w fun r w' => r = .returned (.bool true) ∧ Below w.heap.size w w' := by
  have d1 : decide (size < 512) = false := by simp; omega
  have d2 : decide ((4096 : Int) < size) = false := by simp; omega
  have d3 : decide (t < 1) = false := by simp; omega
  subst h
  go_enter Try.func6, Try.ntmps6
  go_wp2_with (first
    | (go_at_call 10; have K := awake7_any w; ((with_reducible refine K.mono ?_); clear K; rintro r wA ⟨rfl, hgA⟩); have GA := Lib.hid hgA; clear hgA))
  go_ret
  exact ⟨rfl, gbelow GA.out⟩

set_option maxRecDepth 30000 in
set_option maxHeartbeats 4000000 in
theorem turns_e (w : World) (t e size : Int) (gone : Bool) (ao : Option Addr) (n c : Nat) (h1 : ¬ size < 512) (h2 : ¬ 4096 < size) (h3 : ¬ t < 1) (h4 : ¬ t = 18446744073709551615) (h : e < 4) :
    Calls Try.prog 6 #[.int .u64 t, .int .u32 e, .int .i64 size, .bool gone, .slice ao n c] w fun r w' => r = .returned (.bool true) ∧ Below w.heap.size w w' := by
  have d1 : decide (size < 512) = false := by simp; omega
  have d2 : decide ((4096 : Int) < size) = false := by simp; omega
  have d3 : decide (t < 1) = false := by simp; omega
  have d4 : (t == 18446744073709551615) = false := by simp; omega
  have d5 : decide (e < 4) = true := by simp; omega
  go_enter Try.func6, Try.ntmps6
  go_wp2_with (first
    | (go_at_call 10; have K := awake7_any w; ((with_reducible refine K.mono ?_); clear K; rintro r wA ⟨rfl, hgA⟩); have GA := Lib.hid hgA; clear hgA))
  go_ret
  exact ⟨rfl, gbelow GA.out⟩

set_option maxRecDepth 30000 in
set_option maxHeartbeats 4000000 in
theorem turns_f (w : World) (t e size : Int) (gone : Bool) (ao : Option Addr) (n c : Nat) (h1 : ¬ size < 512) (h2 : ¬ 4096 < size) (h3 : ¬ t < 1) (h4 : ¬ t = 18446744073709551615) (h5 : ¬ e < 4) (h : 5000 < n) :
    Calls Try.prog 6 #[.int .u64 t, .int .u32 e, .int .i64 size, .bool gone, .slice ao n c] w fun r w' => r = .returned (.bool true) ∧ Below w.heap.size w w' := by
  have d1 : decide (size < 512) = false := by simp; omega
  have d2 : decide ((4096 : Int) < size) = false := by simp; omega
  have d3 : decide (t < 1) = false := by simp; omega
  have d4 : (t == 18446744073709551615) = false := by simp; omega
  have d5 : decide (e < 4) = false := by simp; omega
  have d6 : decide ((5000 : Int) < (n : Int)) = true := by simp; omega
  go_enter Try.func6, Try.ntmps6
  go_wp2_with (first
    | (go_at_call 10; have K := awake7_any w; ((with_reducible refine K.mono ?_); clear K; rintro r wA ⟨rfl, hgA⟩); have GA := Lib.hid hgA; clear hgA))
  go_ret
  exact ⟨rfl, gbelow GA.out⟩

set_option maxRecDepth 30000 in
set_option maxHeartbeats 4000000 in
theorem turns_g (w : World) (t e size : Int) (gone : Bool) (ao : Option Addr) (n c : Nat) (xs : List Int) (h1 : ¬ size < 512) (h2 : ¬ 4096 < size) (h3 : ¬ t < 1) (h4 : ¬ t = 18446744073709551615) (h5 : ¬ e < 4) (h6 : ¬ 5000 < n) (hs : Seq w.heap.size w (.slice ao n c) xs) (h0 : 0 < n) (hR : xs.getD 0 0 = 82) :
    Calls Try.prog 6 #[.int .u64 t, .int .u32 e, .int .i64 size, .bool gone, .slice ao n c] w fun r w' => r = .returned (.bool true) ∧ Below w.heap.size w w' := by
  have d1 : decide (size < 512) = false := by simp; omega
  have d2 : decide ((4096 : Int) < size) = false := by simp; omega
  have d3 : decide (t < 1) = false := by simp; omega
  have d4 : (t == 18446744073709551615) = false := by simp; omega
  have d5 : decide (e < 4) = false := by simp; omega
  have d6 : decide ((5000 : Int) < (n : Int)) = false := by simp; omega
  have hn : n = xs.length := by obtain ⟨_, _, hv, _⟩ := hs; injection hv
  obtain ⟨b, o, rfl, hc⟩ := hs.cellAt 0 (by omega)
  have hblt := World.block_lt_of_cell? _ _ hc
  rw [hR, Nat.add_zero] at hc
  have d7 : decide ((0 : Int) < (n : Int)) = true := by simp; omega
  have d7i : (0 : Int) < (n : Int) := by omega
  have HC := Lib.hid hc
  clear hc hs hn
  go_enter Try.func6, Try.ntmps6
  go_wp2_with (first
    | (go_at_call 10; have K := awake7_any w; ((with_reducible refine K.mono ?_); clear K; rintro r wA ⟨rfl, hgA⟩); have GA := Lib.hid hgA; have hcc := hgA.cell HC.out (by simp); clear hgA))
  go_ret
  exact ⟨rfl, gbelow GA.out⟩

set_option maxRecDepth 30000 in
set_option maxHeartbeats 4000000 in
theorem turns_ke (w : World) (t e S : Nat) (ao : Option Addr) (n c : Nat) (xs : List Int) (h1 : 512 ≤ S) (h2 : S ≤ 4096) (h3 : 1 ≤ t) (h4 : t < 18446744073709551615) (h5 : 4 ≤ e) (h5' : e < 4294967296) (h6 : n ≤ 5000) (hs : Seq w.heap.size w (.slice ao n c) xs) (hb : Byt xs)
    (hp : t % 2 = 0) (h0 : 0 < n) (hR : xs.getD 0 0 ≠ 82) :
    Calls Try.prog 6 #[.int .u64 (t : Int), .int .u32 (e : Int), .int .i64 (S : Int), .bool false, .slice ao n c] w fun r w' => r = .returned (.bool true) ∧ Below w.heap.size w w' := by
  have d1 : decide ((S : Int) < 512) = false := by simp; omega
  have d2 : decide ((4096 : Int) < (S : Int)) = false := by simp; omega
  have d3 : decide ((t : Int) < 1) = false := by simp; omega
  have d4 : ((t : Int) == 18446744073709551615) = false := by simp; omega
  have d5 : decide ((e : Int) < 4) = false := by simp; omega
  have d6 : decide ((5000 : Int) < (n : Int)) = false := by simp; omega
  have d4i : ¬ (t : Int) = 18446744073709551615 := by omega
  have hn : n = xs.length := by obtain ⟨_, _, hv, _⟩ := hs; injection hv
  have hw1 : IntKind.u64.wrap ((t : Int) + 1) = (t : Int) + 1 := by rw [show IntKind.u64.wrap ((t : Int) + 1) = ((t : Int) + 1) % 18446744073709551616 from rfl]; omega
  have hpi : (t : Int) % 2 = 0 := by omega
  have hgA : Good ⟨t, e, 2, 0⟩ S := ⟨⟨by show t < _; omega, h5', by show (2 : Nat) < 4294967296; decide, by show (0 : Nat) < 4294967296; decide⟩, by simp [mright, rpg]; omega, h1, h2⟩
  have hgB : Good ⟨t + 1, e, 3, 0⟩ S := ⟨⟨by show t + 1 < _; omega, h5', by show (3 : Nat) < 4294967296; decide, by show (0 : Nat) < 4294967296; decide⟩, by simp [mright, rpg]; omega, h1, h2⟩
  have hno := other_no (xs := xs) (.inr hR)
  obtain ⟨b, o, rfl, hc⟩ := hs.cellAt 0 (by omega)
  rw [Nat.add_zero] at hc
  have d7 : decide ((0 : Int) < (n : Int)) = true := by simp; omega
  have d7i : (0 : Int) < (n : Int) := by omega
  obtain ⟨x, hx⟩ : ∃ x, x = xs.getD 0 0 := ⟨_, rfl⟩
  rw [← hx] at hc hR
  have hRd : (x == 82) = false := by simpa using hR
  have HCell := Lib.hid hc
  clear hc hx hR
  have HPA : Hid (∀ W : World, Calls Try.prog 12 #[.agg #[.int .u64 (t : Int), .int .u32 (e : Int), .int .u32 2, .int .u32 0], .int .i64 (S : Int)] W fun r w' => ∃ ao c, r = .returned (.tuple #[.slice ao S c, .int .i64 0]) ∧
      w'.ownsRow W.heap.size 5 1 (.slice ao S c) S ((mpage ⟨t, e, 2, 0⟩ S).map (.int .u8)) ∧ W.grownBy w' none) := Lib.hid (fun W => mput_ok W _ hgA.ok hgA.right S h1 h2)
  have HPB : Hid (∀ W : World, Calls Try.prog 12 #[.agg #[.int .u64 ((t : Int) + 1), .int .u32 (e : Int), .int .u32 3, .int .u32 0], .int .i64 (S : Int)] W fun r w' => ∃ ao c, r = .returned (.tuple #[.slice ao S c, .int .i64 0]) ∧
      w'.ownsRow W.heap.size 5 1 (.slice ao S c) S ((mpage ⟨t + 1, e, 3, 0⟩ S).map (.int .u8)) ∧ W.grownBy w' none) := Lib.hid (fun W => mput_ok W ⟨t + 1, e, 3, 0⟩ hgB.ok hgB.right S h1 h2)
  have hch := ch_lt hgA hgB hp (by show (t + 1) % 2 = 1; omega) (by show t < t + 1; omega)
  have HLA := Lib.hid hgA.len
  have HLB := Lib.hid hgB.len
  have HBA := Lib.hid (mpage_byt ⟨t, e, 2, 0⟩ S)
  have HBB := Lib.hid (mpage_byt ⟨t + 1, e, 3, 0⟩ S)
  have HBX := Lib.hid hb
  generalize mpage ⟨t, e, 2, 0⟩ S = pA at *
  generalize mpage ⟨t + 1, e, 3, 0⟩ S = pB at *
  have HCh := Lib.hid hch
  have HSL : Hid (∀ W : World, Calls Try.prog 16 #[.int .u64 (t : Int)] W fun r w' => r = .returned (.int .i64 0) ∧ W = w') := Lib.hid (fun W => (mslot_any t (by omega) W).mono fun r w' h => by rw [hp] at h; exact h)
  have HSM : Hid (∀ W : World, Calls Try.prog 16 #[.int .u64 ((t : Int) + 1)] W fun r w' => r = .returned (.int .i64 1) ∧ W = w') := Lib.hid (fun W => (mslot_any (t + 1) (by omega) W).mono fun r w' h => by rw [show (t + 1) % 2 = 1 by omega] at h; exact h)
  have HSX := Lib.hid hs
  have HXL := Lib.hid hn
  clear hgA hgB hch hno hs hb hn hp
  go_enter Try.func6, Try.ntmps6
  go_wp2_with (first
    | (go_at_call 10; have K := awake7_any w; ((with_reducible refine K.mono ?_); clear K; rintro r wA ⟨rfl, hgA⟩); have GA := Lib.hid hgA; have SX1 := Lib.hid (HSX.out.grown hgA); have hcc := hgA.cell HCell.out (by simp); clear hgA)
    | (go_at_call 12; have K := HPA.out wA; ((with_reducible refine K.mono ?_); clear K; rintro r w2 ⟨a0, c0, rfl, ho, hg⟩); have SA2 := Lib.hid (Seq.owned1 HLA.out ho); have SX2 := Lib.hid (SX1.out.grown hg); have G2 := Lib.hid (gtrans GA.out hg); clear ho hg)
    | (go_at_call 12; have K := HPB.out w2; ((with_reducible refine K.mono ?_); clear K; rintro r w3 ⟨a1, c1, rfl, ho, hg⟩); have SB3 := Lib.hid (Seq.owned1 HLB.out ho); have SA3 := Lib.hid (SA2.out.grown hg); have SX3 := Lib.hid (SX2.out.grown hg); have G3 := Lib.hid (gtrans G2.out hg); clear ho hg)
    | (go_at_call 21; have K : Calls Try.prog 21 #[.slice a0 S c0, .slice a1 S c1] w3 (fun r w' => r = .returned (.tuple #[.agg #[.int .u64 ((t : Int) + 1), .int .u32 (e : Int), .int .u32 3, .int .u32 0], .int .i64 0]) ∧ w3.grownBy w' none) := choose_as (W := w3) SA3.out SB3.out HBA.out HBB.out HCh.out; ((with_reducible refine K.mono ?_); clear K; rintro r w4 ⟨rfl, hg⟩); have hg4 := gtrans hg (World.grownBy_alloc w4 (.cells #[.int .u64 ((t : Int) + 1), .int .u32 (e : Int), .int .u32 3, .int .u32 0] 29) none); have G4 := Lib.hid (gtrans G3.out hg4); have Q4 := Lib.hid (heap_alloc_new w4 (.cells #[.int .u64 ((t : Int) + 1), .int .u32 (e : Int), .int .u32 3, .int .u32 0] 29)); obtain ⟨⟨q0, q1, q2, q3⟩, _⟩ := cells4 Q4.out; clear hg hg4)
    | (go_at_call 16; have K := HSL.out (w4.alloc (.cells #[.int .u64 ((t : Int) + 1), .int .u32 (e : Int), .int .u32 3, .int .u32 0] 29)); ((with_reducible refine K.mono ?_); clear K; rintro r w5 ⟨rfl, rfl⟩))
    | (go_at_call 16; have K := HSM.out (w4.alloc (.cells #[.int .u64 ((t : Int) + 1), .int .u32 (e : Int), .int .u32 3, .int .u32 0] 29)); ((with_reducible refine K.mono ?_); clear K; rintro r w5 ⟨rfl, rfl⟩)))
  go_ret
  exact ⟨rfl, gbelow G4.out⟩

set_option maxRecDepth 30000 in
set_option maxHeartbeats 4000000 in
theorem turns_ke0 (w : World) (t e S : Nat) (ao : Option Addr) (n c : Nat) (xs : List Int) (h1 : 512 ≤ S) (h2 : S ≤ 4096) (h3 : 1 ≤ t) (h4 : t < 18446744073709551615) (h5 : 4 ≤ e) (h5' : e < 4294967296) (h6 : n ≤ 5000) (hs : Seq w.heap.size w (.slice ao n c) xs) (hb : Byt xs)
    (hp : t % 2 = 0) (h0 : n = 0) :
    Calls Try.prog 6 #[.int .u64 (t : Int), .int .u32 (e : Int), .int .i64 (S : Int), .bool false, .slice ao n c] w fun r w' => r = .returned (.bool true) ∧ Below w.heap.size w w' := by
  have d1 : decide ((S : Int) < 512) = false := by simp; omega
  have d2 : decide ((4096 : Int) < (S : Int)) = false := by simp; omega
  have d3 : decide ((t : Int) < 1) = false := by simp; omega
  have d4 : ((t : Int) == 18446744073709551615) = false := by simp; omega
  have d5 : decide ((e : Int) < 4) = false := by simp; omega
  have d6 : decide ((5000 : Int) < (n : Int)) = false := by simp; omega
  have d4i : ¬ (t : Int) = 18446744073709551615 := by omega
  have hn : n = xs.length := by obtain ⟨_, _, hv, _⟩ := hs; injection hv
  have hw1 : IntKind.u64.wrap ((t : Int) + 1) = (t : Int) + 1 := by rw [show IntKind.u64.wrap ((t : Int) + 1) = ((t : Int) + 1) % 18446744073709551616 from rfl]; omega
  have hpi : (t : Int) % 2 = 0 := by omega
  have hgA : Good ⟨t, e, 2, 0⟩ S := ⟨⟨by show t < _; omega, h5', by show (2 : Nat) < 4294967296; decide, by show (0 : Nat) < 4294967296; decide⟩, by simp [mright, rpg]; omega, h1, h2⟩
  have hgB : Good ⟨t + 1, e, 3, 0⟩ S := ⟨⟨by show t + 1 < _; omega, h5', by show (3 : Nat) < 4294967296; decide, by show (0 : Nat) < 4294967296; decide⟩, by simp [mright, rpg]; omega, h1, h2⟩
  have hno := other_no (xs := xs) (.inl (List.eq_nil_of_length_eq_zero (by omega)))
  subst h0
  have HPA : Hid (∀ W : World, Calls Try.prog 12 #[.agg #[.int .u64 (t : Int), .int .u32 (e : Int), .int .u32 2, .int .u32 0], .int .i64 (S : Int)] W fun r w' => ∃ ao c, r = .returned (.tuple #[.slice ao S c, .int .i64 0]) ∧
      w'.ownsRow W.heap.size 5 1 (.slice ao S c) S ((mpage ⟨t, e, 2, 0⟩ S).map (.int .u8)) ∧ W.grownBy w' none) := Lib.hid (fun W => mput_ok W _ hgA.ok hgA.right S h1 h2)
  have HPB : Hid (∀ W : World, Calls Try.prog 12 #[.agg #[.int .u64 ((t : Int) + 1), .int .u32 (e : Int), .int .u32 3, .int .u32 0], .int .i64 (S : Int)] W fun r w' => ∃ ao c, r = .returned (.tuple #[.slice ao S c, .int .i64 0]) ∧
      w'.ownsRow W.heap.size 5 1 (.slice ao S c) S ((mpage ⟨t + 1, e, 3, 0⟩ S).map (.int .u8)) ∧ W.grownBy w' none) := Lib.hid (fun W => mput_ok W ⟨t + 1, e, 3, 0⟩ hgB.ok hgB.right S h1 h2)
  have hch := ch_lt hgA hgB hp (by show (t + 1) % 2 = 1; omega) (by show t < t + 1; omega)
  have HLA := Lib.hid hgA.len
  have HLB := Lib.hid hgB.len
  have HBA := Lib.hid (mpage_byt ⟨t, e, 2, 0⟩ S)
  have HBB := Lib.hid (mpage_byt ⟨t + 1, e, 3, 0⟩ S)
  have HBX := Lib.hid hb
  generalize mpage ⟨t, e, 2, 0⟩ S = pA at *
  generalize mpage ⟨t + 1, e, 3, 0⟩ S = pB at *
  have HCh := Lib.hid hch
  have HSL : Hid (∀ W : World, Calls Try.prog 16 #[.int .u64 (t : Int)] W fun r w' => r = .returned (.int .i64 0) ∧ W = w') := Lib.hid (fun W => (mslot_any t (by omega) W).mono fun r w' h => by rw [hp] at h; exact h)
  have HSM : Hid (∀ W : World, Calls Try.prog 16 #[.int .u64 ((t : Int) + 1)] W fun r w' => r = .returned (.int .i64 1) ∧ W = w') := Lib.hid (fun W => (mslot_any (t + 1) (by omega) W).mono fun r w' h => by rw [show (t + 1) % 2 = 1 by omega] at h; exact h)
  have HSX := Lib.hid hs
  have HXL := Lib.hid hn
  clear hgA hgB hch hno hs hb hn hp
  go_enter Try.func6, Try.ntmps6
  go_wp2_with (first
    | (go_at_call 10; have K := awake7_any w; ((with_reducible refine K.mono ?_); clear K; rintro r wA ⟨rfl, hgA⟩); have GA := Lib.hid hgA; have SX1 := Lib.hid (HSX.out.grown hgA); clear hgA)
    | (go_at_call 12; have K := HPA.out wA; ((with_reducible refine K.mono ?_); clear K; rintro r w2 ⟨a0, c0, rfl, ho, hg⟩); have SA2 := Lib.hid (Seq.owned1 HLA.out ho); have SX2 := Lib.hid (SX1.out.grown hg); have G2 := Lib.hid (gtrans GA.out hg); clear ho hg)
    | (go_at_call 12; have K := HPB.out w2; ((with_reducible refine K.mono ?_); clear K; rintro r w3 ⟨a1, c1, rfl, ho, hg⟩); have SB3 := Lib.hid (Seq.owned1 HLB.out ho); have SA3 := Lib.hid (SA2.out.grown hg); have SX3 := Lib.hid (SX2.out.grown hg); have G3 := Lib.hid (gtrans G2.out hg); clear ho hg)
    | (go_at_call 21; have K : Calls Try.prog 21 #[.slice a0 S c0, .slice a1 S c1] w3 (fun r w' => r = .returned (.tuple #[.agg #[.int .u64 ((t : Int) + 1), .int .u32 (e : Int), .int .u32 3, .int .u32 0], .int .i64 0]) ∧ w3.grownBy w' none) := choose_as (W := w3) SA3.out SB3.out HBA.out HBB.out HCh.out; ((with_reducible refine K.mono ?_); clear K; rintro r w4 ⟨rfl, hg⟩); have hg4 := gtrans hg (World.grownBy_alloc w4 (.cells #[.int .u64 ((t : Int) + 1), .int .u32 (e : Int), .int .u32 3, .int .u32 0] 29) none); have G4 := Lib.hid (gtrans G3.out hg4); have Q4 := Lib.hid (heap_alloc_new w4 (.cells #[.int .u64 ((t : Int) + 1), .int .u32 (e : Int), .int .u32 3, .int .u32 0] 29)); obtain ⟨⟨q0, q1, q2, q3⟩, _⟩ := cells4 Q4.out; clear hg hg4)
    | (go_at_call 16; have K := HSL.out (w4.alloc (.cells #[.int .u64 ((t : Int) + 1), .int .u32 (e : Int), .int .u32 3, .int .u32 0] 29)); ((with_reducible refine K.mono ?_); clear K; rintro r w5 ⟨rfl, rfl⟩))
    | (go_at_call 16; have K := HSM.out (w4.alloc (.cells #[.int .u64 ((t : Int) + 1), .int .u32 (e : Int), .int .u32 3, .int .u32 0] 29)); ((with_reducible refine K.mono ?_); clear K; rintro r w5 ⟨rfl, rfl⟩)))
  go_ret
  exact ⟨rfl, gbelow G4.out⟩

set_option maxRecDepth 30000 in
set_option maxHeartbeats 4000000 in
theorem turns_ko (w : World) (t e S : Nat) (ao : Option Addr) (n c : Nat) (xs : List Int) (h1 : 512 ≤ S) (h2 : S ≤ 4096) (h3 : 1 ≤ t) (h4 : t < 18446744073709551615) (h5 : 4 ≤ e) (h5' : e < 4294967296) (h6 : n ≤ 5000) (hs : Seq w.heap.size w (.slice ao n c) xs) (hb : Byt xs)
    (hp : t % 2 = 1) (h0 : 0 < n) (hR : xs.getD 0 0 ≠ 82) :
    Calls Try.prog 6 #[.int .u64 (t : Int), .int .u32 (e : Int), .int .i64 (S : Int), .bool false, .slice ao n c] w fun r w' => r = .returned (.bool true) ∧ Below w.heap.size w w' := by
  have d1 : decide ((S : Int) < 512) = false := by simp; omega
  have d2 : decide ((4096 : Int) < (S : Int)) = false := by simp; omega
  have d3 : decide ((t : Int) < 1) = false := by simp; omega
  have d4 : ((t : Int) == 18446744073709551615) = false := by simp; omega
  have d5 : decide ((e : Int) < 4) = false := by simp; omega
  have d6 : decide ((5000 : Int) < (n : Int)) = false := by simp; omega
  have d4i : ¬ (t : Int) = 18446744073709551615 := by omega
  have hn : n = xs.length := by obtain ⟨_, _, hv, _⟩ := hs; injection hv
  have hw1 : IntKind.u64.wrap ((t : Int) + 1) = (t : Int) + 1 := by rw [show IntKind.u64.wrap ((t : Int) + 1) = ((t : Int) + 1) % 18446744073709551616 from rfl]; omega
  have hpi : (t : Int) % 2 = 1 := by omega
  have hgA : Good ⟨t, e, 2, 0⟩ S := ⟨⟨by show t < _; omega, h5', by show (2 : Nat) < 4294967296; decide, by show (0 : Nat) < 4294967296; decide⟩, by simp [mright, rpg]; omega, h1, h2⟩
  have hgB : Good ⟨t + 1, e, 3, 0⟩ S := ⟨⟨by show t + 1 < _; omega, h5', by show (3 : Nat) < 4294967296; decide, by show (0 : Nat) < 4294967296; decide⟩, by simp [mright, rpg]; omega, h1, h2⟩
  have hno := other_no (xs := xs) (.inr hR)
  obtain ⟨b, o, rfl, hc⟩ := hs.cellAt 0 (by omega)
  rw [Nat.add_zero] at hc
  have d7 : decide ((0 : Int) < (n : Int)) = true := by simp; omega
  have d7i : (0 : Int) < (n : Int) := by omega
  obtain ⟨x, hx⟩ : ∃ x, x = xs.getD 0 0 := ⟨_, rfl⟩
  rw [← hx] at hc hR
  have hRd : (x == 82) = false := by simpa using hR
  have HCell := Lib.hid hc
  clear hc hx hR
  have HPA : Hid (∀ W : World, Calls Try.prog 12 #[.agg #[.int .u64 (t : Int), .int .u32 (e : Int), .int .u32 2, .int .u32 0], .int .i64 (S : Int)] W fun r w' => ∃ ao c, r = .returned (.tuple #[.slice ao S c, .int .i64 0]) ∧
      w'.ownsRow W.heap.size 5 1 (.slice ao S c) S ((mpage ⟨t, e, 2, 0⟩ S).map (.int .u8)) ∧ W.grownBy w' none) := Lib.hid (fun W => mput_ok W _ hgA.ok hgA.right S h1 h2)
  have HPB : Hid (∀ W : World, Calls Try.prog 12 #[.agg #[.int .u64 ((t : Int) + 1), .int .u32 (e : Int), .int .u32 3, .int .u32 0], .int .i64 (S : Int)] W fun r w' => ∃ ao c, r = .returned (.tuple #[.slice ao S c, .int .i64 0]) ∧
      w'.ownsRow W.heap.size 5 1 (.slice ao S c) S ((mpage ⟨t + 1, e, 3, 0⟩ S).map (.int .u8)) ∧ W.grownBy w' none) := Lib.hid (fun W => mput_ok W ⟨t + 1, e, 3, 0⟩ hgB.ok hgB.right S h1 h2)
  have hch := ch_ge hgB hgA (by show (t + 1) % 2 = 0; omega) hp (by show ¬ t + 1 < t; omega)
  have HLA := Lib.hid hgA.len
  have HLB := Lib.hid hgB.len
  have HBA := Lib.hid (mpage_byt ⟨t, e, 2, 0⟩ S)
  have HBB := Lib.hid (mpage_byt ⟨t + 1, e, 3, 0⟩ S)
  have HBX := Lib.hid hb
  generalize mpage ⟨t, e, 2, 0⟩ S = pA at *
  generalize mpage ⟨t + 1, e, 3, 0⟩ S = pB at *
  have HCh := Lib.hid hch
  have HSL : Hid (∀ W : World, Calls Try.prog 16 #[.int .u64 (t : Int)] W fun r w' => r = .returned (.int .i64 1) ∧ W = w') := Lib.hid (fun W => (mslot_any t (by omega) W).mono fun r w' h => by rw [hp] at h; exact h)
  have HSM : Hid (∀ W : World, Calls Try.prog 16 #[.int .u64 ((t : Int) + 1)] W fun r w' => r = .returned (.int .i64 0) ∧ W = w') := Lib.hid (fun W => (mslot_any (t + 1) (by omega) W).mono fun r w' h => by rw [show (t + 1) % 2 = 0 by omega] at h; exact h)
  have HSX := Lib.hid hs
  have HXL := Lib.hid hn
  clear hgA hgB hch hno hs hb hn hp
  go_enter Try.func6, Try.ntmps6
  go_wp2_with (first
    | (go_at_call 10; have K := awake7_any w; ((with_reducible refine K.mono ?_); clear K; rintro r wA ⟨rfl, hgA⟩); have GA := Lib.hid hgA; have SX1 := Lib.hid (HSX.out.grown hgA); have hcc := hgA.cell HCell.out (by simp); clear hgA)
    | (go_at_call 12; have K := HPA.out wA; ((with_reducible refine K.mono ?_); clear K; rintro r w2 ⟨a0, c0, rfl, ho, hg⟩); have SA2 := Lib.hid (Seq.owned1 HLA.out ho); have SX2 := Lib.hid (SX1.out.grown hg); have G2 := Lib.hid (gtrans GA.out hg); clear ho hg)
    | (go_at_call 12; have K := HPB.out w2; ((with_reducible refine K.mono ?_); clear K; rintro r w3 ⟨a1, c1, rfl, ho, hg⟩); have SB3 := Lib.hid (Seq.owned1 HLB.out ho); have SA3 := Lib.hid (SA2.out.grown hg); have SX3 := Lib.hid (SX2.out.grown hg); have G3 := Lib.hid (gtrans G2.out hg); clear ho hg)
    | (go_at_call 21; have K := chose_any (W := w3) SA3.out SB3.out HBA.out HBB.out; ((with_reducible refine K.mono ?_); clear K; rintro r w4 ⟨x9, e9, m9, f9, E9, rfl, hg⟩); have hg4 := gtrans hg (World.grownBy_alloc w4 (.cells #[.int .u64 x9, .int .u32 e9, .int .u32 m9, .int .u32 f9] 29) none); have G4 := Lib.hid (gtrans G3.out hg4); have Q4 := Lib.hid (heap_alloc_new w4 (.cells #[.int .u64 x9, .int .u32 e9, .int .u32 m9, .int .u32 f9] 29)); have SA4 := Lib.hid (SA3.out.grown hg4); have SB4 := Lib.hid (SB3.out.grown hg4); have SX4 := Lib.hid (SX3.out.grown hg4); have G04 := Lib.hid (Nat.le_trans G3.out.size hg.size); clear hg hg4)
    | (go_at_call 21; have K : Calls Try.prog 21 #[.slice a1 S c1, .slice a0 S c0] (w4.alloc (.cells #[.int .u64 x9, .int .u32 e9, .int .u32 m9, .int .u32 f9] 29)) (fun r w' => r = .returned (.tuple #[.agg #[.int .u64 ((t : Int) + 1), .int .u32 (e : Int), .int .u32 3, .int .u32 0], .int .i64 0]) ∧ (w4.alloc (.cells #[.int .u64 x9, .int .u32 e9, .int .u32 m9, .int .u32 f9] 29)).grownBy w' none) := choose_as (W := w4.alloc (.cells #[.int .u64 x9, .int .u32 e9, .int .u32 m9, .int .u32 f9] 29)) SB4.out SA4.out HBB.out HBA.out HCh.out; ((with_reducible refine K.mono ?_); clear K; rintro r w5 ⟨rfl, hg⟩); have G5 := Lib.hid (gtrans G4.out hg); have Q5 := Lib.hid ((hg.block _ (lt_of_block Q4.out) (by simp)).trans Q4.out); obtain ⟨⟨q0, q1, q2, q3⟩, f0, f1, f2, f3⟩ := cells4 Q5.out; clear hg)
    | (go_at_call 16; ((with_reducible refine (HSL.out _).mono ?_); rintro r w6 ⟨rfl, rfl⟩))
    | (go_at_call 16; ((with_reducible refine (HSM.out _).mono ?_); rintro r w6 ⟨rfl, rfl⟩)))
  go_ret
  exact ⟨rfl, below4 (gbelow G5.out) G04.out _ _ _ _⟩

set_option maxRecDepth 30000 in
set_option maxHeartbeats 4000000 in
theorem turns_ko0 (w : World) (t e S : Nat) (ao : Option Addr) (n c : Nat) (xs : List Int) (h1 : 512 ≤ S) (h2 : S ≤ 4096) (h3 : 1 ≤ t) (h4 : t < 18446744073709551615) (h5 : 4 ≤ e) (h5' : e < 4294967296) (h6 : n ≤ 5000) (hs : Seq w.heap.size w (.slice ao n c) xs) (hb : Byt xs)
    (hp : t % 2 = 1) (h0 : n = 0) :
    Calls Try.prog 6 #[.int .u64 (t : Int), .int .u32 (e : Int), .int .i64 (S : Int), .bool false, .slice ao n c] w fun r w' => r = .returned (.bool true) ∧ Below w.heap.size w w' := by
  have d1 : decide ((S : Int) < 512) = false := by simp; omega
  have d2 : decide ((4096 : Int) < (S : Int)) = false := by simp; omega
  have d3 : decide ((t : Int) < 1) = false := by simp; omega
  have d4 : ((t : Int) == 18446744073709551615) = false := by simp; omega
  have d5 : decide ((e : Int) < 4) = false := by simp; omega
  have d6 : decide ((5000 : Int) < (n : Int)) = false := by simp; omega
  have d4i : ¬ (t : Int) = 18446744073709551615 := by omega
  have hn : n = xs.length := by obtain ⟨_, _, hv, _⟩ := hs; injection hv
  have hw1 : IntKind.u64.wrap ((t : Int) + 1) = (t : Int) + 1 := by rw [show IntKind.u64.wrap ((t : Int) + 1) = ((t : Int) + 1) % 18446744073709551616 from rfl]; omega
  have hpi : (t : Int) % 2 = 1 := by omega
  have hgA : Good ⟨t, e, 2, 0⟩ S := ⟨⟨by show t < _; omega, h5', by show (2 : Nat) < 4294967296; decide, by show (0 : Nat) < 4294967296; decide⟩, by simp [mright, rpg]; omega, h1, h2⟩
  have hgB : Good ⟨t + 1, e, 3, 0⟩ S := ⟨⟨by show t + 1 < _; omega, h5', by show (3 : Nat) < 4294967296; decide, by show (0 : Nat) < 4294967296; decide⟩, by simp [mright, rpg]; omega, h1, h2⟩
  have hno := other_no (xs := xs) (.inl (List.eq_nil_of_length_eq_zero (by omega)))
  subst h0
  have HPA : Hid (∀ W : World, Calls Try.prog 12 #[.agg #[.int .u64 (t : Int), .int .u32 (e : Int), .int .u32 2, .int .u32 0], .int .i64 (S : Int)] W fun r w' => ∃ ao c, r = .returned (.tuple #[.slice ao S c, .int .i64 0]) ∧
      w'.ownsRow W.heap.size 5 1 (.slice ao S c) S ((mpage ⟨t, e, 2, 0⟩ S).map (.int .u8)) ∧ W.grownBy w' none) := Lib.hid (fun W => mput_ok W _ hgA.ok hgA.right S h1 h2)
  have HPB : Hid (∀ W : World, Calls Try.prog 12 #[.agg #[.int .u64 ((t : Int) + 1), .int .u32 (e : Int), .int .u32 3, .int .u32 0], .int .i64 (S : Int)] W fun r w' => ∃ ao c, r = .returned (.tuple #[.slice ao S c, .int .i64 0]) ∧
      w'.ownsRow W.heap.size 5 1 (.slice ao S c) S ((mpage ⟨t + 1, e, 3, 0⟩ S).map (.int .u8)) ∧ W.grownBy w' none) := Lib.hid (fun W => mput_ok W ⟨t + 1, e, 3, 0⟩ hgB.ok hgB.right S h1 h2)
  have hch := ch_ge hgB hgA (by show (t + 1) % 2 = 0; omega) hp (by show ¬ t + 1 < t; omega)
  have HLA := Lib.hid hgA.len
  have HLB := Lib.hid hgB.len
  have HBA := Lib.hid (mpage_byt ⟨t, e, 2, 0⟩ S)
  have HBB := Lib.hid (mpage_byt ⟨t + 1, e, 3, 0⟩ S)
  have HBX := Lib.hid hb
  generalize mpage ⟨t, e, 2, 0⟩ S = pA at *
  generalize mpage ⟨t + 1, e, 3, 0⟩ S = pB at *
  have HCh := Lib.hid hch
  have HSL : Hid (∀ W : World, Calls Try.prog 16 #[.int .u64 (t : Int)] W fun r w' => r = .returned (.int .i64 1) ∧ W = w') := Lib.hid (fun W => (mslot_any t (by omega) W).mono fun r w' h => by rw [hp] at h; exact h)
  have HSM : Hid (∀ W : World, Calls Try.prog 16 #[.int .u64 ((t : Int) + 1)] W fun r w' => r = .returned (.int .i64 0) ∧ W = w') := Lib.hid (fun W => (mslot_any (t + 1) (by omega) W).mono fun r w' h => by rw [show (t + 1) % 2 = 0 by omega] at h; exact h)
  have HSX := Lib.hid hs
  have HXL := Lib.hid hn
  clear hgA hgB hch hno hs hb hn hp
  go_enter Try.func6, Try.ntmps6
  go_wp2_with (first
    | (go_at_call 10; have K := awake7_any w; ((with_reducible refine K.mono ?_); clear K; rintro r wA ⟨rfl, hgA⟩); have GA := Lib.hid hgA; have SX1 := Lib.hid (HSX.out.grown hgA); clear hgA)
    | (go_at_call 12; have K := HPA.out wA; ((with_reducible refine K.mono ?_); clear K; rintro r w2 ⟨a0, c0, rfl, ho, hg⟩); have SA2 := Lib.hid (Seq.owned1 HLA.out ho); have SX2 := Lib.hid (SX1.out.grown hg); have G2 := Lib.hid (gtrans GA.out hg); clear ho hg)
    | (go_at_call 12; have K := HPB.out w2; ((with_reducible refine K.mono ?_); clear K; rintro r w3 ⟨a1, c1, rfl, ho, hg⟩); have SB3 := Lib.hid (Seq.owned1 HLB.out ho); have SA3 := Lib.hid (SA2.out.grown hg); have SX3 := Lib.hid (SX2.out.grown hg); have G3 := Lib.hid (gtrans G2.out hg); clear ho hg)
    | (go_at_call 21; have K := chose_any (W := w3) SA3.out SB3.out HBA.out HBB.out; ((with_reducible refine K.mono ?_); clear K; rintro r w4 ⟨x9, e9, m9, f9, E9, rfl, hg⟩); have hg4 := gtrans hg (World.grownBy_alloc w4 (.cells #[.int .u64 x9, .int .u32 e9, .int .u32 m9, .int .u32 f9] 29) none); have G4 := Lib.hid (gtrans G3.out hg4); have Q4 := Lib.hid (heap_alloc_new w4 (.cells #[.int .u64 x9, .int .u32 e9, .int .u32 m9, .int .u32 f9] 29)); have SA4 := Lib.hid (SA3.out.grown hg4); have SB4 := Lib.hid (SB3.out.grown hg4); have SX4 := Lib.hid (SX3.out.grown hg4); have G04 := Lib.hid (Nat.le_trans G3.out.size hg.size); clear hg hg4)
    | (go_at_call 21; have K : Calls Try.prog 21 #[.slice a1 S c1, .slice a0 S c0] (w4.alloc (.cells #[.int .u64 x9, .int .u32 e9, .int .u32 m9, .int .u32 f9] 29)) (fun r w' => r = .returned (.tuple #[.agg #[.int .u64 ((t : Int) + 1), .int .u32 (e : Int), .int .u32 3, .int .u32 0], .int .i64 0]) ∧ (w4.alloc (.cells #[.int .u64 x9, .int .u32 e9, .int .u32 m9, .int .u32 f9] 29)).grownBy w' none) := choose_as (W := w4.alloc (.cells #[.int .u64 x9, .int .u32 e9, .int .u32 m9, .int .u32 f9] 29)) SB4.out SA4.out HBB.out HBA.out HCh.out; ((with_reducible refine K.mono ?_); clear K; rintro r w5 ⟨rfl, hg⟩); have G5 := Lib.hid (gtrans G4.out hg); have Q5 := Lib.hid ((hg.block _ (lt_of_block Q4.out) (by simp)).trans Q4.out); obtain ⟨⟨q0, q1, q2, q3⟩, f0, f1, f2, f3⟩ := cells4 Q5.out; clear hg)
    | (go_at_call 16; ((with_reducible refine (HSL.out _).mono ?_); rintro r w6 ⟨rfl, rfl⟩))
    | (go_at_call 16; ((with_reducible refine (HSM.out _).mono ?_); rintro r w6 ⟨rfl, rfl⟩)))
  go_ret
  exact ⟨rfl, below4 (gbelow G5.out) G04.out _ _ _ _⟩

set_option maxRecDepth 30000 in
set_option maxHeartbeats 4000000 in
theorem turns_ge (w : World) (t e S : Nat) (ao : Option Addr) (n c : Nat) (xs : List Int) (h1 : 512 ≤ S) (h2 : S ≤ 4096) (h3 : 1 ≤ t) (h4 : t < 18446744073709551615) (h5 : 4 ≤ e) (h5' : e < 4294967296) (h6 : n ≤ 5000) (hs : Seq w.heap.size w (.slice ao n c) xs) (hb : Byt xs)
    (hp : t % 2 = 0) (h0 : 0 < n) (hR : xs.getD 0 0 ≠ 82) :
    Calls Try.prog 6 #[.int .u64 (t : Int), .int .u32 (e : Int), .int .i64 (S : Int), .bool true, .slice ao n c] w fun r w' => r = .returned (.bool true) ∧ Below w.heap.size w w' := by
  have d1 : decide ((S : Int) < 512) = false := by simp; omega
  have d2 : decide ((4096 : Int) < (S : Int)) = false := by simp; omega
  have d3 : decide ((t : Int) < 1) = false := by simp; omega
  have d4 : ((t : Int) == 18446744073709551615) = false := by simp; omega
  have d5 : decide ((e : Int) < 4) = false := by simp; omega
  have d6 : decide ((5000 : Int) < (n : Int)) = false := by simp; omega
  have d4i : ¬ (t : Int) = 18446744073709551615 := by omega
  have hn : n = xs.length := by obtain ⟨_, _, hv, _⟩ := hs; injection hv
  have hw1 : IntKind.u64.wrap ((t : Int) + 1) = (t : Int) + 1 := by rw [show IntKind.u64.wrap ((t : Int) + 1) = ((t : Int) + 1) % 18446744073709551616 from rfl]; omega
  have hpi : (t : Int) % 2 = 0 := by omega
  have hgA : Good ⟨t, e, 2, 0⟩ S := ⟨⟨by show t < _; omega, h5', by show (2 : Nat) < 4294967296; decide, by show (0 : Nat) < 4294967296; decide⟩, by simp [mright, rpg]; omega, h1, h2⟩
  have hgB : Good ⟨t + 1, e, 3, 0⟩ S := ⟨⟨by show t + 1 < _; omega, h5', by show (3 : Nat) < 4294967296; decide, by show (0 : Nat) < 4294967296; decide⟩, by simp [mright, rpg]; omega, h1, h2⟩
  have hno := other_no (xs := xs) (.inr hR)
  obtain ⟨b, o, rfl, hc⟩ := hs.cellAt 0 (by omega)
  rw [Nat.add_zero] at hc
  have d7 : decide ((0 : Int) < (n : Int)) = true := by simp; omega
  have d7i : (0 : Int) < (n : Int) := by omega
  obtain ⟨x, hx⟩ : ∃ x, x = xs.getD 0 0 := ⟨_, rfl⟩
  rw [← hx] at hc hR
  have hRd : (x == 82) = false := by simpa using hR
  have HCell := Lib.hid hc
  clear hc hx hR
  have HPA : Hid (∀ W : World, Calls Try.prog 12 #[.agg #[.int .u64 (t : Int), .int .u32 (e : Int), .int .u32 2, .int .u32 0], .int .i64 (S : Int)] W fun r w' => ∃ ao c, r = .returned (.tuple #[.slice ao S c, .int .i64 0]) ∧
      w'.ownsRow W.heap.size 5 1 (.slice ao S c) S ((mpage ⟨t, e, 2, 0⟩ S).map (.int .u8)) ∧ W.grownBy w' none) := Lib.hid (fun W => mput_ok W _ hgA.ok hgA.right S h1 h2)
  have HPB : Hid (∀ W : World, Calls Try.prog 12 #[.agg #[.int .u64 ((t : Int) + 1), .int .u32 (e : Int), .int .u32 3, .int .u32 0], .int .i64 (S : Int)] W fun r w' => ∃ ao c, r = .returned (.tuple #[.slice ao S c, .int .i64 0]) ∧
      w'.ownsRow W.heap.size 5 1 (.slice ao S c) S ((mpage ⟨t + 1, e, 3, 0⟩ S).map (.int .u8)) ∧ W.grownBy w' none) := Lib.hid (fun W => mput_ok W ⟨t + 1, e, 3, 0⟩ hgB.ok hgB.right S h1 h2)
  have hch := ch_left hgA hp (is_none (s := 1) hno)
  have HLA := Lib.hid hgA.len
  have HLB := Lib.hid hgB.len
  have HBA := Lib.hid (mpage_byt ⟨t, e, 2, 0⟩ S)
  have HBB := Lib.hid (mpage_byt ⟨t + 1, e, 3, 0⟩ S)
  have HBX := Lib.hid hb
  generalize mpage ⟨t, e, 2, 0⟩ S = pA at *
  generalize mpage ⟨t + 1, e, 3, 0⟩ S = pB at *
  have HCh := Lib.hid hch
  have HSL : Hid (∀ W : World, Calls Try.prog 16 #[.int .u64 (t : Int)] W fun r w' => r = .returned (.int .i64 0) ∧ W = w') := Lib.hid (fun W => (mslot_any t (by omega) W).mono fun r w' h => by rw [hp] at h; exact h)
  have HSM : Hid (∀ W : World, Calls Try.prog 16 #[.int .u64 ((t : Int) + 1)] W fun r w' => r = .returned (.int .i64 1) ∧ W = w') := Lib.hid (fun W => (mslot_any (t + 1) (by omega) W).mono fun r w' h => by rw [show (t + 1) % 2 = 1 by omega] at h; exact h)
  have HSX := Lib.hid hs
  have HXL := Lib.hid hn
  clear hgA hgB hch hno hs hb hn hp
  go_enter Try.func6, Try.ntmps6
  go_wp2_with (first
    | (go_at_call 10; have K := awake7_any w; ((with_reducible refine K.mono ?_); clear K; rintro r wA ⟨rfl, hgA⟩); have GA := Lib.hid hgA; have SX1 := Lib.hid (HSX.out.grown hgA); have hcc := hgA.cell HCell.out (by simp); clear hgA)
    | (go_at_call 12; have K := HPA.out wA; ((with_reducible refine K.mono ?_); clear K; rintro r w2 ⟨a0, c0, rfl, ho, hg⟩); have SA2 := Lib.hid (Seq.owned1 HLA.out ho); have SX2 := Lib.hid (SX1.out.grown hg); have G2 := Lib.hid (gtrans GA.out hg); clear ho hg)
    | (go_at_call 12; have K := HPB.out w2; ((with_reducible refine K.mono ?_); clear K; rintro r w3 ⟨a1, c1, rfl, ho, hg⟩); have SB3 := Lib.hid (Seq.owned1 HLB.out ho); have SA3 := Lib.hid (SA2.out.grown hg); have SX3 := Lib.hid (SX2.out.grown hg); have G3 := Lib.hid (gtrans G2.out hg); clear ho hg)
    | (go_at_call 21; have K : Calls Try.prog 21 #[.slice a0 S c0, .slice (some ⟨b, o, none⟩) n c] w3 (fun r w' => r = .returned (.tuple #[.agg #[.int .u64 (t : Int), .int .u32 (e : Int), .int .u32 2, .int .u32 0], .int .i64 0]) ∧ w3.grownBy w' none) := choose_as (W := w3) SA3.out SX3.out HBA.out HBX.out HCh.out; ((with_reducible refine K.mono ?_); clear K; rintro r w4 ⟨rfl, hg⟩); have hg4 := gtrans hg (World.grownBy_alloc w4 (.cells #[.int .u64 (t : Int), .int .u32 (e : Int), .int .u32 2, .int .u32 0] 29) none); have G4 := Lib.hid (gtrans G3.out hg4); have Q4 := Lib.hid (heap_alloc_new w4 (.cells #[.int .u64 (t : Int), .int .u32 (e : Int), .int .u32 2, .int .u32 0] 29)); obtain ⟨⟨q0, q1, q2, q3⟩, _⟩ := cells4 Q4.out; clear hg hg4)
    | (go_at_call 16; have K := HSL.out (w4.alloc (.cells #[.int .u64 (t : Int), .int .u32 (e : Int), .int .u32 2, .int .u32 0] 29)); ((with_reducible refine K.mono ?_); clear K; rintro r w5 ⟨rfl, rfl⟩))
    | (go_at_call 16; have K := HSM.out (w4.alloc (.cells #[.int .u64 (t : Int), .int .u32 (e : Int), .int .u32 2, .int .u32 0] 29)); ((with_reducible refine K.mono ?_); clear K; rintro r w5 ⟨rfl, rfl⟩)))
  go_ret
  exact ⟨rfl, gbelow G4.out⟩

set_option maxRecDepth 30000 in
set_option maxHeartbeats 4000000 in
theorem turns_ge0 (w : World) (t e S : Nat) (ao : Option Addr) (n c : Nat) (xs : List Int) (h1 : 512 ≤ S) (h2 : S ≤ 4096) (h3 : 1 ≤ t) (h4 : t < 18446744073709551615) (h5 : 4 ≤ e) (h5' : e < 4294967296) (h6 : n ≤ 5000) (hs : Seq w.heap.size w (.slice ao n c) xs) (hb : Byt xs)
    (hp : t % 2 = 0) (h0 : n = 0) :
    Calls Try.prog 6 #[.int .u64 (t : Int), .int .u32 (e : Int), .int .i64 (S : Int), .bool true, .slice ao n c] w fun r w' => r = .returned (.bool true) ∧ Below w.heap.size w w' := by
  have d1 : decide ((S : Int) < 512) = false := by simp; omega
  have d2 : decide ((4096 : Int) < (S : Int)) = false := by simp; omega
  have d3 : decide ((t : Int) < 1) = false := by simp; omega
  have d4 : ((t : Int) == 18446744073709551615) = false := by simp; omega
  have d5 : decide ((e : Int) < 4) = false := by simp; omega
  have d6 : decide ((5000 : Int) < (n : Int)) = false := by simp; omega
  have d4i : ¬ (t : Int) = 18446744073709551615 := by omega
  have hn : n = xs.length := by obtain ⟨_, _, hv, _⟩ := hs; injection hv
  have hw1 : IntKind.u64.wrap ((t : Int) + 1) = (t : Int) + 1 := by rw [show IntKind.u64.wrap ((t : Int) + 1) = ((t : Int) + 1) % 18446744073709551616 from rfl]; omega
  have hpi : (t : Int) % 2 = 0 := by omega
  have hgA : Good ⟨t, e, 2, 0⟩ S := ⟨⟨by show t < _; omega, h5', by show (2 : Nat) < 4294967296; decide, by show (0 : Nat) < 4294967296; decide⟩, by simp [mright, rpg]; omega, h1, h2⟩
  have hgB : Good ⟨t + 1, e, 3, 0⟩ S := ⟨⟨by show t + 1 < _; omega, h5', by show (3 : Nat) < 4294967296; decide, by show (0 : Nat) < 4294967296; decide⟩, by simp [mright, rpg]; omega, h1, h2⟩
  have hno := other_no (xs := xs) (.inl (List.eq_nil_of_length_eq_zero (by omega)))
  subst h0
  have HPA : Hid (∀ W : World, Calls Try.prog 12 #[.agg #[.int .u64 (t : Int), .int .u32 (e : Int), .int .u32 2, .int .u32 0], .int .i64 (S : Int)] W fun r w' => ∃ ao c, r = .returned (.tuple #[.slice ao S c, .int .i64 0]) ∧
      w'.ownsRow W.heap.size 5 1 (.slice ao S c) S ((mpage ⟨t, e, 2, 0⟩ S).map (.int .u8)) ∧ W.grownBy w' none) := Lib.hid (fun W => mput_ok W _ hgA.ok hgA.right S h1 h2)
  have HPB : Hid (∀ W : World, Calls Try.prog 12 #[.agg #[.int .u64 ((t : Int) + 1), .int .u32 (e : Int), .int .u32 3, .int .u32 0], .int .i64 (S : Int)] W fun r w' => ∃ ao c, r = .returned (.tuple #[.slice ao S c, .int .i64 0]) ∧
      w'.ownsRow W.heap.size 5 1 (.slice ao S c) S ((mpage ⟨t + 1, e, 3, 0⟩ S).map (.int .u8)) ∧ W.grownBy w' none) := Lib.hid (fun W => mput_ok W ⟨t + 1, e, 3, 0⟩ hgB.ok hgB.right S h1 h2)
  have hch := ch_left hgA hp (is_none (s := 1) hno)
  have HLA := Lib.hid hgA.len
  have HLB := Lib.hid hgB.len
  have HBA := Lib.hid (mpage_byt ⟨t, e, 2, 0⟩ S)
  have HBB := Lib.hid (mpage_byt ⟨t + 1, e, 3, 0⟩ S)
  have HBX := Lib.hid hb
  generalize mpage ⟨t, e, 2, 0⟩ S = pA at *
  generalize mpage ⟨t + 1, e, 3, 0⟩ S = pB at *
  have HCh := Lib.hid hch
  have HSL : Hid (∀ W : World, Calls Try.prog 16 #[.int .u64 (t : Int)] W fun r w' => r = .returned (.int .i64 0) ∧ W = w') := Lib.hid (fun W => (mslot_any t (by omega) W).mono fun r w' h => by rw [hp] at h; exact h)
  have HSM : Hid (∀ W : World, Calls Try.prog 16 #[.int .u64 ((t : Int) + 1)] W fun r w' => r = .returned (.int .i64 1) ∧ W = w') := Lib.hid (fun W => (mslot_any (t + 1) (by omega) W).mono fun r w' h => by rw [show (t + 1) % 2 = 1 by omega] at h; exact h)
  have HSX := Lib.hid hs
  have HXL := Lib.hid hn
  clear hgA hgB hch hno hs hb hn hp
  go_enter Try.func6, Try.ntmps6
  go_wp2_with (first
    | (go_at_call 10; have K := awake7_any w; ((with_reducible refine K.mono ?_); clear K; rintro r wA ⟨rfl, hgA⟩); have GA := Lib.hid hgA; have SX1 := Lib.hid (HSX.out.grown hgA); clear hgA)
    | (go_at_call 12; have K := HPA.out wA; ((with_reducible refine K.mono ?_); clear K; rintro r w2 ⟨a0, c0, rfl, ho, hg⟩); have SA2 := Lib.hid (Seq.owned1 HLA.out ho); have SX2 := Lib.hid (SX1.out.grown hg); have G2 := Lib.hid (gtrans GA.out hg); clear ho hg)
    | (go_at_call 12; have K := HPB.out w2; ((with_reducible refine K.mono ?_); clear K; rintro r w3 ⟨a1, c1, rfl, ho, hg⟩); have SB3 := Lib.hid (Seq.owned1 HLB.out ho); have SA3 := Lib.hid (SA2.out.grown hg); have SX3 := Lib.hid (SX2.out.grown hg); have G3 := Lib.hid (gtrans G2.out hg); clear ho hg)
    | (go_at_call 21; have K : Calls Try.prog 21 #[.slice a0 S c0, .slice ao 0 c] w3 (fun r w' => r = .returned (.tuple #[.agg #[.int .u64 (t : Int), .int .u32 (e : Int), .int .u32 2, .int .u32 0], .int .i64 0]) ∧ w3.grownBy w' none) := choose_as (W := w3) SA3.out SX3.out HBA.out HBX.out HCh.out; ((with_reducible refine K.mono ?_); clear K; rintro r w4 ⟨rfl, hg⟩); have hg4 := gtrans hg (World.grownBy_alloc w4 (.cells #[.int .u64 (t : Int), .int .u32 (e : Int), .int .u32 2, .int .u32 0] 29) none); have G4 := Lib.hid (gtrans G3.out hg4); have Q4 := Lib.hid (heap_alloc_new w4 (.cells #[.int .u64 (t : Int), .int .u32 (e : Int), .int .u32 2, .int .u32 0] 29)); obtain ⟨⟨q0, q1, q2, q3⟩, _⟩ := cells4 Q4.out; clear hg hg4)
    | (go_at_call 16; have K := HSL.out (w4.alloc (.cells #[.int .u64 (t : Int), .int .u32 (e : Int), .int .u32 2, .int .u32 0] 29)); ((with_reducible refine K.mono ?_); clear K; rintro r w5 ⟨rfl, rfl⟩))
    | (go_at_call 16; have K := HSM.out (w4.alloc (.cells #[.int .u64 (t : Int), .int .u32 (e : Int), .int .u32 2, .int .u32 0] 29)); ((with_reducible refine K.mono ?_); clear K; rintro r w5 ⟨rfl, rfl⟩)))
  go_ret
  exact ⟨rfl, gbelow G4.out⟩

set_option maxRecDepth 30000 in
set_option maxHeartbeats 4000000 in
theorem turns_go (w : World) (t e S : Nat) (ao : Option Addr) (n c : Nat) (xs : List Int) (h1 : 512 ≤ S) (h2 : S ≤ 4096) (h3 : 1 ≤ t) (h4 : t < 18446744073709551615) (h5 : 4 ≤ e) (h5' : e < 4294967296) (h6 : n ≤ 5000) (hs : Seq w.heap.size w (.slice ao n c) xs) (hb : Byt xs)
    (hp : t % 2 = 1) (h0 : 0 < n) (hR : xs.getD 0 0 ≠ 82) :
    Calls Try.prog 6 #[.int .u64 (t : Int), .int .u32 (e : Int), .int .i64 (S : Int), .bool true, .slice ao n c] w fun r w' => r = .returned (.bool true) ∧ Below w.heap.size w w' := by
  have d1 : decide ((S : Int) < 512) = false := by simp; omega
  have d2 : decide ((4096 : Int) < (S : Int)) = false := by simp; omega
  have d3 : decide ((t : Int) < 1) = false := by simp; omega
  have d4 : ((t : Int) == 18446744073709551615) = false := by simp; omega
  have d5 : decide ((e : Int) < 4) = false := by simp; omega
  have d6 : decide ((5000 : Int) < (n : Int)) = false := by simp; omega
  have d4i : ¬ (t : Int) = 18446744073709551615 := by omega
  have hn : n = xs.length := by obtain ⟨_, _, hv, _⟩ := hs; injection hv
  have hw1 : IntKind.u64.wrap ((t : Int) + 1) = (t : Int) + 1 := by rw [show IntKind.u64.wrap ((t : Int) + 1) = ((t : Int) + 1) % 18446744073709551616 from rfl]; omega
  have hpi : (t : Int) % 2 = 1 := by omega
  have hgA : Good ⟨t, e, 2, 0⟩ S := ⟨⟨by show t < _; omega, h5', by show (2 : Nat) < 4294967296; decide, by show (0 : Nat) < 4294967296; decide⟩, by simp [mright, rpg]; omega, h1, h2⟩
  have hgB : Good ⟨t + 1, e, 3, 0⟩ S := ⟨⟨by show t + 1 < _; omega, h5', by show (3 : Nat) < 4294967296; decide, by show (0 : Nat) < 4294967296; decide⟩, by simp [mright, rpg]; omega, h1, h2⟩
  have hno := other_no (xs := xs) (.inr hR)
  obtain ⟨b, o, rfl, hc⟩ := hs.cellAt 0 (by omega)
  rw [Nat.add_zero] at hc
  have d7 : decide ((0 : Int) < (n : Int)) = true := by simp; omega
  have d7i : (0 : Int) < (n : Int) := by omega
  obtain ⟨x, hx⟩ : ∃ x, x = xs.getD 0 0 := ⟨_, rfl⟩
  rw [← hx] at hc hR
  have hRd : (x == 82) = false := by simpa using hR
  have HCell := Lib.hid hc
  clear hc hx hR
  have HPA : Hid (∀ W : World, Calls Try.prog 12 #[.agg #[.int .u64 (t : Int), .int .u32 (e : Int), .int .u32 2, .int .u32 0], .int .i64 (S : Int)] W fun r w' => ∃ ao c, r = .returned (.tuple #[.slice ao S c, .int .i64 0]) ∧
      w'.ownsRow W.heap.size 5 1 (.slice ao S c) S ((mpage ⟨t, e, 2, 0⟩ S).map (.int .u8)) ∧ W.grownBy w' none) := Lib.hid (fun W => mput_ok W _ hgA.ok hgA.right S h1 h2)
  have HPB : Hid (∀ W : World, Calls Try.prog 12 #[.agg #[.int .u64 ((t : Int) + 1), .int .u32 (e : Int), .int .u32 3, .int .u32 0], .int .i64 (S : Int)] W fun r w' => ∃ ao c, r = .returned (.tuple #[.slice ao S c, .int .i64 0]) ∧
      w'.ownsRow W.heap.size 5 1 (.slice ao S c) S ((mpage ⟨t + 1, e, 3, 0⟩ S).map (.int .u8)) ∧ W.grownBy w' none) := Lib.hid (fun W => mput_ok W ⟨t + 1, e, 3, 0⟩ hgB.ok hgB.right S h1 h2)
  have hch := ch_right hgA hp (is_none (s := 0) hno)
  have HLA := Lib.hid hgA.len
  have HLB := Lib.hid hgB.len
  have HBA := Lib.hid (mpage_byt ⟨t, e, 2, 0⟩ S)
  have HBB := Lib.hid (mpage_byt ⟨t + 1, e, 3, 0⟩ S)
  have HBX := Lib.hid hb
  generalize mpage ⟨t, e, 2, 0⟩ S = pA at *
  generalize mpage ⟨t + 1, e, 3, 0⟩ S = pB at *
  have HCh := Lib.hid hch
  have HSL : Hid (∀ W : World, Calls Try.prog 16 #[.int .u64 (t : Int)] W fun r w' => r = .returned (.int .i64 1) ∧ W = w') := Lib.hid (fun W => (mslot_any t (by omega) W).mono fun r w' h => by rw [hp] at h; exact h)
  have HSM : Hid (∀ W : World, Calls Try.prog 16 #[.int .u64 ((t : Int) + 1)] W fun r w' => r = .returned (.int .i64 0) ∧ W = w') := Lib.hid (fun W => (mslot_any (t + 1) (by omega) W).mono fun r w' h => by rw [show (t + 1) % 2 = 0 by omega] at h; exact h)
  have HSX := Lib.hid hs
  have HXL := Lib.hid hn
  clear hgA hgB hch hno hs hb hn hp
  go_enter Try.func6, Try.ntmps6
  go_wp2_with (first
    | (go_at_call 10; have K := awake7_any w; ((with_reducible refine K.mono ?_); clear K; rintro r wA ⟨rfl, hgA⟩); have GA := Lib.hid hgA; have SX1 := Lib.hid (HSX.out.grown hgA); have hcc := hgA.cell HCell.out (by simp); clear hgA)
    | (go_at_call 12; have K := HPA.out wA; ((with_reducible refine K.mono ?_); clear K; rintro r w2 ⟨a0, c0, rfl, ho, hg⟩); have SA2 := Lib.hid (Seq.owned1 HLA.out ho); have SX2 := Lib.hid (SX1.out.grown hg); have G2 := Lib.hid (gtrans GA.out hg); clear ho hg)
    | (go_at_call 12; have K := HPB.out w2; ((with_reducible refine K.mono ?_); clear K; rintro r w3 ⟨a1, c1, rfl, ho, hg⟩); have SB3 := Lib.hid (Seq.owned1 HLB.out ho); have SA3 := Lib.hid (SA2.out.grown hg); have SX3 := Lib.hid (SX2.out.grown hg); have G3 := Lib.hid (gtrans G2.out hg); clear ho hg)
    | (go_at_call 21; have K := chose_any (W := w3) SA3.out SX3.out HBA.out HBX.out; ((with_reducible refine K.mono ?_); clear K; rintro r w4 ⟨x9, e9, m9, f9, E9, rfl, hg⟩); have hg4 := gtrans hg (World.grownBy_alloc w4 (.cells #[.int .u64 x9, .int .u32 e9, .int .u32 m9, .int .u32 f9] 29) none); have G4 := Lib.hid (gtrans G3.out hg4); have Q4 := Lib.hid (heap_alloc_new w4 (.cells #[.int .u64 x9, .int .u32 e9, .int .u32 m9, .int .u32 f9] 29)); have SA4 := Lib.hid (SA3.out.grown hg4); have SB4 := Lib.hid (SB3.out.grown hg4); have SX4 := Lib.hid (SX3.out.grown hg4); have G04 := Lib.hid (Nat.le_trans G3.out.size hg.size); clear hg hg4)
    | (go_at_call 21; have K : Calls Try.prog 21 #[.slice (some ⟨b, o, none⟩) n c, .slice a0 S c0] (w4.alloc (.cells #[.int .u64 x9, .int .u32 e9, .int .u32 m9, .int .u32 f9] 29)) (fun r w' => r = .returned (.tuple #[.agg #[.int .u64 (t : Int), .int .u32 (e : Int), .int .u32 2, .int .u32 0], .int .i64 0]) ∧ (w4.alloc (.cells #[.int .u64 x9, .int .u32 e9, .int .u32 m9, .int .u32 f9] 29)).grownBy w' none) := choose_as (W := w4.alloc (.cells #[.int .u64 x9, .int .u32 e9, .int .u32 m9, .int .u32 f9] 29)) SX4.out SA4.out HBX.out HBA.out HCh.out; ((with_reducible refine K.mono ?_); clear K; rintro r w5 ⟨rfl, hg⟩); have G5 := Lib.hid (gtrans G4.out hg); have Q5 := Lib.hid ((hg.block _ (lt_of_block Q4.out) (by simp)).trans Q4.out); obtain ⟨⟨q0, q1, q2, q3⟩, f0, f1, f2, f3⟩ := cells4 Q5.out; clear hg)
    | (go_at_call 16; ((with_reducible refine (HSL.out _).mono ?_); rintro r w6 ⟨rfl, rfl⟩))
    | (go_at_call 16; ((with_reducible refine (HSM.out _).mono ?_); rintro r w6 ⟨rfl, rfl⟩)))
  go_ret
  exact ⟨rfl, below4 (gbelow G5.out) G04.out _ _ _ _⟩

set_option maxRecDepth 30000 in
set_option maxHeartbeats 4000000 in
theorem turns_go0 (w : World) (t e S : Nat) (ao : Option Addr) (n c : Nat) (xs : List Int) (h1 : 512 ≤ S) (h2 : S ≤ 4096) (h3 : 1 ≤ t) (h4 : t < 18446744073709551615) (h5 : 4 ≤ e) (h5' : e < 4294967296) (h6 : n ≤ 5000) (hs : Seq w.heap.size w (.slice ao n c) xs) (hb : Byt xs)
    (hp : t % 2 = 1) (h0 : n = 0) :
    Calls Try.prog 6 #[.int .u64 (t : Int), .int .u32 (e : Int), .int .i64 (S : Int), .bool true, .slice ao n c] w fun r w' => r = .returned (.bool true) ∧ Below w.heap.size w w' := by
  have d1 : decide ((S : Int) < 512) = false := by simp; omega
  have d2 : decide ((4096 : Int) < (S : Int)) = false := by simp; omega
  have d3 : decide ((t : Int) < 1) = false := by simp; omega
  have d4 : ((t : Int) == 18446744073709551615) = false := by simp; omega
  have d5 : decide ((e : Int) < 4) = false := by simp; omega
  have d6 : decide ((5000 : Int) < (n : Int)) = false := by simp; omega
  have d4i : ¬ (t : Int) = 18446744073709551615 := by omega
  have hn : n = xs.length := by obtain ⟨_, _, hv, _⟩ := hs; injection hv
  have hw1 : IntKind.u64.wrap ((t : Int) + 1) = (t : Int) + 1 := by rw [show IntKind.u64.wrap ((t : Int) + 1) = ((t : Int) + 1) % 18446744073709551616 from rfl]; omega
  have hpi : (t : Int) % 2 = 1 := by omega
  have hgA : Good ⟨t, e, 2, 0⟩ S := ⟨⟨by show t < _; omega, h5', by show (2 : Nat) < 4294967296; decide, by show (0 : Nat) < 4294967296; decide⟩, by simp [mright, rpg]; omega, h1, h2⟩
  have hgB : Good ⟨t + 1, e, 3, 0⟩ S := ⟨⟨by show t + 1 < _; omega, h5', by show (3 : Nat) < 4294967296; decide, by show (0 : Nat) < 4294967296; decide⟩, by simp [mright, rpg]; omega, h1, h2⟩
  have hno := other_no (xs := xs) (.inl (List.eq_nil_of_length_eq_zero (by omega)))
  subst h0
  have HPA : Hid (∀ W : World, Calls Try.prog 12 #[.agg #[.int .u64 (t : Int), .int .u32 (e : Int), .int .u32 2, .int .u32 0], .int .i64 (S : Int)] W fun r w' => ∃ ao c, r = .returned (.tuple #[.slice ao S c, .int .i64 0]) ∧
      w'.ownsRow W.heap.size 5 1 (.slice ao S c) S ((mpage ⟨t, e, 2, 0⟩ S).map (.int .u8)) ∧ W.grownBy w' none) := Lib.hid (fun W => mput_ok W _ hgA.ok hgA.right S h1 h2)
  have HPB : Hid (∀ W : World, Calls Try.prog 12 #[.agg #[.int .u64 ((t : Int) + 1), .int .u32 (e : Int), .int .u32 3, .int .u32 0], .int .i64 (S : Int)] W fun r w' => ∃ ao c, r = .returned (.tuple #[.slice ao S c, .int .i64 0]) ∧
      w'.ownsRow W.heap.size 5 1 (.slice ao S c) S ((mpage ⟨t + 1, e, 3, 0⟩ S).map (.int .u8)) ∧ W.grownBy w' none) := Lib.hid (fun W => mput_ok W ⟨t + 1, e, 3, 0⟩ hgB.ok hgB.right S h1 h2)
  have hch := ch_right hgA hp (is_none (s := 0) hno)
  have HLA := Lib.hid hgA.len
  have HLB := Lib.hid hgB.len
  have HBA := Lib.hid (mpage_byt ⟨t, e, 2, 0⟩ S)
  have HBB := Lib.hid (mpage_byt ⟨t + 1, e, 3, 0⟩ S)
  have HBX := Lib.hid hb
  generalize mpage ⟨t, e, 2, 0⟩ S = pA at *
  generalize mpage ⟨t + 1, e, 3, 0⟩ S = pB at *
  have HCh := Lib.hid hch
  have HSL : Hid (∀ W : World, Calls Try.prog 16 #[.int .u64 (t : Int)] W fun r w' => r = .returned (.int .i64 1) ∧ W = w') := Lib.hid (fun W => (mslot_any t (by omega) W).mono fun r w' h => by rw [hp] at h; exact h)
  have HSM : Hid (∀ W : World, Calls Try.prog 16 #[.int .u64 ((t : Int) + 1)] W fun r w' => r = .returned (.int .i64 0) ∧ W = w') := Lib.hid (fun W => (mslot_any (t + 1) (by omega) W).mono fun r w' h => by rw [show (t + 1) % 2 = 0 by omega] at h; exact h)
  have HSX := Lib.hid hs
  have HXL := Lib.hid hn
  clear hgA hgB hch hno hs hb hn hp
  go_enter Try.func6, Try.ntmps6
  go_wp2_with (first
    | (go_at_call 10; have K := awake7_any w; ((with_reducible refine K.mono ?_); clear K; rintro r wA ⟨rfl, hgA⟩); have GA := Lib.hid hgA; have SX1 := Lib.hid (HSX.out.grown hgA); clear hgA)
    | (go_at_call 12; have K := HPA.out wA; ((with_reducible refine K.mono ?_); clear K; rintro r w2 ⟨a0, c0, rfl, ho, hg⟩); have SA2 := Lib.hid (Seq.owned1 HLA.out ho); have SX2 := Lib.hid (SX1.out.grown hg); have G2 := Lib.hid (gtrans GA.out hg); clear ho hg)
    | (go_at_call 12; have K := HPB.out w2; ((with_reducible refine K.mono ?_); clear K; rintro r w3 ⟨a1, c1, rfl, ho, hg⟩); have SB3 := Lib.hid (Seq.owned1 HLB.out ho); have SA3 := Lib.hid (SA2.out.grown hg); have SX3 := Lib.hid (SX2.out.grown hg); have G3 := Lib.hid (gtrans G2.out hg); clear ho hg)
    | (go_at_call 21; have K := chose_any (W := w3) SA3.out SX3.out HBA.out HBX.out; ((with_reducible refine K.mono ?_); clear K; rintro r w4 ⟨x9, e9, m9, f9, E9, rfl, hg⟩); have hg4 := gtrans hg (World.grownBy_alloc w4 (.cells #[.int .u64 x9, .int .u32 e9, .int .u32 m9, .int .u32 f9] 29) none); have G4 := Lib.hid (gtrans G3.out hg4); have Q4 := Lib.hid (heap_alloc_new w4 (.cells #[.int .u64 x9, .int .u32 e9, .int .u32 m9, .int .u32 f9] 29)); have SA4 := Lib.hid (SA3.out.grown hg4); have SB4 := Lib.hid (SB3.out.grown hg4); have SX4 := Lib.hid (SX3.out.grown hg4); have G04 := Lib.hid (Nat.le_trans G3.out.size hg.size); clear hg hg4)
    | (go_at_call 21; have K : Calls Try.prog 21 #[.slice ao 0 c, .slice a0 S c0] (w4.alloc (.cells #[.int .u64 x9, .int .u32 e9, .int .u32 m9, .int .u32 f9] 29)) (fun r w' => r = .returned (.tuple #[.agg #[.int .u64 (t : Int), .int .u32 (e : Int), .int .u32 2, .int .u32 0], .int .i64 0]) ∧ (w4.alloc (.cells #[.int .u64 x9, .int .u32 e9, .int .u32 m9, .int .u32 f9] 29)).grownBy w' none) := choose_as (W := w4.alloc (.cells #[.int .u64 x9, .int .u32 e9, .int .u32 m9, .int .u32 f9] 29)) SX4.out SA4.out HBX.out HBA.out HCh.out; ((with_reducible refine K.mono ?_); clear K; rintro r w5 ⟨rfl, hg⟩); have G5 := Lib.hid (gtrans G4.out hg); have Q5 := Lib.hid ((hg.block _ (lt_of_block Q4.out) (by simp)).trans Q4.out); obtain ⟨⟨q0, q1, q2, q3⟩, f0, f1, f2, f3⟩ := cells4 Q5.out; clear hg)
    | (go_at_call 16; ((with_reducible refine (HSL.out _).mono ?_); rintro r w6 ⟨rfl, rfl⟩))
    | (go_at_call 16; ((with_reducible refine (HSM.out _).mono ?_); rintro r w6 ⟨rfl, rfl⟩)))
  go_ret
  exact ⟨rfl, below4 (gbelow G5.out) G04.out _ _ _ _⟩

theorem turns_any (w : World) (t e size : Int) (gone : Bool) (ao : Option Addr) (n c : Nat) (xs : List Int) (t0 : 0 ≤ t) (t1 : t ≤ 18446744073709551615) (e0 : 0 ≤ e) (e1 : e ≤ 4294967295) (_z0 : -9223372036854775808 ≤ size) (_z1 : size ≤ 9223372036854775807)
    (hs : Seq w.heap.size w (.slice ao n c) xs) (hb : Byt xs) :
    Calls Try.prog 6 #[.int .u64 t, .int .u32 e, .int .i64 size, .bool gone, .slice ao n c] w fun r w' => r = .returned (.bool true) ∧ Below w.heap.size w w' := by
  by_cases h1 : size < 512
  · exact turns_a w t e size gone ao n c h1
  by_cases h2 : 4096 < size
  · exact turns_b w t e size gone ao n c h1 h2
  by_cases h3 : t < 1
  · exact turns_c w t e size gone ao n c h1 h2 h3
  by_cases h4 : t = 18446744073709551615
  · exact turns_d w t e size gone ao n c h1 h2 h3 h4
  by_cases h5 : e < 4
  · exact turns_e w t e size gone ao n c h1 h2 h3 h4 h5
  by_cases h6 : 5000 < n
  · exact turns_f w t e size gone ao n c h1 h2 h3 h4 h5 h6
  obtain ⟨T, rfl⟩ := Int.eq_ofNat_of_zero_le t0
  obtain ⟨E, rfl⟩ := Int.eq_ofNat_of_zero_le e0
  obtain ⟨S, rfl⟩ := Int.eq_ofNat_of_zero_le (show 0 ≤ size by omega)
  rcases Nat.eq_zero_or_pos n with h0 | h0
  · rcases (by omega : T % 2 = 0 ∨ T % 2 = 1) with hp | hp
    · cases gone
      · exact turns_ke0 w T E S ao n c xs (by omega) (by omega) (by omega) (by omega) (by omega) (by omega) (by omega) hs hb hp h0
      · exact turns_ge0 w T E S ao n c xs (by omega) (by omega) (by omega) (by omega) (by omega) (by omega) (by omega) hs hb hp h0
    · cases gone
      · exact turns_ko0 w T E S ao n c xs (by omega) (by omega) (by omega) (by omega) (by omega) (by omega) (by omega) hs hb hp h0
      · exact turns_go0 w T E S ao n c xs (by omega) (by omega) (by omega) (by omega) (by omega) (by omega) (by omega) hs hb hp h0
  · by_cases hR : xs.getD 0 0 = 82
    · exact turns_g w T E S gone ao n c xs h1 h2 h3 h4 h5 h6 hs h0 hR
    · rcases (by omega : T % 2 = 0 ∨ T % 2 = 1) with hp | hp
      · cases gone
        · exact turns_ke w T E S ao n c xs (by omega) (by omega) (by omega) (by omega) (by omega) (by omega) (by omega) hs hb hp h0 hR
        · exact turns_ge w T E S ao n c xs (by omega) (by omega) (by omega) (by omega) (by omega) (by omega) (by omega) hs hb hp h0 hR
      · cases gone
        · exact turns_ko w T E S ao n c xs (by omega) (by omega) (by omega) (by omega) (by omega) (by omega) (by omega) hs hb hp h0 hR
        · exact turns_go w T E S ao n c xs (by omega) (by omega) (by omega) (by omega) (by omega) (by omega) (by omega) hs hb hp h0 hR

open Go.ChangeShapes Go.WideShapes Go.ChangeAt
set_option linter.unusedVariables false
set_option maxRecDepth 100000 in
theorem turns_lifted (os : Os) (started : os.Started) (H : Type) (enc : TypeId × Value → H) :
    ReturnsInHanded {} Try.checked os 6 .any (Rows.metaTurnsSpec.pre6 enc Try.prog Try.f6 Rows.metaTurnsRow.domain false) (Rows.metaTurnsSpec.post enc Try.prog Try.f6 false true false false) := by
  refine returnsInHanded_of_change (C := Try.checked) ownKnob0 started (by kernel_rfl) Try.func6
    (ChangeSpec.witness6 (enc := enc) (C := Try.checked) false ⟨#[], #[.int .u64 0, .int .u32 0, .int .i64 0, .bool false, .slice none 0 0], []⟩ 8 (by kernel_rfl) (by kernel_rfl) (by kernel_rfl) (by kernel_rfl)) ?_
  intro W base args ds gs before hval0 hW hcnd _
  have hval : ∀ (j : Nat) t v, Try.f6.params[j]? = some t → args[j]? = some v → Value.okWide Try.prog W .any base t v := hval0
  have hW' := hW
  obtain ⟨p, q, hA0, hV, rfl, hfz, hnd⟩ := hW
  have hA : DataW.TrodAll enc Try.prog W 0 (fun _ => true) true Try.f6.params.toList args.toList ds p := hA0
  rw [Try.params6] at hA hval
  obtain ⟨v0, vs0, d0, ds0, p0, q0, hargs, rfl, rfl, h0, r0⟩ := trodAll_cons hA
  obtain ⟨v1, vs1, d1, ds1, p1, q1, rfl, rfl, rfl, h1, r1⟩ := trodAll_cons r0
  obtain ⟨v2, vs2, d2, ds2, p2, q2, rfl, rfl, rfl, h2, r2⟩ := trodAll_cons r1
  obtain ⟨v3, vs3, d3, ds3, p3, q3, rfl, rfl, rfl, h3, r3⟩ := trodAll_cons r2
  obtain ⟨v4, vs4, d4, ds4, p4, q4, rfl, rfl, rfl, h4, r4⟩ := trodAll_cons r3
  obtain ⟨rfl, rfl, rfl⟩ := trodAll_nil r4
  obtain rfl : args = #[v0, v1, v2, v3, v4] := by cases args; simp_all
  obtain ⟨rfl, rfl⟩ := trodVars_none hV
  obtain ⟨a0, rfl, rfl, rfl, w0⟩ := open_int Try.underlying22 (hval 0 22 v0 rfl rfl) h0
  have b0 := bounds_u64 w0
  obtain ⟨a1, rfl, rfl, rfl, w1⟩ := open_int Try.underlying23 (hval 1 23 v1 rfl rfl) h1
  have b1 := bounds_u32 w1
  obtain ⟨a2, rfl, rfl, rfl, w2⟩ := open_int Try.underlying3 (hval 2 3 v2 rfl rfl) h2
  have b2 := bounds_i64 w2
  obtain ⟨a3, rfl, rfl, rfl⟩ := open_bool Try.underlying4 (hval 3 4 v3 rfl rfl) h3
  obtain ⟨a4, len4, cap4, rfl⟩ := okWide_slice Try.underlying33 (hval 4 33 v4 rfl rfl)
  have lt4 : ∀ x ∈ p4, x.block < W.heap.size := by obtain ⟨m, hm⟩ := h4; exact DataW.trod_lt m _ _ _ hm
  obtain ⟨z4, w4, y4⟩ := open_bytes h4
  clear hA0 hval0
  refine (turns_any W a0 a1 a2 a3 a4 len4 cap4 z4 b0.1 b0.2 b1.1 b1.2 b2.1 b2.2 w4 y4).mono fun e W' ⟨he, bel⟩ => ?_
  subst he
  exact ⟨_, rfl, _, _, _, [], _, [], hW', trodAll_mk1 (shut_bool Try.underlying4 _), (trodAll_cons_mk (shut_int Try.underlying22 w0) (trodAll_cons_mk (shut_int Try.underlying23 w1) (trodAll_cons_mk (shut_int Try.underlying3 w2) (trodAll_cons_mk (shut_bool Try.underlying4 _) (trodAll_cons_mk (Below.trod laidOut0 (by kernel_rfl) (of_decide_eq_true (by kernel_rfl)) h4 bel lt4) trodAll_mk0))))), rfl, bel.frame _, fun h => by cases h⟩

/-- MetaTurns, for every input. -/
theorem metaTurns_holds : Rows.MetaTurnsSaid :=
  OpenClaim.holds_of_wide 6 Try.f6 rfl rfl rfl rfl rfl rfl rfl ⟨rfl, rfl, rfl, rfl, rfl⟩ rfl rfl rfl rfl rfl (by kernel_rfl) Try.func6 (by kernel_rfl)
    (of_decide_eq_true (by kernel_rfl)) (by unfold Func.isWrapper; first | (rw [if_pos (by decide +kernel)]; kernel_rfl) | (rw [if_neg (by decide +kernel)]; exact ⟨rfl, rfl⟩))
    (fun os started H enc _ => turns_lifted os started H enc)
#print axioms metaTurns_holds

end Go.Proofs.Ytnggebohefbopaa
