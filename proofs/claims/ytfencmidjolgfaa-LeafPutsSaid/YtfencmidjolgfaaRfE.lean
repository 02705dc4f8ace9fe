/-
  Layer 4: the reference's Long, Fill and Cell, over a row of the model's entries. Own work.
-/
import Derived.Test.YtfencmidjolgfaaRefK
import Derived.Test.YtfencmidjolgfaaRefN
import Derived.Test.YtfencmidjolgfaaLefD
import Derived.Test.YtfencmidjolgfaaEntA
import Derived.Deep.QuietTactic
import Derived.BigQuiet
import Derived.Deep.RegionHeld3
namespace Go.Proofs.Ytfencmidjolgfaa
open Go.RowKit

theorem refNum_to (w : World) (X n : Nat) (i : Int) (hi : i = (n : Int)) (hX : X < 18446744073709551616) (h1 : 1 ≤ n) (h8 : n ≤ 8) :
    Calls Try.prog 44 #[.int .u64 X, .int .i64 i] w fun r w' => r = .returned (.string (strOfNums (numB (X : Int) n n))) ∧ w.grownBy w' none := by
  subst hi; exact refNum_in w X n hX h1 h8

/-- A model's entry as a value. -/
abbrev mcs (x : En) : Array Value := #[.string (strOfNums x.key), .string (strOfNums x.val), .int .i64 x.long, .int .u32 x.first]

set_option maxHeartbeats 1000000 in
theorem elong_any (w : World) (x : En) (hx : EnOk x) :
    Calls Try.prog 24 #[.agg (mcs x)] w fun r w' => r = .returned (.int .i64 (cl x)) ∧ w.grownBy w' none := by
  have hkl := hx.kl
  have hvl := hx.vl
  have hf0 := hx.f0
  have e1 := strOfNums_size x.key
  have e2 := strOfNums_size x.val
  obtain ⟨K, hK⟩ : ∃ K, K = strOfNums x.key := ⟨_, rfl⟩
  obtain ⟨V, hV⟩ : ∃ V, V = strOfNums x.val := ⟨_, rfl⟩
  unfold mcs
  rw [← hK] at e1 ⊢
  rw [← hV] at e2 ⊢
  clear hK hV hx
  by_cases hf : 0 < x.first
  · rw [cl_far hf]
    generalize x.key.length = kl at *
    generalize x.val.length = vl at *
    generalize x.long = L at *
    generalize x.first = f at *
    clear x
    go_enter Try.func24, Try.ntmps24
    go_wp2
    go_ret
    exact ⟨by simp, World.grownBy_alloc _ _ _⟩
  · rw [cl_here hf]
    have hz : x.first = 0 := by omega
    rw [hz]
    clear hf hz hf0
    generalize x.key.length = kl at *
    generalize x.val.length = vl at *
    generalize x.long = L at *
    clear x
    go_enter Try.func24, Try.ntmps24
    go_wp2
    go_ret
    exact ⟨by simp, World.grownBy_alloc _ _ _⟩

set_option maxHeartbeats 1000000 in
theorem efill_any (w : World) (ao : Option Addr) (n c : Nat) (l : List En) (h : RRow w (.slice ao n c) l) (ho : ∀ x ∈ l, EnOk x) :
    Calls Try.prog 22 #[.slice ao n c] w fun r w' => r = .returned (.int .i64 (fillL leafY l)) ∧ w.grownBy w' none := by
  obtain ⟨hn, hn9⟩ := h.len
  have HN := Lib.hid hn
  have H := Lib.hid h
  have HO := Lib.hid ho
  clear hn h ho
  go_enter Try.func22, Try.ntmps22
  go_wp2
  go_loopw [3, 4] (fun s i wr => ∃ k : Nat, k ≤ n ∧ i = .int .i64 k ∧ s = .int .i64 (fillK leafY l k) ∧ fillK leafY l k ≤ 4 + 200006 * k ∧ w.grownBy wr none) (fun _ i _ => n - (intOf i).toNat)
  case atStart => exact ⟨0, Nat.zero_le _, rfl, rfl, Nat.le_refl _, grefl _ _⟩
  case round =>
    obtain ⟨k, hk, rfl, rfl, hf, hg⟩ := hrel
    have HG := Lib.hid hg
    by_cases hlt : k < n
    · obtain ⟨x, hx⟩ : ∃ x, l[k]? = some x := ⟨_, List.getElem?_eq_getElem (by have := HN.out; omega)⟩
      obtain ⟨b, o, rfl, hb, q0, q1, q2, q3⟩ := (H.out.grown hg).at k x hx
      have HX := Lib.hid (HO.out x (List.mem_of_getElem? hx))
      have hcl := cl_le HX.out
      have hki : (k : Int) < (n : Int) := by omega
      have hs01 : fillK leafY l (k + 1) = fillK leafY l k + (2 + cl x) := fillK_snoc (Y := leafY) hx
      obtain ⟨C, hC⟩ : ∃ C, C = cl x := ⟨_, rfl⟩
      rw [← hC] at hcl hs01
      obtain ⟨s0, hs0⟩ : ∃ s0, s0 = fillK leafY l k := ⟨_, rfl⟩
      obtain ⟨s1, hs1⟩ : ∃ s1, s1 = fillK leafY l (k + 1) := ⟨_, rfl⟩
      rw [← hs0, ← hs1] at hs01
      rw [← hs0] at hf ⊢
      obtain ⟨K, hK⟩ : ∃ K, K = strOfNums x.key := ⟨_, rfl⟩
      obtain ⟨V, hV⟩ : ∃ V, V = strOfNums x.val := ⟨_, rfl⟩
      have KC := Lib.hid (elong_any wr x HX.out)
      unfold mcs at KC
      rw [← hK] at q0 KC
      rw [← hV] at q1 KC
      rw [← hC] at KC
      have hw1 : IntKind.i64.wrap (2 + (C : Int)) = 2 + (C : Int) := IntWalk.i64_in _ (by omega)
      have hw2 : IntKind.i64.wrap ((s0 : Int) + (2 + (C : Int))) = (s1 : Int) := by rw [IntWalk.i64_in _ (by omega)]; omega
      have HS1 := Lib.hid hs1
      have HSB := Lib.hid (show s1 ≤ 4 + 200006 * (k + 1) by omega)
      have HS01 := Lib.hid (show (s0 : Int) + (2 + (C : Int)) = (s1 : Int) by omega)
      generalize x.long = L at *
      generalize x.first = f at *
      clear hx hs0 hs1 hs01 hf hK hV hC hg
      go_wp2_with (go_at_call 24; ((with_reducible refine KC.out.mono ?_); rintro r w3 ⟨rfl, hg3⟩); have HG3 := Lib.hid (gtrans HG.out hg3); clear hg3)
      go_roundw
      case rel => exact ⟨k + 1, by omega, by go_num, by rw [← HS1.out, ← HS01.out], by rw [← HS1.out]; exact HSB.out, HG3.out⟩
      case measure => simp [intOf]; omega
    · obtain rfl : k = n := by omega
      go_wp2
      go_ret
      exact ⟨by rw [HN.out]; rfl, HG.out⟩

theorem four_at {w : World} {q : Nat} {a b c d : Value} {t : TypeId} (h : w.heap[q]? = some (.cells #[a, b, c, d] t (0, 0))) :
    w.cell? ⟨q, 0, none⟩ = some a ∧ w.cell? ⟨q, 1, none⟩ = some b ∧ w.cell? ⟨q, 2, none⟩ = some c ∧ w.cell? ⟨q, 3, none⟩ = some d := four_cells h

set_option maxRecDepth 100000 in
set_option maxHeartbeats 4000000 in
theorem ecell_any (w : World) (x : En) (hx : EnOk x) (hl0 : 0 ≤ x.long) :
    Calls Try.prog 45 #[.agg (mcs x)] w fun r w' => r = .returned (.string (strOfNums (cellB x))) ∧ w.grownBy w' none := by
  have hkl := hx.kl
  have hvl := hx.vl
  have hf0 := hx.f0
  have hf1 := hx.f1
  have hl1 := hx.l1
  have e1 := strOfNums_size x.key
  have e2 := strOfNums_size x.val
  obtain ⟨K, hK⟩ : ∃ K, K = strOfNums x.key := ⟨_, rfl⟩
  obtain ⟨V, hV⟩ : ∃ V, V = strOfNums x.val := ⟨_, rfl⟩
  obtain ⟨N1, hN1⟩ : ∃ N, N = strOfNums (numB (x.key.length : Int) 1 1) := ⟨_, rfl⟩
  have n1 : N1.size = 1 := by rw [hN1, strOfNums_size, numB_len]
  obtain ⟨L, hL⟩ : ∃ L : Nat, x.long = (L : Int) := ⟨x.long.toNat, by omega⟩
  obtain ⟨f, hf⟩ : ∃ f : Nat, x.first = (f : Int) := ⟨x.first.toNat, by omega⟩
  unfold mcs
  rw [← hK] at e1 ⊢
  rw [← hV] at e2 ⊢
  by_cases hp : 0 < x.first
  · obtain ⟨N4, hN4⟩ : ∃ N, N = strOfNums (numB (L : Int) 4 4) := ⟨_, rfl⟩
    obtain ⟨M4, hM4⟩ : ∃ N, N = strOfNums (numB (f : Int) 4 4) := ⟨_, rfl⟩
    have n4 : N4.size = 4 := by rw [hN4, strOfNums_size, numB_len]
    have m4 : M4.size = 4 := by rw [hM4, strOfNums_size, numB_len]
    have HE := Lib.hid (show N1 ++ K ++ { data := #[1] } ++ N4 ++ M4 = strOfNums (cellB x) by
      rw [cellB, if_pos hp, hL, hf, strOf_app2, strOf_app2, strOf_app2, strOf_app2, ← hN1, ← hK, ← hN4, ← hM4]; rfl)
    have HN4 := Lib.hid hN4
    have HM4 := Lib.hid hM4
    rw [hf] at hp hf1 ⊢
    rw [hL] at hl1 ⊢
    obtain ⟨kl, hkl'⟩ : ∃ k, k = x.key.length := ⟨_, rfl⟩
    rw [← hkl'] at e1 hkl
    have HN1 := Lib.hid (show N1 = strOfNums (numB (kl : Int) 1 1) by rw [hN1, hkl'])
    obtain ⟨Z, hZ⟩ : ∃ Z, Z = strOfNums (cellB x) := ⟨_, rfl⟩
    rw [← hZ] at HE ⊢
    have hu1 : IntKind.u64.wrap (kl : Int) = (kl : Int) := by rw [show IntKind.u64.wrap (kl : Int) = (kl : Int) % 18446744073709551616 from rfl]; omega
    have hu2 : IntKind.u64.wrap (f : Int) = (f : Int) := by rw [show IntKind.u64.wrap (f : Int) = (f : Int) % 18446744073709551616 from rfl]; omega
    have hu3 : IntKind.u64.wrap (L : Int) = (L : Int) := by rw [show IntKind.u64.wrap (L : Int) = (L : Int) % 18446744073709551616 from rfl]; omega
    have hf9 : f ≤ 4294967295 := by omega
    have hL9 : L ≤ 9223372036854775807 := by omega
    have hz1 : ¬ 9223372036854775807 < 1 + kl := by omega
    have hz2 : ¬ 9223372036854775807 < 1 + kl + 1 := by omega
    have hz3 : ¬ 9223372036854775807 < 1 + kl + 1 + 4 := by omega
    have hz4 : ¬ 9223372036854775807 < 1 + kl + 1 + 4 + 4 := by omega
    clear hZ hkl' hK hV hN1 hN4 hM4 hx hL hf hvl hf0 hl0
    go_enter Try.func45, Try.ntmps45
    go_wp2
    have HG0 := Lib.hid (World.grownBy_alloc w (.cells #[.string K, .string V, .int .i64 (L : Int), .int .u32 (f : Int)] 46) none)
    have hb0 := heap_alloc_new w (.cells #[.string K, .string V, .int .i64 (L : Int), .int .u32 (f : Int)] 46)
    generalize w.alloc (.cells #[.string K, .string V, .int .i64 (L : Int), .int .u32 (f : Int)] 46) = wb at *
    generalize w.heap.size = gb at *
    obtain ⟨q0, q1, q2, q3⟩ := four_at hb0
    have HQ := Lib.hid (show ∀ w', wb.grownBy w' none → w'.cell? ⟨gb, 0, none⟩ = some (.string K) ∧ w'.cell? ⟨gb, 2, none⟩ = some (.int .i64 (L : Int)) ∧ w'.cell? ⟨gb, 3, none⟩ = some (.int .u32 (f : Int)) from fun w' k => by
      obtain ⟨c0, c1, c2, c3⟩ := four_at ((k.block gb (lt_of_block hb0) (by simp)).trans hb0)
      exact ⟨c0, c2, c3⟩)
    clear q1 q2 q3 hb0
    go_region_held3 (fun w' => w'.cell? ⟨gb, 0, none⟩ = some (.string K))
      (first | (with_reducible exact (HQ.out _ (grefl _ _)).1) | (with_reducible exact (HQ.out _ (gdrew wb)).1) | (with_reducible exact (HQ.out _ HA1.out).1))
      ((go_at_call 44; have Kc := refNum_to wb.drew kl 1 1 rfl (by omega) (by omega) (by omega); rw [← HN1.out] at Kc; ((with_reducible refine Kc.mono ?_); clear Kc; rintro r w3 ⟨rfl, hg3⟩); have HA1 := Lib.hid (gtrans (gdrew wb) hg3); clear hg3))
    have p0 := (HQ.out w3 HA1.out).2
    clear q0
    go_wp2
    go_region_held3 (fun w' => w'.cell? ⟨gb, 2, none⟩ = some (.int .i64 (L : Int)) ∧ w'.cell? ⟨gb, 3, none⟩ = some (.int .u32 (f : Int)))
      (first | (with_reducible exact (HQ.out _ HA1.out).2) | (with_reducible exact (HQ.out _ (gtrans HA1.out (gdrew w3))).2) | (with_reducible exact (HQ.out _ HA2.out).2) | (with_reducible exact (HQ.out _ HA3.out).2) | (with_reducible exact (HQ.out _ HA4.out).2) | (with_reducible exact (HQ.out _ HA5.out).2))
      ((first
        | (go_at_call 44; have Kc := refNum_to w3.drew L 4 4 rfl (by omega) (by omega) (by omega); rw [← HN4.out] at Kc; ((with_reducible refine Kc.mono ?_); clear Kc; rintro r w4 ⟨rfl, hg4⟩); have HA2 := Lib.hid (gtrans HA1.out (gtrans (gdrew w3) hg4)); clear hg4)
        | (go_at_call 44; have Kc := refNum_to w4 f 4 4 rfl (by omega) (by omega) (by omega); rw [← HM4.out] at Kc; ((with_reducible refine Kc.mono ?_); clear Kc; rintro r w5 ⟨rfl, hg5⟩); have HA3 := Lib.hid (gtrans HA2.out hg5); clear hg5)
        | (go_at_call 44; have Kc := refNum_to w3.drew f 4 4 rfl (by omega) (by omega) (by omega); rw [← HM4.out] at Kc; ((with_reducible refine Kc.mono ?_); clear Kc; rintro r w4 ⟨rfl, hg4⟩); have HA4 := Lib.hid (gtrans HA1.out (gtrans (gdrew w3) hg4)); clear hg4)
        | (go_at_call 44; have Kc := refNum_to w4 L 4 4 rfl (by omega) (by omega) (by omega); rw [← HN4.out] at Kc; ((with_reducible refine Kc.mono ?_); clear Kc; rintro r w5 ⟨rfl, hg5⟩); have HA5 := Lib.hid (gtrans HA4.out hg5); clear hg5)))
    go_wp2
    go_ret
    exact ⟨by rw [← HE.out]; rfl, gtrans HG0.out HA3.out⟩
  · obtain ⟨N2, hN2⟩ : ∃ N, N = strOfNums (numB (x.val.length : Int) 2 2) := ⟨_, rfl⟩
    have n2 : N2.size = 2 := by rw [hN2, strOfNums_size, numB_len]
    have HE := Lib.hid (show N1 ++ K ++ { data := #[0] } ++ N2 ++ V = strOfNums (cellB x) by
      rw [cellB, if_neg hp, strOf_app2, strOf_app2, strOf_app2, strOf_app2, ← hN1, ← hK, ← hN2, ← hV]; rfl)
    have hf2 : f = 0 := by omega
    subst hf2
    rw [hf] at hp hf1 ⊢
    rw [hL] at hl1 ⊢
    obtain ⟨kl, hkl'⟩ : ∃ k, k = x.key.length := ⟨_, rfl⟩
    rw [← hkl'] at e1 hkl
    obtain ⟨vl, hvl'⟩ : ∃ k, k = x.val.length := ⟨_, rfl⟩
    rw [← hvl'] at e2 hvl
    have HN1 := Lib.hid (show N1 = strOfNums (numB (kl : Int) 1 1) by rw [hN1, hkl'])
    have HN2 := Lib.hid (show N2 = strOfNums (numB (vl : Int) 2 2) by rw [hN2, hvl'])
    obtain ⟨Z, hZ⟩ : ∃ Z, Z = strOfNums (cellB x) := ⟨_, rfl⟩
    rw [← hZ] at HE ⊢
    have hu1 : IntKind.u64.wrap (kl : Int) = (kl : Int) := by rw [show IntKind.u64.wrap (kl : Int) = (kl : Int) % 18446744073709551616 from rfl]; omega
    have hu2 : IntKind.u64.wrap (vl : Int) = (vl : Int) := by rw [show IntKind.u64.wrap (vl : Int) = (vl : Int) % 18446744073709551616 from rfl]; omega
    have hz1 : ¬ 9223372036854775807 < 1 + kl := by omega
    have hz2 : ¬ 9223372036854775807 < 1 + kl + 1 := by omega
    have hz3 : ¬ 9223372036854775807 < 1 + kl + 1 + 2 := by omega
    have hz4 : ¬ 9223372036854775807 < 1 + kl + 1 + 2 + vl := by omega
    have hc0 : ((0 : Nat) : Int) = 0 := rfl
    rw [hc0] at hf1 ⊢
    clear hZ hkl' hvl' hK hV hN1 hN2 hx hL hf hf0 hl0 hc0 hp
    go_enter Try.func45, Try.ntmps45
    go_wp2
    have HG0 := Lib.hid (World.grownBy_alloc w (.cells #[.string K, .string V, .int .i64 (L : Int), .int .u32 0] 46) none)
    have hb0 := heap_alloc_new w (.cells #[.string K, .string V, .int .i64 (L : Int), .int .u32 0] 46)
    generalize w.alloc (.cells #[.string K, .string V, .int .i64 (L : Int), .int .u32 0] 46) = wb at *
    generalize w.heap.size = gb at *
    obtain ⟨q0, q1, q2, q3⟩ := four_at hb0
    have HQ := Lib.hid (show ∀ w', wb.grownBy w' none → w'.cell? ⟨gb, 0, none⟩ = some (.string K) ∧ w'.cell? ⟨gb, 1, none⟩ = some (.string V) ∧ w'.cell? ⟨gb, 3, none⟩ = some (.int .u32 0) from fun w' k => by
      obtain ⟨c0, c1, c2, c3⟩ := four_at ((k.block gb (lt_of_block hb0) (by simp)).trans hb0)
      exact ⟨c0, c1, c3⟩)
    clear q1 q2 q3 hb0
    go_region_held3 (fun w' => w'.cell? ⟨gb, 0, none⟩ = some (.string K))
      (first | (with_reducible exact (HQ.out _ (grefl _ _)).1) | (with_reducible exact (HQ.out _ (gdrew wb)).1) | (with_reducible exact (HQ.out _ HA1.out).1))
      ((go_at_call 44; have Kc := refNum_to wb.drew kl 1 1 rfl (by omega) (by omega) (by omega); rw [← HN1.out] at Kc; ((with_reducible refine Kc.mono ?_); clear Kc; rintro r w3 ⟨rfl, hg3⟩); have HA1 := Lib.hid (gtrans (gdrew wb) hg3); clear hg3))
    obtain ⟨_, p1, p3⟩ := HQ.out w3 HA1.out
    clear q0
    go_wp2
    go_region_held3 (fun w' => w'.cell? ⟨gb, 1, none⟩ = some (.string V))
      (first | (with_reducible exact (HQ.out _ HA1.out).2.1) | (with_reducible exact (HQ.out _ (gtrans HA1.out (gdrew w3))).2.1) | (with_reducible exact (HQ.out _ HA2.out).2.1))
      ((go_at_call 44; have Kc := refNum_to w3.drew vl 2 2 rfl (by omega) (by omega) (by omega); rw [← HN2.out] at Kc; ((with_reducible refine Kc.mono ?_); clear Kc; rintro r w4 ⟨rfl, hg4⟩); have HA2 := Lib.hid (gtrans HA1.out (gtrans (gdrew w3) hg4)); clear hg4))
    go_wp2
    go_ret
    exact ⟨by rw [← HE.out]; rfl, gtrans HG0.out HA2.out⟩

end Go.Proofs.Ytfencmidjolgfaa
