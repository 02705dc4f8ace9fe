/-
  'MetaPuts' returns true for every input: whether any meta may be, and its page, of any size, are the document's; it is got as it was. No condition. Own work; the frame is the guide's.
-/
import Derived.Test.YtnggebohefbopaaMetX
import Derived.Test.YtnggebohefbopaaMetS
import Derived.OwnWalk
import Derived.Deep.RegionHeld3
import Derived.ProofKit
import Derived.OpenShut
import Derived.ShutString
import Derived.ChangeOld
namespace Go.Proofs.Ytnggebohefbopaa
open Go.RowKit

set_option maxRecDepth 30000 in
set_option maxHeartbeats 4000000 in
theorem puts_ne_t (w : World) (M : Mt) (hM : MtOk M) (size : Int) (h : ¬ (mright M = true ∧ 512 ≤ size ∧ size ≤ 4096)) (hr : mright M = true) (hp : M.t % 2 = 0) :
    Calls Try.prog 3 #[.agg (mtC M), .int .i64 size] w fun r w' => r = .returned (.bool true) ∧ Below w.heap.size w w' := by
  have hmc : mtC M = #[.int .u64 (M.t : Int), .int .u32 (M.e : Int), .int .u32 (M.m : Int), .int .u32 (M.f : Int)] := rfl
  have hpi : (M.t : Int) % 2 = 0 := by omega
  have hpt : (M.t : Int).tmod 2 = 0 := by rw [Int.tmod_eq_emod_of_nonneg (by omega)]; exact hpi
  have HSL : Hid (∀ W : World, Calls Try.prog 16 #[.int .u64 (M.t : Int)] W fun r w' => r = .returned (.int .i64 0) ∧ W = w') := Lib.hid (fun W => (mslot_any M.t hM.t W).mono fun r w' h => by rw [hp] at h; exact h)
  have HP := Lib.hid (fun W => mput_no W M size h)
  have HK := Lib.hid (fun W => kput_no W M size h)
  clear h
  rw [hmc] at HP HK
  have HR1 := Lib.hid (fun W => mright_any M W)
  have HR2 := Lib.hid (fun W => kright_any M W)
  rw [hmc, hr] at HR1 HR2
  clear hr hM hp
  go_enter Try.func3, Try.ntmps3
  go_wp2_with (first
    | (go_at_call 10; have K := awake7_any (w.alloc (.cells #[.int .u64 (M.t : Int), .int .u32 (M.e : Int), .int .u32 (M.m : Int), .int .u32 (M.f : Int)] 25)); ((with_reducible refine K.mono ?_); clear K; rintro r wA ⟨rfl, hgA⟩); have GA := Lib.hid (gtrans (World.grownBy_alloc _ _ _) hgA); have BX := Lib.hid ((hgA.block w.heap.size (by simp) (by simp)).trans (heap_alloc_new _ _)); obtain ⟨x0, x1, x2, x3⟩ := mt_cells BX.out; clear hgA)
    | (go_at_call 11; have K := of7_any wA M; rw [hmc] at K; ((with_reducible refine K.mono ?_); clear K; rintro r w2 ⟨rfl, hg⟩); have hg2 := gtrans hg (two_grown w2 (.cells #[.int .u64 (M.t : Int), .int .u32 (M.e : Int), .int .u32 (M.m : Int), .int .u32 (M.f : Int)] 29) (.cells #[.int .u64 (M.t : Int), .int .u32 (M.e : Int), .int .u32 (M.m : Int), .int .u32 (M.f : Int)] 30)); have G2 := Lib.hid (gtrans GA.out hg2); have BX2 := Lib.hid ((hg2.block _ (lt_of_block BX.out) (by simp)).trans BX.out); have M2 := Lib.hid (two_lit0 w2 (.cells #[.int .u64 (M.t : Int), .int .u32 (M.e : Int), .int .u32 (M.m : Int), .int .u32 (M.f : Int)] 29) (.cells #[.int .u64 (M.t : Int), .int .u32 (M.e : Int), .int .u32 (M.m : Int), .int .u32 (M.f : Int)] 30)); have K2 := Lib.hid (two_lit1 w2 (.cells #[.int .u64 (M.t : Int), .int .u32 (M.e : Int), .int .u32 (M.m : Int), .int .u32 (M.f : Int)] 29) (.cells #[.int .u64 (M.t : Int), .int .u32 (M.e : Int), .int .u32 (M.m : Int), .int .u32 (M.f : Int)] 30)); clear hg hg2 x0 x1 x2 x3; obtain ⟨m0, m1, m2, m3⟩ := mt_cells M2.out)
    | (go_at_call 12; have K := HP.out ((w2.alloc (.cells #[.int .u64 (M.t : Int), .int .u32 (M.e : Int), .int .u32 (M.m : Int), .int .u32 (M.f : Int)] 29)).alloc (.cells #[.int .u64 (M.t : Int), .int .u32 (M.e : Int), .int .u32 (M.m : Int), .int .u32 (M.f : Int)] 30)); ((with_reducible refine K.mono ?_); clear K; rintro r w3 ⟨rfl, hg⟩); have G3 := Lib.hid (gtrans G2.out hg); have M3 := Lib.hid ((hg.block _ (lt_of_block M2.out) (by simp)).trans M2.out); have K3 := Lib.hid ((hg.block _ (lt_of_block K2.out) (by simp)).trans K2.out); have BX3 := Lib.hid ((hg.block _ (lt_of_block BX2.out) (by simp)).trans BX2.out); clear hg m0 m1 m2 m3; obtain ⟨k0, k1, k2, k3⟩ := mt_cells K3.out)
    | (go_at_call 13; have K := HK.out w3; ((with_reducible refine K.mono ?_); clear K; rintro r w4 ⟨rfl, hg⟩); have G4 := Lib.hid (gtrans G3.out hg); have M4 := Lib.hid ((hg.block _ (lt_of_block M3.out) (by simp)).trans M3.out); have K4 := Lib.hid ((hg.block _ (lt_of_block K3.out) (by simp)).trans K3.out); have BX4 := Lib.hid ((hg.block _ (lt_of_block BX3.out) (by simp)).trans BX3.out); clear hg k0 k1 k2 k3))
  obtain ⟨q0, hq0⟩ : ∃ q, q = w.heap.size := ⟨_, rfl⟩
  obtain ⟨q1, hq1⟩ : ∃ q, q = w2.heap.size := ⟨_, rfl⟩
  rw [← hq0] at BX4 ⊢
  rw [← hq1] at M4 K4 ⊢
  have HQ0 := Lib.hid hq0
  clear hq0 hq1
  have HSK := Lib.hid (show ∀ w' : World, w4.grownBy w' none → w'.cell? ⟨q1, 0, none⟩ = some (.int .u64 (M.t : Int)) ∧ w'.cell? ⟨q1, 1, none⟩ = some (.int .u32 (M.e : Int)) ∧ w'.cell? ⟨q1, 2, none⟩ = some (.int .u32 (M.m : Int)) ∧ w'.cell? ⟨q1, 3, none⟩ = some (.int .u32 (M.f : Int)) ∧ w'.cell? ⟨q1 + 1, 0, none⟩ = some (.int .u64 (M.t : Int)) ∧ w'.cell? ⟨q1 + 1, 1, none⟩ = some (.int .u32 (M.e : Int)) ∧ w'.cell? ⟨q1 + 1, 2, none⟩ = some (.int .u32 (M.m : Int)) ∧ w'.cell? ⟨q1 + 1, 3, none⟩ = some (.int .u32 (M.f : Int)) ∧ w'.cell? ⟨q0, 0, none⟩ = some (.int .u64 (M.t : Int)) ∧ (convert 33 9 (.slice none 0 0)).run Try.prog w' = .ok (.string { data := #[] }) w' from fun w' k => by
    obtain ⟨a0, a1, a2, a3⟩ := mt_cells ((k.block _ (lt_of_block M4.out) (by simp)).trans M4.out)
    obtain ⟨b0, b1, b2, b3⟩ := mt_cells ((k.block _ (lt_of_block K4.out) (by simp)).trans K4.out)
    obtain ⟨d0, _, _, _⟩ := mt_cells ((k.block _ (lt_of_block BX4.out) (by simp)).trans BX4.out)
    exact ⟨a0, a1, a2, a3, b0, b1, b2, b3, d0, by exact (seq_string (seq_nil w'.heap.size w'))⟩)
  go_region_held3 (fun w' => w'.cell? ⟨q1, 0, none⟩ = some (.int .u64 (M.t : Int)) ∧ w'.cell? ⟨q1, 1, none⟩ = some (.int .u32 (M.e : Int)) ∧ w'.cell? ⟨q1, 2, none⟩ = some (.int .u32 (M.m : Int)) ∧ w'.cell? ⟨q1, 3, none⟩ = some (.int .u32 (M.f : Int)) ∧ w'.cell? ⟨q1 + 1, 0, none⟩ = some (.int .u64 (M.t : Int)) ∧ w'.cell? ⟨q1 + 1, 1, none⟩ = some (.int .u32 (M.e : Int)) ∧ w'.cell? ⟨q1 + 1, 2, none⟩ = some (.int .u32 (M.m : Int)) ∧ w'.cell? ⟨q1 + 1, 3, none⟩ = some (.int .u32 (M.f : Int)) ∧ w'.cell? ⟨q0, 0, none⟩ = some (.int .u64 (M.t : Int)) ∧ (convert 33 9 (.slice none 0 0)).run Try.prog w' = .ok (.string { data := #[] }) w')
    (first | (with_reducible exact (HSK.out _ (gdrew w4))) | (with_reducible exact (HSK.out _ HA5.out)) | (with_reducible exact (HSK.out _ HA6.out)))
    (first
      | (go_at_call 14; ((with_reducible refine (HR1.out w4.drew).mono ?_); rintro r w5 ⟨rfl, hg⟩); have HA5 := Lib.hid (gtrans (gdrew w4) hg); clear hg)
      | (go_at_call 15; ((with_reducible refine (HR2.out w5).mono ?_); rintro r w6 ⟨rfl, hg⟩); have HA6 := Lib.hid (gtrans HA5.out hg); clear hg)
      | (go_at_call 16; ((with_reducible refine (HSL.out w6).mono ?_); rintro r w7 ⟨rfl, rfl⟩)))
  go_wp2
  go_ret
  exact ⟨rfl, gbelow (gtrans G4.out HA6.out)⟩

set_option maxRecDepth 30000 in
set_option maxHeartbeats 4000000 in
theorem puts_no_t (w : World) (M : Mt) (hM : MtOk M) (size : Int) (h : ¬ (mright M = true ∧ 512 ≤ size ∧ size ≤ 4096)) (hr : mright M = true) (hp : M.t % 2 = 1) :
    Calls Try.prog 3 #[.agg (mtC M), .int .i64 size] w fun r w' => r = .returned (.bool true) ∧ Below w.heap.size w w' := by
  have hmc : mtC M = #[.int .u64 (M.t : Int), .int .u32 (M.e : Int), .int .u32 (M.m : Int), .int .u32 (M.f : Int)] := rfl
  have hpi : (M.t : Int) % 2 = 1 := by omega
  have hpt : (M.t : Int).tmod 2 = 1 := by rw [Int.tmod_eq_emod_of_nonneg (by omega)]; exact hpi
  have HSL : Hid (∀ W : World, Calls Try.prog 16 #[.int .u64 (M.t : Int)] W fun r w' => r = .returned (.int .i64 1) ∧ W = w') := Lib.hid (fun W => (mslot_any M.t hM.t W).mono fun r w' h => by rw [hp] at h; exact h)
  have HP := Lib.hid (fun W => mput_no W M size h)
  have HK := Lib.hid (fun W => kput_no W M size h)
  clear h
  rw [hmc] at HP HK
  have HR1 := Lib.hid (fun W => mright_any M W)
  have HR2 := Lib.hid (fun W => kright_any M W)
  rw [hmc, hr] at HR1 HR2
  clear hr hM hp
  go_enter Try.func3, Try.ntmps3
  go_wp2_with (first
    | (go_at_call 10; have K := awake7_any (w.alloc (.cells #[.int .u64 (M.t : Int), .int .u32 (M.e : Int), .int .u32 (M.m : Int), .int .u32 (M.f : Int)] 25)); ((with_reducible refine K.mono ?_); clear K; rintro r wA ⟨rfl, hgA⟩); have GA := Lib.hid (gtrans (World.grownBy_alloc _ _ _) hgA); have BX := Lib.hid ((hgA.block w.heap.size (by simp) (by simp)).trans (heap_alloc_new _ _)); obtain ⟨x0, x1, x2, x3⟩ := mt_cells BX.out; clear hgA)
    | (go_at_call 11; have K := of7_any wA M; rw [hmc] at K; ((with_reducible refine K.mono ?_); clear K; rintro r w2 ⟨rfl, hg⟩); have hg2 := gtrans hg (two_grown w2 (.cells #[.int .u64 (M.t : Int), .int .u32 (M.e : Int), .int .u32 (M.m : Int), .int .u32 (M.f : Int)] 29) (.cells #[.int .u64 (M.t : Int), .int .u32 (M.e : Int), .int .u32 (M.m : Int), .int .u32 (M.f : Int)] 30)); have G2 := Lib.hid (gtrans GA.out hg2); have BX2 := Lib.hid ((hg2.block _ (lt_of_block BX.out) (by simp)).trans BX.out); have M2 := Lib.hid (two_lit0 w2 (.cells #[.int .u64 (M.t : Int), .int .u32 (M.e : Int), .int .u32 (M.m : Int), .int .u32 (M.f : Int)] 29) (.cells #[.int .u64 (M.t : Int), .int .u32 (M.e : Int), .int .u32 (M.m : Int), .int .u32 (M.f : Int)] 30)); have K2 := Lib.hid (two_lit1 w2 (.cells #[.int .u64 (M.t : Int), .int .u32 (M.e : Int), .int .u32 (M.m : Int), .int .u32 (M.f : Int)] 29) (.cells #[.int .u64 (M.t : Int), .int .u32 (M.e : Int), .int .u32 (M.m : Int), .int .u32 (M.f : Int)] 30)); clear hg hg2 x0 x1 x2 x3; obtain ⟨m0, m1, m2, m3⟩ := mt_cells M2.out)
    | (go_at_call 12; have K := HP.out ((w2.alloc (.cells #[.int .u64 (M.t : Int), .int .u32 (M.e : Int), .int .u32 (M.m : Int), .int .u32 (M.f : Int)] 29)).alloc (.cells #[.int .u64 (M.t : Int), .int .u32 (M.e : Int), .int .u32 (M.m : Int), .int .u32 (M.f : Int)] 30)); ((with_reducible refine K.mono ?_); clear K; rintro r w3 ⟨rfl, hg⟩); have G3 := Lib.hid (gtrans G2.out hg); have M3 := Lib.hid ((hg.block _ (lt_of_block M2.out) (by simp)).trans M2.out); have K3 := Lib.hid ((hg.block _ (lt_of_block K2.out) (by simp)).trans K2.out); have BX3 := Lib.hid ((hg.block _ (lt_of_block BX2.out) (by simp)).trans BX2.out); clear hg m0 m1 m2 m3; obtain ⟨k0, k1, k2, k3⟩ := mt_cells K3.out)
    | (go_at_call 13; have K := HK.out w3; ((with_reducible refine K.mono ?_); clear K; rintro r w4 ⟨rfl, hg⟩); have G4 := Lib.hid (gtrans G3.out hg); have M4 := Lib.hid ((hg.block _ (lt_of_block M3.out) (by simp)).trans M3.out); have K4 := Lib.hid ((hg.block _ (lt_of_block K3.out) (by simp)).trans K3.out); have BX4 := Lib.hid ((hg.block _ (lt_of_block BX3.out) (by simp)).trans BX3.out); clear hg k0 k1 k2 k3))
  obtain ⟨q0, hq0⟩ : ∃ q, q = w.heap.size := ⟨_, rfl⟩
  obtain ⟨q1, hq1⟩ : ∃ q, q = w2.heap.size := ⟨_, rfl⟩
  rw [← hq0] at BX4 ⊢
  rw [← hq1] at M4 K4 ⊢
  have HQ0 := Lib.hid hq0
  clear hq0 hq1
  have HSK := Lib.hid (show ∀ w' : World, w4.grownBy w' none → w'.cell? ⟨q1, 0, none⟩ = some (.int .u64 (M.t : Int)) ∧ w'.cell? ⟨q1, 1, none⟩ = some (.int .u32 (M.e : Int)) ∧ w'.cell? ⟨q1, 2, none⟩ = some (.int .u32 (M.m : Int)) ∧ w'.cell? ⟨q1, 3, none⟩ = some (.int .u32 (M.f : Int)) ∧ w'.cell? ⟨q1 + 1, 0, none⟩ = some (.int .u64 (M.t : Int)) ∧ w'.cell? ⟨q1 + 1, 1, none⟩ = some (.int .u32 (M.e : Int)) ∧ w'.cell? ⟨q1 + 1, 2, none⟩ = some (.int .u32 (M.m : Int)) ∧ w'.cell? ⟨q1 + 1, 3, none⟩ = some (.int .u32 (M.f : Int)) ∧ w'.cell? ⟨q0, 0, none⟩ = some (.int .u64 (M.t : Int)) ∧ (convert 33 9 (.slice none 0 0)).run Try.prog w' = .ok (.string { data := #[] }) w' from fun w' k => by
    obtain ⟨a0, a1, a2, a3⟩ := mt_cells ((k.block _ (lt_of_block M4.out) (by simp)).trans M4.out)
    obtain ⟨b0, b1, b2, b3⟩ := mt_cells ((k.block _ (lt_of_block K4.out) (by simp)).trans K4.out)
    obtain ⟨d0, _, _, _⟩ := mt_cells ((k.block _ (lt_of_block BX4.out) (by simp)).trans BX4.out)
    exact ⟨a0, a1, a2, a3, b0, b1, b2, b3, d0, by exact (seq_string (seq_nil w'.heap.size w'))⟩)
  go_region_held3 (fun w' => w'.cell? ⟨q1, 0, none⟩ = some (.int .u64 (M.t : Int)) ∧ w'.cell? ⟨q1, 1, none⟩ = some (.int .u32 (M.e : Int)) ∧ w'.cell? ⟨q1, 2, none⟩ = some (.int .u32 (M.m : Int)) ∧ w'.cell? ⟨q1, 3, none⟩ = some (.int .u32 (M.f : Int)) ∧ w'.cell? ⟨q1 + 1, 0, none⟩ = some (.int .u64 (M.t : Int)) ∧ w'.cell? ⟨q1 + 1, 1, none⟩ = some (.int .u32 (M.e : Int)) ∧ w'.cell? ⟨q1 + 1, 2, none⟩ = some (.int .u32 (M.m : Int)) ∧ w'.cell? ⟨q1 + 1, 3, none⟩ = some (.int .u32 (M.f : Int)) ∧ w'.cell? ⟨q0, 0, none⟩ = some (.int .u64 (M.t : Int)) ∧ (convert 33 9 (.slice none 0 0)).run Try.prog w' = .ok (.string { data := #[] }) w')
    (first | (with_reducible exact (HSK.out _ (gdrew w4))) | (with_reducible exact (HSK.out _ HA5.out)) | (with_reducible exact (HSK.out _ HA6.out)))
    (first
      | (go_at_call 14; ((with_reducible refine (HR1.out w4.drew).mono ?_); rintro r w5 ⟨rfl, hg⟩); have HA5 := Lib.hid (gtrans (gdrew w4) hg); clear hg)
      | (go_at_call 15; ((with_reducible refine (HR2.out w5).mono ?_); rintro r w6 ⟨rfl, hg⟩); have HA6 := Lib.hid (gtrans HA5.out hg); clear hg)
      | (go_at_call 16; ((with_reducible refine (HSL.out w6).mono ?_); rintro r w7 ⟨rfl, rfl⟩)))
  go_wp2
  go_ret
  exact ⟨rfl, gbelow (gtrans G4.out HA6.out)⟩

set_option maxRecDepth 30000 in
set_option maxHeartbeats 4000000 in
theorem puts_ne_f (w : World) (M : Mt) (hM : MtOk M) (size : Int) (h : ¬ (mright M = true ∧ 512 ≤ size ∧ size ≤ 4096)) (hr : mright M = false) (hp : M.t % 2 = 0) :
    Calls Try.prog 3 #[.agg (mtC M), .int .i64 size] w fun r w' => r = .returned (.bool true) ∧ Below w.heap.size w w' := by
  have hmc : mtC M = #[.int .u64 (M.t : Int), .int .u32 (M.e : Int), .int .u32 (M.m : Int), .int .u32 (M.f : Int)] := rfl
  have hpi : (M.t : Int) % 2 = 0 := by omega
  have hpt : (M.t : Int).tmod 2 = 0 := by rw [Int.tmod_eq_emod_of_nonneg (by omega)]; exact hpi
  have HSL : Hid (∀ W : World, Calls Try.prog 16 #[.int .u64 (M.t : Int)] W fun r w' => r = .returned (.int .i64 0) ∧ W = w') := Lib.hid (fun W => (mslot_any M.t hM.t W).mono fun r w' h => by rw [hp] at h; exact h)
  have HP := Lib.hid (fun W => mput_no W M size h)
  have HK := Lib.hid (fun W => kput_no W M size h)
  clear h
  rw [hmc] at HP HK
  have HR1 := Lib.hid (fun W => mright_any M W)
  have HR2 := Lib.hid (fun W => kright_any M W)
  rw [hmc, hr] at HR1 HR2
  clear hr hM hp
  go_enter Try.func3, Try.ntmps3
  go_wp2_with (first
    | (go_at_call 10; have K := awake7_any (w.alloc (.cells #[.int .u64 (M.t : Int), .int .u32 (M.e : Int), .int .u32 (M.m : Int), .int .u32 (M.f : Int)] 25)); ((with_reducible refine K.mono ?_); clear K; rintro r wA ⟨rfl, hgA⟩); have GA := Lib.hid (gtrans (World.grownBy_alloc _ _ _) hgA); have BX := Lib.hid ((hgA.block w.heap.size (by simp) (by simp)).trans (heap_alloc_new _ _)); obtain ⟨x0, x1, x2, x3⟩ := mt_cells BX.out; clear hgA)
    | (go_at_call 11; have K := of7_any wA M; rw [hmc] at K; ((with_reducible refine K.mono ?_); clear K; rintro r w2 ⟨rfl, hg⟩); have hg2 := gtrans hg (two_grown w2 (.cells #[.int .u64 (M.t : Int), .int .u32 (M.e : Int), .int .u32 (M.m : Int), .int .u32 (M.f : Int)] 29) (.cells #[.int .u64 (M.t : Int), .int .u32 (M.e : Int), .int .u32 (M.m : Int), .int .u32 (M.f : Int)] 30)); have G2 := Lib.hid (gtrans GA.out hg2); have BX2 := Lib.hid ((hg2.block _ (lt_of_block BX.out) (by simp)).trans BX.out); have M2 := Lib.hid (two_lit0 w2 (.cells #[.int .u64 (M.t : Int), .int .u32 (M.e : Int), .int .u32 (M.m : Int), .int .u32 (M.f : Int)] 29) (.cells #[.int .u64 (M.t : Int), .int .u32 (M.e : Int), .int .u32 (M.m : Int), .int .u32 (M.f : Int)] 30)); have K2 := Lib.hid (two_lit1 w2 (.cells #[.int .u64 (M.t : Int), .int .u32 (M.e : Int), .int .u32 (M.m : Int), .int .u32 (M.f : Int)] 29) (.cells #[.int .u64 (M.t : Int), .int .u32 (M.e : Int), .int .u32 (M.m : Int), .int .u32 (M.f : Int)] 30)); clear hg hg2 x0 x1 x2 x3; obtain ⟨m0, m1, m2, m3⟩ := mt_cells M2.out)
    | (go_at_call 12; have K := HP.out ((w2.alloc (.cells #[.int .u64 (M.t : Int), .int .u32 (M.e : Int), .int .u32 (M.m : Int), .int .u32 (M.f : Int)] 29)).alloc (.cells #[.int .u64 (M.t : Int), .int .u32 (M.e : Int), .int .u32 (M.m : Int), .int .u32 (M.f : Int)] 30)); ((with_reducible refine K.mono ?_); clear K; rintro r w3 ⟨rfl, hg⟩); have G3 := Lib.hid (gtrans G2.out hg); have M3 := Lib.hid ((hg.block _ (lt_of_block M2.out) (by simp)).trans M2.out); have K3 := Lib.hid ((hg.block _ (lt_of_block K2.out) (by simp)).trans K2.out); have BX3 := Lib.hid ((hg.block _ (lt_of_block BX2.out) (by simp)).trans BX2.out); clear hg m0 m1 m2 m3; obtain ⟨k0, k1, k2, k3⟩ := mt_cells K3.out)
    | (go_at_call 13; have K := HK.out w3; ((with_reducible refine K.mono ?_); clear K; rintro r w4 ⟨rfl, hg⟩); have G4 := Lib.hid (gtrans G3.out hg); have M4 := Lib.hid ((hg.block _ (lt_of_block M3.out) (by simp)).trans M3.out); have K4 := Lib.hid ((hg.block _ (lt_of_block K3.out) (by simp)).trans K3.out); have BX4 := Lib.hid ((hg.block _ (lt_of_block BX3.out) (by simp)).trans BX3.out); clear hg k0 k1 k2 k3))
  obtain ⟨q0, hq0⟩ : ∃ q, q = w.heap.size := ⟨_, rfl⟩
  obtain ⟨q1, hq1⟩ : ∃ q, q = w2.heap.size := ⟨_, rfl⟩
  rw [← hq0] at BX4 ⊢
  rw [← hq1] at M4 K4 ⊢
  have HQ0 := Lib.hid hq0
  clear hq0 hq1
  have HSK := Lib.hid (show ∀ w' : World, w4.grownBy w' none → w'.cell? ⟨q1, 0, none⟩ = some (.int .u64 (M.t : Int)) ∧ w'.cell? ⟨q1, 1, none⟩ = some (.int .u32 (M.e : Int)) ∧ w'.cell? ⟨q1, 2, none⟩ = some (.int .u32 (M.m : Int)) ∧ w'.cell? ⟨q1, 3, none⟩ = some (.int .u32 (M.f : Int)) ∧ w'.cell? ⟨q1 + 1, 0, none⟩ = some (.int .u64 (M.t : Int)) ∧ w'.cell? ⟨q1 + 1, 1, none⟩ = some (.int .u32 (M.e : Int)) ∧ w'.cell? ⟨q1 + 1, 2, none⟩ = some (.int .u32 (M.m : Int)) ∧ w'.cell? ⟨q1 + 1, 3, none⟩ = some (.int .u32 (M.f : Int)) ∧ w'.cell? ⟨q0, 0, none⟩ = some (.int .u64 (M.t : Int)) ∧ (convert 33 9 (.slice none 0 0)).run Try.prog w' = .ok (.string { data := #[] }) w' from fun w' k => by
    obtain ⟨a0, a1, a2, a3⟩ := mt_cells ((k.block _ (lt_of_block M4.out) (by simp)).trans M4.out)
    obtain ⟨b0, b1, b2, b3⟩ := mt_cells ((k.block _ (lt_of_block K4.out) (by simp)).trans K4.out)
    obtain ⟨d0, _, _, _⟩ := mt_cells ((k.block _ (lt_of_block BX4.out) (by simp)).trans BX4.out)
    exact ⟨a0, a1, a2, a3, b0, b1, b2, b3, d0, by exact (seq_string (seq_nil w'.heap.size w'))⟩)
  go_region_held3 (fun w' => w'.cell? ⟨q1, 0, none⟩ = some (.int .u64 (M.t : Int)) ∧ w'.cell? ⟨q1, 1, none⟩ = some (.int .u32 (M.e : Int)) ∧ w'.cell? ⟨q1, 2, none⟩ = some (.int .u32 (M.m : Int)) ∧ w'.cell? ⟨q1, 3, none⟩ = some (.int .u32 (M.f : Int)) ∧ w'.cell? ⟨q1 + 1, 0, none⟩ = some (.int .u64 (M.t : Int)) ∧ w'.cell? ⟨q1 + 1, 1, none⟩ = some (.int .u32 (M.e : Int)) ∧ w'.cell? ⟨q1 + 1, 2, none⟩ = some (.int .u32 (M.m : Int)) ∧ w'.cell? ⟨q1 + 1, 3, none⟩ = some (.int .u32 (M.f : Int)) ∧ w'.cell? ⟨q0, 0, none⟩ = some (.int .u64 (M.t : Int)) ∧ (convert 33 9 (.slice none 0 0)).run Try.prog w' = .ok (.string { data := #[] }) w')
    (first | (with_reducible exact (HSK.out _ (gdrew w4))) | (with_reducible exact (HSK.out _ HA5.out)) | (with_reducible exact (HSK.out _ HA6.out)))
    (first
      | (go_at_call 14; ((with_reducible refine (HR1.out w4.drew).mono ?_); rintro r w5 ⟨rfl, hg⟩); have HA5 := Lib.hid (gtrans (gdrew w4) hg); clear hg)
      | (go_at_call 15; ((with_reducible refine (HR2.out w5).mono ?_); rintro r w6 ⟨rfl, hg⟩); have HA6 := Lib.hid (gtrans HA5.out hg); clear hg)
      | (go_at_call 16; ((with_reducible refine (HSL.out w6).mono ?_); rintro r w7 ⟨rfl, rfl⟩)))
  go_wp2
  go_ret
  exact ⟨rfl, gbelow (gtrans G4.out HA6.out)⟩

set_option maxRecDepth 30000 in
set_option maxHeartbeats 4000000 in
theorem puts_no_f (w : World) (M : Mt) (hM : MtOk M) (size : Int) (h : ¬ (mright M = true ∧ 512 ≤ size ∧ size ≤ 4096)) (hr : mright M = false) (hp : M.t % 2 = 1) :
    Calls Try.prog 3 #[.agg (mtC M), .int .i64 size] w fun r w' => r = .returned (.bool true) ∧ Below w.heap.size w w' := by
  have hmc : mtC M = #[.int .u64 (M.t : Int), .int .u32 (M.e : Int), .int .u32 (M.m : Int), .int .u32 (M.f : Int)] := rfl
  have hpi : (M.t : Int) % 2 = 1 := by omega
  have hpt : (M.t : Int).tmod 2 = 1 := by rw [Int.tmod_eq_emod_of_nonneg (by omega)]; exact hpi
  have HSL : Hid (∀ W : World, Calls Try.prog 16 #[.int .u64 (M.t : Int)] W fun r w' => r = .returned (.int .i64 1) ∧ W = w') := Lib.hid (fun W => (mslot_any M.t hM.t W).mono fun r w' h => by rw [hp] at h; exact h)
  have HP := Lib.hid (fun W => mput_no W M size h)
  have HK := Lib.hid (fun W => kput_no W M size h)
  clear h
  rw [hmc] at HP HK
  have HR1 := Lib.hid (fun W => mright_any M W)
  have HR2 := Lib.hid (fun W => kright_any M W)
  rw [hmc, hr] at HR1 HR2
  clear hr hM hp
  go_enter Try.func3, Try.ntmps3
  go_wp2_with (first
    | (go_at_call 10; have K := awake7_any (w.alloc (.cells #[.int .u64 (M.t : Int), .int .u32 (M.e : Int), .int .u32 (M.m : Int), .int .u32 (M.f : Int)] 25)); ((with_reducible refine K.mono ?_); clear K; rintro r wA ⟨rfl, hgA⟩); have GA := Lib.hid (gtrans (World.grownBy_alloc _ _ _) hgA); have BX := Lib.hid ((hgA.block w.heap.size (by simp) (by simp)).trans (heap_alloc_new _ _)); obtain ⟨x0, x1, x2, x3⟩ := mt_cells BX.out; clear hgA)
    | (go_at_call 11; have K := of7_any wA M; rw [hmc] at K; ((with_reducible refine K.mono ?_); clear K; rintro r w2 ⟨rfl, hg⟩); have hg2 := gtrans hg (two_grown w2 (.cells #[.int .u64 (M.t : Int), .int .u32 (M.e : Int), .int .u32 (M.m : Int), .int .u32 (M.f : Int)] 29) (.cells #[.int .u64 (M.t : Int), .int .u32 (M.e : Int), .int .u32 (M.m : Int), .int .u32 (M.f : Int)] 30)); have G2 := Lib.hid (gtrans GA.out hg2); have BX2 := Lib.hid ((hg2.block _ (lt_of_block BX.out) (by simp)).trans BX.out); have M2 := Lib.hid (two_lit0 w2 (.cells #[.int .u64 (M.t : Int), .int .u32 (M.e : Int), .int .u32 (M.m : Int), .int .u32 (M.f : Int)] 29) (.cells #[.int .u64 (M.t : Int), .int .u32 (M.e : Int), .int .u32 (M.m : Int), .int .u32 (M.f : Int)] 30)); have K2 := Lib.hid (two_lit1 w2 (.cells #[.int .u64 (M.t : Int), .int .u32 (M.e : Int), .int .u32 (M.m : Int), .int .u32 (M.f : Int)] 29) (.cells #[.int .u64 (M.t : Int), .int .u32 (M.e : Int), .int .u32 (M.m : Int), .int .u32 (M.f : Int)] 30)); clear hg hg2 x0 x1 x2 x3; obtain ⟨m0, m1, m2, m3⟩ := mt_cells M2.out)
    | (go_at_call 12; have K := HP.out ((w2.alloc (.cells #[.int .u64 (M.t : Int), .int .u32 (M.e : Int), .int .u32 (M.m : Int), .int .u32 (M.f : Int)] 29)).alloc (.cells #[.int .u64 (M.t : Int), .int .u32 (M.e : Int), .int .u32 (M.m : Int), .int .u32 (M.f : Int)] 30)); ((with_reducible refine K.mono ?_); clear K; rintro r w3 ⟨rfl, hg⟩); have G3 := Lib.hid (gtrans G2.out hg); have M3 := Lib.hid ((hg.block _ (lt_of_block M2.out) (by simp)).trans M2.out); have K3 := Lib.hid ((hg.block _ (lt_of_block K2.out) (by simp)).trans K2.out); have BX3 := Lib.hid ((hg.block _ (lt_of_block BX2.out) (by simp)).trans BX2.out); clear hg m0 m1 m2 m3; obtain ⟨k0, k1, k2, k3⟩ := mt_cells K3.out)
    | (go_at_call 13; have K := HK.out w3; ((with_reducible refine K.mono ?_); clear K; rintro r w4 ⟨rfl, hg⟩); have G4 := Lib.hid (gtrans G3.out hg); have M4 := Lib.hid ((hg.block _ (lt_of_block M3.out) (by simp)).trans M3.out); have K4 := Lib.hid ((hg.block _ (lt_of_block K3.out) (by simp)).trans K3.out); have BX4 := Lib.hid ((hg.block _ (lt_of_block BX3.out) (by simp)).trans BX3.out); clear hg k0 k1 k2 k3))
  obtain ⟨q0, hq0⟩ : ∃ q, q = w.heap.size := ⟨_, rfl⟩
  obtain ⟨q1, hq1⟩ : ∃ q, q = w2.heap.size := ⟨_, rfl⟩
  rw [← hq0] at BX4 ⊢
  rw [← hq1] at M4 K4 ⊢
  have HQ0 := Lib.hid hq0
  clear hq0 hq1
  have HSK := Lib.hid (show ∀ w' : World, w4.grownBy w' none → w'.cell? ⟨q1, 0, none⟩ = some (.int .u64 (M.t : Int)) ∧ w'.cell? ⟨q1, 1, none⟩ = some (.int .u32 (M.e : Int)) ∧ w'.cell? ⟨q1, 2, none⟩ = some (.int .u32 (M.m : Int)) ∧ w'.cell? ⟨q1, 3, none⟩ = some (.int .u32 (M.f : Int)) ∧ w'.cell? ⟨q1 + 1, 0, none⟩ = some (.int .u64 (M.t : Int)) ∧ w'.cell? ⟨q1 + 1, 1, none⟩ = some (.int .u32 (M.e : Int)) ∧ w'.cell? ⟨q1 + 1, 2, none⟩ = some (.int .u32 (M.m : Int)) ∧ w'.cell? ⟨q1 + 1, 3, none⟩ = some (.int .u32 (M.f : Int)) ∧ w'.cell? ⟨q0, 0, none⟩ = some (.int .u64 (M.t : Int)) ∧ (convert 33 9 (.slice none 0 0)).run Try.prog w' = .ok (.string { data := #[] }) w' from fun w' k => by
    obtain ⟨a0, a1, a2, a3⟩ := mt_cells ((k.block _ (lt_of_block M4.out) (by simp)).trans M4.out)
    obtain ⟨b0, b1, b2, b3⟩ := mt_cells ((k.block _ (lt_of_block K4.out) (by simp)).trans K4.out)
    obtain ⟨d0, _, _, _⟩ := mt_cells ((k.block _ (lt_of_block BX4.out) (by simp)).trans BX4.out)
    exact ⟨a0, a1, a2, a3, b0, b1, b2, b3, d0, by exact (seq_string (seq_nil w'.heap.size w'))⟩)
  go_region_held3 (fun w' => w'.cell? ⟨q1, 0, none⟩ = some (.int .u64 (M.t : Int)) ∧ w'.cell? ⟨q1, 1, none⟩ = some (.int .u32 (M.e : Int)) ∧ w'.cell? ⟨q1, 2, none⟩ = some (.int .u32 (M.m : Int)) ∧ w'.cell? ⟨q1, 3, none⟩ = some (.int .u32 (M.f : Int)) ∧ w'.cell? ⟨q1 + 1, 0, none⟩ = some (.int .u64 (M.t : Int)) ∧ w'.cell? ⟨q1 + 1, 1, none⟩ = some (.int .u32 (M.e : Int)) ∧ w'.cell? ⟨q1 + 1, 2, none⟩ = some (.int .u32 (M.m : Int)) ∧ w'.cell? ⟨q1 + 1, 3, none⟩ = some (.int .u32 (M.f : Int)) ∧ w'.cell? ⟨q0, 0, none⟩ = some (.int .u64 (M.t : Int)) ∧ (convert 33 9 (.slice none 0 0)).run Try.prog w' = .ok (.string { data := #[] }) w')
    (first | (with_reducible exact (HSK.out _ (gdrew w4))) | (with_reducible exact (HSK.out _ HA5.out)) | (with_reducible exact (HSK.out _ HA6.out)))
    (first
      | (go_at_call 14; ((with_reducible refine (HR1.out w4.drew).mono ?_); rintro r w5 ⟨rfl, hg⟩); have HA5 := Lib.hid (gtrans (gdrew w4) hg); clear hg)
      | (go_at_call 15; ((with_reducible refine (HR2.out w5).mono ?_); rintro r w6 ⟨rfl, hg⟩); have HA6 := Lib.hid (gtrans HA5.out hg); clear hg)
      | (go_at_call 16; ((with_reducible refine (HSL.out w6).mono ?_); rintro r w7 ⟨rfl, rfl⟩)))
  go_wp2
  go_ret
  exact ⟨rfl, gbelow (gtrans G4.out HA6.out)⟩

set_option maxRecDepth 30000 in
set_option maxHeartbeats 4000000 in
theorem puts_ye (w : World) (M : Mt) (hM : MtOk M) (S : Nat) (hG : Good M S) (hp : M.t % 2 = 0) :
    Calls Try.prog 3 #[.agg (mtC M), .int .i64 (S : Int)] w fun r w' => r = .returned (.bool true) ∧ Below w.heap.size w w' := by
  have hmc : mtC M = #[.int .u64 (M.t : Int), .int .u32 (M.e : Int), .int .u32 (M.m : Int), .int .u32 (M.f : Int)] := rfl
  have hpi : (M.t : Int) % 2 = 0 := by omega
  have hpt : (M.t : Int).tmod 2 = 0 := by rw [Int.tmod_eq_emod_of_nonneg (by omega)]; exact hpi
  have HSL : Hid (∀ W : World, Calls Try.prog 16 #[.int .u64 (M.t : Int)] W fun r w' => r = .returned (.int .i64 0) ∧ W = w') := Lib.hid (fun W => (mslot_any M.t hM.t W).mono fun r w' h => by rw [hp] at h; exact h)
  have hr := hG.right
  have HP := Lib.hid (fun W => mput_ok W M hG.ok hG.right S hG.lo hG.hi)
  have HK := Lib.hid (fun W => kput_ok W M hG.ok hG.right S hG.lo hG.hi)
  have HL := Lib.hid hG.len
  have HB := Lib.hid (mpage_byt M S)
  have HGe := Lib.hid hG.get
  generalize mpage M S = pM at *
  obtain ⟨T, hT⟩ : ∃ T, T = strOfNums pM := ⟨_, rfl⟩
  rw [← hT] at HK
  have HT := Lib.hid hT
  clear hG hT
  rw [hmc] at HP HK
  have HR1 := Lib.hid (fun W => mright_any M W)
  have HR2 := Lib.hid (fun W => kright_any M W)
  rw [hmc, hr] at HR1 HR2
  clear hr hM hp
  go_enter Try.func3, Try.ntmps3
  go_wp2_with (first
    | (go_at_call 10; have K := awake7_any (w.alloc (.cells #[.int .u64 (M.t : Int), .int .u32 (M.e : Int), .int .u32 (M.m : Int), .int .u32 (M.f : Int)] 25)); ((with_reducible refine K.mono ?_); clear K; rintro r wA ⟨rfl, hgA⟩); have GA := Lib.hid (gtrans (World.grownBy_alloc _ _ _) hgA); have BX := Lib.hid ((hgA.block w.heap.size (by simp) (by simp)).trans (heap_alloc_new _ _)); obtain ⟨x0, x1, x2, x3⟩ := mt_cells BX.out; clear hgA)
    | (go_at_call 11; have K := of7_any wA M; rw [hmc] at K; ((with_reducible refine K.mono ?_); clear K; rintro r w2 ⟨rfl, hg⟩); have hg2 := gtrans hg (two_grown w2 (.cells #[.int .u64 (M.t : Int), .int .u32 (M.e : Int), .int .u32 (M.m : Int), .int .u32 (M.f : Int)] 29) (.cells #[.int .u64 (M.t : Int), .int .u32 (M.e : Int), .int .u32 (M.m : Int), .int .u32 (M.f : Int)] 30)); have G2 := Lib.hid (gtrans GA.out hg2); have BX2 := Lib.hid ((hg2.block _ (lt_of_block BX.out) (by simp)).trans BX.out); have M2 := Lib.hid (two_lit0 w2 (.cells #[.int .u64 (M.t : Int), .int .u32 (M.e : Int), .int .u32 (M.m : Int), .int .u32 (M.f : Int)] 29) (.cells #[.int .u64 (M.t : Int), .int .u32 (M.e : Int), .int .u32 (M.m : Int), .int .u32 (M.f : Int)] 30)); have K2 := Lib.hid (two_lit1 w2 (.cells #[.int .u64 (M.t : Int), .int .u32 (M.e : Int), .int .u32 (M.m : Int), .int .u32 (M.f : Int)] 29) (.cells #[.int .u64 (M.t : Int), .int .u32 (M.e : Int), .int .u32 (M.m : Int), .int .u32 (M.f : Int)] 30)); clear hg hg2 x0 x1 x2 x3; obtain ⟨m0, m1, m2, m3⟩ := mt_cells M2.out)
    | (go_at_call 12; have K := HP.out ((w2.alloc (.cells #[.int .u64 (M.t : Int), .int .u32 (M.e : Int), .int .u32 (M.m : Int), .int .u32 (M.f : Int)] 29)).alloc (.cells #[.int .u64 (M.t : Int), .int .u32 (M.e : Int), .int .u32 (M.m : Int), .int .u32 (M.f : Int)] 30)); ((with_reducible refine K.mono ?_); clear K; rintro r w3 ⟨ao, c, rfl, ho, hg⟩); have SA3 := Lib.hid (Seq.owned1 HL.out ho); have G3 := Lib.hid (gtrans G2.out hg); have M3 := Lib.hid ((hg.block _ (lt_of_block M2.out) (by simp)).trans M2.out); have K3 := Lib.hid ((hg.block _ (lt_of_block K2.out) (by simp)).trans K2.out); have BX3 := Lib.hid ((hg.block _ (lt_of_block BX2.out) (by simp)).trans BX2.out); clear hg ho m0 m1 m2 m3; obtain ⟨k0, k1, k2, k3⟩ := mt_cells K3.out)
    | (go_at_call 13; have K := HK.out w3; ((with_reducible refine K.mono ?_); clear K; rintro r w4 ⟨rfl, hg⟩); have SA4 := Lib.hid (SA3.out.grown hg); have G4 := Lib.hid (gtrans G3.out hg); have M4 := Lib.hid ((hg.block _ (lt_of_block M3.out) (by simp)).trans M3.out); have K4 := Lib.hid ((hg.block _ (lt_of_block K3.out) (by simp)).trans K3.out); have BX4 := Lib.hid ((hg.block _ (lt_of_block BX3.out) (by simp)).trans BX3.out); clear hg k0 k1 k2 k3))
  obtain ⟨q0, hq0⟩ : ∃ q, q = w.heap.size := ⟨_, rfl⟩
  obtain ⟨q1, hq1⟩ : ∃ q, q = w2.heap.size := ⟨_, rfl⟩
  rw [← hq0] at BX4 ⊢
  rw [← hq1] at M4 K4 ⊢
  have HQ0 := Lib.hid hq0
  clear hq0 hq1
  have HSK := Lib.hid (show ∀ w' : World, w4.grownBy w' none → w'.cell? ⟨q1, 0, none⟩ = some (.int .u64 (M.t : Int)) ∧ w'.cell? ⟨q1, 1, none⟩ = some (.int .u32 (M.e : Int)) ∧ w'.cell? ⟨q1, 2, none⟩ = some (.int .u32 (M.m : Int)) ∧ w'.cell? ⟨q1, 3, none⟩ = some (.int .u32 (M.f : Int)) ∧ w'.cell? ⟨q1 + 1, 0, none⟩ = some (.int .u64 (M.t : Int)) ∧ w'.cell? ⟨q1 + 1, 1, none⟩ = some (.int .u32 (M.e : Int)) ∧ w'.cell? ⟨q1 + 1, 2, none⟩ = some (.int .u32 (M.m : Int)) ∧ w'.cell? ⟨q1 + 1, 3, none⟩ = some (.int .u32 (M.f : Int)) ∧ w'.cell? ⟨q0, 0, none⟩ = some (.int .u64 (M.t : Int)) ∧ (convert 33 9 (.slice ao S c)).run Try.prog w' = .ok (.string T) w' from fun w' k => by
    obtain ⟨a0, a1, a2, a3⟩ := mt_cells ((k.block _ (lt_of_block M4.out) (by simp)).trans M4.out)
    obtain ⟨b0, b1, b2, b3⟩ := mt_cells ((k.block _ (lt_of_block K4.out) (by simp)).trans K4.out)
    obtain ⟨d0, _, _, _⟩ := mt_cells ((k.block _ (lt_of_block BX4.out) (by simp)).trans BX4.out)
    exact ⟨a0, a1, a2, a3, b0, b1, b2, b3, d0, by rw [HT.out]; exact (seq_string (SA4.out.grown k))⟩)
  go_region_held3 (fun w' => w'.cell? ⟨q1, 0, none⟩ = some (.int .u64 (M.t : Int)) ∧ w'.cell? ⟨q1, 1, none⟩ = some (.int .u32 (M.e : Int)) ∧ w'.cell? ⟨q1, 2, none⟩ = some (.int .u32 (M.m : Int)) ∧ w'.cell? ⟨q1, 3, none⟩ = some (.int .u32 (M.f : Int)) ∧ w'.cell? ⟨q1 + 1, 0, none⟩ = some (.int .u64 (M.t : Int)) ∧ w'.cell? ⟨q1 + 1, 1, none⟩ = some (.int .u32 (M.e : Int)) ∧ w'.cell? ⟨q1 + 1, 2, none⟩ = some (.int .u32 (M.m : Int)) ∧ w'.cell? ⟨q1 + 1, 3, none⟩ = some (.int .u32 (M.f : Int)) ∧ w'.cell? ⟨q0, 0, none⟩ = some (.int .u64 (M.t : Int)) ∧ (convert 33 9 (.slice ao S c)).run Try.prog w' = .ok (.string T) w')
    (first | (with_reducible exact (HSK.out _ (gdrew w4))) | (with_reducible exact (HSK.out _ HA5.out)) | (with_reducible exact (HSK.out _ HA6.out)))
    (first
      | (go_at_call 14; ((with_reducible refine (HR1.out w4.drew).mono ?_); rintro r w5 ⟨rfl, hg⟩); have HA5 := Lib.hid (gtrans (gdrew w4) hg); clear hg)
      | (go_at_call 15; ((with_reducible refine (HR2.out w5).mono ?_); rintro r w6 ⟨rfl, hg⟩); have HA6 := Lib.hid (gtrans HA5.out hg); clear hg)
      | (go_at_call 16; ((with_reducible refine (HSL.out w6).mono ?_); rintro r w7 ⟨rfl, rfl⟩)))
  have M6 := Lib.hid ((HA6.out.block _ (lt_of_block M4.out) (by simp)).trans M4.out)
  have SA6 := Lib.hid (SA4.out.grown HA6.out)
  go_wp2_with (first
    | (go_at_call 17; have K := mget_as SA6.out HB.out HGe.out.2.symm HGe.out.1.symm; ((with_reducible refine K.mono ?_); clear K; rintro r w8 ⟨rfl, hg⟩); have hg8 := gtrans hg (World.grownBy_alloc w8 (.cells #[.int .u64 (M.t : Int), .int .u32 (M.e : Int), .int .u32 (M.m : Int), .int .u32 (M.f : Int)] 29) none); have G8 := Lib.hid (gtrans (gtrans G4.out HA6.out) hg8); have M8 := Lib.hid ((hg8.block _ (lt_of_block M6.out) (by simp)).trans M6.out); have N8 := Lib.hid (heap_alloc_new w8 (.cells #[.int .u64 (M.t : Int), .int .u32 (M.e : Int), .int .u32 (M.m : Int), .int .u32 (M.f : Int)] 29)); obtain ⟨⟨m0, m1, m2, m3⟩, _⟩ := cells4 M8.out; obtain ⟨⟨k0, k1, k2, k3⟩, _⟩ := cells4 N8.out; clear hg hg8))
  go_ret
  exact ⟨rfl, gbelow G8.out⟩

set_option maxRecDepth 30000 in
set_option maxHeartbeats 4000000 in
theorem puts_yo (w : World) (M : Mt) (hM : MtOk M) (S : Nat) (hG : Good M S) (hp : M.t % 2 = 1) :
    Calls Try.prog 3 #[.agg (mtC M), .int .i64 (S : Int)] w fun r w' => r = .returned (.bool true) ∧ Below w.heap.size w w' := by
  have hmc : mtC M = #[.int .u64 (M.t : Int), .int .u32 (M.e : Int), .int .u32 (M.m : Int), .int .u32 (M.f : Int)] := rfl
  have hpi : (M.t : Int) % 2 = 1 := by omega
  have hpt : (M.t : Int).tmod 2 = 1 := by rw [Int.tmod_eq_emod_of_nonneg (by omega)]; exact hpi
  have HSL : Hid (∀ W : World, Calls Try.prog 16 #[.int .u64 (M.t : Int)] W fun r w' => r = .returned (.int .i64 1) ∧ W = w') := Lib.hid (fun W => (mslot_any M.t hM.t W).mono fun r w' h => by rw [hp] at h; exact h)
  have hr := hG.right
  have HP := Lib.hid (fun W => mput_ok W M hG.ok hG.right S hG.lo hG.hi)
  have HK := Lib.hid (fun W => kput_ok W M hG.ok hG.right S hG.lo hG.hi)
  have HL := Lib.hid hG.len
  have HB := Lib.hid (mpage_byt M S)
  have HGe := Lib.hid hG.get
  generalize mpage M S = pM at *
  obtain ⟨T, hT⟩ : ∃ T, T = strOfNums pM := ⟨_, rfl⟩
  rw [← hT] at HK
  have HT := Lib.hid hT
  clear hG hT
  rw [hmc] at HP HK
  have HR1 := Lib.hid (fun W => mright_any M W)
  have HR2 := Lib.hid (fun W => kright_any M W)
  rw [hmc, hr] at HR1 HR2
  clear hr hM hp
  go_enter Try.func3, Try.ntmps3
  go_wp2_with (first
    | (go_at_call 10; have K := awake7_any (w.alloc (.cells #[.int .u64 (M.t : Int), .int .u32 (M.e : Int), .int .u32 (M.m : Int), .int .u32 (M.f : Int)] 25)); ((with_reducible refine K.mono ?_); clear K; rintro r wA ⟨rfl, hgA⟩); have GA := Lib.hid (gtrans (World.grownBy_alloc _ _ _) hgA); have BX := Lib.hid ((hgA.block w.heap.size (by simp) (by simp)).trans (heap_alloc_new _ _)); obtain ⟨x0, x1, x2, x3⟩ := mt_cells BX.out; clear hgA)
    | (go_at_call 11; have K := of7_any wA M; rw [hmc] at K; ((with_reducible refine K.mono ?_); clear K; rintro r w2 ⟨rfl, hg⟩); have hg2 := gtrans hg (two_grown w2 (.cells #[.int .u64 (M.t : Int), .int .u32 (M.e : Int), .int .u32 (M.m : Int), .int .u32 (M.f : Int)] 29) (.cells #[.int .u64 (M.t : Int), .int .u32 (M.e : Int), .int .u32 (M.m : Int), .int .u32 (M.f : Int)] 30)); have G2 := Lib.hid (gtrans GA.out hg2); have BX2 := Lib.hid ((hg2.block _ (lt_of_block BX.out) (by simp)).trans BX.out); have M2 := Lib.hid (two_lit0 w2 (.cells #[.int .u64 (M.t : Int), .int .u32 (M.e : Int), .int .u32 (M.m : Int), .int .u32 (M.f : Int)] 29) (.cells #[.int .u64 (M.t : Int), .int .u32 (M.e : Int), .int .u32 (M.m : Int), .int .u32 (M.f : Int)] 30)); have K2 := Lib.hid (two_lit1 w2 (.cells #[.int .u64 (M.t : Int), .int .u32 (M.e : Int), .int .u32 (M.m : Int), .int .u32 (M.f : Int)] 29) (.cells #[.int .u64 (M.t : Int), .int .u32 (M.e : Int), .int .u32 (M.m : Int), .int .u32 (M.f : Int)] 30)); clear hg hg2 x0 x1 x2 x3; obtain ⟨m0, m1, m2, m3⟩ := mt_cells M2.out)
    | (go_at_call 12; have K := HP.out ((w2.alloc (.cells #[.int .u64 (M.t : Int), .int .u32 (M.e : Int), .int .u32 (M.m : Int), .int .u32 (M.f : Int)] 29)).alloc (.cells #[.int .u64 (M.t : Int), .int .u32 (M.e : Int), .int .u32 (M.m : Int), .int .u32 (M.f : Int)] 30)); ((with_reducible refine K.mono ?_); clear K; rintro r w3 ⟨ao, c, rfl, ho, hg⟩); have SA3 := Lib.hid (Seq.owned1 HL.out ho); have G3 := Lib.hid (gtrans G2.out hg); have M3 := Lib.hid ((hg.block _ (lt_of_block M2.out) (by simp)).trans M2.out); have K3 := Lib.hid ((hg.block _ (lt_of_block K2.out) (by simp)).trans K2.out); have BX3 := Lib.hid ((hg.block _ (lt_of_block BX2.out) (by simp)).trans BX2.out); clear hg ho m0 m1 m2 m3; obtain ⟨k0, k1, k2, k3⟩ := mt_cells K3.out)
    | (go_at_call 13; have K := HK.out w3; ((with_reducible refine K.mono ?_); clear K; rintro r w4 ⟨rfl, hg⟩); have SA4 := Lib.hid (SA3.out.grown hg); have G4 := Lib.hid (gtrans G3.out hg); have M4 := Lib.hid ((hg.block _ (lt_of_block M3.out) (by simp)).trans M3.out); have K4 := Lib.hid ((hg.block _ (lt_of_block K3.out) (by simp)).trans K3.out); have BX4 := Lib.hid ((hg.block _ (lt_of_block BX3.out) (by simp)).trans BX3.out); clear hg k0 k1 k2 k3))
  obtain ⟨q0, hq0⟩ : ∃ q, q = w.heap.size := ⟨_, rfl⟩
  obtain ⟨q1, hq1⟩ : ∃ q, q = w2.heap.size := ⟨_, rfl⟩
  rw [← hq0] at BX4 ⊢
  rw [← hq1] at M4 K4 ⊢
  have HQ0 := Lib.hid hq0
  clear hq0 hq1
  have HSK := Lib.hid (show ∀ w' : World, w4.grownBy w' none → w'.cell? ⟨q1, 0, none⟩ = some (.int .u64 (M.t : Int)) ∧ w'.cell? ⟨q1, 1, none⟩ = some (.int .u32 (M.e : Int)) ∧ w'.cell? ⟨q1, 2, none⟩ = some (.int .u32 (M.m : Int)) ∧ w'.cell? ⟨q1, 3, none⟩ = some (.int .u32 (M.f : Int)) ∧ w'.cell? ⟨q1 + 1, 0, none⟩ = some (.int .u64 (M.t : Int)) ∧ w'.cell? ⟨q1 + 1, 1, none⟩ = some (.int .u32 (M.e : Int)) ∧ w'.cell? ⟨q1 + 1, 2, none⟩ = some (.int .u32 (M.m : Int)) ∧ w'.cell? ⟨q1 + 1, 3, none⟩ = some (.int .u32 (M.f : Int)) ∧ w'.cell? ⟨q0, 0, none⟩ = some (.int .u64 (M.t : Int)) ∧ (convert 33 9 (.slice ao S c)).run Try.prog w' = .ok (.string T) w' from fun w' k => by
    obtain ⟨a0, a1, a2, a3⟩ := mt_cells ((k.block _ (lt_of_block M4.out) (by simp)).trans M4.out)
    obtain ⟨b0, b1, b2, b3⟩ := mt_cells ((k.block _ (lt_of_block K4.out) (by simp)).trans K4.out)
    obtain ⟨d0, _, _, _⟩ := mt_cells ((k.block _ (lt_of_block BX4.out) (by simp)).trans BX4.out)
    exact ⟨a0, a1, a2, a3, b0, b1, b2, b3, d0, by rw [HT.out]; exact (seq_string (SA4.out.grown k))⟩)
  go_region_held3 (fun w' => w'.cell? ⟨q1, 0, none⟩ = some (.int .u64 (M.t : Int)) ∧ w'.cell? ⟨q1, 1, none⟩ = some (.int .u32 (M.e : Int)) ∧ w'.cell? ⟨q1, 2, none⟩ = some (.int .u32 (M.m : Int)) ∧ w'.cell? ⟨q1, 3, none⟩ = some (.int .u32 (M.f : Int)) ∧ w'.cell? ⟨q1 + 1, 0, none⟩ = some (.int .u64 (M.t : Int)) ∧ w'.cell? ⟨q1 + 1, 1, none⟩ = some (.int .u32 (M.e : Int)) ∧ w'.cell? ⟨q1 + 1, 2, none⟩ = some (.int .u32 (M.m : Int)) ∧ w'.cell? ⟨q1 + 1, 3, none⟩ = some (.int .u32 (M.f : Int)) ∧ w'.cell? ⟨q0, 0, none⟩ = some (.int .u64 (M.t : Int)) ∧ (convert 33 9 (.slice ao S c)).run Try.prog w' = .ok (.string T) w')
    (first | (with_reducible exact (HSK.out _ (gdrew w4))) | (with_reducible exact (HSK.out _ HA5.out)) | (with_reducible exact (HSK.out _ HA6.out)))
    (first
      | (go_at_call 14; ((with_reducible refine (HR1.out w4.drew).mono ?_); rintro r w5 ⟨rfl, hg⟩); have HA5 := Lib.hid (gtrans (gdrew w4) hg); clear hg)
      | (go_at_call 15; ((with_reducible refine (HR2.out w5).mono ?_); rintro r w6 ⟨rfl, hg⟩); have HA6 := Lib.hid (gtrans HA5.out hg); clear hg)
      | (go_at_call 16; ((with_reducible refine (HSL.out w6).mono ?_); rintro r w7 ⟨rfl, rfl⟩)))
  have M6 := Lib.hid ((HA6.out.block _ (lt_of_block M4.out) (by simp)).trans M4.out)
  have SA6 := Lib.hid (SA4.out.grown HA6.out)
  go_wp2_with (first
    | (go_at_call 17; have K := mget_as SA6.out HB.out HGe.out.2.symm HGe.out.1.symm; ((with_reducible refine K.mono ?_); clear K; rintro r w8 ⟨rfl, hg⟩); have hg8 := gtrans hg (World.grownBy_alloc w8 (.cells #[.int .u64 (M.t : Int), .int .u32 (M.e : Int), .int .u32 (M.m : Int), .int .u32 (M.f : Int)] 29) none); have G8 := Lib.hid (gtrans (gtrans G4.out HA6.out) hg8); have M8 := Lib.hid ((hg8.block _ (lt_of_block M6.out) (by simp)).trans M6.out); have N8 := Lib.hid (heap_alloc_new w8 (.cells #[.int .u64 (M.t : Int), .int .u32 (M.e : Int), .int .u32 (M.m : Int), .int .u32 (M.f : Int)] 29)); obtain ⟨⟨m0, m1, m2, m3⟩, _⟩ := cells4 M8.out; obtain ⟨⟨k0, k1, k2, k3⟩, _⟩ := cells4 N8.out; clear hg hg8))
  go_ret
  exact ⟨rfl, gbelow G8.out⟩

theorem puts_any (w : World) (M : Mt) (size : Int) (hM : MtOk M) (_z0 : -9223372036854775808 ≤ size) (_z1 : size ≤ 9223372036854775807) :
    Calls Try.prog 3 #[.agg (mtC M), .int .i64 size] w fun r w' => r = .returned (.bool true) ∧ Below w.heap.size w w' := by
  rcases gput_or w M hM size with h | ⟨S, rfl, hG⟩
  · rcases (by omega : M.t % 2 = 0 ∨ M.t % 2 = 1) with hp | hp
    · cases hr : mright M
      · exact puts_ne_f w M hM size h hr hp
      · exact puts_ne_t w M hM size h hr hp
    · cases hr : mright M
      · exact puts_no_f w M hM size h hr hp
      · exact puts_no_t w M hM size h hr hp
  · rcases (by omega : M.t % 2 = 0 ∨ M.t % 2 = 1) with hp | hp
    · exact puts_ye w M hM S hG hp
    · exact puts_yo w M hM S hG hp

open Go.ChangeShapes Go.WideShapes Go.ChangeAt
set_option linter.unusedVariables false
set_option maxRecDepth 100000 in
theorem puts_lifted (os : Os) (started : os.Started) (H : Type) (enc : TypeId × Value → H) :
    ReturnsInHanded {} Try.checked os 3 .any (Rows.metaPutsSpec.pre6 enc Try.prog Try.f3 Rows.metaPutsRow.domain false) (Rows.metaPutsSpec.post enc Try.prog Try.f3 false true false false) := by
  refine returnsInHanded_of_change (C := Try.checked) ownKnob0 started (by kernel_rfl) Try.func3
    (ChangeSpec.witness6 (enc := enc) (C := Try.checked) false ⟨#[], #[.agg #[.int .u64 0, .int .u32 0, .int .u32 0, .int .u32 0], .int .i64 0], []⟩ 8 (by kernel_rfl) (by kernel_rfl) (by kernel_rfl) (by kernel_rfl)) ?_
  intro W base args ds gs before hval0 hW hcnd _
  have hval : ∀ (j : Nat) t v, Try.f3.params[j]? = some t → args[j]? = some v → Value.okWide Try.prog W .any base t v := hval0
  have hW' := hW
  obtain ⟨p, q, hA0, hV, rfl, hfz, hnd⟩ := hW
  have hA : DataW.TrodAll enc Try.prog W 0 (fun _ => true) true Try.f3.params.toList args.toList ds p := hA0
  rw [Try.params3] at hA hval
  obtain ⟨v0, vs0, d0, ds0, p0, q0, hargs, rfl, rfl, h0, r0⟩ := trodAll_cons hA
  obtain ⟨v1, vs1, d1, ds1, p1, q1, rfl, rfl, rfl, h1, r1⟩ := trodAll_cons r0
  obtain ⟨rfl, rfl, rfl⟩ := trodAll_nil r1
  obtain rfl : args = #[v0, v1] := by cases args; simp_all
  obtain ⟨rfl, rfl⟩ := trodVars_none hV
  have lt0 : ∀ x ∈ p0, x.block < W.heap.size := by obtain ⟨m, hm⟩ := h0; exact DataW.trod_lt m _ _ _ hm
  obtain ⟨M0, w0, rfl⟩ := open_raw7 (hval 0 25 v0 rfl rfl) h0
  obtain ⟨a1, rfl, rfl, rfl, w1⟩ := open_int Try.underlying3 (hval 1 3 v1 rfl rfl) h1
  have b1 := bounds_i64 w1
  clear hA0 hval0
  refine (puts_any W M0 a1 w0 b1.1 b1.2).mono fun e W' ⟨he, bel⟩ => ?_
  subst he
  exact ⟨_, rfl, _, _, _, [], _, [], hW', trodAll_mk1 (shut_bool Try.underlying4 _), (trodAll_cons_mk (Below.trod laidOut0 (by kernel_rfl) (of_decide_eq_true (by kernel_rfl)) h0 bel lt0) (trodAll_cons_mk (shut_int Try.underlying3 w1) trodAll_mk0)), rfl, bel.frame _, fun h => by cases h⟩

/-- MetaPuts, for every input. -/
theorem metaPuts_holds : Rows.MetaPutsSaid :=
  OpenClaim.holds_of_wide 3 Try.f3 rfl rfl rfl rfl rfl rfl rfl ⟨rfl, rfl, rfl, rfl, rfl⟩ rfl rfl rfl rfl rfl (by kernel_rfl) Try.func3 (by kernel_rfl)
    (of_decide_eq_true (by kernel_rfl)) (by unfold Func.isWrapper; first | (rw [if_pos (by decide +kernel)]; kernel_rfl) | (rw [if_neg (by decide +kernel)]; exact ⟨rfl, rfl⟩))
    (fun os started H enc _ => puts_lifted os started H enc)
#print axioms metaPuts_holds

end Go.Proofs.Ytnggebohefbopaa
