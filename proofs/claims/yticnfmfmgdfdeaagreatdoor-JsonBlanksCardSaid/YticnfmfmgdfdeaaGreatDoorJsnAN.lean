/-
  strconv.ParseUint of four digits of 16: the library's text walked. Own work.
-/
import Derived.Test.YticnfmfmgdfdeaaGreatDoorJsnAM
import Derived.Lib.Walk
import Derived.Lib.ConvBytes
import Derived.BigCall
import Derived.Deep.RegionWith

set_option linter.unusedVariables false
set_option linter.unusedSimpArgs false
namespace Go.Proofs.YticnfmfmgdfdeaaGreatDoor
open Go.RowKit

theorem low_tab : ∀ n : Fin 256, (48 ≤ n.val ∧ n.val ≤ 57 ∧ hexB n.val.toUInt8 = some (n.val - 48)) ∨ (¬ (48 ≤ n.val ∧ n.val ≤ 57) ∧ 97 ≤ bits .or .u8 (n.val : Int) 32 ∧ bits .or .u8 (n.val : Int) 32 ≤ 102 ∧ hexB n.val.toUInt8 = some (bits .or .u8 (n.val : Int) 32 - 87).toNat) ∨
    (¬ (48 ≤ n.val ∧ n.val ≤ 57) ∧ hexB n.val.toUInt8 = none ∧ (bits .or .u8 (n.val : Int) 32 < 97 ∨ 122 < bits .or .u8 (n.val : Int) 32 ∨ (103 ≤ bits .or .u8 (n.val : Int) 32 ∧ bits .or .u8 (n.val : Int) 32 ≤ 122))) := by decide +kernel
theorem low_any (c : UInt8) : (48 ≤ c.toNat ∧ c.toNat ≤ 57 ∧ hexB c = some (c.toNat - 48)) ∨ (¬ (48 ≤ c.toNat ∧ c.toNat ≤ 57) ∧ 97 ≤ bits .or .u8 (c.toNat : Int) 32 ∧ bits .or .u8 (c.toNat : Int) 32 ≤ 102 ∧ hexB c = some (bits .or .u8 (c.toNat : Int) 32 - 87).toNat) ∨
    (¬ (48 ≤ c.toNat ∧ c.toNat ≤ 57) ∧ hexB c = none ∧ (bits .or .u8 (c.toNat : Int) 32 < 97 ∨ 122 < bits .or .u8 (c.toNat : Int) 32 ∨ (103 ≤ bits .or .u8 (c.toNat : Int) 32 ∧ bits .or .u8 (c.toNat : Int) 32 ≤ 122))) := by
  have h := low_tab ⟨c.toNat, c.toNat_lt⟩
  simpa using h

theorem lower_any (c : Int) (w : World) : Calls Tryz.prog 230 #[.int .u8 c] w fun e w' => e = .returned (.int .u8 (bits .or .u8 c 32)) ∧ w' = w := by
  go_enter Tryz.func230, Tryz.ntmps230
  go_wp2
  go_ret
  exact ⟨rfl, rfl⟩

theorem hexV_none (c : UInt8) (l : Bs) (a : Nat) (h : hexB c = none) : hexV a (c :: l) = none := by simp [hexV, h]
theorem hexV_some (c : UInt8) (l : Bs) (a y : Nat) (h : hexB c = some y) : hexV a (c :: l) = hexV (16 * a + y) l := by simp [hexV, h]
abbrev badI : Value := .iface 228 (.int .i64 2)

set_option maxHeartbeats 8000000 in
set_option maxRecDepth 100000 in
theorem iparse_any (q : Bs) (hq : q.length = 4) (w : World) :
    Calls Tryz.prog 225 #[.string (Sx q), .int .i64 16, .int .i64 16] w fun r w' =>
      r = .returned (match hexV 0 q with | some x => .tuple #[.int .u64 x, .nilIface] | none => .tuple #[.int .u64 0, badI]) ∧ Gr w w' := by
  have hemp : (Sx q).toList.isEmpty = false := by
    rw [Sx_toList]
    cases q with
    | nil => simp at hq
    | cons _ _ => rfl
  have hcv := Lib.run_convert_string_bytes (P := Tryz.prog) w 9 48 5 (Sx q) (u := .string) Tryz.underlying9 Tryz.underlying48 Tryz.underlying5
  have hsz : (Sx q).size = 4 := hq
  have hB : ∀ j, j < 4 → (Lib.bytesWorld w 5 (Sx q)).cell? ⟨w.heap.size, j, none⟩ = some (.int .u8 (q.getD j 0).toNat) := fun j hj => Lib.bytesWorld_cell w 5 (Sx q) j (by rw [hsz]; exact hj)
  have HG : Hid (Gr w (Lib.bytesWorld w 5 (Sx q))) := Lib.hid ⟨rfl, rfl, rfl, by rw [Lib.bytesWorld_size]; omega, fun i hi _ => Lib.bytesWorld_at_old w _ _ i hi⟩
  obtain ⟨W1, hW1⟩ : ∃ W1, W1 = Lib.bytesWorld w 5 (Sx q) := ⟨_, rfl⟩
  rw [← hW1] at hcv hB HG
  clear hW1
  rw [hsz] at hcv
  have hmv : IntKind.u64.wrap (IntKind.u64.wrap 65536 - 1) = 65535 := by
    rw [IntKind.wrap_u64, IntKind.wrap_u64]
    decide
  generalize Sx q = B at *
  obtain ⟨V, hV⟩ : ∃ V, V = (match hexV 0 q with | some x => Value.tuple #[.int .u64 x, .nilIface] | none => .tuple #[.int .u64 0, badI]) := ⟨_, rfl⟩
  rw [← hV]
  have HV := Lib.hid hV
  clear hV
  go_enter Tryz.func225, Tryz.ntmps225
  go_wp2
  go_loop [12, 13, 101] (fun vu vn vi => ∃ (k acc : Nat) (a : Int), vu = .bool false ∧ vn = .int .u64 a ∧ vi = .int .i64 k ∧ k ≤ 4 ∧ Hid (a = (acc : Int) ∧ acc < 16 ^ k ∧ hexV 0 q = hexV acc (q.drop k)))
    (fun _ _ vi => 4 - (intOf vi).toNat)
  case atStart => exact ⟨0, 0, 0, rfl, rfl, rfl, by omega, rfl, by omega, rfl⟩
  case round =>
    obtain ⟨k, acc, a, rfl, rfl, rfl, hk, hh⟩ := hrel
    obtain ⟨ha, hacc, hdec⟩ := hh.out
    clear hh
    by_cases hkn : k < 4
    · have h16 : (16 : Nat) ^ k ≤ 4096 := Nat.pow_le_pow_right (n := 16) (by omega) (show k ≤ 3 by omega)
      have hpow : (16 : Nat) ^ (k + 1) = 16 ^ k * 16 := Nat.pow_succ 16 k
      have a0 : 0 ≤ a := by omega
      have a1 : a < 4096 := by omega
      have hc := hB k hkn
      have hdrop : q.drop k = q[k]'(by omega) :: q.drop (k + 1) := List.drop_eq_getElem_cons (by omega)
      have hget : q.getD k 0 = q[k]'(by omega) := by simp [List.getD, List.getElem?_eq_getElem (show k < q.length by omega)]
      rw [hdrop] at hdec
      rw [hget] at hc
      generalize q[k]'(by omega) = c at hc hdec
      have hc256 : c.toNat < 256 := c.toNat_lt
      clear hB hdrop hget
      rcases low_any c with ⟨hd0, hd1, hx⟩ | ⟨hd, v0, v1, hx⟩ | ⟨hd, hx, hv⟩
      · have HN : Hid (a * 16 + ((c.toNat : Int) - 48) = ((16 * acc + (c.toNat - 48) : Nat) : Int) ∧ 16 * acc + (c.toNat - 48) < 16 ^ (k + 1) ∧ hexV 0 q = hexV (16 * acc + (c.toNat - 48)) (q.drop (k + 1))) :=
          Lib.hid ⟨by omega, by omega, hdec.trans (hexV_some c _ acc _ hx)⟩
        have i0 : (48 : Int) ≤ (c.toNat : Int) := by omega
        have i1 : (c.toNat : Int) ≤ 57 := by omega
        have i2 : ¬ ((c.toNat : Int) = 95) := by omega
        clear hacc hdec ha hx hpow h16
        generalize (c.toNat : Int) = cz at *
        go_wp2
        refine ⟨⟨k + 1, 16 * acc + (c.toNat - 48), a * 16 + (cz - 48), rfl, (by first | rfl | (congr 1; omega)), (by first | rfl | (congr 1; omega)), by omega, HN⟩, by simp [intOf]; omega⟩
      · have HN : Hid (a * 16 + (bits .or .u8 (c.toNat : Int) 32 - 97 + 10) = ((16 * acc + (bits .or .u8 (c.toNat : Int) 32 - 87).toNat : Nat) : Int) ∧ 16 * acc + (bits .or .u8 (c.toNat : Int) 32 - 87).toNat < 16 ^ (k + 1) ∧ hexV 0 q = hexV (16 * acc + (bits .or .u8 (c.toNat : Int) 32 - 87).toNat) (q.drop (k + 1))) :=
          Lib.hid ⟨by omega, by omega, hdec.trans (hexV_some c _ acc _ hx)⟩
        have i2 : (c.toNat : Int) < 48 ∨ 57 < (c.toNat : Int) := by omega
        have K := Lib.hid (fun w' => lower_any (c.toNat : Int) w')
        have h95 : (c.toNat : Int) = 95 → bits .or .u8 (c.toNat : Int) 32 = 127 := by intro h; rw [h]; decide
        have i4 : ¬ ((c.toNat : Int) = 95) := fun h => by have := h95 h; omega
        clear hacc hdec ha hx hpow h16 hd h95
        generalize bits .or .u8 (c.toNat : Int) 32 = v at *
        rcases i2 with i2 | i2
        · have i3 : ¬ ((48 : Int) ≤ (c.toNat : Int)) := by omega
          go_wp2_with (go_at_call 230; ((with_reducible refine (K.out _).mono ?_); rintro e w' ⟨rfl, rfl⟩))
          refine ⟨⟨k + 1, 16 * acc + (v - 87).toNat, a * 16 + (v - 97 + 10), rfl, (by first | rfl | (congr 1; omega)), (by first | rfl | (congr 1; omega)), by omega, HN⟩, by simp [intOf]; omega⟩
        · have i3 : (48 : Int) ≤ (c.toNat : Int) := by omega
          go_wp2_with (go_at_call 230; ((with_reducible refine (K.out _).mono ?_); rintro e w' ⟨rfl, rfl⟩))
          refine ⟨⟨k + 1, 16 * acc + (v - 87).toNat, a * 16 + (v - 97 + 10), rfl, (by first | rfl | (congr 1; omega)), (by first | rfl | (congr 1; omega)), by omega, HN⟩, by simp [intOf]; omega⟩
      · have hdec := hdec.trans (hexV_none c _ acc hx)
        have i2 : (c.toNat : Int) < 48 ∨ 57 < (c.toNat : Int) := by omega
        have K := Lib.hid (fun z w' => lower_any z w')
        have h95 : (c.toNat : Int) = 95 → bits .or .u8 (c.toNat : Int) 32 = 127 := by intro h; rw [h]; decide
        clear hacc ha hx hpow h16 hd
        by_cases i4 : (c.toNat : Int) = 95
        · have e95 := h95 i4
          clear h95 hv i2
          generalize (c.toNat : Int) = cz at *
          subst i4
          go_wp2_with (go_at_call 230; ((with_reducible refine (K.out _ _).mono ?_); rintro e w' ⟨rfl, rfl⟩))
          refine bodyPost_ret (results_tmp2 rfl _ _ _) rfl ⟨?_, HG.out⟩
          (rw [HV.out, hdec]; rfl)
        · clear h95
          have K := Lib.hid (fun w' => K.out (c.toNat : Int) w')
          generalize bits .or .u8 (c.toNat : Int) 32 = v at *
          rcases i2 with i2 | i2 <;> rcases hv with hv | hv | ⟨hv, hv2⟩
          all_goals (
            go_wp2_with (go_at_call 230; ((with_reducible refine (K.out _).mono ?_); rintro e w' ⟨rfl, rfl⟩))
            refine bodyPost_ret (results_tmp2 rfl _ _ _) rfl ⟨?_, HG.out⟩
            (rw [HV.out, hdec]; rfl))
    · have hkk : k = 4 := by omega
      subst hkk
      have hF : hexV acc (q.drop 4) = some acc := by rw [List.drop_eq_nil_of_le (by omega)]; rfl
      rw [hF] at hdec
      subst ha
      clear hacc hF
      go_wp2
      refine bodyPost_ret (results_tmp2 rfl _ _ _) rfl ⟨?_, HG.out⟩
      (rw [HV.out, hdec]; rfl)

end Go.Proofs.YticnfmfmgdfdeaaGreatDoor
