/-
  A sign that is told by a number of four digits of 16, or by a pair of them; signs behind a backslash. Own work.
-/
import Derived.Test.YticnfmfmgdfdeaaGreatDoorJsnAN
import Derived.BigQuiet
import Derived.Lib.IfaceEq

set_option linter.unusedVariables false
set_option linter.unusedSimpArgs false
namespace Go.Proofs.YticnfmfmgdfdeaaGreatDoor
open Go.RowKit

/-- strconv.ErrSyntax holds an error. -/
def ES (w : World) : Prop := ∃ tp p, w.cell? ⟨6, 0, none⟩ = some (.iface tp p)
theorem ES.gr {w w' : World} (h : ES w) (g : Gr w w') : ES w' := by
  obtain ⟨tp, p, h⟩ := h
  exact ⟨tp, p, (World.cell?_of_block (w := w) (g.block _ (World.block_lt_of_cell? _ _ h) (by simp))).trans h⟩
theorem ES.g1 {R M : Nat} {s : Bs} {d : Int} {w w' : World} (h : ES w) (hr : RC R M s d w) (g : G1 R w w') : ES w' := by
  obtain ⟨tp, p, h⟩ := h
  refine ⟨tp, p, (World.cell?_of_block (w := w) (g.block _ (World.block_lt_of_cell? _ _ h) ?_)).trans h⟩
  intro e
  injection e with e
  have := hr.cells.1
  rw [← e] at this
  have := this.symm.trans h
  simp at this

theorem hasP_any (l p : Bs) (w : World) : Calls Tryz.prog 174 #[.string (Sx l), .string (Sx p)] w fun r w' => r = .returned (.bool (Lib.hasPrefix l p)) ∧ w' = w := by
  have K := Tryz.lHasPrefix (Sx l) (Sx p) w
  rw [show (Sx l).data.toList = l from rfl, show (Sx p).data.toList = p from rfl] at K
  generalize Lib.hasPrefix l p = b at *
  generalize Sx l = B at *
  generalize Sx p = C at *
  go_enter Tryz.func174, Tryz.ntmps174
  go_wp2_with (go_at_call 198; ((with_reducible refine K.mono ?_); rintro r w3 ⟨rfl, rfl⟩))
  go_ret
  exact ⟨rfl, rfl⟩

theorem lclone_any (l : Bs) (w : World) (hl : l.length ≤ 140737488355328) :
    Calls Tryz.prog 203 #[.string (Sx l)] w fun r w' => r = .returned (.string (Sx l)) ∧ w.grownBy w' none := by
  refine (Tryz.clone (Sx l) w (by rw [Sx_size]; omega)).mono ?_
  rintro r w' ⟨rfl, hg⟩
  exact ⟨rfl, gof hg none⟩

set_option maxRecDepth 100000 in
set_option maxHeartbeats 4000000 in
theorem synErr_any (fn l : Bs) (w : World) (hE : ES w) (hl : l.length ≤ 140737488355328) :
    Calls Tryz.prog 232 #[.string (Sx fn), .string (Sx l)] w fun r w' => (∃ N, r = .returned (.pointer (some ⟨N, 0, none⟩))) ∧ Gr w w' := by
  obtain ⟨tp, p, hv⟩ := hE
  have hG : (6 : Nat) < w.heap.size := World.block_lt_of_cell? _ _ hv
  have hvd : w.drew.cell? ⟨6, 0, none⟩ = some (.iface tp p) := hv
  have K := Lib.hid (fun w' => lclone_any l w' hl)
  have HV := Lib.hid (fun w' (g : Gr w.drew w') => (World.cell?_of_block (w := w.drew) (g.block _ hG (by simp))).trans hvd)
  clear hl
  generalize Sx l = B at *
  generalize Sx fn = C at *
  go_enter Tryz.func232, Tryz.ntmps232
  go_wp2_with fail
  go_region_held3 (fun v => v.cell? ⟨6, 0, none⟩ = some (.iface tp p))
    (first | (exact hvd) | (exact HV.out _ HG.out) | (exact HV.out _ (gtrans HG.out (World.grownBy_alloc _ _ none))))
    (first | (go_at_call 203; ((with_reducible refine (K.out w.drew).mono ?_); rintro r w2 ⟨rfl, hg⟩); have HG := Lib.hid hg; have hv2 := HV.out _ hg; clear hg))
  go_wp2
  go_ret
  exact ⟨⟨_, rfl⟩, gtrans (show Gr w w2 from gtrans (gdrew w) HG.out) (World.grownBy_alloc _ _ _)⟩

set_option maxRecDepth 100000 in
set_option maxHeartbeats 4000000 in
theorem toErr_any (fn l : Bs) (w : World) (hE : ES w) (hl : l.length ≤ 140737488355328) :
    Calls Tryz.prog 226 #[.string (Sx fn), .string (Sx l), .int .i64 16, .int .i64 16, badI] w fun r w' => (∃ t N, r = .returned (.iface t (.pointer (some ⟨N, 0, none⟩)))) ∧ Gr w w' := by
  have K := synErr_any fn l w hE hl
  clear hE hl
  generalize Sx l = B at *
  generalize Sx fn = C at *
  have heq : ∀ W, (binOp .eql 216 (.iface 228 (.int .i64 2)) (.iface 228 (.int .i64 2))).run Tryz.prog W = .ok (.bool true) W := fun W => Lib.run_eql_iface_int W 2 2 Tryz.underlying216 (by kernel_rfl) Tryz.underlying228
  unfold badI
  go_enter Tryz.func226, Tryz.ntmps226
  go_wp2_with (go_at_call 232; ((with_reducible refine K.mono ?_); rintro r w2 ⟨⟨N, rfl⟩, hg⟩); have HG := Lib.hid hg; clear hg)
  go_ret
  exact ⟨⟨_, _, rfl⟩, HG.out⟩

set_option maxRecDepth 100000 in
set_option maxHeartbeats 4000000 in
theorem puint_any (q : Bs) (hq : q.length = 4) (w : World) (hE : ES w) :
    Calls Tryz.prog 216 #[.string (Sx q), .int .i64 16, .int .i64 16] w fun r w' =>
      (match hexV 0 q with | some x => r = .returned (.tuple #[.int .u64 x, .nilIface]) | none => ∃ t p, r = .returned (.tuple #[.int .u64 0, .iface t p])) ∧ Gr w w' := by
  have K := iparse_any q hq w
  have KE := Lib.hid (fun w' (h : ES w') => toErr_any [80, 97, 114, 115, 101, 85, 105, 110, 116] q w' h (by omega))
  rw [show Sx [80, 97, 114, 115, 101, 85, 105, 110, 116] = ⟨#[80, 97, 114, 115, 101, 85, 105, 110, 116]⟩ from rfl] at KE
  have HE := Lib.hid hE
  clear hE hq
  generalize Sx q = B at *
  cases hv : hexV 0 q with
  | none =>
    rw [hv] at K
    clear hv
    unfold badI at K KE
    go_enter Tryz.func216, Tryz.ntmps216
    go_wp2_with (first
      | (go_at_call 225; ((with_reducible refine K.mono ?_); rintro r w2 ⟨rfl, hg⟩); have HG := Lib.hid hg; clear hg)
      | (go_at_call 226; ((with_reducible refine (KE.out _ (HE.out.gr HG.out)).mono ?_); rintro r w3 ⟨⟨t, N, rfl⟩, hg⟩); have HG3 := Lib.hid (gtrans HG.out hg); clear hg))
    exact bodyPost_ret (results_tmp2 rfl _ _ _) rfl ⟨⟨_, _, rfl⟩, HG3.out⟩
  | some x =>
    rw [hv] at K
    clear hv KE
    go_enter Tryz.func216, Tryz.ntmps216
    go_wp2_with (first
      | (go_at_call 225; ((with_reducible refine K.mono ?_); rintro r w2 ⟨rfl, hg⟩); have HG := Lib.hid hg; clear hg))
    exact bodyPost_ret (results_tmp2 rfl _ _ _) rfl ⟨rfl, HG.out⟩

end Go.Proofs.YticnfmfmgdfdeaaGreatDoor

namespace Go.Proofs.YticnfmfmgdfdeaaGreatDoor
open Go.RowKit

theorem hexB_lt {b : UInt8} {y : Nat} (h : hexB b = some y) : y < 16 := by
  unfold hexB at h
  split at h
  · injection h; omega
  · split at h
    · injection h; omega
    · split at h
      · injection h; omega
      · cases h
theorem hexV_lt : ∀ (q : Bs) (a x : Nat), hexV a q = some x → x < (a + 1) * 16 ^ q.length
  | [], a, x, h => by simp [hexV] at h; subst h; simp
  | b :: q, a, x, h => by
    cases hb : hexB b with
    | none => simp [hexV, hb] at h
    | some y =>
      have hy := hexB_lt hb
      rw [hexV_some b q a y hb] at h
      have ih := hexV_lt q (16 * a + y) x h
      have : (16 * a + y + 1) * 16 ^ q.length ≤ (a + 1) * 16 * 16 ^ q.length := Nat.mul_le_mul_right _ (by omega)
      rw [List.length_cons, Nat.pow_succ, Nat.mul_comm (16 ^ q.length) 16, ← Nat.mul_assoc]
      omega
theorem hex4_lt {l : Bs} {x : Nat} (h : hex4 l = some x) : x < 65536 ∧ 6 ≤ l.length := by
  unfold hex4 at h
  split at h
  · cases h
  · split at h
    · have k := hexV_lt _ _ _ h
      have hl : ((l.drop 2).take 4).length = 4 := by simp; omega
      rw [hl] at k
      exact ⟨by simpa using k, by omega⟩
    · cases h
theorem ext_mid (l : Bs) : (Sx l).extract 2 6 = Sx ((l.drop 2).take 4) := by
  apply ByteArray.ext; apply Array.ext'
  simp [Sx, ByteArray.data_extract, List.take_drop]

set_option maxRecDepth 100000 in
set_option maxHeartbeats 4000000 in
theorem numberOf_any (l : Bs) (w : World) (hE : ES w) (hl : l.length ≤ 140737488355328) :
    Calls Tryz.prog 199 #[.string (Sx l)] w fun r w' =>
      (match hex4 l with | some x => r = .returned (.tuple #[.int .i32 x, .bool true]) | none => r = .returned (.tuple #[.int .i32 0, .bool false])) ∧ Gr w w' := by
  have hsz := Sx_size l
  have hmid := ext_mid l
  have KP := Lib.hid (fun w' => hasP_any l [92, 117] w')
  rw [show Sx [92, 117] = ⟨#[92, 117]⟩ from rfl] at KP
  have hq4 : ¬ l.length < 6 → ((l.drop 2).take 4).length = 4 := fun h => by simp; omega
  have KU := Lib.hid (fun (h : ¬ l.length < 6) => puint_any ((l.drop 2).take 4) (hq4 h) w hE)
  have hlt : ∀ x, hexV 0 ((l.drop 2).take 4) = some x → ¬ l.length < 6 → x < 65536 := fun x h h6 => by
    have k := hexV_lt _ _ _ h
    rw [hq4 h6] at k
    simpa using k
  unfold hex4
  clear hE hq4
  generalize hexV 0 ((l.drop 2).take 4) = hv at *
  generalize Sx ((l.drop 2).take 4) = Q at *
  generalize Lib.hasPrefix l [92, 117] = b at *
  generalize l.length = n at *
  generalize Sx l = B at *
  by_cases h6 : n < 6
  · have g6 : ((n : Int) < 6) := by omega
    rw [if_pos h6]
    clear hlt KU h6
    go_enter Tryz.func199, Tryz.ntmps199
    go_wp2_with (first
      | (go_at_call 174; ((with_reducible refine (KP.out _).mono ?_); rintro r w2 ⟨rfl, rfl⟩)))
    exact bodyPost_ret (results_tmp2 rfl _ _ _) rfl ⟨rfl, grefl _ _⟩
  · have g6 : ¬ ((n : Int) < 6) := by omega
    have KU := KU.out h6
    rw [if_neg h6]
    cases b
    · clear hlt KU h6
      go_enter Tryz.func199, Tryz.ntmps199
      go_wp2_with (first
        | (go_at_call 174; ((with_reducible refine (KP.out _).mono ?_); rintro r w2 ⟨rfl, rfl⟩)))
      exact bodyPost_ret (results_tmp2 rfl _ _ _) rfl ⟨rfl, grefl _ _⟩
    · have h6b : (6 : Int) ≤ (n : Int) := by omega
      cases hv with
      | none =>
        clear hlt h6
        go_enter Tryz.func199, Tryz.ntmps199
        go_wp2_with (first
          | (go_at_call 174; ((with_reducible refine (KP.out _).mono ?_); rintro r w2 ⟨rfl, rfl⟩))
          | (go_at_call 216; ((with_reducible refine KU.mono ?_); rintro r w3 ⟨⟨t, p, rfl⟩, hg⟩); have HG := Lib.hid hg; clear hg))
        go_region
        all_goals (go_wp2; exact bodyPost_ret (results_tmp2 rfl _ _ _) rfl ⟨rfl, gtrans HG.out (gdrew _)⟩)
      | some x =>
        have hx := hlt x rfl h6
        have hw : IntKind.i32.wrap (x : Int) = (x : Int) := by rw [IntKind.wrap_i32]; omega
        clear hlt h6
        have HX := Lib.hid hx
        clear hx
        go_enter Tryz.func199, Tryz.ntmps199
        go_wp2_with (first
          | (go_at_call 174; ((with_reducible refine (KP.out _).mono ?_); rintro r w2 ⟨rfl, rfl⟩))
          | (go_at_call 216; ((with_reducible refine KU.mono ?_); rintro r w3 ⟨rfl, hg⟩); have HG := Lib.hid hg; clear hg))
        go_region
        all_goals (go_wp2; exact bodyPost_ret (results_tmp2 rfl _ _ _) rfl ⟨rfl, gtrans HG.out (gdrew _)⟩)

theorem ext_drop_to (l : Bs) (k n : Nat) (hn : l.length = n) : (Sx l).extract k n = Sx (l.drop k) := by rw [← hn]; exact ext_drop l k

set_option maxRecDepth 100000 in
set_option maxHeartbeats 4000000 in
theorem numbered_any (l : Bs) (w : World) (hE : ES w) (hl : l.length ≤ 140737488355328) :
    Calls Tryz.prog 173 #[.string (Sx l)] w fun r w' =>
      (r = .returned (match numbM l with | some (x, m) => .tuple #[.int .i32 x, .int .i64 m] | none => .tuple #[.int .i32 0, .int .i64 0])) ∧ Gr w w' := by
  have K1 := numberOf_any l w hE hl
  have K2 := Lib.hid (fun w' (h : Gr w w') => numberOf_any (l.drop 6) w' (hE.gr h) (Nat.le_trans (by simp) hl))
  have hsz := Sx_size l
  have hd := ext_drop_to l 6 l.length rfl
  have h1 : ∀ x, hex4 l = some x → x < 65536 ∧ 6 ≤ l.length := fun x h => hex4_lt h
  have h2 : ∀ x, hex4 (l.drop 6) = some x → x < 65536 := fun x h => (hex4_lt h).1
  obtain ⟨V, hV⟩ : ∃ V, V = (match numbM l with | some (x, m) => Value.tuple #[.int .i32 x, .int .i64 m] | none => .tuple #[.int .i32 0, .int .i64 0]) := ⟨_, rfl⟩
  rw [← hV]
  unfold numbM at hV
  clear hE
  generalize hex4 l = a at *
  generalize hex4 (l.drop 6) = b at *
  generalize Sx (l.drop 6) = D at *
  generalize l.length = n at *
  generalize Sx l = B at *
  have HV := Lib.hid hV
  clear hV
  cases a with
  | none =>
    clear h1 h2 K2 hd
    go_enter Tryz.func173, Tryz.ntmps173
    go_wp2_with (first
      | (go_at_call 199; ((with_reducible refine K1.mono ?_); rintro r w2 ⟨rfl, hg⟩); have HG := Lib.hid hg; clear hg))
    exact bodyPost_ret (results_tmp2 rfl _ _ _) rfl ⟨by rw [HV.out]; rfl, HG.out⟩
  | some x =>
    obtain ⟨hx, hn6⟩ := h1 x rfl
    clear h1
    have hn6 : (6 : Int) ≤ (n : Int) := by omega
    obtain ⟨z, hz⟩ : ∃ z : Int, z = (x : Int) := ⟨_, rfl⟩
    simp only at K1
    rw [← hz] at K1
    have HZ := Lib.hid hz
    by_cases c1 : x < 55296
    · have g1 : z < 55296 := by omega
      have HV : Hid (V = .tuple #[.int .i32 z, .int .i64 6]) := Lib.hid (by rw [HV.out]; simp [c1, HZ.out])
      clear h2 K2 hd hx c1 hz
      go_enter Tryz.func173, Tryz.ntmps173
      go_wp2_with (first
        | (go_at_call 199; ((with_reducible refine K1.mono ?_); rintro r w2 ⟨rfl, hg⟩); have HG := Lib.hid hg; clear hg))
      exact bodyPost_ret (results_tmp2 rfl _ _ _) rfl ⟨by rw [HV.out]; rfl, HG.out⟩
    · by_cases c2 : 57344 ≤ x
      · have g1 : ¬ z < 55296 := by omega
        have g2 : (57344 : Int) ≤ z := by omega
        have HV : Hid (V = .tuple #[.int .i32 z, .int .i64 6]) := Lib.hid (by rw [HV.out]; simp [c2, HZ.out])
        clear h2 K2 hd hx c1 c2 hz
        go_enter Tryz.func173, Tryz.ntmps173
        go_wp2_with (first
          | (go_at_call 199; ((with_reducible refine K1.mono ?_); rintro r w2 ⟨rfl, hg⟩); have HG := Lib.hid hg; clear hg))
        exact bodyPost_ret (results_tmp2 rfl _ _ _) rfl ⟨by rw [HV.out]; rfl, HG.out⟩
      · have g1 : ¬ z < 55296 := by omega
        have g2 : ¬ (57344 : Int) ≤ z := by omega
        cases b with
        | none =>
          have HW : Hid (V = .tuple #[.int .i32 0, .int .i64 0]) := Lib.hid (by rw [HV.out]; simp [c1, c2])
          clear h2 hx c1 c2 hz
          go_enter Tryz.func173, Tryz.ntmps173
          go_wp2_with (first
            | (go_at_call 199; ((with_reducible refine K1.mono ?_); rintro r w2 ⟨rfl, hg⟩); have HG := Lib.hid hg; clear hg)
            | (go_at_call 199; ((with_reducible refine (K2.out _ HG.out).mono ?_); rintro r w3 ⟨rfl, hg⟩); have HG2 := Lib.hid (gtrans HG.out hg); clear hg))
          exact bodyPost_ret (results_tmp2 rfl _ _ _) rfl ⟨by rw [HW.out]; rfl, HG2.out⟩
        | some y =>
          have hy := h2 y rfl
          clear h2
          obtain ⟨u, hu⟩ : ∃ u : Int, u = (y : Int) := ⟨_, rfl⟩
          simp only at K2
          rw [← hu] at K2
          have HU := Lib.hid hu
          by_cases c3 : 56320 ≤ x
          · have g3 : (56320 : Int) ≤ z := by omega
            have HW : Hid (V = .tuple #[.int .i32 0, .int .i64 0]) := Lib.hid (by rw [HV.out]; simp [c1, c2, c3])
            clear hx c1 c2 c3 hy hz hu
            go_enter Tryz.func173, Tryz.ntmps173
            go_wp2_with (first
              | (go_at_call 199; ((with_reducible refine K1.mono ?_); rintro r w2 ⟨rfl, hg⟩); have HG := Lib.hid hg; clear hg)
              | (go_at_call 199; ((with_reducible refine (K2.out _ HG.out).mono ?_); rintro r w3 ⟨rfl, hg⟩); have HG2 := Lib.hid (gtrans HG.out hg); clear hg))
            exact bodyPost_ret (results_tmp2 rfl _ _ _) rfl ⟨by rw [HW.out]; rfl, HG2.out⟩
          · have g3 : ¬ (56320 : Int) ≤ z := by omega
            by_cases c4 : y < 56320
            · have g4 : u < 56320 := by omega
              have HW : Hid (V = .tuple #[.int .i32 0, .int .i64 0]) := Lib.hid (by rw [HV.out]; simp [c1, c2, c3, c4])
              clear hx c1 c2 c3 c4 hy hz hu
              go_enter Tryz.func173, Tryz.ntmps173
              go_wp2_with (first
                | (go_at_call 199; ((with_reducible refine K1.mono ?_); rintro r w2 ⟨rfl, hg⟩); have HG := Lib.hid hg; clear hg)
                | (go_at_call 199; ((with_reducible refine (K2.out _ HG.out).mono ?_); rintro r w3 ⟨rfl, hg⟩); have HG2 := Lib.hid (gtrans HG.out hg); clear hg))
              exact bodyPost_ret (results_tmp2 rfl _ _ _) rfl ⟨by rw [HW.out]; rfl, HG2.out⟩
            · have g4 : ¬ u < 56320 := by omega
              by_cases c5 : 57344 ≤ y
              · have g5 : (57344 : Int) ≤ u := by omega
                have HW : Hid (V = .tuple #[.int .i32 0, .int .i64 0]) := Lib.hid (by rw [HV.out]; simp [c1, c2, c3, c4, c5])
                clear hx c1 c2 c3 c4 c5 hy hz hu
                go_enter Tryz.func173, Tryz.ntmps173
                go_wp2_with (first
                  | (go_at_call 199; ((with_reducible refine K1.mono ?_); rintro r w2 ⟨rfl, hg⟩); have HG := Lib.hid hg; clear hg)
                  | (go_at_call 199; ((with_reducible refine (K2.out _ HG.out).mono ?_); rintro r w3 ⟨rfl, hg⟩); have HG2 := Lib.hid (gtrans HG.out hg); clear hg))
                exact bodyPost_ret (results_tmp2 rfl _ _ _) rfl ⟨by rw [HW.out]; rfl, HG2.out⟩
              · have g5 : ¬ (57344 : Int) ≤ u := by omega
                have HW : Hid (V = .tuple #[.int .i32 ((65536 + 1024 * (x - 55296) + y - 56320 : Nat) : Int), .int .i64 12]) := Lib.hid (by rw [HV.out]; simp [c1, c2, c3, c4, c5])
                have HB : Hid (55296 ≤ x ∧ x < 56320 ∧ 56320 ≤ y ∧ y < 57344) := Lib.hid (by omega)
                clear hx c1 c2 c3 c4 c5 hy hz hu
                go_enter Tryz.func173, Tryz.ntmps173
                go_wp2_with (first
                  | (go_at_call 199; ((with_reducible refine K1.mono ?_); rintro r w2 ⟨rfl, hg⟩); have HG := Lib.hid hg; clear hg)
                  | (go_at_call 199; ((with_reducible refine (K2.out _ HG.out).mono ?_); rintro r w3 ⟨rfl, hg⟩); have HG2 := Lib.hid (gtrans HG.out hg); clear hg))
                refine bodyPost_ret (results_tmp2 rfl _ _ _) rfl ⟨?_, HG2.out⟩
                rw [HW.out]
                obtain ⟨b1, b2, b3, b4⟩ := HB.out
                have hz := HZ.out
                have hu := HU.out
                rw [show ((65536 + 1024 * (x - 55296) + y - 56320 : Nat) : Int) = 65536 + 1024 * (z - 55296) + u - 56320 by omega]
                rfl

end Go.Proofs.YticnfmfmgdfdeaaGreatDoor

namespace Go.Proofs.YticnfmfmgdfdeaaGreatDoor
open Go.RowKit

theorem broken_any (l : Bs) (x : Nat) (z : Int) (hz : z = (x : Int)) (w : World) :
    Calls Tryz.prog 146 #[.string (Sx l), .int .i32 z] w fun r w' => r = .returned (.bool (brokenM l x)) ∧ w' = w := by
  have KP := Lib.hid (fun w' => hasP_any l [239, 191, 189] w')
  rw [show Sx [239, 191, 189] = ⟨#[239, 191, 189]⟩ from rfl] at KP
  unfold brokenM
  generalize Lib.hasPrefix l [239, 191, 189] = b at *
  generalize Sx l = B at *
  by_cases h : x = 65533
  · have g : z = 65533 := by omega
    subst g
    rw [show (x == 65533) = true by simp [h]]
    clear h hz
    cases b
    all_goals
      go_enter Tryz.func146, Tryz.ntmps146
      go_wp2_with (first
        | (go_at_call 174; ((with_reducible refine (KP.out _).mono ?_); rintro r w2 ⟨rfl, rfl⟩)))
      go_ret
      exact ⟨rfl, rfl⟩
  · have g : (z == 65533) = false := by rw [beq_eq_false_iff_ne]; omega
    rw [show (x == 65533) = false by simp [h]]
    clear h hz
    go_enter Tryz.func146, Tryz.ntmps146
    go_wp2_with (first
      | (go_at_call 174; ((with_reducible refine (KP.out _).mono ?_); rintro r w2 ⟨rfl, rfl⟩)))
    go_ret
    exact ⟨rfl, rfl⟩

set_option maxRecDepth 100000 in
set_option maxHeartbeats 4000000 in
theorem escaped_any (l : Bs) (w : World) (hE : ES w) (hl : l.length ≤ 140737488355328) :
    Calls Tryz.prog 145 #[.string (Sx l)] w fun r w' =>
      (r = .returned (match escM l with | some (x, m) => .tuple #[.int .i32 x, .int .i64 m] | none => .tuple #[.int .i32 0, .int .i64 0])) ∧ Gr w w' := by
  obtain ⟨X, M, hVN⟩ : ∃ X M : Int, (match numbM l with | some (x, m) => Value.tuple #[.int .i32 x, .int .i64 m] | none => .tuple #[.int .i32 0, .int .i64 0]) = .tuple #[.int .i32 X, .int .i64 M] := by
    cases numbM l with
    | none => exact ⟨0, 0, rfl⟩
    | some r => exact ⟨_, _, rfl⟩
  have KN : Hid (Calls Tryz.prog 173 #[.string (Sx l)] w fun r w' => r = .returned (.tuple #[.int .i32 X, .int .i64 M]) ∧ Gr w w') := Lib.hid ((numbered_any l w hE hl).mono (by
    rintro r w' ⟨rfl, hg⟩
    refine ⟨?_, hg⟩
    first
      | (rw [← hVN]; done)
      | (rw [← hVN]; cases numbM l <;> rfl)))
  have hsz := Sx_size l
  obtain ⟨V, hV⟩ : ∃ V, V = (match escM l with | some (x, m) => Value.tuple #[.int .i32 x, .int .i64 m] | none => .tuple #[.int .i32 0, .int .i64 0]) := ⟨_, rfl⟩
  rw [← hV]
  unfold escM at hV
  clear hE
  by_cases h2 : l.length < 2
  · have g2 : ((l.length : Int) < 2) := by omega
    have HW : Hid (V = .tuple #[.int .i32 0, .int .i64 0]) := Lib.hid (by rw [hV, if_pos h2])
    clear hV h2 hVN hl
    generalize l.length = n at *
    generalize Sx l = B at *
    go_enter Tryz.func145, Tryz.ntmps145
    go_wp2_with fail
    exact bodyPost_ret (results_tmp2 rfl _ _ _) rfl ⟨by rw [HW.out]; rfl, grefl _ _⟩
  · have g2 : ¬ ((l.length : Int) < 2) := by omega
    have g2b : (1 : Int) < (l.length : Int) := by omega
    rw [if_neg h2] at hV
    have hix : ∀ h : 1 < (Sx l).size, (Sx l)[1]'h = l.getD 1 0 := fun h => by
      have h' : 1 < l.length := by rw [Sx_size] at h; exact h
      refine (Sx_get l 1 h').trans ?_
      simp [List.getD, List.getElem?_eq_getElem h']
    generalize l.getD 1 0 = c at *
    have hnat : ∀ k : UInt8, (c = k) ↔ (c.toNat : Int) = (k.toNat : Int) := fun k => ⟨fun h => by rw [h], fun h => UInt8.toNat_inj.1 (by omega)⟩
    clear h2 hl
    generalize l.length = n at *
    generalize Sx l = B at *
    by_cases h34 : c = 34
    · have HW : Hid (V = .tuple #[.int .i32 34, .int .i64 2]) := Lib.hid (by rw [hV]; simp [h34])
      subst h34
      clear hV hVN hnat
      go_enter Tryz.func145, Tryz.ntmps145
      go_wp2_with fail
      exact bodyPost_ret (results_tmp2 rfl _ _ _) rfl ⟨by rw [HW.out]; rfl, grefl _ _⟩
    have q34 : ((c.toNat : Int) == 34) = false := beq_eq_false_iff_ne.2 (fun h => h34 ((hnat 34).2 h))
    by_cases h92 : c = 92
    · have HW : Hid (V = .tuple #[.int .i32 92, .int .i64 2]) := Lib.hid (by rw [hV]; simp [h92])
      subst h92
      clear hV hVN hnat h34
      go_enter Tryz.func145, Tryz.ntmps145
      go_wp2_with fail
      exact bodyPost_ret (results_tmp2 rfl _ _ _) rfl ⟨by rw [HW.out]; rfl, grefl _ _⟩
    have q92 : ((c.toNat : Int) == 92) = false := beq_eq_false_iff_ne.2 (fun h => h92 ((hnat 92).2 h))
    by_cases h47 : c = 47
    · have HW : Hid (V = .tuple #[.int .i32 47, .int .i64 2]) := Lib.hid (by rw [hV]; simp [h47])
      subst h47
      clear hV hVN hnat h34 h92
      go_enter Tryz.func145, Tryz.ntmps145
      go_wp2_with fail
      exact bodyPost_ret (results_tmp2 rfl _ _ _) rfl ⟨by rw [HW.out]; rfl, grefl _ _⟩
    have q47 : ((c.toNat : Int) == 47) = false := beq_eq_false_iff_ne.2 (fun h => h47 ((hnat 47).2 h))
    by_cases h98 : c = 98
    · have HW : Hid (V = .tuple #[.int .i32 8, .int .i64 2]) := Lib.hid (by rw [hV]; simp [h98])
      subst h98
      clear hV hVN hnat h34 h92 h47
      go_enter Tryz.func145, Tryz.ntmps145
      go_wp2_with fail
      exact bodyPost_ret (results_tmp2 rfl _ _ _) rfl ⟨by rw [HW.out]; rfl, grefl _ _⟩
    have q98 : ((c.toNat : Int) == 98) = false := beq_eq_false_iff_ne.2 (fun h => h98 ((hnat 98).2 h))
    by_cases h102 : c = 102
    · have HW : Hid (V = .tuple #[.int .i32 12, .int .i64 2]) := Lib.hid (by rw [hV]; simp [h102])
      subst h102
      clear hV hVN hnat h34 h92 h47 h98
      go_enter Tryz.func145, Tryz.ntmps145
      go_wp2_with fail
      exact bodyPost_ret (results_tmp2 rfl _ _ _) rfl ⟨by rw [HW.out]; rfl, grefl _ _⟩
    have q102 : ((c.toNat : Int) == 102) = false := beq_eq_false_iff_ne.2 (fun h => h102 ((hnat 102).2 h))
    by_cases h110 : c = 110
    · have HW : Hid (V = .tuple #[.int .i32 10, .int .i64 2]) := Lib.hid (by rw [hV]; simp [h110])
      subst h110
      clear hV hVN hnat h34 h92 h47 h98 h102
      go_enter Tryz.func145, Tryz.ntmps145
      go_wp2_with fail
      exact bodyPost_ret (results_tmp2 rfl _ _ _) rfl ⟨by rw [HW.out]; rfl, grefl _ _⟩
    have q110 : ((c.toNat : Int) == 110) = false := beq_eq_false_iff_ne.2 (fun h => h110 ((hnat 110).2 h))
    by_cases h114 : c = 114
    · have HW : Hid (V = .tuple #[.int .i32 13, .int .i64 2]) := Lib.hid (by rw [hV]; simp [h114])
      subst h114
      clear hV hVN hnat h34 h92 h47 h98 h102 h110
      go_enter Tryz.func145, Tryz.ntmps145
      go_wp2_with fail
      exact bodyPost_ret (results_tmp2 rfl _ _ _) rfl ⟨by rw [HW.out]; rfl, grefl _ _⟩
    have q114 : ((c.toNat : Int) == 114) = false := beq_eq_false_iff_ne.2 (fun h => h114 ((hnat 114).2 h))
    by_cases h116 : c = 116
    · have HW : Hid (V = .tuple #[.int .i32 9, .int .i64 2]) := Lib.hid (by rw [hV]; simp [h116])
      subst h116
      clear hV hVN hnat h34 h92 h47 h98 h102 h110 h114
      go_enter Tryz.func145, Tryz.ntmps145
      go_wp2_with fail
      exact bodyPost_ret (results_tmp2 rfl _ _ _) rfl ⟨by rw [HW.out]; rfl, grefl _ _⟩
    have q116 : ((c.toNat : Int) == 116) = false := beq_eq_false_iff_ne.2 (fun h => h116 ((hnat 116).2 h))
    have HW : Hid (V = .tuple #[.int .i32 X, .int .i64 M]) := Lib.hid (by rw [hV, ← hVN]; simp [h34, h92, h47, h98, h102, h110, h114, h116])
    clear hV hVN hnat h34 h92 h47 h98 h102 h110 h114 h116
    go_enter Tryz.func145, Tryz.ntmps145
    go_wp2_with (go_at_call 173; ((with_reducible refine KN.out.mono ?_); rintro r w2 ⟨rfl, hg⟩); have HG := Lib.hid hg; clear hg)
    exact bodyPost_ret (results_tmp2 rfl _ _ _) rfl ⟨by rw [HW.out]; rfl, HG.out⟩

end Go.Proofs.YticnfmfmgdfdeaaGreatDoor
