/-
  A number's text: the code's. Own work; printed by tools/mknud.py.
-/
import Derived.Test.YticnfmfmgdfdeaaGreatDoorJsnAI
import Derived.Lib.AppendStr
import Derived.Lib.AppendIntMem
import Derived.Lib.ItoaLen

set_option linter.unusedVariables false
set_option linter.unusedSimpArgs false
namespace Go.Proofs.YticnfmfmgdfdeaaGreatDoor
open Go.RowKit

/-- The library's table of powers, whatever is done from here on. -/
def TB (w : World) : Prop := Lib.TabBelow Tryz.prog w.heap.size w "internal/strconv.uint64pow10" .u64 Lib.pow10Tab
theorem TB.gr {w w' : World} (h : TB w) (g : Gr w w') : TB w' := fun w2 h2 => h w2 ((gbelow g).trans (h2.mono g.size))
theorem infoByte : (Tryz.prog.info? 5).map (fun i => (i.zero, i.size, i.bytes)) = some (some (.int .u8 0), 1, 1) := by kernel_rfl
theorem byteCells_app (a b : Bs) : Lib.byteCells a ++ Lib.byteCells b = Lib.byteCells (a ++ b) := by simp [Lib.byteCells]
theorem cells1 {W : World} {q : Nat} {a : Value} {t : TypeId} (h : W.heap[q]? = some (.cells #[a] t (0, 0))) : W.cell? ⟨q, 0, none⟩ = some a := by simp [World.cell?, h]
theorem lit_one (w : World) (y : Value) : ∀ (j : Nat) (u : Value), [y][j]? = some u → (w.alloc (.cells #[y] 5)).cell? ((⟨w.heap.size, 0, none⟩ : Addr).add j) = some u := by
  intro j u hj
  match j, hj with
  | 0, hj =>
    simp at hj; subst hj
    exact cells1 (heap_alloc_new w (.cells #[y] 5 (0, 0)))
  | j + 1, hj => simp at hj
/-- A row of bytes of the call's own. -/
def OB (B : Nat) (w : World) (v : Value) (l : Bs) : Prop := w.ownsRow B 5 1 v l.length (Lib.byteCells l)

theorem ob_base {B g len cap : Nat} {w : World} {l : Bs} (h : OB B w (.slice (some ⟨g, 0, none⟩) len cap) l) : B ≤ g := by
  rcases h.2 with ⟨e, -⟩ | ⟨g', cap', cur, e, hb, -⟩
  · cases e
  · cases e; exact hb
/-- Behind an append onto such a row: what lies ahead of B is as it was. -/
theorem ob_below {B : Nat} {w w' : World} {v : Value} {l : Bs} (h : OB B w v l) (hB : B ≤ w.heap.size) (g : w.grownBy w' v.ownBlock) : Below B w w' := by
  refine ⟨g.os, g.tape, g.output, g.size, fun i hi => g.block i (by omega) ?_⟩
  rcases h.2 with ⟨rfl, -⟩ | ⟨g', cap', cur, rfl, hb, -⟩
  · simp [Value.ownBlock]
  · simp [Value.ownBlock]; omega

theorem appInt (B : Nat) (l : Bs) (i : Int) (h0 : -9223372036854775808 ≤ i) (h1 : i ≤ 9223372036854775807) (v : Value) (w : World) (hown : OB B w v l) (hB : B ≤ w.heap.size) (hl : l.length ≤ 1000000000) (hT : Lib.TabBelow Tryz.prog B w "internal/strconv.uint64pow10" .u64 Lib.pow10Tab) :
    Calls Tryz.prog 123 #[v, .int .i64 i, .int .i64 10] w fun e w' => ∃ v', e = .returned v' ∧ OB B w' v' (l ++ Lib.itoa i) ∧ Below B w w' := by
  refine (Tryz.appendInt B l.length i h0 h1 v _ w hown hB (by omega) hT).mono ?_
  rintro e w' ⟨v', rfl, ho, hb, -⟩
  refine ⟨v', rfl, ?_, hb⟩
  rw [byteCells_app] at ho
  unfold OB; rw [List.length_append]; exact ho

section
variable {ops : Array Oper} {rest : List Oper} {o : Oper} {a : Act} {Q : Exit → Act → World → Prop}
theorem wp_app_lit (hgd : o.guard = none) (s x : Operand) (ho : o.op = .call { callee := .builtin .append, args := #[s, x], argTypes := #[48, 48] }) (B : Nat) (v : Value) (l : Bs) (c : UInt8) (k : Int) (hk : k = (c.toNat : Int)) (w : World)
    (hs : a.eval s = v) (g : Nat) (hx : a.eval x = .slice (some ⟨g, 0, none⟩) 1 1) (hg : g = w.heap.size) (hown : OB B w v l) (hB : B ≤ w.heap.size) (hl : l.length ≤ 1000000000)
    (h : ∀ v' w', OB B w' v' (l ++ [c]) → Below B w w' → wpList Tryz.prog ops Q rest (a.put o.dst v') w') : wpList Tryz.prog ops Q (o :: rest) a (w.alloc (.cells #[.int .u8 k] 5)) := by
  subst hk hg
  obtain ⟨i0, hi, hz0, hz1, hz2⟩ := info_parts infoByte
  have hown1 : (w.alloc (.cells #[.int .u8 c.toNat] 5)).ownsRow B 5 1 v l.length (Lib.byteCells l) := World.ownsRow.alloc hown _
  refine wpList_append_own _ hgd s x 48 ho B 5 i0 (.int .u8 0) 1 1 Tryz.underlying48 hi hz0 hz1 hz2 rfl (by decide) v _ _ hs hown1 ⟨w.heap.size, 0, none⟩ 1 1 [.int .u8 c.toNat] hx rfl (lit_one _ _) (by intro u hu; simp at hu; subst hu; rfl) (by simp [maxLen]; omega) (by omega) (by simp; omega) ?_
  intro v' w' ho hgr _
  refine h v' w' ?_ ?_
  · unfold OB; rw [List.length_append, ← byteCells_app]; exact ho
  · exact Below.trans (Below.mono (gbelow (World.grownBy_alloc w _ none)) hB) (ob_below (v := v) (l := l) hown1 (by simp; omega) hgr)
theorem wp_app_str (hgd : o.guard = none) (s x : Operand) (ho : o.op = .call { callee := .builtin .append, args := #[s, x], argTypes := #[48, 9] }) (B : Nat) (v : Value) (l m : Bs) (w : World)
    (hs : a.eval s = v) (hx : a.eval x = .string (Sx m)) (hown : OB B w v l) (hB : B ≤ w.heap.size) (hl : l.length ≤ 1000000000) (hm : m.length ≤ 1000000000)
    (h : ∀ v' w', OB B w' v' (l ++ m) → Below B w w' → wpList Tryz.prog ops Q rest (a.put o.dst v') w') : wpList Tryz.prog ops Q (o :: rest) a w := by
  obtain ⟨i0, hi, hz0, hz1, hz2⟩ := info_parts infoByte
  have hsz := Sx_size m
  refine Lib.wpList_append_own_string _ hgd s x 48 9 ho B 5 i0 Tryz.underlying48 Tryz.underlying9 hi hz0 hz1 hz2 v _ _ hs hown (Sx m) hx (by rw [hsz]; simp [maxLen]; omega) (by rw [hsz]; omega) hB ?_
  intro v' w' ho hgr _
  refine h v' w' ?_ (ob_below (v := v) (l := l) hown hB hgr)
  unfold OB; rw [List.length_append, ← byteCells_app]; exact ho
end
theorem NB.bl {q : Nat} {d : Bool} {A : Bs} {e : Int} {w w' : World} {B : Nat} (h : NB q d A e w) (g : Below B w w') (hq : q < B) : NB q d A e w' := (g.block q hq).trans h
/-- Such a row as a text. -/
theorem ob_conv {B : Nat} {w : World} {v : Value} {l : Bs} (h : OB B w v l) (hl : l ≠ []) : ∃ g cap, v = .slice (some ⟨g, 0, none⟩) l.length cap ∧ (convert 48 9 (.slice (some ⟨g, 0, none⟩) l.length cap)).run Tryz.prog w = .ok (.string (Sx l)) w := by
  rcases h.2 with ⟨-, h0⟩ | ⟨g, cap, cur, rfl, -, -, -, -, -, -⟩
  · exact absurd (List.eq_nil_of_length_eq_zero h0) hl
  · exact ⟨g, cap, rfl, run_convert_bytes_back (P := Tryz.prog) w 48 9 5 ⟨g, 0, none⟩ cap l Tryz.underlying48 Tryz.underlying5 Tryz.underlying9 (fun j hj => World.ownsRow.cells h (g := g) rfl j _ (by simp [Lib.byteCells, hj]))⟩


set_option maxRecDepth 100000 in
set_option maxHeartbeats 8000000 in
theorem text_any (d : Bool) (A : Bs) (e : Int) (w : World) (hT : TB w) (hl : A.length ≤ 1000000) (h1 : -1000000 ≤ e) (h2 : e ≤ 1000000) (hz : A = [] → d = false ∧ e = 0) :
    Calls Tryz.prog 76 #[.agg #[.bool d, .string (Sx A), .int .i64 e]] w fun r w' => r = .returned (.string (Sx (textM ⟨d, A, e⟩))) ∧ w.grownBy w' none := by
  have e1 := Sx_toList A
  by_cases hA : A = []
  · obtain ⟨rfl, rfl⟩ := hz hA
    subst hA
    clear hT hl h1 h2 hz
    have e2 : textM ⟨false, [], 0⟩ = [48] := rfl
    rw [e2]
    have e3 : (Sx [48]) = ⟨#[48]⟩ := rfl
    rw [e3]
    go_enter Tryz.func76, Tryz.ntmps76
    go_wp2
    go_ret
    exact ⟨rfl, World.grownBy_alloc _ _ none⟩
  · have q0 : (Sx A).toList.isEmpty = false := by rw [e1]; cases A with
      | nil => exact absurd rfl hA
      | cons _ _ => rfl
    have k0 : NB w.heap.size d A e (w.alloc (.cells #[.bool d, .string (Sx A), .int .i64 e] 24)) := heap_alloc_new _ _
    have hg0 : Below (w.heap.size + 1) w w := ⟨rfl, rfl, rfl, Nat.le_refl _, fun _ _ => rfl⟩
    have HG := Lib.hid (gbelow (World.grownBy_alloc w (.cells #[.bool d, .string (Sx A), .int .i64 e] 24) none))
    have HT := Lib.hid (show Lib.TabBelow Tryz.prog (w.heap.size + 1) (w.alloc (.cells #[.bool d, .string (Sx A), .int .i64 e] 24)) "internal/strconv.uint64pow10" .u64 Lib.pow10Tab from fun w2 h => (hT.gr (World.grownBy_alloc w _ none)) w2 (h.mono (by simp)))
    have hbw : w.heap.size + 1 ≤ (w.alloc (.cells #[.bool d, .string (Sx A), .int .i64 e] 24)).heap.size := by simp
    have HM := Lib.hid (show textM ⟨d, A, e⟩ = (if d then [45] else []) ++ A ++ (if e = 0 then [] else 101 :: Lib.itoa e) by rw [textM, if_neg hA])
    have hne : ∀ p s : Bs, p ++ A ++ s ≠ [] := fun p s h => hA (by simp at h; exact h.2.1)
    have HNE := Lib.hid hne
    generalize textM ⟨d, A, e⟩ = M at *
    clear hT hg0 hz hne e1
    generalize hB : w.heap.size + 1 = B at *
    have HB := Lib.hid hB
    have HBW := Lib.hid hbw
    have HK0 := Lib.hid k0
    have HL := Lib.hid (And.intro hl (And.intro h1 h2))
    clear hB hbw k0 hl
    have HC := Lib.hid (fun (w' : World) (h : Below B (w.alloc (.cells #[.bool d, .string (Sx A), .int .i64 e] 24)) w') => ((NB.bl HK0.out h (by rw [← HB.out]; exact Nat.lt_succ_self _)).nc))
    unfold NC at HC
    obtain ⟨x0, y0, z0⟩ := HK0.out.nc
    have HNA := Lib.hid hA
    clear hA
    by_cases he : e = 0
    · subst he
      cases d
      · have O0 : Hid (OB B (w.alloc (.cells #[.bool false, .string (Sx A), .int .i64 0] 24)) (.slice none 0 0) []) := Lib.hid (World.ownsRow_nil _ _ _ _)
        have R0 : Hid (Below B (w.alloc (.cells #[.bool false, .string (Sx A), .int .i64 0] 24)) (w.alloc (.cells #[.bool false, .string (Sx A), .int .i64 0] 24))) := Lib.hid ⟨rfl, rfl, rfl, Nat.le_refl _, fun _ _ => rfl⟩
        have S0 := HBW
        go_enter Tryz.func76, Tryz.ntmps76
        go_wp2_with (at_builtin; refine wp_app_str rfl _ _ rfl B (.slice none 0 0) [] A _ rfl rfl O0.out S0.out (by simp) (by have := HL.out.1; omega) ?_)
        intro v1 w1 ho hb
        have O1 := Lib.hid ho; have R1 := Lib.hid (R0.out.trans hb); have S1 := Lib.hid (Nat.le_trans HBW.out R1.out.size); have C1 := HC.out _ R1.out; clear ho hb
        obtain ⟨x1, y1, z1⟩ := C1
        obtain ⟨l, hl2⟩ : ∃ l, l = A := ⟨_, rfl⟩
        have HE : Hid (M = l) := Lib.hid (by rw [HM.out, hl2]; simp)
        have hnl : l ≠ [] := by rw [hl2]; have := HNA.out; simp [this]
        have OL : OB B w1 v1 l := by rw [hl2]; exact O1.out
        clear hl2
        obtain ⟨g, cap, hv, hcv⟩ := ob_conv OL hnl
        clear hnl OL
        subst hv
        generalize hll : l.length = n at *
        clear hll
        go_wp2
        go_ret
        exact ⟨by rw [HE.out]; rfl, gof (HG.out.trans (R1.out.mono (by rw [← HB.out]; simp))) none⟩
      · have O0 : Hid (OB B (w.alloc (.cells #[.bool true, .string (Sx A), .int .i64 0] 24)) (.slice none 0 0) []) := Lib.hid (World.ownsRow_nil _ _ _ _)
        have R0 : Hid (Below B (w.alloc (.cells #[.bool true, .string (Sx A), .int .i64 0] 24)) (w.alloc (.cells #[.bool true, .string (Sx A), .int .i64 0] 24))) := Lib.hid ⟨rfl, rfl, rfl, Nat.le_refl _, fun _ _ => rfl⟩
        have S0 := HBW
        go_enter Tryz.func76, Tryz.ntmps76
        go_wp2_with (at_builtin; refine wp_app_lit rfl _ _ rfl B (.slice none 0 0) [] 45 _ rfl _ rfl _ rfl (by simp) O0.out S0.out (by have := HL.out.1; simp <;> omega) ?_)
        intro v1 w1 ho hb
        have O1 := Lib.hid ho; have R1 := Lib.hid (R0.out.trans hb); have S1 := Lib.hid (Nat.le_trans HBW.out R1.out.size); have C1 := HC.out _ R1.out; clear ho hb
        obtain ⟨x1, y1, z1⟩ := C1
        go_wp2_with (at_builtin; refine wp_app_str rfl _ _ rfl B v1 [45] A w1 rfl rfl O1.out S1.out (by simp) (by have := HL.out.1; omega) ?_)
        intro v2 w2 ho hb
        have O2 := Lib.hid ho; have R2 := Lib.hid (R1.out.trans hb); have S2 := Lib.hid (Nat.le_trans HBW.out R2.out.size); have C2 := HC.out _ R2.out; clear ho hb
        obtain ⟨x2, y2, z2⟩ := C2
        obtain ⟨l, hl2⟩ : ∃ l, l = ([45] ++ A) := ⟨_, rfl⟩
        have HE : Hid (M = l) := Lib.hid (by rw [HM.out, hl2]; simp)
        have hnl : l ≠ [] := by rw [hl2]; have := HNA.out; simp [this]
        have OL : OB B w2 v2 l := by rw [hl2]; exact O2.out
        clear hl2
        obtain ⟨g, cap, hv, hcv⟩ := ob_conv OL hnl
        clear hnl OL
        subst hv
        generalize hll : l.length = n at *
        clear hll
        go_wp2
        go_ret
        exact ⟨by rw [HE.out]; rfl, gof (HG.out.trans (R2.out.mono (by rw [← HB.out]; simp))) none⟩
    · have hb : (e != 0) = true := by simpa using he
      have HE0 := Lib.hid he
      have HM := Lib.hid (HM.out.trans (by rw [if_neg he]))
      clear he
      cases d
      · have O0 : Hid (OB B (w.alloc (.cells #[.bool false, .string (Sx A), .int .i64 e] 24)) (.slice none 0 0) []) := Lib.hid (World.ownsRow_nil _ _ _ _)
        have R0 : Hid (Below B (w.alloc (.cells #[.bool false, .string (Sx A), .int .i64 e] 24)) (w.alloc (.cells #[.bool false, .string (Sx A), .int .i64 e] 24))) := Lib.hid ⟨rfl, rfl, rfl, Nat.le_refl _, fun _ _ => rfl⟩
        have S0 := HBW
        go_enter Tryz.func76, Tryz.ntmps76
        go_wp2_with (at_builtin; refine wp_app_str rfl _ _ rfl B (.slice none 0 0) [] A _ rfl rfl O0.out S0.out (by simp) (by have := HL.out.1; omega) ?_)
        intro v1 w1 ho hb
        have O1 := Lib.hid ho; have R1 := Lib.hid (R0.out.trans hb); have S1 := Lib.hid (Nat.le_trans HBW.out R1.out.size); have C1 := HC.out _ R1.out; clear ho hb
        obtain ⟨x1, y1, z1⟩ := C1
        go_wp2_with (at_builtin; refine wp_app_lit rfl _ _ rfl B v1 A 101 _ rfl w1 rfl _ rfl (by simp) O1.out S1.out (by have := HL.out.1; simp <;> omega) ?_)
        intro v2 w2 ho hb
        have O2 := Lib.hid ho; have R2 := Lib.hid (R1.out.trans hb); have S2 := Lib.hid (Nat.le_trans HBW.out R2.out.size); have C2 := HC.out _ R2.out; clear ho hb
        obtain ⟨x2, y2, z2⟩ := C2
        go_wp2_with (go_at_call 123; ((with_reducible refine (appInt B (A ++ [101]) e (by have := HL.out.2.1; omega) (by have := HL.out.2.2; omega) v2 w2 O2.out S2.out (by have := HL.out.1; simp <;> omega) (HT.out.on R2.out)).mono ?_); rintro r w3 ⟨v3, rfl, ho, hb⟩; refine Hid.out ?_))
        refine Lib.hid ?_
        have O3 := Lib.hid ho; have R3 := Lib.hid (R2.out.trans hb); have S3 := Lib.hid (Nat.le_trans HBW.out R3.out.size); have C3 := HC.out _ R3.out; clear ho hb
        obtain ⟨x3, y3, z3⟩ := C3
        obtain ⟨l, hl2⟩ : ∃ l, l = ((A ++ [101]) ++ Lib.itoa e) := ⟨_, rfl⟩
        have HE : Hid (M = l) := Lib.hid (by rw [HM.out, hl2]; simp)
        have hnl : l ≠ [] := by rw [hl2]; have := HNA.out; simp [this]
        have OL : OB B w3 v3 l := by rw [hl2]; exact O3.out
        clear hl2
        obtain ⟨g, cap, hv, hcv⟩ := ob_conv OL hnl
        clear hnl OL
        subst hv
        generalize hll : l.length = n at *
        clear hll
        go_wp2
        go_ret
        exact ⟨by rw [HE.out]; rfl, gof (HG.out.trans (R3.out.mono (by rw [← HB.out]; simp))) none⟩
      · have O0 : Hid (OB B (w.alloc (.cells #[.bool true, .string (Sx A), .int .i64 e] 24)) (.slice none 0 0) []) := Lib.hid (World.ownsRow_nil _ _ _ _)
        have R0 : Hid (Below B (w.alloc (.cells #[.bool true, .string (Sx A), .int .i64 e] 24)) (w.alloc (.cells #[.bool true, .string (Sx A), .int .i64 e] 24))) := Lib.hid ⟨rfl, rfl, rfl, Nat.le_refl _, fun _ _ => rfl⟩
        have S0 := HBW
        go_enter Tryz.func76, Tryz.ntmps76
        go_wp2_with (at_builtin; refine wp_app_lit rfl _ _ rfl B (.slice none 0 0) [] 45 _ rfl _ rfl _ rfl (by simp) O0.out S0.out (by have := HL.out.1; simp <;> omega) ?_)
        intro v1 w1 ho hb
        have O1 := Lib.hid ho; have R1 := Lib.hid (R0.out.trans hb); have S1 := Lib.hid (Nat.le_trans HBW.out R1.out.size); have C1 := HC.out _ R1.out; clear ho hb
        obtain ⟨x1, y1, z1⟩ := C1
        go_wp2_with (at_builtin; refine wp_app_str rfl _ _ rfl B v1 [45] A w1 rfl rfl O1.out S1.out (by simp) (by have := HL.out.1; omega) ?_)
        intro v2 w2 ho hb
        have O2 := Lib.hid ho; have R2 := Lib.hid (R1.out.trans hb); have S2 := Lib.hid (Nat.le_trans HBW.out R2.out.size); have C2 := HC.out _ R2.out; clear ho hb
        obtain ⟨x2, y2, z2⟩ := C2
        go_wp2_with (at_builtin; refine wp_app_lit rfl _ _ rfl B v2 ([45] ++ A) 101 _ rfl w2 rfl _ rfl (by simp) O2.out S2.out (by have := HL.out.1; simp <;> omega) ?_)
        intro v3 w3 ho hb
        have O3 := Lib.hid ho; have R3 := Lib.hid (R2.out.trans hb); have S3 := Lib.hid (Nat.le_trans HBW.out R3.out.size); have C3 := HC.out _ R3.out; clear ho hb
        obtain ⟨x3, y3, z3⟩ := C3
        go_wp2_with (go_at_call 123; ((with_reducible refine (appInt B (([45] ++ A) ++ [101]) e (by have := HL.out.2.1; omega) (by have := HL.out.2.2; omega) v3 w3 O3.out S3.out (by have := HL.out.1; simp <;> omega) (HT.out.on R3.out)).mono ?_); rintro r w4 ⟨v4, rfl, ho, hb⟩; refine Hid.out ?_))
        refine Lib.hid ?_
        have O4 := Lib.hid ho; have R4 := Lib.hid (R3.out.trans hb); have S4 := Lib.hid (Nat.le_trans HBW.out R4.out.size); have C4 := HC.out _ R4.out; clear ho hb
        obtain ⟨x4, y4, z4⟩ := C4
        obtain ⟨l, hl2⟩ : ∃ l, l = ((([45] ++ A) ++ [101]) ++ Lib.itoa e) := ⟨_, rfl⟩
        have HE : Hid (M = l) := Lib.hid (by rw [HM.out, hl2]; simp)
        have hnl : l ≠ [] := by rw [hl2]; have := HNA.out; simp [this]
        have OL : OB B w4 v4 l := by rw [hl2]; exact O4.out
        clear hl2
        obtain ⟨g, cap, hv, hcv⟩ := ob_conv OL hnl
        clear hnl OL
        subst hv
        generalize hll : l.length = n at *
        clear hll
        go_wp2
        go_ret
        exact ⟨by rw [HE.out]; rfl, gof (HG.out.trans (R4.out.mono (by rw [← HB.out]; simp))) none⟩

end Go.Proofs.YticnfmfmgdfdeaaGreatDoor

namespace Go.Proofs.YticnfmfmgdfdeaaGreatDoor
open Go.RowKit

theorem clone_any (l : Bs) (w : World) (hl : l.length ≤ 140737488355328) :
    Calls Tryz.prog 189 #[.string (Sx l)] w fun r w' => r = .returned (.string (Sx l)) ∧ w.grownBy w' none := by
  have K := Tryz.clone (Sx l) w (by rw [Sx_size]; omega)
  generalize Sx l = B at *
  go_enter Tryz.func189, Tryz.ntmps189
  go_wp2_with (go_at_call 203; ((with_reducible refine K.mono ?_); rintro r w3 ⟨rfl, hg⟩); have HG := Lib.hid (gof hg none); clear hg)
  go_ret
  exact ⟨rfl, HG.out⟩

theorem trimD_any (l : Bs) (w : World) :
    Calls Tryz.prog 69 #[.string (Sx l), .string ⟨#[48, 49, 50, 51, 52, 53, 54, 55, 56, 57]⟩] w fun r w' => r = .returned (.string (Sx (l.dropWhile dig))) ∧ w.grownBy w' none := by
  refine (Tryz.trimLeft (Sx l) ⟨#[48, 49, 50, 51, 52, 53, 54, 55, 56, 57]⟩ w (by decide) (by decide)).mono ?_
  rintro r w' ⟨rfl, h⟩
  refine ⟨?_, gof h none⟩
  have e : (fun b => digs10.contains b) = dig := funext digs10_dig
  show Ending.returned (.string (Sx (Lib.trimLeftS l digs10))) = _
  rw [Lib.trimLeftS, e]
theorem trim0_any (l : Bs) (w : World) :
    Calls Tryz.prog 69 #[.string (Sx l), .string ⟨#[48]⟩] w fun r w' => r = .returned (.string (Sx (trim0 l))) ∧ w.grownBy w' none := by
  refine (Tryz.trimLeft (Sx l) ⟨#[48]⟩ w (by decide) (by decide)).mono ?_
  rintro r w' ⟨rfl, h⟩
  refine ⟨?_, gof h none⟩
  show Ending.returned (.string (Sx (Lib.trimLeftS l [48]))) = _
  rw [trimL0]
theorem rtrim0_any (l : Bs) (w : World) (hl : l.length ≤ 140737488355328) :
    Calls Tryz.prog 188 #[.string (Sx l), .string ⟨#[48]⟩] w fun r w' => r = .returned (.string (Sx (rtrim0 l))) ∧ w.grownBy w' none := by
  refine (Tryz.trimRight (Sx l) ⟨#[48]⟩ w (by rw [Sx_size]; omega) (by decide) (by decide)).mono ?_
  rintro r w' ⟨rfl, h⟩
  refine ⟨?_, gof h none⟩
  show Ending.returned (.string (Sx (Lib.trimRightS l [48]))) = _
  rw [trimR0]

theorem take_dw (l : Bs) : l.take (l.length - (l.dropWhile dig).length) = l.takeWhile dig := by
  have h := List.takeWhile_append_dropWhile (p := dig) (l := l)
  have hl := congrArg List.length h
  rw [List.length_append] at hl
  have e : l.length - (l.dropWhile dig).length = (l.takeWhile dig).length := by omega
  rw [e]
  have k := congrArg (List.take (l.takeWhile dig).length) h
  rw [List.take_left] at k
  exact k.symm

theorem cutD_any (l : Bs) (w : World) (hl : l.length ≤ 140737488355328) :
    Calls Tryz.prog 182 #[.string (Sx l)] w fun r w' => r = .returned (.tuple #[.string (Sx (l.takeWhile dig)), .string (Sx (l.dropWhile dig))]) ∧ w.grownBy w' none := by
  have K := trimD_any l w
  have hle : (l.dropWhile dig).length ≤ l.length := (List.dropWhile_sublist _).length_le
  have hx := ext_take l (l.length - (l.dropWhile dig).length)
  rw [take_dw] at hx
  have hs1 := Sx_size l
  have hs2 := Sx_size (l.dropWhile dig)
  generalize Sx (l.takeWhile dig) = C at *
  generalize Sx (l.dropWhile dig) = D at *
  generalize Sx l = B at *
  generalize (l.dropWhile dig).length = m at *
  generalize l.length = n at *
  have hle2 : (m : Int) ≤ (n : Int) := by omega
  have hc : ((n : Int) - (m : Int)).toNat = n - m := by omega
  go_enter Tryz.func182, Tryz.ntmps182
  go_wp2_with (go_at_call 69; ((with_reducible refine K.mono ?_); rintro r w3 ⟨rfl, hg⟩); have HG := Lib.hid hg; clear hg)
  exact bodyPost_ret (results_tmp2 rfl _ _ _) rfl ⟨rfl, HG.out⟩

def cutE (a b : UInt8) (l : Bs) : Bs := if isH a l then l.tail else if isH b l then l.tail else l
theorem cutE_any (a b : UInt8) (l : Bs) (w : World) (hl : l.length ≤ 140737488355328) :
    Calls Tryz.prog 185 #[.string (Sx l), .string ⟨#[a]⟩, .string ⟨#[b]⟩] w fun r w' => r = .returned (.tuple #[.string (Sx (cutE a b l)), .bool (isH a l || isH b l)]) ∧ w = w' := by
  have K1 := cut_any a l w hl
  have K2 := cut_any b l w hl
  unfold cutE
  have e1 : isH a l = true → Sx (if isH a l = true then l.tail else l) = Sx l.tail := fun h => by rw [if_pos h]
  cases h1 : isH a l with
  | true =>
    rw [h1] at K1
    simp only [if_true, Bool.true_or] at K1 ⊢
    generalize Sx l.tail = T at *
    generalize Sx l = B at *
    clear e1 K2
    go_enter Tryz.func185, Tryz.ntmps185
    go_wp2_with (go_at_call 144; ((with_reducible refine K1.mono ?_); rintro r w3 ⟨rfl, rfl⟩))
    exact bodyPost_ret (results_tmp2 rfl _ _ _) rfl ⟨rfl, rfl⟩
  | false =>
    rw [h1] at K1
    simp only [if_false, Bool.false_eq_true, Bool.false_or] at K1 ⊢
    generalize Sx (if isH b l = true then l.tail else l) = T at *
    generalize isH b l = hb at *
    generalize Sx l = B at *
    clear e1
    go_enter Tryz.func185, Tryz.ntmps185
    go_wp2_with (first
      | (go_at_call 144; ((with_reducible refine K1.mono ?_); rintro r w3 ⟨rfl, rfl⟩))
      | (go_at_call 144; ((with_reducible refine K2.mono ?_); rintro r w4 ⟨rfl, rfl⟩)))
    exact bodyPost_ret (results_tmp2 rfl _ _ _) rfl ⟨rfl, rfl⟩

end Go.Proofs.YticnfmfmgdfdeaaGreatDoor
