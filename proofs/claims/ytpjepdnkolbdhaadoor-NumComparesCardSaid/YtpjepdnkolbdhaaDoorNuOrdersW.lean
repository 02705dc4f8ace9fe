/-
  NumOrders: of three numbers the order is one; the law's walk. Own work; printed by tools/mkorders.py.
-/
import Derived.Test.YtpjepdnkolbdhaaDoorNuJ
set_option linter.unusedVariables false
set_option linter.unusedSimpArgs false
namespace Go.Proofs.YtpjepdnkolbdhaaDoor
open Go.RowKit

theorem three_lit (w : World) (a b c : Obj) : (((w.alloc a).alloc b).alloc c).heap[w.heap.size]? = some a ∧ (((w.alloc a).alloc b).alloc c).heap[w.heap.size + 1]? = some b ∧ (((w.alloc a).alloc b).alloc c).heap[w.heap.size + 1 + 1]? = some c := by
  have n : ∀ (v : World) (o : Obj) (k : Nat), k = v.heap.size → (v.alloc o).heap[k]? = some o := fun v o k hk => by rw [hk]; exact heap_alloc_new _ _
  have s : ∀ (v : World) (o : Obj) (k : Nat), k < v.heap.size → (v.alloc o).heap[k]? = v.heap[k]? := fun v o k hk => Below.heap_alloc _ _ _ hk
  refine ⟨?_, ?_, ?_⟩
  · rw [s _ _ _ (by simp; omega), s _ _ _ (by simp), n _ _ _ rfl]
  · rw [s _ _ _ (by simp), n _ _ _ (by simp)]
  · rw [n _ _ _ (by simp)]
theorem three_gr (w : World) (a b c : Obj) : w.grownBy (((w.alloc a).alloc b).alloc c) none :=
  gtrans (World.grownBy_alloc _ _ _) (gtrans (World.grownBy_alloc _ _ _) (World.grownBy_alloc _ _ _))
theorem NB.set0 {q : Nat} {d : Bool} {A : Bs} {e : Int} {w : World} (h : NB q d A e w) (x : Bool) : NB q x A e (w.setCell ⟨q, 0, none⟩ (.bool x)) := by
  have := set_cell h 0 (.bool x); simpa [NB] using this
theorem NB.other {q r : Nat} {d : Bool} {A : Bs} {e : Int} {w : World} (h : NB q d A e w) (hne : r ≠ q) (o : Nat) (v : Value) : NB q d A e (w.setCell ⟨r, o, none⟩ v) := (set_other hne o v).trans h
theorem right_bd {n : Nm} (h : rightM n = true) : n.digs.length ≤ 1000000 ∧ -1000000 ≤ n.exp ∧ n.exp ≤ 1000000 := by
  by_cases hd : n.digs = []
  · rw [right_nil h hd]; decide
  · have := right_parts h hd
    exact ⟨by omega, by omega, by omega⟩
theorem cmpM_range (a b : Nm) : -1 ≤ cmpM a b ∧ cmpM a b ≤ 1 := by
  have kr : ∀ x y, -1 ≤ cmpK x y ∧ cmpK x y ≤ 1 := by
    intro x y; unfold cmpK
    split
    · rcases cmpB_range x.digs y.digs with h | h | h <;> omega
    · unfold cmpI; split
      · omega
      · split <;> omega
  unfold cmpM
  split
  · split
    · exact kr _ _
    · exact kr _ _
  · unfold cmpI; split
    · omega
    · split <;> omega

set_option maxRecDepth 100000 in
set_option maxHeartbeats 16000000 in
theorem orders_any (W : World) (da : Bool) (Aa : Bs) (ea : Int) (db : Bool) (Ab : Bs) (eb : Int) (dc : Bool) (Ac : Bs) (ec : Int) (hT : TB W) (la : Aa.length ≤ 9223372036854775807) (a1 : -9223372036854775808 ≤ ea) (a2 : ea ≤ 9223372036854775807)
    (lb : Ab.length ≤ 9223372036854775807) (b1 : -9223372036854775808 ≤ eb) (b2 : eb ≤ 9223372036854775807) (lc : Ac.length ≤ 9223372036854775807) (c1 : -9223372036854775808 ≤ ec) (c2 : ec ≤ 9223372036854775807) :
    Calls Tryd.prog 6 #[.agg #[.bool da, .string (Sx Aa), .int .i64 ea], .agg #[.bool db, .string (Sx Ab), .int .i64 eb], .agg #[.bool dc, .string (Sx Ac), .int .i64 ec]] W fun r w' => r = .returned (.bool true) ∧ Below W.heap.size W w' := by
  obtain ⟨k0, k1, k2⟩ := three_lit W (.cells #[.bool da, .string (Sx Aa), .int .i64 ea] 24) (.cells #[.bool db, .string (Sx Ab), .int .i64 eb] 24) (.cells #[.bool dc, .string (Sx Ac), .int .i64 ec] 24)
  have HG := Lib.hid (three_gr W (.cells #[.bool da, .string (Sx Aa), .int .i64 ea] 24) (.cells #[.bool db, .string (Sx Ab), .int .i64 eb] 24) (.cells #[.bool dc, .string (Sx Ac), .int .i64 ec] 24))
  have HC := Lib.hid (fun w' (g : Gr (((W.alloc (.cells #[.bool da, .string (Sx Aa), .int .i64 ea] 24)).alloc (.cells #[.bool db, .string (Sx Ab), .int .i64 eb] 24)).alloc (.cells #[.bool dc, .string (Sx Ac), .int .i64 ec] 24)) w') => And.intro (cells3 ((g.block _ (lt_of_block k0) (by simp)).trans k0)) (And.intro (cells3 ((g.block _ (lt_of_block k1) (by simp)).trans k1)) (cells3 ((g.block _ (lt_of_block k2) (by simp)).trans k2))))
  have HB := Lib.hid (fun w' (g : Gr (((W.alloc (.cells #[.bool da, .string (Sx Aa), .int .i64 ea] 24)).alloc (.cells #[.bool db, .string (Sx Ab), .int .i64 eb] 24)).alloc (.cells #[.bool dc, .string (Sx Ac), .int .i64 ec] 24)) w') => And.intro (show NB W.heap.size da Aa ea w' from (g.block _ (lt_of_block k0) (by simp)).trans k0) (And.intro (show NB (W.heap.size + 1) db Ab eb w' from (g.block _ (lt_of_block k1) (by simp)).trans k1) (show NB (W.heap.size + 1 + 1) dc Ac ec w' from (g.block _ (lt_of_block k2) (by simp)).trans k2)))
  have AW := Lib.hid (awake_any · ·)
  have HT := Lib.hid hT
  have Ra := Lib.hid (fun w' => right_any da Aa ea w' la)
  have Rb := Lib.hid (fun w' => right_any db Ab eb w' lb)
  have Rc := Lib.hid (fun w' => right_any dc Ac ec w' lc)
  clear k0 k1 k2 hT a1 a2 b1 b2 c1 c2 la lb lc
  cases ra : rightM ⟨da, Aa, ea⟩ with
  | false =>
    rw [ra] at Ra
    go_enter Tryd.func6, Tryd.ntmps6
    go_wp2_with (first
      | (go_at_call 10; ((with_reducible refine (AW.out _ (HT.out.gr HG.out)).mono ?_); rintro r w1 ⟨rfl, hg⟩); have D1 := Lib.hid hg; obtain ⟨⟨x0, x1, x2, x3, x4, x5⟩, ⟨y0, y1, y2, y3, y4, y5⟩, ⟨z0, z1, z2, z3, z4, z5⟩⟩ := HC.out _ D1.out; clear hg)
      | (go_at_call 16; ((with_reducible refine (Ra.out _).mono ?_); rintro r w2 ⟨rfl, hg⟩); have D2 := Lib.hid (gtrans D1.out hg); obtain ⟨⟨x0, x1, x2, x3, x4, x5⟩, ⟨y0, y1, y2, y3, y4, y5⟩, ⟨z0, z1, z2, z3, z4, z5⟩⟩ := HC.out _ D2.out; clear hg))
    go_ret
    exact ⟨rfl, gbelow (gtrans HG.out D2.out)⟩
  | true =>
    rw [ra] at Ra
    cases rb : rightM ⟨db, Ab, eb⟩ with
    | false =>
      rw [rb] at Rb
      go_enter Tryd.func6, Tryd.ntmps6
      go_wp2_with (first
        | (go_at_call 10; ((with_reducible refine (AW.out _ (HT.out.gr HG.out)).mono ?_); rintro r w1 ⟨rfl, hg⟩); have D1 := Lib.hid hg; obtain ⟨⟨x0, x1, x2, x3, x4, x5⟩, ⟨y0, y1, y2, y3, y4, y5⟩, ⟨z0, z1, z2, z3, z4, z5⟩⟩ := HC.out _ D1.out; clear hg)
        | (go_at_call 16; ((with_reducible refine (Ra.out _).mono ?_); rintro r w2 ⟨rfl, hg⟩); have D2 := Lib.hid (gtrans D1.out hg); obtain ⟨⟨x0, x1, x2, x3, x4, x5⟩, ⟨y0, y1, y2, y3, y4, y5⟩, ⟨z0, z1, z2, z3, z4, z5⟩⟩ := HC.out _ D2.out; clear hg)
        | (go_at_call 16; ((with_reducible refine (Rb.out _).mono ?_); rintro r w3 ⟨rfl, hg⟩); have D3 := Lib.hid (gtrans D2.out hg); obtain ⟨⟨x0, x1, x2, x3, x4, x5⟩, ⟨y0, y1, y2, y3, y4, y5⟩, ⟨z0, z1, z2, z3, z4, z5⟩⟩ := HC.out _ D3.out; clear hg))
      go_ret
      exact ⟨rfl, gbelow (gtrans HG.out D3.out)⟩
    | true =>
      rw [rb] at Rb
      cases rc : rightM ⟨dc, Ac, ec⟩ with
      | false =>
        rw [rc] at Rc
        go_enter Tryd.func6, Tryd.ntmps6
        go_wp2_with (first
          | (go_at_call 10; ((with_reducible refine (AW.out _ (HT.out.gr HG.out)).mono ?_); rintro r w1 ⟨rfl, hg⟩); have D1 := Lib.hid hg; obtain ⟨⟨x0, x1, x2, x3, x4, x5⟩, ⟨y0, y1, y2, y3, y4, y5⟩, ⟨z0, z1, z2, z3, z4, z5⟩⟩ := HC.out _ D1.out; clear hg)
          | (go_at_call 16; ((with_reducible refine (Ra.out _).mono ?_); rintro r w2 ⟨rfl, hg⟩); have D2 := Lib.hid (gtrans D1.out hg); obtain ⟨⟨x0, x1, x2, x3, x4, x5⟩, ⟨y0, y1, y2, y3, y4, y5⟩, ⟨z0, z1, z2, z3, z4, z5⟩⟩ := HC.out _ D2.out; clear hg)
          | (go_at_call 16; ((with_reducible refine (Rb.out _).mono ?_); rintro r w3 ⟨rfl, hg⟩); have D3 := Lib.hid (gtrans D2.out hg); obtain ⟨⟨x0, x1, x2, x3, x4, x5⟩, ⟨y0, y1, y2, y3, y4, y5⟩, ⟨z0, z1, z2, z3, z4, z5⟩⟩ := HC.out _ D3.out; clear hg)
          | (go_at_call 16; ((with_reducible refine (Rc.out _).mono ?_); rintro r w4 ⟨rfl, hg⟩); have D4 := Lib.hid (gtrans D3.out hg); obtain ⟨⟨x0, x1, x2, x3, x4, x5⟩, ⟨y0, y1, y2, y3, y4, y5⟩, ⟨z0, z1, z2, z3, z4, z5⟩⟩ := HC.out _ D4.out; clear hg))
        go_ret
        exact ⟨rfl, gbelow (gtrans HG.out D4.out)⟩
      | true =>
        rw [rc] at Rc
        have ba := right_bd ra
        have bb := right_bd rb
        have bc := right_bd rc
        simp only at ba bb bc
        have Cab := Lib.hid (fun w' => compare_any da Aa ea db Ab eb w' ba.1 ba.2.1 ba.2.2 bb.1 bb.2.1 bb.2.2)
        have Cbc := Lib.hid (fun w' => compare_any db Ab eb dc Ac ec w' bb.1 bb.2.1 bb.2.2 bc.1 bc.2.1 bc.2.2)
        have Cac := Lib.hid (fun w' => compare_any da Aa ea dc Ac ec w' ba.1 ba.2.1 ba.2.2 bc.1 bc.2.1 bc.2.2)
        have Cba := Lib.hid (fun w' => compare_any db Ab eb da Aa ea w' bb.1 bb.2.1 bb.2.2 ba.1 ba.2.1 ba.2.2)
        have Cn := Lib.hid (fun w' => compare_any (!da) Aa ea (!db) Ab eb w' ba.1 ba.2.1 ba.2.2 bb.1 bb.2.1 bb.2.2)
        have hx := cmpM_range ⟨da, Aa, ea⟩ ⟨db, Ab, eb⟩
        have hxy := cmpM_trans ⟨da, Aa, ea⟩ ⟨db, Ab, eb⟩ ⟨dc, Ac, ec⟩
        have hyx := cmpM_trans ⟨dc, Ac, ec⟩ ⟨db, Ab, eb⟩ ⟨da, Aa, ea⟩
        rw [cmpM_anti ⟨da, Aa, ea⟩ ⟨db, Ab, eb⟩] at Cba hyx
        rw [cmpM_anti ⟨db, Ab, eb⟩ ⟨dc, Ac, ec⟩] at hyx
        rw [cmpM_anti ⟨da, Aa, ea⟩ ⟨dc, Ac, ec⟩] at hyx
        have hz : cmpM ⟨da, Aa, ea⟩ ⟨db, Ab, eb⟩ = 0 ↔ (da = db ∧ Aa = Ab ∧ ea = eb) := by rw [cmpM_zero]; simp
        have hn : Aa ≠ [] → Ab ≠ [] → cmpM ⟨!da, Aa, ea⟩ ⟨!db, Ab, eb⟩ = -cmpM ⟨da, Aa, ea⟩ ⟨db, Ab, eb⟩ := fun h h' => cmpM_turn (a := ⟨da, Aa, ea⟩) (b := ⟨db, Ab, eb⟩) h h'
        generalize cmpM ⟨da, Aa, ea⟩ ⟨db, Ab, eb⟩ = x at *
        generalize cmpM ⟨db, Ab, eb⟩ ⟨dc, Ac, ec⟩ = y at *
        generalize cmpM ⟨da, Aa, ea⟩ ⟨dc, Ac, ec⟩ = z at *
        generalize cmpM ⟨!da, Aa, ea⟩ ⟨!db, Ab, eb⟩ = t at *
        have eA := Sx_toList Aa
        have eB := Sx_toList Ab
        clear ba bb bc ra rb rc
        obtain ⟨hx1, hx2⟩ := hx
        have HY := Lib.hid (And.intro hxy hyx)
        have HZ := Lib.hid hz
        have HN := Lib.hid hn
        clear hxy hyx hz hn
        go_enter Tryd.func6, Tryd.ntmps6
        go_wp2_with (first
          | (go_at_call 10; ((with_reducible refine (AW.out _ (HT.out.gr HG.out)).mono ?_); rintro r w1 ⟨rfl, hg⟩); have D1 := Lib.hid hg; obtain ⟨⟨x0, x1, x2, x3, x4, x5⟩, ⟨y0, y1, y2, y3, y4, y5⟩, ⟨z0, z1, z2, z3, z4, z5⟩⟩ := HC.out _ D1.out; clear hg)
          | (go_at_call 16; ((with_reducible refine (Ra.out _).mono ?_); rintro r w2 ⟨rfl, hg⟩); have D2 := Lib.hid (gtrans D1.out hg); obtain ⟨⟨x0, x1, x2, x3, x4, x5⟩, ⟨y0, y1, y2, y3, y4, y5⟩, ⟨z0, z1, z2, z3, z4, z5⟩⟩ := HC.out _ D2.out; clear hg)
          | (go_at_call 16; ((with_reducible refine (Rb.out _).mono ?_); rintro r w3 ⟨rfl, hg⟩); have D3 := Lib.hid (gtrans D2.out hg); obtain ⟨⟨x0, x1, x2, x3, x4, x5⟩, ⟨y0, y1, y2, y3, y4, y5⟩, ⟨z0, z1, z2, z3, z4, z5⟩⟩ := HC.out _ D3.out; clear hg)
          | (go_at_call 16; ((with_reducible refine (Rc.out _).mono ?_); rintro r w4 ⟨rfl, hg⟩); have D4 := Lib.hid (gtrans D3.out hg); obtain ⟨⟨x0, x1, x2, x3, x4, x5⟩, ⟨y0, y1, y2, y3, y4, y5⟩, ⟨z0, z1, z2, z3, z4, z5⟩⟩ := HC.out _ D4.out; clear hg)
          | (go_at_call 18; ((with_reducible refine (Cab.out _).mono ?_); rintro r w5 ⟨rfl, hg⟩); have D5 := Lib.hid (gtrans D4.out hg); obtain ⟨⟨x0, x1, x2, x3, x4, x5⟩, ⟨y0, y1, y2, y3, y4, y5⟩, ⟨z0, z1, z2, z3, z4, z5⟩⟩ := HC.out _ D5.out; clear hg)
          | (go_at_call 18; ((with_reducible refine (Cbc.out _).mono ?_); rintro r w6 ⟨rfl, hg⟩); have D6 := Lib.hid (gtrans D5.out hg); obtain ⟨⟨x0, x1, x2, x3, x4, x5⟩, ⟨y0, y1, y2, y3, y4, y5⟩, ⟨z0, z1, z2, z3, z4, z5⟩⟩ := HC.out _ D6.out; clear hg)
          | (go_at_call 18; ((with_reducible refine (Cac.out _).mono ?_); rintro r w7 ⟨rfl, hg⟩); have D7 := Lib.hid (gtrans D6.out hg); obtain ⟨⟨x0, x1, x2, x3, x4, x5⟩, ⟨y0, y1, y2, y3, y4, y5⟩, ⟨z0, z1, z2, z3, z4, z5⟩⟩ := HC.out _ D7.out; clear hg)
          | (go_at_call 18; ((with_reducible refine (Cba.out _).mono ?_); rintro r w8 ⟨rfl, hg⟩); have D8 := Lib.hid (gtrans D7.out hg); obtain ⟨⟨x0, x1, x2, x3, x4, x5⟩, ⟨y0, y1, y2, y3, y4, y5⟩, ⟨z0, z1, z2, z3, z4, z5⟩⟩ := HC.out _ D8.out; clear hg; refine Hid.out ?_))
        refine Lib.hid ?_
        have hx0 : x = 0 ∨ x ≠ 0 := by omega
        rcases hx0 with rfl | hx0
        · obtain ⟨rfl, rfl, rfl⟩ := HZ.out.1 rfl
          clear HZ
          go_wp2_with (go_at_call 18; have ht := HN.out (by assumption) (by assumption); rw [ht] at Cn; ((with_reducible refine (Cn.out _).mono ?_); rintro r w9 ⟨rfl, hg⟩); have D9 := Lib.hid (gtrans (gr_set (gr_set (gtrans HG.out D8.out) (Nat.le_refl _) _ _) (Nat.le_succ _) _ _) hg); clear hg ht)
          all_goals first
            | (exfalso; have h := HY.out; omega)
            | (go_ret; exact ⟨rfl, gbelow (gtrans HG.out D8.out)⟩)
            | (go_ret; exact ⟨rfl, gbelow D9.out⟩)
        · have hne : ¬ (da = db ∧ Aa = Ab ∧ ea = eb) := fun h => hx0 (HZ.out.2 h)
          have hbx : (x == 0) = false := by simpa using hx0
          have hd : (da = true ∧ db = false) ∨ (da = false ∧ db = true) ∨ (da = db ∧ Aa ≠ Ab) ∨ (da = db ∧ Aa = Ab ∧ ea ≠ eb) := by
            cases da <;> cases db <;> simp_all <;> (by_cases h : Aa = Ab <;> simp_all)
          have HN2 := Lib.hid (fun (h : (!List.isEmpty Aa) = true ∧ (!List.isEmpty Ab) = true) => HN.out (by intro e; rw [e] at h; simp at h) (by intro e; rw [e] at h; simp at h))
          clear HZ hne HN
          rcases hd with ⟨rfl, rfl⟩ | ⟨rfl, rfl⟩ | ⟨rfl, hdd⟩ | ⟨rfl, rfl, hdd⟩
          · go_wp2_with (go_at_call 18; have ht := HN2.out (by assumption); rw [ht] at Cn; try simp only [Bool.not_true, Bool.not_false] at Cn; ((with_reducible refine (Cn.out _).mono ?_); rintro r w9 ⟨rfl, hg⟩); have D9 := Lib.hid (gtrans (gr_set (gr_set (gtrans HG.out D8.out) (Nat.le_refl _) _ _) (Nat.le_succ _) _ _) hg); clear hg ht)
            all_goals first
              | (exfalso; have h := HY.out; omega)
              | (go_ret; exact ⟨rfl, gbelow (gtrans HG.out D8.out)⟩)
              | (go_ret; exact ⟨rfl, gbelow D9.out⟩)
          · go_wp2_with (go_at_call 18; have ht := HN2.out (by assumption); rw [ht] at Cn; try simp only [Bool.not_true, Bool.not_false] at Cn; ((with_reducible refine (Cn.out _).mono ?_); rintro r w9 ⟨rfl, hg⟩); have D9 := Lib.hid (gtrans (gr_set (gr_set (gtrans HG.out D8.out) (Nat.le_refl _) _ _) (Nat.le_succ _) _ _) hg); clear hg ht)
            all_goals first
              | (exfalso; have h := HY.out; omega)
              | (go_ret; exact ⟨rfl, gbelow (gtrans HG.out D8.out)⟩)
              | (go_ret; exact ⟨rfl, gbelow D9.out⟩)
          · go_wp2_with (go_at_call 18; have ht := HN2.out (by assumption); rw [ht] at Cn; ((refine (Cn.out _).mono ?_); rintro r w9 ⟨rfl, hg⟩); have D9 := Lib.hid (gtrans (gr_set (gr_set (gtrans HG.out D8.out) (Nat.le_refl _) _ _) (Nat.le_succ _) _ _) hg); clear hg ht)
            all_goals first
              | (exfalso; have h := HY.out; omega)
              | (go_ret; exact ⟨rfl, gbelow (gtrans HG.out D8.out)⟩)
              | (go_ret; exact ⟨rfl, gbelow D9.out⟩)
          · go_wp2_with (go_at_call 18; have ht := HN2.out ⟨by assumption, by assumption⟩; rw [ht] at Cn; ((refine (Cn.out _).mono ?_); rintro r w9 ⟨rfl, hg⟩); have D9 := Lib.hid (gtrans (gr_set (gr_set (gtrans HG.out D8.out) (Nat.le_refl _) _ _) (Nat.le_succ _) _ _) hg); clear hg ht)
            all_goals first
              | (exfalso; have h := HY.out; omega)
              | (go_ret; exact ⟨rfl, gbelow (gtrans HG.out D8.out)⟩)
              | (go_ret; exact ⟨rfl, gbelow D9.out⟩)

end Go.Proofs.YtpjepdnkolbdhaaDoor
