/-
  Layer 10, the document's own: Gather walked. Own work.
-/
import Derived.Test.YtpgpilalhbdidaaFrL
namespace Go.Proofs.Ytpgpilalhbdidaa
open Go.RowKit

theorem lit2v (w : World) (t : Nat) (v : Value) : ∀ j u, (rcl (v, (t, [])))[j]? = some u → (w.alloc (.cells #[.int .u64 (t : Int), v] 73)).cell? ((⟨w.heap.size, 0, none⟩ : Addr).add j) = some u := by
  intro j u hj
  rw [Addr.add_lit, Nat.zero_add, World.cell?_alloc_mark]
  simpa [rcl] using hj
theorem one_u32_drew (w : World) (p : Nat) : ∀ j u, [encP p][j]? = some u → ((w.alloc (.cells #[encP p] 40)).drew).cell? ((⟨w.heap.size, 0, none⟩ : Addr).add j) = some u := cell_one_new w (encP p) 40

set_option maxRecDepth 100000 in
set_option maxHeartbeats 8000000 in
theorem vgather_some (w : World) (R : Nat → Prop) (b o n c : Nat) (ao : Option Addr) (hao : 0 < n → ao = some ⟨b, o, none⟩) (ps : List Pr) (h : PrSq R w (.slice ao n c) ps) (hn9 : n ≤ 1000000) :
    Calls Try.prog 18 #[.slice ao n c] w fun r w' => VGatherR w (gatherL ps) r w' := by
  obtain ⟨i0, hi, hz0, hz1, hz2⟩ := info_parts infoR8
  obtain ⟨j0, hj, hy0, hy1, hy2⟩ := info_parts infoU32
  have hn := h.len.1
  have HN := Lib.hid hn
  have HS := Lib.hid h.low
  clear h hn
  go_enter Try.func18, Try.ntmps18
  go_wp2
  go_loopg [3, 4] n (fun gas v i wr => ∃ (k a L : Nat) (va : Option Addr) (vc : Nat) (es : List (Value × Rc)), k + gas = n ∧ i = .int .i64 (k : Int) ∧ v = .slice va L vc ∧ L ≤ k ∧ Hid (VI ps k a ∧ L = es.length ∧ VOwns w.heap.size wr (.slice va L vc) es ∧ es.map (·.2) = gatherL (ps.take a) ∧ w.grownBy wr none))
  case atStart => exact ⟨0, 0, 0, none, 0, [], by omega, rfl, rfl, Nat.le_refl _, Lib.hid ⟨⟨Nat.le_refl _, Nat.zero_le _, fun h => by omega, fun h => by omega⟩, rfl, VOwns.nil _ _, rfl, grefl _ _⟩⟩
  case round =>
    obtain ⟨k, a, L, va, vc, es, hk, rfl, rfl, hLk, HH⟩ := hrel
    by_cases hlt : k < n
    · have hki : (k : Int) < (n : Int) := by omega
      have hk0 : (0 : Int) ≤ (k : Int) := by omega
      have hkl : k < ps.length := by rw [← HN.out]; exact hlt
      obtain rfl := hao (by omega)
      obtain ⟨p, hp⟩ : ∃ p, ps[k]? = some p := ⟨ps[k], List.getElem?_eq_getElem hkl⟩
      obtain ⟨b', o', hbo, hbl, e0, _⟩ := HS.out.at k p hp
      cases hbo
      have HOK := Lib.hid (HS.out.ok p (List.mem_of_getElem? hp))
      have HPK := Lib.hid (show (ps.getD k (0, 0)).1 = p.1 by simp [List.getD_eq_getElem?_getD, hp])
      obtain ⟨T, hT⟩ : ∃ T, T = p.1 := ⟨_, rfl⟩
      rw [← hT] at e0 HPK
      have HT64 := Lib.hid (show T < 18446744073709551616 by rw [hT]; exact HOK.out.1)
      have c0 := HH.out.2.2.2.2.cell e0 (by simp)
      have E0 := Lib.hid e0
      clear hT hp e0 HOK
      by_cases hka : k < a
      · -- in the midst of a run
        have hk1 : (0 : Int) < (k : Int) := by have := (HH.out.1.mid hka).1; omega
        have hk3 : 0 < k := (HH.out.1.mid hka).1
        obtain ⟨q, hq⟩ : ∃ q, q + 1 = k := ⟨k - 1, by omega⟩
        obtain ⟨p1, hp1⟩ : ∃ p, ps[q]? = some p := ⟨ps[q]'(by omega), List.getElem?_eq_getElem (by omega)⟩
        obtain ⟨b', o', hbo, _, d0, _⟩ := (HS.out.grown HH.out.2.2.2.2).at q p1 hp1
        cases hbo
        have hTq : p1.1 = T := by
          have h := (HH.out.1.mid hka).2 k (Nat.le_refl _) hka
          rw [HPK.out, show k - 1 = q by omega] at h
          rw [h]; simp [List.getD_eq_getElem?_getD, hp1]
        rw [hTq] at d0
        have hqi : (q : Int) < (n : Int) := by omega
        have hq0 : (0 : Int) ≤ (q : Int) := by omega
        have hw1 : IntKind.i64.wrap ((k : Int) - 1) = (q : Int) := by rw [show (k : Int) - 1 = (q : Int) by omega]; exact IntWalk.i64_in _ (by omega)
        have hb : ((T : Int) == (T : Int)) = true := by simp
        clear hp1 hTq hq
        go_wp2_with fail
        go_quiet (fail)
        have HG2 := Lib.hid (gtrans HH.out.2.2.2.2 (gdrewN wr nq))
        have HV2 := Lib.hid (HH.out.2.2.1.grown (gdrewN wr nq))
        generalize wr.drewN nq = W2 at HG2 HV2 ⊢
        go_wp2
        go_roundg (n - (k + 1))
        case rel => exact ⟨k + 1, a, L, va, vc, es, by omega, by simp, rfl, by omega, Lib.hid ⟨HH.out.1.next hka, HH.out.2.1, HV2.out, HH.out.2.2.2.1, HG2.out⟩⟩
        case measure => omega
      · have hka : a = k := by have := HH.out.1.le; omega
        subst hka
        -- a run begins: what the guard says
        have HAH := Lib.hid (show 0 < a → (ps.getD a (0, 0)).1 ≠ (ps.getD (a - 1) (0, 0)).1 from fun h0 => HH.out.1.edge h0 hkl)
        have HALT : (decide ((0 : Int) < (a : Int)) = false ∧ decide (0 < a) = false ∧ ¬ 0 < a) ∨ ∃ q Tq : Nat, (0 : Int) < (a : Int) ∧ 0 < a ∧ wr.cell? ⟨b, o + q * 2, none⟩ = some (.int .u64 (Tq : Int)) ∧ (q : Int) < (n : Int) ∧ (0 : Int) ≤ (q : Int) ∧ IntKind.i64.wrap ((a : Int) - 1) = (q : Int) ∧ ((T : Int) == (Tq : Int)) = false := by
          rcases Nat.eq_zero_or_pos a with h0 | h0
          · left; subst h0; simp
          · right
            obtain ⟨q, hq⟩ : ∃ q, q + 1 = a := ⟨a - 1, by omega⟩
            obtain ⟨p1, hp1⟩ : ∃ p, ps[q]? = some p := ⟨ps[q]'(by omega), List.getElem?_eq_getElem (by omega)⟩
            obtain ⟨b', o', hbo, _, d0, _⟩ := (HS.out.grown HH.out.2.2.2.2).at q p1 hp1
            cases hbo
            have hne := HAH.out h0
            rw [HPK.out, show a - 1 = q by omega, show (ps.getD q (0, 0)).1 = p1.1 by simp [List.getD_eq_getElem?_getD, hp1]] at hne
            exact ⟨q, p1.1, by omega, h0, d0, by omega, by omega, by rw [show (a : Int) - 1 = (q : Int) by omega]; exact IntWalk.i64_in _ (by omega), by simp; omega⟩
        obtain ⟨hd, hdn, hdm⟩ | ⟨q, Tq, hk1, hk3, d0, hqi, hq0, hw1, hb⟩ := HALT
        · go_wp2_with fail
          go_quiet (fail)
          have HG2 := Lib.hid (gtrans HH.out.2.2.2.2 (gdrewN wr nq))
          have HV2 := Lib.hid (HH.out.2.2.1.grown (gdrewN wr nq))
          have HM2 := Lib.hid (And.intro HH.out.2.1 HH.out.2.2.2.1)
          have HVI := Lib.hid HH.out.1
          clear HH c0
          generalize wr.drewN nq = W2 at HG2 HV2 ⊢
          have c0 := HG2.out.cell E0.out (by simp)
          have hga := World.grownBy_alloc W2 (.cells #[.int .u64 (T : Int), .slice none 0 0] 73) none
          have HQ := Lib.hid (heap_alloc_new W2 (.cells #[.int .u64 (T : Int), .slice none 0 0] 73))
          have HGA := Lib.hid hga
          have hsz : (W2.alloc (.cells #[.int .u64 (T : Int), .slice none 0 0] 73)).heap.size = W2.heap.size + 1 := by simp
          have HSZ := Lib.hid hsz
          have hbq : b < W2.heap.size := by have := HG2.out.size; omega
          clear hga hsz
          go_wp2
          generalize W2.alloc (.cells #[.int .u64 (T : Int), .slice none 0 0] 73) = WA at HQ HGA HSZ ⊢
          clear c0
          go_loopg [6] (n - a) (fun gas i w2 => ∃ (k2 d : Nat) (pa : Option Addr) (pc : Nat), k2 + gas = n ∧ i = .int .i64 (k2 : Int) ∧ d ≤ 1000000 ∧ Hid (k2 = a + d ∧ w2.heap[W2.heap.size]? = some (.cells #[.int .u64 (T : Int), .slice pa d pc] 73 (0, 0)) ∧ OwnU (W2.heap.size + 1) w2 (.slice pa d pc) (((ps.drop a).take d).map (·.2)) ∧ (∀ j, a ≤ j → j < a + d → (ps.getD j (0, 0)).1 = T) ∧ W2.grownBy w2 none ∧ W2.heap.size + 1 ≤ w2.heap.size))
          case atStart => exact ⟨a, 0, none, 0, by omega, rfl, by omega, Lib.hid ⟨rfl, HQ.out, ⟨World.ownsRow_nil _ _ _ _, by simp⟩, fun j h1 h2 => by omega, HGA.out, by rw [HSZ.out]; exact Nat.le_refl _⟩⟩
          case round =>
            obtain ⟨k2, d, pa, pc, hk2, rfl, hd9, HI⟩ := hrel
            have c0 := (gtrans HG2.out HI.out.2.2.2.2.1).cell E0.out (by simp)
            have hk20 : (0 : Int) ≤ (k2 : Int) := by omega
            by_cases hgo : k2 < n ∧ (ps.getD k2 (0, 0)).1 = T
            · obtain ⟨hlt2, hT2⟩ := hgo
              have hd2 : decide ((k2 : Int) < (n : Int)) = true := by simp; omega
              have hki2 : (k2 : Int) < (n : Int) := by omega
              have hkl2 : k2 < ps.length := by rw [← HN.out]; exact hlt2
              obtain ⟨p, hp⟩ : ∃ p, ps[k2]? = some p := ⟨ps[k2], List.getElem?_eq_getElem hkl2⟩
              obtain ⟨b', o', hbo, _, e0, e1⟩ := HS.out.at k2 p hp
              cases hbo
              have hpT : p.1 = T := by rw [← hT2]; simp [List.getD_eq_getElem?_getD, hp]
              rw [hpT] at e0
              have h32 := (HS.out.ok p (List.mem_of_getElem? hp)).2
              have HTK := Lib.hid (show ((ps.drop a).take (d + 1)).map (·.2) = ((ps.drop a).take d).map (·.2) ++ [p.2] by
                rw [take_snoc (show (ps.drop a)[d]? = some p by rw [List.getElem?_drop, ← HI.out.1]; exact hp)]; simp)
              have HSM := Lib.hid (show ∀ j, a ≤ j → j < a + (d + 1) → (ps.getD j (0, 0)).1 = T from fun j h1 h2 => by
                by_cases e : j = k2
                · rw [e]; exact hT2
                · exact HI.out.2.2.2.1 j h1 (by have := HI.out.1; omega))
              obtain ⟨pg, hpg⟩ : ∃ y, y = p.2 := ⟨_, rfl⟩
              rw [← hpg] at e1 h32 HTK
              have d1 := (gtrans HG2.out HI.out.2.2.2.2.1).cell e0 (by simp)
              have d2 := (gtrans HG2.out HI.out.2.2.2.2.1).cell e1 (by simp)
              have E1 := Lib.hid e1
              have hb2 : ((T : Int) == (T : Int)) = true := by simp
              have HTL := Lib.hid (show (((ps.drop a).take d).map (·.2)).length = d by rw [List.length_map, List.length_take, List.length_drop]; have := HI.out.1; omega)
              generalize ((ps.drop a).take d).map (·.2) = X at HI HTK HTL
              clear hp hpT hpg e0 e1 hT2
              go_wp2_with fail
              go_quiet (fail)
              have HI3 := Lib.hid (And.intro HI.out.1 (And.intro (show (wr.drewN nq).heap[W2.heap.size]? = _ from HI.out.2.1) (And.intro (HI.out.2.2.1.grown (gdrewN wr nq)) (gtrans HI.out.2.2.2.2.1 (gdrewN wr nq)))))
              have hs3 : W2.heap.size + 1 ≤ (wr.drewN nq).heap.size := HI.out.2.2.2.2.2
              clear c0 d1 d2 HI
              generalize wr.drewN nq = W3 at HI3 hs3 ⊢
              go_wp2
              have c1 := (cells2 HI3.out.2.1).2.1
              have d2 := (gtrans HG2.out HI3.out.2.2.2).cell E1.out (by simp)
              have hgd := gtrans (World.grownBy_alloc W3 (.cells #[encP pg] 40) none) (gdrew _)
              have HA := Lib.hid (HI3.out.2.2.1.grown hgd)
              have HGD := Lib.hid (gtrans HI3.out.2.2.2 hgd)
              have HQD := Lib.hid ((hgd.block _ (lt_of_block HI3.out.2.1) (by simp)).trans HI3.out.2.1)
              have hsz3 : W2.heap.size + 1 ≤ (W3.alloc (.cells #[encP pg] 40)).drew.heap.size := Nat.le_trans hs3 hgd.size
              clear hgd
              have c1a : (W3.alloc (.cells #[.int .u32 (pg : Int)] 40)).cell? ⟨W2.heap.size, 1, none⟩ = some (.slice pa d pc) := cell_alloc c1
              have hne1 : ¬ b = W2.heap.size := by omega
              have hne2 : ¬ W2.heap.size = b := by omega
              refine wp_region_noPanic ?_
              refine wp_region_held_drew (S := (fun W => W.cell? ⟨b, o + k2 * 2 + 1, none⟩ = some (.int .u32 (pg : Int)))) (by kernel_rfl) ?_ (fun hHeld => ?_)
              · go_keep
              refine wpAnyH_take (i := 0) (v := ?_) rfl (by kernel_rfl) (by kernel_rfl) (by kernel_rfl) (fun _ _ _ h => h) (Or.inl ⟨by rfl, ?hya0⟩) (by assumption) ?_
              case hya0 => (intro w hSw; (try dsimp only at hSw); (go_simp <;> with_reducible rfl))
              try simp only [Act.put, List.setIfInBounds_toArray, List.set_cons_zero, List.set_cons_succ]
              refine wpAnyH_take (i := 2) (v := ?_) rfl (by kernel_rfl) (by kernel_rfl) (by kernel_rfl) (fun _ _ _ h => h) (Or.inl ⟨by rfl, ?hya1⟩) (by assumption) ?_
              case hya1 => (intro w hSw; (try dsimp only at hSw); (go_simp <;> with_reducible rfl))
              try simp only [Act.put, List.setIfInBounds_toArray, List.set_cons_zero, List.set_cons_succ]
              refine wpAnyH_take (i := 3) (v := ?_) rfl (by kernel_rfl) (by kernel_rfl) (by kernel_rfl) (fun _ _ _ h => h) (Or.inl ⟨by rfl, ?hya2⟩) (by assumption) ?_
              case hya2 => (intro w hSw; (try dsimp only at hSw); (go_simp <;> with_reducible rfl))
              try simp only [Act.put, List.setIfInBounds_toArray, List.set_cons_zero, List.set_cons_succ]
              refine wpAnyH_take (i := 4) (v := ?_) rfl (by kernel_rfl) (by kernel_rfl) (by kernel_rfl) (fun _ _ _ h => h) (Or.inl ⟨by rfl, ?hya3⟩) (by assumption) ?_
              case hya3 => (intro w hSw; (try dsimp only at hSw); (go_simp <;> with_reducible rfl))
              try simp only [Act.put, List.setIfInBounds_toArray, List.set_cons_zero, List.set_cons_succ]
              refine wpAnyH_take (i := 5) (v := ?_) rfl (by kernel_rfl) (by kernel_rfl) (by kernel_rfl) (fun _ _ _ h => h) (Or.inl ⟨by rfl, ?hya4⟩) (by assumption) ?_
              case hya4 => (intro w hSw; (try dsimp only at hSw); (go_simp <;> with_reducible rfl))
              try simp only [Act.put, List.setIfInBounds_toArray, List.set_cons_zero, List.set_cons_succ]
              refine wpAnyH_take (i := 6) (v := ?_) rfl (by kernel_rfl) (by kernel_rfl) (by kernel_rfl) (fun _ _ _ h => h) (Or.inl ⟨by rfl, ?hya5⟩) (by assumption) ?_
              case hya5 => (intro w hSw; (try dsimp only at hSw); (go_simp <;> with_reducible rfl))
              try simp only [Act.put, List.setIfInBounds_toArray, List.set_cons_zero, List.set_cons_succ]
              refine wpAnyH_ready (rs := [1, 7]) (by kernel_rfl) (by simp) ?_
              refine AllReadyH.cons rfl (fun K hK => ?_) (AllReadyH.cons rfl (fun K hK => ?_) (AllReadyH.nil))
              · go_simp
                refine hK.out _ _ ?_ (fun hHeld => ?_)
                · go_keep
                clear hK K
                try simp only [Act.put, List.setIfInBounds_toArray, List.set_cons_zero, List.set_cons_succ]
                refine wpAnyH_ready (rs := [7]) (by kernel_rfl) (by simp) ?_
                refine AllReadyH.cons rfl (fun K hK => ?_) (AllReadyH.nil)
                go_simp
                refine hK.out _ _ ?_ (fun hHeld => ?_)
                · go_keep
                clear hK K
                try simp only [Act.put, List.setIfInBounds_toArray, List.set_cons_zero, List.set_cons_succ]
                refine wpAnyH_ready (rs := [8]) (by kernel_rfl) (by simp) ?_
                refine AllReadyH.cons rfl (fun K hK => ?_) (AllReadyH.nil)
                (refine step_append_own2 rfl (.tmp 56) (.tmp 62) 70 rfl (W2.heap.size + 1) 40 j0 (.int .u32 0) 1 4 Try.underlying70 hj hy0 hy1 hy2 rfl (by decide) (.slice pa d pc) d (X.map encP) rfl (by have h := HA.out.1; rw [HTL.out] at h; exact h) ⟨W3.heap.size, 0, none⟩ 1 1 [encP pg] rfl rfl (one_u32_drew W3 pg) (by simp [Value.oneCell', encP]) (by unfold maxLen; omega) (by omega) hsz3 ?_; intro v' w4 hown hgrow hfr; obtain ⟨g', cap', rfl⟩ := ownsRow_succ hown; have HW4 := Lib.hid hown; have HG4 := Lib.hid hgrow; have g5 := grow_own HGD.out (by have h := HA.out.1; rw [HTL.out] at h; exact h) hgrow (by omega); have HG5 := Lib.hid g5; have m0 := (gtrans HG2.out g5).cell E1.out (by simp); have hq4 := (hgrow.block W2.heap.size (Nat.lt_of_lt_of_le (Nat.lt_succ_self _) hsz3) (fun e => by have := (HA.out.1.lt _ e.symm).1; omega)).trans HQD.out; have m1 := (cells2 hq4).2.1; have m2 := (cells2 hq4).2.2.2; have HQ4 := Lib.hid hq4; clear g5 hq4 hown hgrow hfr)
                refine hK.out _ _ ?_ (fun hHeld => ?_)
                · go_keep
                clear hK K
                try simp only [Act.put, List.setIfInBounds_toArray, List.set_cons_zero, List.set_cons_succ]
                refine wpAnyH_take (i := 9) (v := ?_) rfl (by kernel_rfl) (by kernel_rfl) (by kernel_rfl) (fun _ _ _ h => h) (Or.inl ⟨by rfl, ?hya6⟩) (by assumption) ?_
                case hya6 => (intro w hSw; (try dsimp only at hSw); (go_simp <;> with_reducible rfl))
                try simp only [Act.put, List.setIfInBounds_toArray, List.set_cons_zero, List.set_cons_succ]
                refine wpAnyH_ready (rs := [10]) (by kernel_rfl) (by simp) ?_
                refine AllReadyH.cons rfl (fun K hK => ?_) (AllReadyH.nil)
                go_simp
                refine hK.out _ _ ?_ (fun hHeld => ?_)
                · go_keep
                clear hK K
                try simp only [Act.put, List.setIfInBounds_toArray, List.set_cons_zero, List.set_cons_succ]
                refine wpAnyH_done (by kernel_rfl) ?_ _
                refine NoPanic.normal ?_
                have HB5 := Lib.hid (two_set1 (x := .slice (some ⟨g', 0, none⟩) (d + 1) cap') HQ4.out)
                have HO5 := Lib.hid (show OwnU (W2.heap.size + 1) (w4.setCell ⟨W2.heap.size, 1, none⟩ (.slice (some ⟨g', 0, none⟩) (d + 1) cap')).drew (.slice (some ⟨g', 0, none⟩) (d + 1) cap') (X ++ [pg]) from
                  ⟨by
                    have h := ownsRow_setCell_below HW4.out (a := ⟨W2.heap.size, 1, none⟩) (by simp) (.slice (some ⟨g', 0, none⟩) (d + 1) cap')
                    rw [List.map_append, show (X ++ [pg]).length = d + 1 by rw [List.length_append, HTL.out]; rfl]
                    exact h, fun q hq => by
                    rcases List.mem_append.1 hq with hq | hq
                    · exact HA.out.2 q hq
                    · have : q = pg := by simpa using hq
                      rw [this]; exact h32⟩)
                have HG6b := Lib.hid (gnew HG5.out (gset w4 ⟨W2.heap.size, 1, none⟩ (.slice (some ⟨g', 0, none⟩) (d + 1) cap')) (Nat.le_refl _))
                have HG6 := Lib.hid (gtrans (gnew HG5.out (gset w4 ⟨W2.heap.size, 1, none⟩ (.slice (some ⟨g', 0, none⟩) (d + 1) cap')) (Nat.le_refl _)) (gdrew _))
                have hs6 : W2.heap.size + 1 ≤ (w4.setCell ⟨W2.heap.size, 1, none⟩ (.slice (some ⟨g', 0, none⟩) (d + 1) cap')).drew.heap.size := by
                  have h1 := lt_of_block HB5.out
                  exact h1
                go_wp2
                go_roundg (n - (k2 + 1))
                case rel => exact ⟨k2 + 1, d + 1, _, _, by omega, by simp, by have := HI3.out.1; omega, Lib.hid ⟨by have := HI3.out.1; omega, HB5.out, by rw [HTK.out]; exact HO5.out, HSM.out, (by first | exact HG6.out | exact HG6b.out), hs6⟩⟩
                case measure => omega
              · go_simp
                refine hK.out _ _ ?_ (fun hHeld => ?_)
                · go_keep
                clear hK K
                try simp only [Act.put, List.setIfInBounds_toArray, List.set_cons_zero, List.set_cons_succ]
                refine wpAnyH_ready (rs := [1]) (by kernel_rfl) (by simp) ?_
                refine AllReadyH.cons rfl (fun K hK => ?_) (AllReadyH.nil)
                go_simp
                refine hK.out _ _ ?_ (fun hHeld => ?_)
                · go_keep
                clear hK K
                try simp only [Act.put, List.setIfInBounds_toArray, List.set_cons_zero, List.set_cons_succ]
                refine wpAnyH_ready (rs := [8]) (by kernel_rfl) (by simp) ?_
                refine AllReadyH.cons rfl (fun K hK => ?_) (AllReadyH.nil)
                (refine step_append_own2 rfl (.tmp 56) (.tmp 62) 70 rfl (W2.heap.size + 1) 40 j0 (.int .u32 0) 1 4 Try.underlying70 hj hy0 hy1 hy2 rfl (by decide) (.slice pa d pc) d (X.map encP) rfl (by have h := HA.out.1; rw [HTL.out] at h; exact h) ⟨W3.heap.size, 0, none⟩ 1 1 [encP pg] rfl rfl (one_u32_drew W3 pg) (by simp [Value.oneCell', encP]) (by unfold maxLen; omega) (by omega) hsz3 ?_; intro v' w4 hown hgrow hfr; obtain ⟨g', cap', rfl⟩ := ownsRow_succ hown; have HW4 := Lib.hid hown; have HG4 := Lib.hid hgrow; have g5 := grow_own HGD.out (by have h := HA.out.1; rw [HTL.out] at h; exact h) hgrow (by omega); have HG5 := Lib.hid g5; have m0 := (gtrans HG2.out g5).cell E1.out (by simp); have hq4 := (hgrow.block W2.heap.size (Nat.lt_of_lt_of_le (Nat.lt_succ_self _) hsz3) (fun e => by have := (HA.out.1.lt _ e.symm).1; omega)).trans HQD.out; have m1 := (cells2 hq4).2.1; have m2 := (cells2 hq4).2.2.2; have HQ4 := Lib.hid hq4; clear g5 hq4 hown hgrow hfr)
                refine hK.out _ _ ?_ (fun hHeld => ?_)
                · go_keep
                clear hK K
                try simp only [Act.put, List.setIfInBounds_toArray, List.set_cons_zero, List.set_cons_succ]
                refine wpAnyH_take (i := 9) (v := ?_) rfl (by kernel_rfl) (by kernel_rfl) (by kernel_rfl) (fun _ _ _ h => h) (Or.inl ⟨by rfl, ?hya7⟩) (by assumption) ?_
                case hya7 => (intro w hSw; (try dsimp only at hSw); (go_simp <;> with_reducible rfl))
                try simp only [Act.put, List.setIfInBounds_toArray, List.set_cons_zero, List.set_cons_succ]
                refine wpAnyH_ready (rs := [10]) (by kernel_rfl) (by simp) ?_
                refine AllReadyH.cons rfl (fun K hK => ?_) (AllReadyH.nil)
                go_simp
                refine hK.out _ _ ?_ (fun hHeld => ?_)
                · go_keep
                clear hK K
                try simp only [Act.put, List.setIfInBounds_toArray, List.set_cons_zero, List.set_cons_succ]
                refine wpAnyH_done (by kernel_rfl) ?_ _
                refine NoPanic.normal ?_
                have HB5 := Lib.hid (two_set1 (x := .slice (some ⟨g', 0, none⟩) (d + 1) cap') HQ4.out)
                have HO5 := Lib.hid (show OwnU (W2.heap.size + 1) (w4.setCell ⟨W2.heap.size, 1, none⟩ (.slice (some ⟨g', 0, none⟩) (d + 1) cap')).drew (.slice (some ⟨g', 0, none⟩) (d + 1) cap') (X ++ [pg]) from
                  ⟨by
                    have h := ownsRow_setCell_below HW4.out (a := ⟨W2.heap.size, 1, none⟩) (by simp) (.slice (some ⟨g', 0, none⟩) (d + 1) cap')
                    rw [List.map_append, show (X ++ [pg]).length = d + 1 by rw [List.length_append, HTL.out]; rfl]
                    exact h, fun q hq => by
                    rcases List.mem_append.1 hq with hq | hq
                    · exact HA.out.2 q hq
                    · have : q = pg := by simpa using hq
                      rw [this]; exact h32⟩)
                have HG6b := Lib.hid (gnew HG5.out (gset w4 ⟨W2.heap.size, 1, none⟩ (.slice (some ⟨g', 0, none⟩) (d + 1) cap')) (Nat.le_refl _))
                have HG6 := Lib.hid (gtrans (gnew HG5.out (gset w4 ⟨W2.heap.size, 1, none⟩ (.slice (some ⟨g', 0, none⟩) (d + 1) cap')) (Nat.le_refl _)) (gdrew _))
                have hs6 : W2.heap.size + 1 ≤ (w4.setCell ⟨W2.heap.size, 1, none⟩ (.slice (some ⟨g', 0, none⟩) (d + 1) cap')).drew.heap.size := by
                  have h1 := lt_of_block HB5.out
                  exact h1
                go_wp2
                go_roundg (n - (k2 + 1))
                case rel => exact ⟨k2 + 1, d + 1, _, _, by omega, by simp, by have := HI3.out.1; omega, Lib.hid ⟨by have := HI3.out.1; omega, HB5.out, by rw [HTK.out]; exact HO5.out, HSM.out, (by first | exact HG6.out | exact HG6b.out), hs6⟩⟩
                case measure => omega
            · have hak : a ≤ k2 := by have := HI.out.1; omega
              have hne : k2 ≠ a := fun e => hgo ⟨by omega, by rw [e]; exact HPK.out⟩
              have hkn : k2 ≤ n := by omega
              have HRUN := Lib.hid (show RunAt ps a k2 from ⟨by omega, by rw [← HN.out]; exact hkn, fun j h1 h2 => by rw [HPK.out]; exact HI.out.2.2.2.1 j h1 (by have := HI.out.1; omega), HAH.out⟩)
              have HVN := Lib.hid (VI.run HRUN.out (fun hl => by rw [HPK.out]; exact fun e => hgo ⟨by rw [HN.out]; exact hl, e⟩))
              have HRO := Lib.hid (show recOf ps a k2 = (T, ((ps.drop a).take d).map (·.2)) by unfold recOf; rw [HPK.out, show k2 - a = d by have := HI.out.1; omega])
              have HALT : (decide ((k2 : Int) < (n : Int)) = false ∧ decide (k2 < n) = false ∧ ¬ (k2 : Int) < (n : Int) ∧ ¬ k2 < n) ∨ ∃ T' : Nat, decide ((k2 : Int) < (n : Int)) = true ∧ (k2 : Int) < (n : Int) ∧ k2 < n ∧ wr.cell? ⟨b, o + k2 * 2, none⟩ = some (.int .u64 (T' : Int)) ∧ ((T' : Int) == (T : Int)) = false := by
                by_cases hlt2 : k2 < n
                · right
                  obtain ⟨p, hp⟩ : ∃ p, ps[k2]? = some p := ⟨ps[k2]'(by rw [← HN.out]; exact hlt2), List.getElem?_eq_getElem _⟩
                  obtain ⟨b', o', hbo, _, e0, _⟩ := HS.out.at k2 p hp
                  cases hbo
                  have hpT : p.1 ≠ T := fun e => hgo ⟨hlt2, by simp [List.getD_eq_getElem?_getD, hp, e]⟩
                  exact ⟨p.1, by simp; omega, by omega, hlt2, (gtrans HG2.out HI.out.2.2.2.2.1).cell e0 (by simp), by simp; omega⟩
                · left
                  refine ⟨by simp; omega, by simp; omega, by omega, hlt2⟩
              clear hgo hne
              obtain ⟨hd2, hdn2, hdi2, hdm2⟩ | ⟨T', hd2, hki2, hlt2, d1, hb2⟩ := HALT
              all_goals
                go_wp2_with fail
                go_quiet (fail)
                have HI3 := Lib.hid (And.intro (show (wr.drewN nq).heap[W2.heap.size]? = _ from HI.out.2.1) (And.intro (HI.out.2.2.1.grown (gdrewN wr nq)) (gtrans HI.out.2.2.2.2.1 (gdrewN wr nq))))
                clear c0 HI
                generalize wr.drewN nq = W3 at HI3 ⊢
                obtain ⟨y0, y1, _, _⟩ := cells2 HI3.out.1
                have HV3 := Lib.hid (HV2.out.grown HI3.out.2.2)
                have HG3 := Lib.hid (gtrans HG2.out HI3.out.2.2)
                have HPU := Lib.hid (HI3.out.2.1.mono (show w.heap.size ≤ W2.heap.size + 1 by have := HG2.out.size; omega))
                generalize ((ps.drop a).take d).map (·.2) = X at HI3 HPU HRO
                go_wp2_with (at_builtin; refine wpList_append_own _ rfl _ _ 27 rfl w.heap.size 73 i0 (.agg #[.int .u64 0, .slice none 0 0]) 2 32 Try.underlying27 hi hz0 hz1 hz2 rfl (by decide) (.slice va L vc) L (es.flatMap rcl) rfl (by have h := HV3.out.row.alloc (.cells #[.int .u64 (T : Int), .slice pa d pc] 73); rw [← HM2.out.1] at h; exact h) ⟨W3.heap.size, 0, none⟩ 1 1 (rcl (.slice pa d pc, (T, []))) rfl rfl (lit2v W3 T (.slice pa d pc)) (one2 pa d pc T) (by unfold maxLen; omega) (by omega) (by have := HG3.out.size; simp; omega) ?_; intro v' W4 hown hgrow _; obtain ⟨g', cap', rfl⟩ := ownsRow_succ hown; have HW4 := Lib.hid hown; have HG4 := Lib.hid hgrow; clear hown hgrow)
                have hga := World.grownBy_alloc W3 (.cells #[.int .u64 (T : Int), .slice pa d pc] 73) none
                have HVP := Lib.hid ((HV3.out.grown hga).push (y := (.slice pa d pc, (T, X))) (HPU.out.grown hga) HT64.out (by rw [← HM2.out.1]; exact HW4.out) HG4.out)
                have HGF := Lib.hid (grow_own (gtrans HG3.out hga) (HV3.out.grown hga).row HG4.out (Nat.le_refl _))
                clear hga
                go_roundg (n - (a + 1))
                case rel => exact ⟨a + 1, k2, L + 1, _, _, _, by omega, by simp, rfl, by omega, Lib.hid ⟨HVN.out, by rw [List.length_append, ← HM2.out.1]; rfl, HVP.out, by rw [List.map_append, HM2.out.2, gather_run HRUN.out, HRO.out]; rfl, HGF.out⟩⟩
                case measure => omega
        · go_wp2_with fail
          go_quiet (fail)
          have HG2 := Lib.hid (gtrans HH.out.2.2.2.2 (gdrewN wr nq))
          have HV2 := Lib.hid (HH.out.2.2.1.grown (gdrewN wr nq))
          have HM2 := Lib.hid (And.intro HH.out.2.1 HH.out.2.2.2.1)
          have HVI := Lib.hid HH.out.1
          clear HH c0
          generalize wr.drewN nq = W2 at HG2 HV2 ⊢
          have c0 := HG2.out.cell E0.out (by simp)
          have hga := World.grownBy_alloc W2 (.cells #[.int .u64 (T : Int), .slice none 0 0] 73) none
          have HQ := Lib.hid (heap_alloc_new W2 (.cells #[.int .u64 (T : Int), .slice none 0 0] 73))
          have HGA := Lib.hid hga
          have hsz : (W2.alloc (.cells #[.int .u64 (T : Int), .slice none 0 0] 73)).heap.size = W2.heap.size + 1 := by simp
          have HSZ := Lib.hid hsz
          have hbq : b < W2.heap.size := by have := HG2.out.size; omega
          clear hga hsz
          go_wp2
          generalize W2.alloc (.cells #[.int .u64 (T : Int), .slice none 0 0] 73) = WA at HQ HGA HSZ ⊢
          clear c0
          go_loopg [6] (n - a) (fun gas i w2 => ∃ (k2 d : Nat) (pa : Option Addr) (pc : Nat), k2 + gas = n ∧ i = .int .i64 (k2 : Int) ∧ d ≤ 1000000 ∧ Hid (k2 = a + d ∧ w2.heap[W2.heap.size]? = some (.cells #[.int .u64 (T : Int), .slice pa d pc] 73 (0, 0)) ∧ OwnU (W2.heap.size + 1) w2 (.slice pa d pc) (((ps.drop a).take d).map (·.2)) ∧ (∀ j, a ≤ j → j < a + d → (ps.getD j (0, 0)).1 = T) ∧ W2.grownBy w2 none ∧ W2.heap.size + 1 ≤ w2.heap.size))
          case atStart => exact ⟨a, 0, none, 0, by omega, rfl, by omega, Lib.hid ⟨rfl, HQ.out, ⟨World.ownsRow_nil _ _ _ _, by simp⟩, fun j h1 h2 => by omega, HGA.out, by rw [HSZ.out]; exact Nat.le_refl _⟩⟩
          case round =>
            obtain ⟨k2, d, pa, pc, hk2, rfl, hd9, HI⟩ := hrel
            have c0 := (gtrans HG2.out HI.out.2.2.2.2.1).cell E0.out (by simp)
            have hk20 : (0 : Int) ≤ (k2 : Int) := by omega
            by_cases hgo : k2 < n ∧ (ps.getD k2 (0, 0)).1 = T
            · obtain ⟨hlt2, hT2⟩ := hgo
              have hd2 : decide ((k2 : Int) < (n : Int)) = true := by simp; omega
              have hki2 : (k2 : Int) < (n : Int) := by omega
              have hkl2 : k2 < ps.length := by rw [← HN.out]; exact hlt2
              obtain ⟨p, hp⟩ : ∃ p, ps[k2]? = some p := ⟨ps[k2], List.getElem?_eq_getElem hkl2⟩
              obtain ⟨b', o', hbo, _, e0, e1⟩ := HS.out.at k2 p hp
              cases hbo
              have hpT : p.1 = T := by rw [← hT2]; simp [List.getD_eq_getElem?_getD, hp]
              rw [hpT] at e0
              have h32 := (HS.out.ok p (List.mem_of_getElem? hp)).2
              have HTK := Lib.hid (show ((ps.drop a).take (d + 1)).map (·.2) = ((ps.drop a).take d).map (·.2) ++ [p.2] by
                rw [take_snoc (show (ps.drop a)[d]? = some p by rw [List.getElem?_drop, ← HI.out.1]; exact hp)]; simp)
              have HSM := Lib.hid (show ∀ j, a ≤ j → j < a + (d + 1) → (ps.getD j (0, 0)).1 = T from fun j h1 h2 => by
                by_cases e : j = k2
                · rw [e]; exact hT2
                · exact HI.out.2.2.2.1 j h1 (by have := HI.out.1; omega))
              obtain ⟨pg, hpg⟩ : ∃ y, y = p.2 := ⟨_, rfl⟩
              rw [← hpg] at e1 h32 HTK
              have d1 := (gtrans HG2.out HI.out.2.2.2.2.1).cell e0 (by simp)
              have d2 := (gtrans HG2.out HI.out.2.2.2.2.1).cell e1 (by simp)
              have E1 := Lib.hid e1
              have hb2 : ((T : Int) == (T : Int)) = true := by simp
              have HTL := Lib.hid (show (((ps.drop a).take d).map (·.2)).length = d by rw [List.length_map, List.length_take, List.length_drop]; have := HI.out.1; omega)
              generalize ((ps.drop a).take d).map (·.2) = X at HI HTK HTL
              clear hp hpT hpg e0 e1 hT2
              go_wp2_with fail
              go_quiet (fail)
              have HI3 := Lib.hid (And.intro HI.out.1 (And.intro (show (wr.drewN nq).heap[W2.heap.size]? = _ from HI.out.2.1) (And.intro (HI.out.2.2.1.grown (gdrewN wr nq)) (gtrans HI.out.2.2.2.2.1 (gdrewN wr nq)))))
              have hs3 : W2.heap.size + 1 ≤ (wr.drewN nq).heap.size := HI.out.2.2.2.2.2
              clear c0 d1 d2 HI
              generalize wr.drewN nq = W3 at HI3 hs3 ⊢
              go_wp2
              have c1 := (cells2 HI3.out.2.1).2.1
              have d2 := (gtrans HG2.out HI3.out.2.2.2).cell E1.out (by simp)
              have hgd := gtrans (World.grownBy_alloc W3 (.cells #[encP pg] 40) none) (gdrew _)
              have HA := Lib.hid (HI3.out.2.2.1.grown hgd)
              have HGD := Lib.hid (gtrans HI3.out.2.2.2 hgd)
              have HQD := Lib.hid ((hgd.block _ (lt_of_block HI3.out.2.1) (by simp)).trans HI3.out.2.1)
              have hsz3 : W2.heap.size + 1 ≤ (W3.alloc (.cells #[encP pg] 40)).drew.heap.size := Nat.le_trans hs3 hgd.size
              clear hgd
              have c1a : (W3.alloc (.cells #[.int .u32 (pg : Int)] 40)).cell? ⟨W2.heap.size, 1, none⟩ = some (.slice pa d pc) := cell_alloc c1
              have hne1 : ¬ b = W2.heap.size := by omega
              have hne2 : ¬ W2.heap.size = b := by omega
              refine wp_region_noPanic ?_
              refine wp_region_held_drew (S := (fun W => W.cell? ⟨b, o + k2 * 2 + 1, none⟩ = some (.int .u32 (pg : Int)))) (by kernel_rfl) ?_ (fun hHeld => ?_)
              · go_keep
              refine wpAnyH_take (i := 0) (v := ?_) rfl (by kernel_rfl) (by kernel_rfl) (by kernel_rfl) (fun _ _ _ h => h) (Or.inl ⟨by rfl, ?hyb0⟩) (by assumption) ?_
              case hyb0 => (intro w hSw; (try dsimp only at hSw); (go_simp <;> with_reducible rfl))
              try simp only [Act.put, List.setIfInBounds_toArray, List.set_cons_zero, List.set_cons_succ]
              refine wpAnyH_take (i := 2) (v := ?_) rfl (by kernel_rfl) (by kernel_rfl) (by kernel_rfl) (fun _ _ _ h => h) (Or.inl ⟨by rfl, ?hyb1⟩) (by assumption) ?_
              case hyb1 => (intro w hSw; (try dsimp only at hSw); (go_simp <;> with_reducible rfl))
              try simp only [Act.put, List.setIfInBounds_toArray, List.set_cons_zero, List.set_cons_succ]
              refine wpAnyH_take (i := 3) (v := ?_) rfl (by kernel_rfl) (by kernel_rfl) (by kernel_rfl) (fun _ _ _ h => h) (Or.inl ⟨by rfl, ?hyb2⟩) (by assumption) ?_
              case hyb2 => (intro w hSw; (try dsimp only at hSw); (go_simp <;> with_reducible rfl))
              try simp only [Act.put, List.setIfInBounds_toArray, List.set_cons_zero, List.set_cons_succ]
              refine wpAnyH_take (i := 4) (v := ?_) rfl (by kernel_rfl) (by kernel_rfl) (by kernel_rfl) (fun _ _ _ h => h) (Or.inl ⟨by rfl, ?hyb3⟩) (by assumption) ?_
              case hyb3 => (intro w hSw; (try dsimp only at hSw); (go_simp <;> with_reducible rfl))
              try simp only [Act.put, List.setIfInBounds_toArray, List.set_cons_zero, List.set_cons_succ]
              refine wpAnyH_take (i := 5) (v := ?_) rfl (by kernel_rfl) (by kernel_rfl) (by kernel_rfl) (fun _ _ _ h => h) (Or.inl ⟨by rfl, ?hyb4⟩) (by assumption) ?_
              case hyb4 => (intro w hSw; (try dsimp only at hSw); (go_simp <;> with_reducible rfl))
              try simp only [Act.put, List.setIfInBounds_toArray, List.set_cons_zero, List.set_cons_succ]
              refine wpAnyH_take (i := 6) (v := ?_) rfl (by kernel_rfl) (by kernel_rfl) (by kernel_rfl) (fun _ _ _ h => h) (Or.inl ⟨by rfl, ?hyb5⟩) (by assumption) ?_
              case hyb5 => (intro w hSw; (try dsimp only at hSw); (go_simp <;> with_reducible rfl))
              try simp only [Act.put, List.setIfInBounds_toArray, List.set_cons_zero, List.set_cons_succ]
              refine wpAnyH_ready (rs := [1, 7]) (by kernel_rfl) (by simp) ?_
              refine AllReadyH.cons rfl (fun K hK => ?_) (AllReadyH.cons rfl (fun K hK => ?_) (AllReadyH.nil))
              · go_simp
                refine hK.out _ _ ?_ (fun hHeld => ?_)
                · go_keep
                clear hK K
                try simp only [Act.put, List.setIfInBounds_toArray, List.set_cons_zero, List.set_cons_succ]
                refine wpAnyH_ready (rs := [7]) (by kernel_rfl) (by simp) ?_
                refine AllReadyH.cons rfl (fun K hK => ?_) (AllReadyH.nil)
                go_simp
                refine hK.out _ _ ?_ (fun hHeld => ?_)
                · go_keep
                clear hK K
                try simp only [Act.put, List.setIfInBounds_toArray, List.set_cons_zero, List.set_cons_succ]
                refine wpAnyH_ready (rs := [8]) (by kernel_rfl) (by simp) ?_
                refine AllReadyH.cons rfl (fun K hK => ?_) (AllReadyH.nil)
                (refine step_append_own2 rfl (.tmp 56) (.tmp 62) 70 rfl (W2.heap.size + 1) 40 j0 (.int .u32 0) 1 4 Try.underlying70 hj hy0 hy1 hy2 rfl (by decide) (.slice pa d pc) d (X.map encP) rfl (by have h := HA.out.1; rw [HTL.out] at h; exact h) ⟨W3.heap.size, 0, none⟩ 1 1 [encP pg] rfl rfl (one_u32_drew W3 pg) (by simp [Value.oneCell', encP]) (by unfold maxLen; omega) (by omega) hsz3 ?_; intro v' w4 hown hgrow hfr; obtain ⟨g', cap', rfl⟩ := ownsRow_succ hown; have HW4 := Lib.hid hown; have HG4 := Lib.hid hgrow; have g5 := grow_own HGD.out (by have h := HA.out.1; rw [HTL.out] at h; exact h) hgrow (by omega); have HG5 := Lib.hid g5; have m0 := (gtrans HG2.out g5).cell E1.out (by simp); have hq4 := (hgrow.block W2.heap.size (Nat.lt_of_lt_of_le (Nat.lt_succ_self _) hsz3) (fun e => by have := (HA.out.1.lt _ e.symm).1; omega)).trans HQD.out; have m1 := (cells2 hq4).2.1; have m2 := (cells2 hq4).2.2.2; have HQ4 := Lib.hid hq4; clear g5 hq4 hown hgrow hfr)
                refine hK.out _ _ ?_ (fun hHeld => ?_)
                · go_keep
                clear hK K
                try simp only [Act.put, List.setIfInBounds_toArray, List.set_cons_zero, List.set_cons_succ]
                refine wpAnyH_take (i := 9) (v := ?_) rfl (by kernel_rfl) (by kernel_rfl) (by kernel_rfl) (fun _ _ _ h => h) (Or.inl ⟨by rfl, ?hyb6⟩) (by assumption) ?_
                case hyb6 => (intro w hSw; (try dsimp only at hSw); (go_simp <;> with_reducible rfl))
                try simp only [Act.put, List.setIfInBounds_toArray, List.set_cons_zero, List.set_cons_succ]
                refine wpAnyH_ready (rs := [10]) (by kernel_rfl) (by simp) ?_
                refine AllReadyH.cons rfl (fun K hK => ?_) (AllReadyH.nil)
                go_simp
                refine hK.out _ _ ?_ (fun hHeld => ?_)
                · go_keep
                clear hK K
                try simp only [Act.put, List.setIfInBounds_toArray, List.set_cons_zero, List.set_cons_succ]
                refine wpAnyH_done (by kernel_rfl) ?_ _
                refine NoPanic.normal ?_
                have HB5 := Lib.hid (two_set1 (x := .slice (some ⟨g', 0, none⟩) (d + 1) cap') HQ4.out)
                have HO5 := Lib.hid (show OwnU (W2.heap.size + 1) (w4.setCell ⟨W2.heap.size, 1, none⟩ (.slice (some ⟨g', 0, none⟩) (d + 1) cap')).drew (.slice (some ⟨g', 0, none⟩) (d + 1) cap') (X ++ [pg]) from
                  ⟨by
                    have h := ownsRow_setCell_below HW4.out (a := ⟨W2.heap.size, 1, none⟩) (by simp) (.slice (some ⟨g', 0, none⟩) (d + 1) cap')
                    rw [List.map_append, show (X ++ [pg]).length = d + 1 by rw [List.length_append, HTL.out]; rfl]
                    exact h, fun q hq => by
                    rcases List.mem_append.1 hq with hq | hq
                    · exact HA.out.2 q hq
                    · have : q = pg := by simpa using hq
                      rw [this]; exact h32⟩)
                have HG6b := Lib.hid (gnew HG5.out (gset w4 ⟨W2.heap.size, 1, none⟩ (.slice (some ⟨g', 0, none⟩) (d + 1) cap')) (Nat.le_refl _))
                have HG6 := Lib.hid (gtrans (gnew HG5.out (gset w4 ⟨W2.heap.size, 1, none⟩ (.slice (some ⟨g', 0, none⟩) (d + 1) cap')) (Nat.le_refl _)) (gdrew _))
                have hs6 : W2.heap.size + 1 ≤ (w4.setCell ⟨W2.heap.size, 1, none⟩ (.slice (some ⟨g', 0, none⟩) (d + 1) cap')).drew.heap.size := by
                  have h1 := lt_of_block HB5.out
                  exact h1
                go_wp2
                go_roundg (n - (k2 + 1))
                case rel => exact ⟨k2 + 1, d + 1, _, _, by omega, by simp, by have := HI3.out.1; omega, Lib.hid ⟨by have := HI3.out.1; omega, HB5.out, by rw [HTK.out]; exact HO5.out, HSM.out, (by first | exact HG6.out | exact HG6b.out), hs6⟩⟩
                case measure => omega
              · go_simp
                refine hK.out _ _ ?_ (fun hHeld => ?_)
                · go_keep
                clear hK K
                try simp only [Act.put, List.setIfInBounds_toArray, List.set_cons_zero, List.set_cons_succ]
                refine wpAnyH_ready (rs := [1]) (by kernel_rfl) (by simp) ?_
                refine AllReadyH.cons rfl (fun K hK => ?_) (AllReadyH.nil)
                go_simp
                refine hK.out _ _ ?_ (fun hHeld => ?_)
                · go_keep
                clear hK K
                try simp only [Act.put, List.setIfInBounds_toArray, List.set_cons_zero, List.set_cons_succ]
                refine wpAnyH_ready (rs := [8]) (by kernel_rfl) (by simp) ?_
                refine AllReadyH.cons rfl (fun K hK => ?_) (AllReadyH.nil)
                (refine step_append_own2 rfl (.tmp 56) (.tmp 62) 70 rfl (W2.heap.size + 1) 40 j0 (.int .u32 0) 1 4 Try.underlying70 hj hy0 hy1 hy2 rfl (by decide) (.slice pa d pc) d (X.map encP) rfl (by have h := HA.out.1; rw [HTL.out] at h; exact h) ⟨W3.heap.size, 0, none⟩ 1 1 [encP pg] rfl rfl (one_u32_drew W3 pg) (by simp [Value.oneCell', encP]) (by unfold maxLen; omega) (by omega) hsz3 ?_; intro v' w4 hown hgrow hfr; obtain ⟨g', cap', rfl⟩ := ownsRow_succ hown; have HW4 := Lib.hid hown; have HG4 := Lib.hid hgrow; have g5 := grow_own HGD.out (by have h := HA.out.1; rw [HTL.out] at h; exact h) hgrow (by omega); have HG5 := Lib.hid g5; have m0 := (gtrans HG2.out g5).cell E1.out (by simp); have hq4 := (hgrow.block W2.heap.size (Nat.lt_of_lt_of_le (Nat.lt_succ_self _) hsz3) (fun e => by have := (HA.out.1.lt _ e.symm).1; omega)).trans HQD.out; have m1 := (cells2 hq4).2.1; have m2 := (cells2 hq4).2.2.2; have HQ4 := Lib.hid hq4; clear g5 hq4 hown hgrow hfr)
                refine hK.out _ _ ?_ (fun hHeld => ?_)
                · go_keep
                clear hK K
                try simp only [Act.put, List.setIfInBounds_toArray, List.set_cons_zero, List.set_cons_succ]
                refine wpAnyH_take (i := 9) (v := ?_) rfl (by kernel_rfl) (by kernel_rfl) (by kernel_rfl) (fun _ _ _ h => h) (Or.inl ⟨by rfl, ?hyb7⟩) (by assumption) ?_
                case hyb7 => (intro w hSw; (try dsimp only at hSw); (go_simp <;> with_reducible rfl))
                try simp only [Act.put, List.setIfInBounds_toArray, List.set_cons_zero, List.set_cons_succ]
                refine wpAnyH_ready (rs := [10]) (by kernel_rfl) (by simp) ?_
                refine AllReadyH.cons rfl (fun K hK => ?_) (AllReadyH.nil)
                go_simp
                refine hK.out _ _ ?_ (fun hHeld => ?_)
                · go_keep
                clear hK K
                try simp only [Act.put, List.setIfInBounds_toArray, List.set_cons_zero, List.set_cons_succ]
                refine wpAnyH_done (by kernel_rfl) ?_ _
                refine NoPanic.normal ?_
                have HB5 := Lib.hid (two_set1 (x := .slice (some ⟨g', 0, none⟩) (d + 1) cap') HQ4.out)
                have HO5 := Lib.hid (show OwnU (W2.heap.size + 1) (w4.setCell ⟨W2.heap.size, 1, none⟩ (.slice (some ⟨g', 0, none⟩) (d + 1) cap')).drew (.slice (some ⟨g', 0, none⟩) (d + 1) cap') (X ++ [pg]) from
                  ⟨by
                    have h := ownsRow_setCell_below HW4.out (a := ⟨W2.heap.size, 1, none⟩) (by simp) (.slice (some ⟨g', 0, none⟩) (d + 1) cap')
                    rw [List.map_append, show (X ++ [pg]).length = d + 1 by rw [List.length_append, HTL.out]; rfl]
                    exact h, fun q hq => by
                    rcases List.mem_append.1 hq with hq | hq
                    · exact HA.out.2 q hq
                    · have : q = pg := by simpa using hq
                      rw [this]; exact h32⟩)
                have HG6b := Lib.hid (gnew HG5.out (gset w4 ⟨W2.heap.size, 1, none⟩ (.slice (some ⟨g', 0, none⟩) (d + 1) cap')) (Nat.le_refl _))
                have HG6 := Lib.hid (gtrans (gnew HG5.out (gset w4 ⟨W2.heap.size, 1, none⟩ (.slice (some ⟨g', 0, none⟩) (d + 1) cap')) (Nat.le_refl _)) (gdrew _))
                have hs6 : W2.heap.size + 1 ≤ (w4.setCell ⟨W2.heap.size, 1, none⟩ (.slice (some ⟨g', 0, none⟩) (d + 1) cap')).drew.heap.size := by
                  have h1 := lt_of_block HB5.out
                  exact h1
                go_wp2
                go_roundg (n - (k2 + 1))
                case rel => exact ⟨k2 + 1, d + 1, _, _, by omega, by simp, by have := HI3.out.1; omega, Lib.hid ⟨by have := HI3.out.1; omega, HB5.out, by rw [HTK.out]; exact HO5.out, HSM.out, (by first | exact HG6.out | exact HG6b.out), hs6⟩⟩
                case measure => omega
            · have hak : a ≤ k2 := by have := HI.out.1; omega
              have hne : k2 ≠ a := fun e => hgo ⟨by omega, by rw [e]; exact HPK.out⟩
              have hkn : k2 ≤ n := by omega
              have HRUN := Lib.hid (show RunAt ps a k2 from ⟨by omega, by rw [← HN.out]; exact hkn, fun j h1 h2 => by rw [HPK.out]; exact HI.out.2.2.2.1 j h1 (by have := HI.out.1; omega), HAH.out⟩)
              have HVN := Lib.hid (VI.run HRUN.out (fun hl => by rw [HPK.out]; exact fun e => hgo ⟨by rw [HN.out]; exact hl, e⟩))
              have HRO := Lib.hid (show recOf ps a k2 = (T, ((ps.drop a).take d).map (·.2)) by unfold recOf; rw [HPK.out, show k2 - a = d by have := HI.out.1; omega])
              have HALT : (decide ((k2 : Int) < (n : Int)) = false ∧ decide (k2 < n) = false ∧ ¬ (k2 : Int) < (n : Int) ∧ ¬ k2 < n) ∨ ∃ T' : Nat, decide ((k2 : Int) < (n : Int)) = true ∧ (k2 : Int) < (n : Int) ∧ k2 < n ∧ wr.cell? ⟨b, o + k2 * 2, none⟩ = some (.int .u64 (T' : Int)) ∧ ((T' : Int) == (T : Int)) = false := by
                by_cases hlt2 : k2 < n
                · right
                  obtain ⟨p, hp⟩ : ∃ p, ps[k2]? = some p := ⟨ps[k2]'(by rw [← HN.out]; exact hlt2), List.getElem?_eq_getElem _⟩
                  obtain ⟨b', o', hbo, _, e0, _⟩ := HS.out.at k2 p hp
                  cases hbo
                  have hpT : p.1 ≠ T := fun e => hgo ⟨hlt2, by simp [List.getD_eq_getElem?_getD, hp, e]⟩
                  exact ⟨p.1, by simp; omega, by omega, hlt2, (gtrans HG2.out HI.out.2.2.2.2.1).cell e0 (by simp), by simp; omega⟩
                · left
                  refine ⟨by simp; omega, by simp; omega, by omega, hlt2⟩
              clear hgo hne
              obtain ⟨hd2, hdn2, hdi2, hdm2⟩ | ⟨T', hd2, hki2, hlt2, d1, hb2⟩ := HALT
              all_goals
                go_wp2_with fail
                go_quiet (fail)
                have HI3 := Lib.hid (And.intro (show (wr.drewN nq).heap[W2.heap.size]? = _ from HI.out.2.1) (And.intro (HI.out.2.2.1.grown (gdrewN wr nq)) (gtrans HI.out.2.2.2.2.1 (gdrewN wr nq))))
                clear c0 HI
                generalize wr.drewN nq = W3 at HI3 ⊢
                obtain ⟨y0, y1, _, _⟩ := cells2 HI3.out.1
                have HV3 := Lib.hid (HV2.out.grown HI3.out.2.2)
                have HG3 := Lib.hid (gtrans HG2.out HI3.out.2.2)
                have HPU := Lib.hid (HI3.out.2.1.mono (show w.heap.size ≤ W2.heap.size + 1 by have := HG2.out.size; omega))
                generalize ((ps.drop a).take d).map (·.2) = X at HI3 HPU HRO
                go_wp2_with (at_builtin; refine wpList_append_own _ rfl _ _ 27 rfl w.heap.size 73 i0 (.agg #[.int .u64 0, .slice none 0 0]) 2 32 Try.underlying27 hi hz0 hz1 hz2 rfl (by decide) (.slice va L vc) L (es.flatMap rcl) rfl (by have h := HV3.out.row.alloc (.cells #[.int .u64 (T : Int), .slice pa d pc] 73); rw [← HM2.out.1] at h; exact h) ⟨W3.heap.size, 0, none⟩ 1 1 (rcl (.slice pa d pc, (T, []))) rfl rfl (lit2v W3 T (.slice pa d pc)) (one2 pa d pc T) (by unfold maxLen; omega) (by omega) (by have := HG3.out.size; simp; omega) ?_; intro v' W4 hown hgrow _; obtain ⟨g', cap', rfl⟩ := ownsRow_succ hown; have HW4 := Lib.hid hown; have HG4 := Lib.hid hgrow; clear hown hgrow)
                have hga := World.grownBy_alloc W3 (.cells #[.int .u64 (T : Int), .slice pa d pc] 73) none
                have HVP := Lib.hid ((HV3.out.grown hga).push (y := (.slice pa d pc, (T, X))) (HPU.out.grown hga) HT64.out (by rw [← HM2.out.1]; exact HW4.out) HG4.out)
                have HGF := Lib.hid (grow_own (gtrans HG3.out hga) (HV3.out.grown hga).row HG4.out (Nat.le_refl _))
                clear hga
                go_roundg (n - (a + 1))
                case rel => exact ⟨a + 1, k2, L + 1, _, _, _, by omega, by simp, rfl, by omega, Lib.hid ⟨HVN.out, by rw [List.length_append, ← HM2.out.1]; rfl, HVP.out, by rw [List.map_append, HM2.out.2, gather_run HRUN.out, HRO.out]; rfl, HGF.out⟩⟩
                case measure => omega
    · have hki : ¬ (k : Int) < (n : Int) := by omega
      have HO := Lib.hid (show VOwns w.heap.size wr (.slice va L vc) es ∧ es.map (·.2) = gatherL ps ∧ w.grownBy wr none by
        have h1 := HH.out.1.le
        have h2 := HH.out.1.top
        have h := HH.out.2.2
        rw [show a = ps.length by have := HN.out; omega, List.take_length] at h
        exact h)
      go_wp2
      go_ret
      exact ⟨_, es, rfl, HO.out.1, HO.out.2.1, HO.out.2.2⟩

end Go.Proofs.Ytpgpilalhbdidaa
