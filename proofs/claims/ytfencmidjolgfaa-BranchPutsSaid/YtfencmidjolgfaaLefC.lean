/-
  Layer 4: the contract of leaf's Right. Own work.
-/
import Derived.Test.YtfencmidjolgfaaLefB
namespace Go.Proofs.Ytfencmidjolgfaa
open Go.RowKit

theorem quiet_now {f : FuncId} {args : Array Value} {w : World} {n : Nat} {v : Value} (h : Calls Try.prog f args (w.drewN n) fun e w' => e = .returned v ∧ w.drewN n = w') :
    Calls Try.prog f args (w.drewN n) fun e w'' => e = .returned v ∧ ∃ m, w'' = w.drewN m := h.mono fun _ _ ⟨he, hm⟩ => ⟨he, n, hm.symm⟩
theorem Seq.drewN {B : Nat} {w : World} {v : Value} {bs : List Int} (h : Seq B w v bs) (n : Nat) : Seq B (w.drewN n) v bs := h.below fun _ _ => rfl

theorem rkey_yes (w : World) (a1 : Option Addr) (n1 c1 : Nat) (h1 : 1 ≤ n1) (h2 : n1 ≤ 96) : Calls Try.prog 47 #[.slice a1 n1 c1] w fun r w' => r = .returned (.bool true) ∧ w = w' :=
  (rkey_any w a1 n1 c1).mono fun r w' h => by simpa [h1, h2] using h
theorem rkey_no (w : World) (a1 : Option Addr) (n1 c1 : Nat) (h : ¬ (1 ≤ n1 ∧ n1 ≤ 96)) : Calls Try.prog 47 #[.slice a1 n1 c1] w fun r w' => r = .returned (.bool false) ∧ w = w' :=
  (rkey_any w a1 n1 c1).mono fun r w' k => by
    have e : (decide (1 ≤ n1) && decide (n1 ≤ 96)) = false := by simp; omega
    rwa [e] at k
/-- What Right tells. -/
def RightR (l : List En) (size : Int) (w w' : World) (r : Ending) : Prop := ∃ b, r = .returned (.bool b) ∧ (b = true ↔ RightP l size) ∧ w.grownBy w' none

theorem g5 (w : World) (o : Obj) : w.grownBy (((((w.alloc o).alloc o).alloc o).alloc o).alloc o) none :=
  gtrans (World.grownBy_alloc _ _ _) (gtrans (World.grownBy_alloc _ _ _) (gtrans (World.grownBy_alloc _ _ _) (gtrans (World.grownBy_alloc _ _ _) (World.grownBy_alloc _ _ _))))
theorem g3 (w : World) (o : Obj) : w.grownBy (((w.alloc o).alloc o).alloc o) none :=
  gtrans (World.grownBy_alloc _ _ _) (gtrans (World.grownBy_alloc _ _ _) (World.grownBy_alloc _ _ _))
theorem new5 (w : World) (o : Obj) : (((((w.alloc o).alloc o).alloc o).alloc o).alloc o).heap[w.heap.size]? = some o := by
  have h := (gtrans (World.grownBy_alloc (w.alloc o) o none) (gtrans (World.grownBy_alloc _ o _) (gtrans (World.grownBy_alloc _ o _) (World.grownBy_alloc _ o _)))).block w.heap.size (by simp) (by simp)
  exact h.trans (heap_alloc_new w o)

set_option maxRecDepth 100000 in
set_option maxHeartbeats 4000000 in
theorem right_any (w : World) (B : Nat) (ao : Option Addr) (n c : Nat) (l : List En) (size : Int) (h : Ents B w (.slice ao n c) l) (hB : B ≤ w.heap.size) :
    Calls Try.prog 19 #[.slice ao n c, .int .i64 size] w fun r w' => RightR l size w w' r := by
  by_cases hs : 512 ≤ size ∧ size ≤ 4096
  · obtain ⟨hs1, hs2⟩ := hs
    have hn : n = l.length := h.len
    have hf := h.few
    have hn1 : n ≤ 100000 := by omega
    have HN := Lib.hid hn
    have H := Lib.hid h
    obtain ⟨m, hm⟩ : ∃ m, m = mostI size := ⟨_, rfl⟩
    have HM := Lib.hid hm
    clear hn hf h hm
    have HR := Lib.hid (show RightTo l m l.length ↔ RightP l size by rw [HM.out]; exact ⟨fun h => ⟨hs1, hs2, h⟩, fun h => h.2.2⟩)
    go_enter Try.func19, Try.ntmps19
    go_wp2_with (first
      | (go_at_call 46; refine (lsize_yes _ _ hs1 hs2).mono ?_; rintro r w1 ⟨rfl, rfl⟩)
      | (go_at_call 29; refine (most_any _ _ (by omega) (by omega)).mono ?_; rintro r w1 ⟨rfl, rfl⟩; rw [← HM.out]))
    go_loopw [15] (fun i wr => ∃ k : Nat, k ≤ n ∧ i = .int .i64 k ∧ RightTo l m k ∧ w.grownBy wr none) (fun i _ => n - (intOf i).toNat)
    case atStart => exact ⟨0, Nat.zero_le _, rfl, RightTo.zero _ _, grefl _ _⟩
    case round =>
      obtain ⟨k, hk, rfl, hr, hg⟩ := hrel
      have HG := Lib.hid hg
      have HRT := Lib.hid hr
      clear hg hr
      by_cases hlt : k < n
      · obtain ⟨x, hx⟩ : ∃ x, l[k]? = some x := ⟨_, List.getElem?_eq_getElem (by have := HN.out; omega)⟩
        have HE := Lib.hid (H.out.grown HG.out hB)
        obtain ⟨b, o, rfl, hb, a1, c1, a2, c2, h1, h2, h3, q0, q1, q2, q3⟩ := HE.out.at k x hx
        have HX := Lib.hid hx
        have H1 := Lib.hid h1
        have H3 := Lib.hid h3
        have hkl := h3.kl
        have hcl := cl_le h3
        clear h1 h2 h3 hx
        have hno : ¬ OkOne m x → ∀ b : Bool, b = false → (b = true ↔ RightP l size) := by
          rintro h b rfl
          refine ⟨(fun e => by cases e), fun e => absurd (((HR.out.2 e) k x (by have := HN.out; omega) HX.out).1) h⟩
        have HNO := Lib.hid hno
        clear hno
        by_cases hk1 : 1 ≤ x.key.length ∧ x.key.length ≤ 96
        · obtain ⟨hk1, hk2⟩ := hk1
          by_cases hv : rvB x = true
          · have HV := Lib.hid hv
            obtain ⟨z, hz⟩ : ∃ z, z = cl x := ⟨_, rfl⟩
            rw [← hz] at hcl
            have HZ := Lib.hid hz
            clear hv hz
            by_cases hm : m < (z : Int)
            · go_wp2_with (first
                | (go_at_call 47; refine (rkey_yes _ _ _ _ hk1 hk2).mono ?_; rintro r w1 ⟨rfl, rfl⟩)
                | (go_at_call 48; refine (rvalue_any _ a1 a2 c1 c2 x H3.out).mono ?_; rintro r w1 ⟨rfl, rfl⟩; rw [HV.out])
                | (go_at_call 23; refine (cell_any _ a1 a2 c1 c2 x H3.out).mono ?_; rintro r w1 ⟨rfl, rfl⟩; rw [← HZ.out]))
              go_ret
              exact ⟨false, rfl, HNO.out (fun e => by have := e.2.2.2; rw [← HZ.out] at this; omega) _ rfl, gtrans HG.out (g5 _ _)⟩
            · have HO := Lib.hid (show OkOne m x from ⟨hk1, hk2, HV.out, by rw [← HZ.out]; omega⟩)
              by_cases hk0 : k = 0
              · subst hk0
                simp only [Nat.zero_mul, Nat.add_zero] at q0 q1 q2 q3
                go_wp2_with (first
                  | (go_at_call 47; refine (rkey_yes _ _ _ _ hk1 hk2).mono ?_; rintro r w1 ⟨rfl, rfl⟩)
                  | (go_at_call 48; refine (rvalue_any _ a1 a2 c1 c2 x H3.out).mono ?_; rintro r w1 ⟨rfl, rfl⟩; rw [HV.out])
                  | (go_at_call 23; refine (cell_any _ a1 a2 c1 c2 x H3.out).mono ?_; rintro r w1 ⟨rfl, rfl⟩; rw [← HZ.out]))
                go_quiet (fail)
                go_wp2
                go_roundw
                case rel => exact ⟨1, by omega, by go_num, HRT.out.snoc HX.out HO.out (fun i y hi => by omega), gtrans HG.out (gtrans (g5 _ _) ⟨rfl, rfl, rfl, Nat.le_refl _, fun _ _ _ => rfl⟩)⟩
                case measure => simp [intOf]; omega
              · obtain ⟨y, hy⟩ : ∃ y, l[k - 1]? = some y := ⟨_, List.getElem?_eq_getElem (by have := HN.out; omega)⟩
                obtain ⟨b', o', hbo, _, a3, c3, a4, c4, k1, k2, k3, p0, _⟩ := HE.out.at (k - 1) y hy
                cases hbo
                have HY := Lib.hid hy
                have K1 := Lib.hid k1
                have hbw := HG.out.size
                have hpos : (0 : Int) < (k : Int) := by omega
                have hdp : decide ((0 : Int) < (k : Int)) = true := by simpa using hpos
                have hdn : decide (0 < k) = true := by simp; omega
                have P0 := Lib.hid p0
                clear hy k1 k2 k3 p0 hk0
                go_wp2_with (first
                  | (go_at_call 47; refine (rkey_yes _ _ _ _ hk1 hk2).mono ?_; rintro r w1 ⟨rfl, rfl⟩)
                  | (go_at_call 48; refine (rvalue_any _ a1 a2 c1 c2 x H3.out).mono ?_; rintro r w1 ⟨rfl, rfl⟩; rw [HV.out])
                  | (go_at_call 23; refine (cell_any _ a1 a2 c1 c2 x H3.out).mono ?_; rintro r w1 ⟨rfl, rfl⟩; rw [← HZ.out]))
                have hgz := g5 wr (.cells (ecs (.slice a1 x.key.length c1) (.slice a2 x.val.length c2) x.long x.first) 43)
                have hnz := new5 wr (.cells (ecs (.slice a1 x.key.length c1) (.slice a2 x.val.length c2) x.long x.first) 43)
                generalize (((((wr.alloc (.cells (ecs (.slice a1 x.key.length c1) (.slice a2 x.val.length c2) x.long x.first) 43)).alloc (.cells (ecs (.slice a1 x.key.length c1) (.slice a2 x.val.length c2) x.long x.first) 43)).alloc (.cells (ecs (.slice a1 x.key.length c1) (.slice a2 x.val.length c2) x.long x.first) 43)).alloc (.cells (ecs (.slice a1 x.key.length c1) (.slice a2 x.val.length c2) x.long x.first) 43)).alloc (.cells (ecs (.slice a1 x.key.length c1) (.slice a2 x.val.length c2) x.long x.first) 43)) = wz at *
                have HGZ := Lib.hid hgz
                have hkz : ∀ i, i < B → wz.heap[i]? = wr.heap[i]? := fun i hi => hgz.block i (by omega) (by simp)
                have S1 := Lib.hid (H1.out.below hkz)
                have S2 := Lib.hid (K1.out.below hkz)
                have z0 : wz.cell? ⟨wr.heap.size, 0, none⟩ = some (.slice a1 x.key.length c1) := by simp [World.cell?, hnz]
                have z1 : wz.cell? ⟨b, o + (k - 1) * 4, none⟩ = some (.slice a3 y.key.length c3) := (World.cell?_of_block (w := wr) (hkz b hb)).trans P0.out
                have i1 : (0 : Int) ≤ (k : Int) - 1 := by omega
                have i2 : (k : Int) - 1 < (n : Int) := by omega
                have i3 : ((k : Int) - 1).toNat = k - 1 := by omega
                have i4 : IntKind.i64.wrap ((k : Int) - 1) = (k : Int) - 1 := IntWalk.i64_in _ (by omega)
                clear hgz hnz hkz q0 q1 q2 q3
                by_cases hc : cmpL y.key x.key < 0
                · have hcb : decide (0 ≤ cmpL y.key x.key) = false := by simpa using hc
                  have HC := Lib.hid hc
                  clear hc
                  go_quiet ((go_at_call 49; exact quiet_now (compare_any _ _ _ a3 a1 _ _ _ _ y.key x.key (S2.out.drewN _) (S1.out.drewN _))))
                  go_wp2
                  go_roundw
                  case rel => exact ⟨k + 1, by omega, by go_num, HRT.out.snoc HX.out HO.out (fun i y' hi hy' => by
                    obtain rfl : i = k - 1 := by omega
                    rw [HY.out] at hy'; cases hy'; exact HC.out), gtrans HG.out (gtrans HGZ.out ⟨rfl, rfl, rfl, Nat.le_refl _, fun _ _ _ => rfl⟩)⟩
                  case measure => simp [intOf]; omega
                · have hcb : decide (0 ≤ cmpL y.key x.key) = true := by simpa using hc
                  have HC := Lib.hid hc
                  clear hc
                  go_quiet ((go_at_call 49; exact quiet_now (compare_any _ _ _ a3 a1 _ _ _ _ y.key x.key (S2.out.drewN _) (S1.out.drewN _))))
                  go_wp2
                  go_ret
                  exact ⟨false, rfl, ⟨(fun e => by cases e), fun e => absurd (((HR.out.2 e) k x (by have := HN.out; omega) HX.out).2 (k - 1) y (by omega) HY.out) (Int.not_lt.2 HC.out)⟩, gtrans HG.out (gtrans HGZ.out ⟨rfl, rfl, rfl, Nat.le_refl _, fun _ _ _ => rfl⟩)⟩
          · have hv : rvB x = false := by simpa using hv
            have HV := Lib.hid hv
            clear hv
            go_wp2_with (first
              | (go_at_call 47; refine (rkey_yes _ _ _ _ hk1 hk2).mono ?_; rintro r w1 ⟨rfl, rfl⟩)
              | (go_at_call 48; refine (rvalue_any _ a1 a2 c1 c2 x H3.out).mono ?_; rintro r w1 ⟨rfl, rfl⟩; rw [HV.out]))
            go_ret
            exact ⟨false, rfl, HNO.out (fun e => by have := e.2.2.1; rw [HV.out] at this; cases this) _ rfl, gtrans HG.out (g3 _ _)⟩
        · have HK1 := Lib.hid hk1
          clear hk1
          go_wp2_with (first
            | (go_at_call 47; refine (rkey_no _ _ _ _ HK1.out).mono ?_; rintro r w1 ⟨rfl, rfl⟩))
          go_ret
          exact ⟨false, rfl, HNO.out (fun e => HK1.out ⟨e.1, e.2.1⟩) _ rfl, gtrans HG.out (World.grownBy_alloc _ _ _)⟩
      · obtain rfl : k = n := by omega
        have HF := Lib.hid (show RightP l size from HR.out.1 (by rw [← HN.out]; exact HRT.out))
        go_wp2
        go_ret
        exact ⟨true, rfl, ⟨fun _ => HF.out, fun _ => rfl⟩, HG.out⟩
  · have HS := Lib.hid hs
    clear hs h
    go_enter Try.func19, Try.ntmps19
    go_wp2_with (go_at_call 46; refine (lsize_no _ _ HS.out).mono ?_; rintro r w1 ⟨rfl, rfl⟩)
    go_ret
    exact ⟨false, rfl, ⟨(fun e => by cases e), fun e => absurd ⟨e.1, e.2.1⟩ HS.out⟩, grefl _ _⟩

end Go.Proofs.Ytfencmidjolgfaa
