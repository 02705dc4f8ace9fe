/-
  Layer 10: the document's example is what it says. Own work.
-/
import Derived.Test.YtpgpilalhbdidaaFrE
import Derived.Test.YtpgpilalhbdidaaFrF
import Derived.Test.YtpgpilalhbdidaaFrI
namespace Go.Proofs.Ytpgpilalhbdidaa
open Go.RowKit

abbrev exR : List Rc := [(3, [5, 9]), (4, [2])]
abbrev exP : List Pr := [(3, 5), (3, 9), (4, 2)]
theorem exP_flat : flatR exR = exP := rfl
theorem exP_gather : gatherL exP = exR := by decide
theorem exP_ok : ∀ p ∈ exP, PrOk p := fun p hp => by
  simp only [exP, List.mem_cons, List.not_mem_nil, or_false] at hp
  rcases hp with rfl | rfl | rfl <;> exact ⟨by decide, by decide⟩
theorem exP_rise : Rise exP := rise_pair (by decide)
theorem exP_right : RightF exP (512 : Int) := ⟨by decide, by decide, by decide, exP_rise⟩
theorem exP_right' : RightF exP ((512 : Nat) : Int) := exP_right

theorem ex_rows10 (w : World) : RSq (fun _ => True) (((w.alloc (.cells #[.int .u32 5, .int .u32 9] 41)).alloc (.cells #[.int .u32 2] 41)).alloc (.cells #[.int .u64 3, .slice (some ⟨w.heap.size, 0, none⟩) 2 2, .int .u64 4, .slice (some ⟨w.heap.size + 1, 0, none⟩) 1 1] 69))
    (.slice (some ⟨w.heap.size + 1 + 1, 0, none⟩) 2 2) exR := by
  have hn := heap_alloc_new ((w.alloc (.cells #[.int .u32 5, .int .u32 9] 41)).alloc (.cells #[.int .u32 2] 41)) (.cells #[.int .u64 3, .slice (some ⟨w.heap.size, 0, none⟩) 2 2, .int .u64 4, .slice (some ⟨w.heap.size + 1, 0, none⟩) 1 1] 69 (0, 0))
  rw [show ((w.alloc (.cells #[.int .u32 5, .int .u32 9] 41)).alloc (.cells #[.int .u32 2] 41)).heap.size = w.heap.size + 1 + 1 by simp] at hn
  have q0 := two_lit0 w (.cells #[.int .u32 5, .int .u32 9] 41) (.cells #[.int .u32 2] 41)
  have q1 := two_lit1 w (.cells #[.int .u32 5, .int .u32 9] 41) (.cells #[.int .u32 2] 41)
  have q0' := (Below.heap_alloc _ (.cells #[.int .u64 3, .slice (some ⟨w.heap.size, 0, none⟩) 2 2, .int .u64 4, .slice (some ⟨w.heap.size + 1, 0, none⟩) 1 1] 69) _ (lt_of_block q0)).trans q0
  have q1' := (Below.heap_alloc _ (.cells #[.int .u64 3, .slice (some ⟨w.heap.size, 0, none⟩) 2 2, .int .u64 4, .slice (some ⟨w.heap.size + 1, 0, none⟩) 1 1] 69) _ (lt_of_block q1)).trans q1
  have p0 : PSq (fun _ => True) (((w.alloc (.cells #[.int .u32 5, .int .u32 9] 41)).alloc (.cells #[.int .u32 2] 41)).alloc (.cells #[.int .u64 3, .slice (some ⟨w.heap.size, 0, none⟩) 2 2, .int .u64 4, .slice (some ⟨w.heap.size + 1, 0, none⟩) 1 1] 69)) (.slice (some ⟨w.heap.size, 0, none⟩) 2 2) [5, 9] := by
    refine ⟨_, 2, rfl, by decide, by decide, by simp, fun _ => ⟨_, 0, rfl, trivial, fun j hj => ?_⟩⟩
    have hj : j < 2 := hj
    rcases Nat.lt_or_ge j 1 with h | h
    · obtain rfl : j = 0 := by omega
      simp only [World.cell?, q0']; rfl
    · obtain rfl : j = 1 := by omega
      simp only [World.cell?, q0']; rfl
  have p1 : PSq (fun _ => True) (((w.alloc (.cells #[.int .u32 5, .int .u32 9] 41)).alloc (.cells #[.int .u32 2] 41)).alloc (.cells #[.int .u64 3, .slice (some ⟨w.heap.size, 0, none⟩) 2 2, .int .u64 4, .slice (some ⟨w.heap.size + 1, 0, none⟩) 1 1] 69)) (.slice (some ⟨w.heap.size + 1, 0, none⟩) 1 1) [2] := by
    refine ⟨_, 1, rfl, by decide, by decide, by simp, fun _ => ⟨_, 0, rfl, trivial, fun j hj => ?_⟩⟩
    have hj : j < 1 := hj
    obtain rfl : j = 0 := by omega
    simp only [World.cell?, q1']; rfl
  refine ⟨_, 2, rfl, by decide, by decide, fun _ => ⟨_, 0, rfl, trivial, fun j r hr => ?_⟩⟩
  have hj : j < 2 := by have := (List.getElem?_eq_some_iff.1 hr).1; simpa using this
  have cell : ∀ k u, (#[Value.int .u64 3, .slice (some ⟨w.heap.size, 0, none⟩) 2 2, .int .u64 4, .slice (some ⟨w.heap.size + 1, 0, none⟩) 1 1] : Array Value)[k]? = some u → World.cell? _ ⟨w.heap.size + 1 + 1, k, none⟩ = some u := fun k u hk => by
    show World.cell? (((w.alloc (.cells #[.int .u32 5, .int .u32 9] 41)).alloc (.cells #[.int .u32 2] 41)).alloc (.cells #[.int .u64 3, .slice (some ⟨w.heap.size, 0, none⟩) 2 2, .int .u64 4, .slice (some ⟨w.heap.size + 1, 0, none⟩) 1 1] 69)) ⟨w.heap.size + 1 + 1, k, none⟩ = some u
    simp only [World.cell?, hn]
    exact hk
  rcases Nat.lt_or_ge j 1 with h | h
  · obtain rfl : j = 0 := by omega
    obtain rfl : r = (3, [5, 9]) := by simpa using hr.symm
    exact ⟨cell 0 _ rfl, by decide, _, cell 1 _ rfl, p0⟩
  · obtain rfl : j = 1 := by omega
    obtain rfl : r = (4, [2]) := by simpa using hr.symm
    exact ⟨cell 2 _ rfl, by decide, _, cell 3 _ rfl, p1⟩

/-! ### each call of the example -/
def X1 (w w' : World) (r : Ending) : Prop := ∃ a c, r = .returned (.slice a 3 c) ∧ POwn 65 w.heap.size w' (.slice a 3 c) exP ∧ w.grownBy w' none
theorem ex_flat (w : World) (v : Value) (h : RSq (fun _ => True) w v exR) : Calls Try.prog 13 #[v] w fun r w' => X1 w w' r := by
  obtain ⟨a, c, rfl⟩ := h.shape
  refine (flat_any w _ a _ c exR h (by decide) (by decide)).mono ?_
  rintro r w' ⟨v, rfl, ho, hg⟩
  obtain ⟨a, c, rfl⟩ := own_shape ho
  exact ⟨a, c, rfl, ⟨ho, exP_ok⟩, hg⟩
def X2 (w w' : World) (r : Ending) : Prop := ∃ b c, r = .returned (.tuple #[.slice (some ⟨b, 0, none⟩) 512 c, .int .i64 0]) ∧ OwnB w.heap.size w' (.slice (some ⟨b, 0, none⟩) 512 c) (frB exP 7 512) ∧ w.grownBy w' none
theorem ex_put (w : World) (a : Option Addr) (c : Nat) (h : PrSq (fun _ => True) w (.slice a 3 c) exP) : Calls Try.prog 24 #[.slice a 3 c, .int .u32 7, .int .i64 512] w fun r w' => X2 w w' r := by
  refine (zput_ok w _ a 3 c exP 7 512 512 rfl h (by decide) (by decide) exP_right').mono ?_
  rintro r w' ⟨v, rfl, ho, hg⟩
  have hl : (frB exP 7 512).length = 512 := frB_len (by decide)
  have ho' := ho
  unfold OwnB at ho'
  rw [hl] at ho'
  obtain ⟨b, c, rfl, _⟩ := own_at ho' (by decide)
  exact ⟨b, c, rfl, ho, hg⟩
def X3 (w w' : World) (r : Ending) : Prop := ∃ a c, r = .returned (.tuple #[.slice a 3 c, .int .u32 7, .int .i64 0]) ∧ POwn 65 w.heap.size w' (.slice a 3 c) exP ∧ w.grownBy w' none
theorem ex_get (w : World) (b c : Nat) (h : OwnB 0 w (.slice (some ⟨b, 0, none⟩) 512 c) (frB exP 7 512)) : Calls Try.prog 26 #[.slice (some ⟨b, 0, none⟩) 512 c] w fun r w' => X3 w w' r := by
  refine (zget_back (w := w) (b := frB exP 7 512) (ps := exP) (x := 7) h.seq (Nat.le_refl _) (frB_byt _ _ _) (frB_laid exP_right' exP_ok (by decide) (by decide))).mono ?_
  rintro r w' ⟨a, c, rfl, ho, hg⟩
  exact ⟨a, c, rfl, ho, hg⟩
def X4 (w w' : World) (r : Ending) : Prop := ∃ b c a1 c1, r = .returned (.slice (some ⟨b, 0, none⟩) 2 c) ∧ w'.cell? ⟨b, 0, none⟩ = some (.int .u64 3) ∧ w'.cell? ⟨b, 1, none⟩ = some (.slice a1 2 c1) ∧ w.grownBy w' none
theorem ex_gather (w : World) (a : Option Addr) (c : Nat) (h : PrSq (fun _ => True) w (.slice a 3 c) exP) : Calls Try.prog 16 #[.slice a 3 c] w fun r w' => X4 w w' r := by
  refine (gather_any w _ a 3 c exP h (by decide)).mono ?_
  rintro r w' ⟨v, es, rfl, ho, he, hg⟩
  rw [exP_gather] at he
  have hr := ho.rsq
  rw [he] at hr
  have hel : es.length = 2 := by have := congrArg List.length he; simpa using this
  rcases ho.row.2 with ⟨hv, hn⟩ | ⟨b, c, cur, hv, _⟩
  · omega
  · rw [hv, hel] at hr ⊢
    obtain ⟨b1, o1, e1, _, k1, _, a1, c1, k2, _⟩ := hr.at 0 (3, [5, 9]) rfl
    cases e1
    exact ⟨b, c, a1, c1, rfl, k1, k2, hg⟩
def X5 (w w' : World) (r : Ending) : Prop := ∃ q a0 c0 a1 c1, r = .returned (.tuple #[.slice (some ⟨q, 0, none⟩) 2 2, .int .i64 0]) ∧ w'.cell? ⟨q, 0, none⟩ = some (.slice a0 3 c0) ∧ w'.cell? ⟨q, 1, none⟩ = some (.slice a1 0 c1) ∧ w.grownBy w' none
theorem ex_spread (w : World) (a : Option Addr) (c : Nat) (h : PrSq (fun _ => True) w (.slice a 3 c) exP) : Calls Try.prog 22 #[.slice a 3 c, .int .i64 2, .int .i64 512] w fun r w' => X5 w w' r := by
  refine (spread_ok w _ a 3 c exP 2 512 2 42 rfl (by decide) h (by decide) (by decide) (by decide) (by decide) (by decide)).mono ?_
  rintro r w' ⟨v, vals, q, rfl, ho, hg⟩
  obtain ⟨hv, hrow, heach⟩ := ho
  subst hv
  obtain ⟨u0, k0, p0⟩ := heach 0 (by decide)
  obtain ⟨u1, k1, p1⟩ := heach 1 (by decide)
  obtain ⟨a0, c0, rfl⟩ := p0.shape
  obtain ⟨a1, c1, rfl⟩ := p1.shape
  have c0' := World.ownsRow.cells hrow (g := q) rfl 0 _ k0
  have c1' := World.ownsRow.cells hrow (g := q) rfl 1 _ k1
  rw [Addr.add_lit] at c0' c1'
  exact ⟨q, a0, c0, a1, c1, rfl, c0', c1', hg⟩

set_option maxRecDepth 100000 in
set_option maxHeartbeats 8000000 in
theorem awake10_any (w : World) : Calls Try.prog 9 #[] w fun r w' => r = .returned (.bool true) ∧ w.grownBy w' none := by
  have HE := Lib.hid (ex_rows10 w)
  have HGA := Lib.hid (gtrans (two_grown w (.cells #[.int .u32 5, .int .u32 9] 41) (.cells #[.int .u32 2] 41)) (World.grownBy_alloc _ (.cells #[.int .u64 3, .slice (some ⟨w.heap.size, 0, none⟩) 2 2, .int .u64 4, .slice (some ⟨w.heap.size + 1, 0, none⟩) 1 1] 69) none))
  have B0 := Lib.hid (show (frB exP 7 512).getD 0 0 = 4 ∧ (frB exP 7 512).getD 3 0 = 3 ∧ (frB exP 7 512).getD 7 0 = 7 by decide +kernel)
  have HL := Lib.hid (show (frB exP 7 512).length = 512 from frB_len (by decide))
  have HM1 := Lib.hid (show manyF 42 512 = 1 by decide)
  have HM2 := Lib.hid (show manyF 43 512 = 2 by decide)
  go_enter Try.func9, Try.ntmps9
  go_wp2_with (first
    | (go_at_call 13; refine (ex_flat _ _ HE.out).mono ?_; rintro r w1 ⟨a1, c1, rfl, ho, hg⟩; have HO1 := Lib.hid (ho.sq.imp (S := fun _ => True) fun _ _ _ => trivial); have HG1 := Lib.hid (gtrans HGA.out hg); clear ho hg)
    | (go_at_call 24; refine (ex_put w1 a1 c1 HO1.out).mono ?_; rintro r w2 ⟨b2, c2, rfl, ho, hg⟩; have HO2 := Lib.hid (ho.base (Nat.zero_le _)); have HP2 := Lib.hid (HO1.out.grown hg); have HG2 := Lib.hid (gtrans HG1.out hg); clear ho hg)
    | (go_at_call 26; refine (ex_get w2 b2 c2 HO2.out).mono ?_; rintro r w3 ⟨a3, c3, rfl, ho, hg⟩; have HO3 := Lib.hid (ho.sq.imp (S := fun _ => True) fun _ _ _ => trivial); have HP3 := Lib.hid (HP2.out.grown hg); have HB3 := Lib.hid (HO2.out.grown hg); have HG3 := Lib.hid (gtrans HG2.out hg); clear ho hg)
    | (go_at_call 16; refine (ex_gather w3 a3 c3 HO3.out).mono ?_; rintro r w4 ⟨b4, c4, a4, d4, rfl, k0, k1, hg⟩; have HP4 := Lib.hid (HP3.out.grown hg); have HB4 := Lib.hid (HB3.out.grown hg); have HK4 := Lib.hid (And.intro k0 k1); have HG4 := Lib.hid (gtrans HG3.out hg); clear k0 k1 hg)
    | (go_at_call 22; refine (ex_spread w4 a1 c1 HP4.out).mono ?_; rintro r w5 ⟨q5, a5, c5, a6, c6, rfl, k0, k1, hg⟩; have HG5 := Lib.hid (gtrans HG4.out hg); have HB5 := HB4.out.grown hg; have l0 := hg.cell HK4.out.1 (by simp); have l1 := hg.cell HK4.out.2 (by simp); unfold OwnB at HB5; rw [HL.out] at HB5; obtain ⟨b', c', hv, _, hcs⟩ := own_at HB5 (by decide); cases hv; have n0 := hcs 0 (by decide); have n3 := hcs 3 (by decide); have n7 := hcs 7 (by decide); rw [B0.out.1] at n0; rw [B0.out.2.1] at n3; rw [B0.out.2.2] at n7; clear hcs HB5 hg)
    | (go_at_call 19; (with_reducible refine (zmany_any _ 42 512 (by decide)).mono ?_); rw [HM1.out]; rintro r wq ⟨rfl, rfl⟩)
    | (go_at_call 19; (with_reducible refine (zmany_any _ 43 512 (by decide)).mono ?_); rw [HM2.out]; rintro r wq ⟨rfl, rfl⟩))
  go_ret
  exact ⟨rfl, HG5.out⟩

end Go.Proofs.Ytpgpilalhbdidaa
