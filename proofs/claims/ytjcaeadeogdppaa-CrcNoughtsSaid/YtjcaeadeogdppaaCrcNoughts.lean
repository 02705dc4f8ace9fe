/-
  CrcNoughts holds: for any row of bytes and any number the law returns true, and its arguments read as they did. No condition beyond the row's own. Own work; the frame is the guide's.
-/
import Derived.Test.YtjcaeadeogdppaaCrcC
import Derived.Test.YtjcaeadeogdppaaCrcN
import Derived.Deep.RegionHeld3
import Derived.OwnWalk
namespace Go.Proofs.Ytjcaeadeogdppaa
open Go.RowKit

theorem infoU8 : (Try.prog.info? 5).map (fun i => (i.zero, i.size, i.bytes)) = some (some (.int .u8 0), 1, 1) := by kernel_rfl
/-- What 'make' lays reads as noughts. -/
theorem seq_made {base m q : Nat} {w : World} (h : w.ownsRow base 5 1 (.slice (some ⟨q, 0, none⟩) m m) m (madeCells (Value.int .u8 0).cells (m * 1)).toList) : Seq w.heap.size w (.slice (some ⟨q, 0, none⟩) m m) (List.replicate m 0) := by
  have e : (madeCells (Value.int .u8 0).cells (m * 1)).toList = (List.replicate m (0 : Int)).map (Value.int .u8) := by
    rw [Nat.mul_one, show (Value.int .u8 0).cells = #[Value.int .u8 0] from rfl, toList_madeCells_one, List.map_replicate]
  rw [e] at h
  have hl : m = (List.replicate m (0 : Int)).length := by simp
  generalize List.replicate m (0 : Int) = bs at h hl ⊢
  subst hl
  exact Seq.owned h

theorem Seq.post1 {B : Nat} {w : World} {ao A : Option Addr} {n c : Nat} {bs : List Int} (h : Seq B w (.slice ao n c) bs) (hk : 1 ≤ n)
    (hA : (if c = 1 then ao else Option.map (fun x => (⟨x.block, x.off + 1, none⟩ : Addr)) ao) = A) : Seq B w (.slice A (n - 1) (c - 1)) (bs.drop 1) := by
  subst hA; exact h.post hk

theorem two_lit0 (w : World) (a b : Obj) : ((w.alloc a).alloc b).heap[w.heap.size]? = some a := (Below.heap_alloc (w.alloc a) b w.heap.size (by simp)).trans (heap_alloc_last _ _)
theorem two_lit1 (w : World) (a b : Obj) : ((w.alloc a).alloc b).heap[w.heap.size + 1]? = some b := by
  have := heap_alloc_last (w.alloc a) b
  rwa [show (w.alloc a).heap.size = w.heap.size + 1 by simp] at this
theorem two_later0 {w w' : World} {a b : Obj} (h : ((w.alloc a).alloc b).grownBy w' none) : w'.heap[w.heap.size]? = some a := (h.block _ (by simp; omega) (by simp)).trans (two_lit0 w a b)
theorem two_later1 {w w' : World} {a b : Obj} (h : ((w.alloc a).alloc b).grownBy w' none) : w'.heap[w.heap.size + 1]? = some b := (h.block _ (by simp) (by simp)).trans (two_lit1 w a b)
theorem two_grown (w : World) (a b : Obj) : w.grownBy ((w.alloc a).alloc b) none := gtrans (World.grownBy_alloc _ _ _) (World.grownBy_alloc _ _ _)

theorem nought1 (w : World) (v : Value) (bs : List Int) (hs : Seq w.heap.size w v bs) (hb : Byt bs) :
    Calls Try.prog 10 #[.slice (some ⟨w.heap.size + 1, 0, none⟩) 3 3] ((w.alloc (.cells #[] 5)).alloc (.cells #[.slice none 0 0, v, .slice (some ⟨w.heap.size, 0, none⟩) 0 0] 22)).drew
    fun r w' => r = .returned (.int .u32 ((crcN bs : Nat) : Int)) ∧ w.grownBy w' none := by
  have hE : Seq (w.alloc (.cells #[] 5)).drew.heap.size (w.alloc (.cells #[] 5)).drew (.slice (some ⟨w.heap.size, 0, none⟩) 0 0) [] := ⟨_, 0, rfl, Nat.le_refl _, by decide, by simp, fun h => absurd rfl h⟩
  have hg : w.grownBy (w.alloc (.cells #[] 5)).drew none := gtrans (World.grownBy_alloc _ _ _) (gdrew _)
  have K := of3 (w := (w.alloc (.cells #[] 5)).drew) (t := 22) (q := w.heap.size + 1) (v0 := .slice none 0 0) (v1 := v) (l0 := []) (l1 := bs) (by show _ = (w.alloc _).heap.size; simp) (seq_nil _ _) (hs.grown hg) hE nil_byt hb nil_byt
  rw [List.nil_append, List.append_nil] at K
  exact K.mono fun r w' ⟨h1, h2⟩ => ⟨h1, gtrans hg h2⟩

set_option maxHeartbeats 2000000 in
theorem noughts_any (w : World) (ao : Option Addr) (n c : Nat) (bs : List Int) (t : Int) (hs : Seq w.heap.size w (.slice ao n c) bs) (hb : Byt bs) (ht0 : 0 ≤ t) (ht1 : t ≤ 255) :
    Calls Try.prog 7 #[.slice ao n c, .int .u8 t] w fun r w' => r = .returned (.bool true) ∧ Below w.heap.size w w' := by
  have hn : n = bs.length := by obtain ⟨_, _, hv, _⟩ := hs; injection hv
  have HL := Lib.hid hn
  clear hn
  by_cases hb1 : 300 < n
  · clear hs
    go_enter Try.func7, Try.ntmps7
    go_wp2_with (go_at_call 8; refine (awake_any _).mono ?_; rintro r wA ⟨rfl, hgA⟩)
    go_ret
    exact ⟨rfl, gbelow hgA⟩
  · obtain ⟨m, hm⟩ : ∃ m : Nat, t % 40 + 1 = m := ⟨(t % 40 + 1).toNat, by omega⟩
    have hm1 : 1 ≤ m := by omega
    have hm40 : m ≤ 40 := by omega
    obtain ⟨i0, hi, hz0, hz1, hz2⟩ := info_parts infoU8
    have HS := Lib.hid hs
    have HB := Lib.hid hb
    have HZ := Lib.hid (show Byt (List.replicate m 0) from zeros_byt m)
    have HZ1 := Lib.hid (show Byt (List.replicate (m - 1) 0) from zeros_byt (m - 1))
    have HDZ := Lib.hid (show (List.replicate m (0 : Int)).drop 1 = List.replicate (m - 1) 0 by simp)
    obtain ⟨x, hx⟩ : ∃ x, x = crcN bs := ⟨_, rfl⟩
    obtain ⟨y1, hy1⟩ : ∃ y, y = crcN (bs ++ List.replicate (m - 1) 0) := ⟨_, rfl⟩
    obtain ⟨y2, hy2⟩ : ∃ y, y = crcN (bs ++ List.replicate m 0) := ⟨_, rfl⟩
    have hxy : (y1 = y2) ↔ x = 4294967295 := by
      rw [hx, hy1, hy2]
      have := crc_noughts bs hb (m - 1)
      rwa [show m - 1 + 1 = m by omega] at this
    have HX := Lib.hid hx
    have HY1 := Lib.hid hy1
    have HY2 := Lib.hid hy2
    clear hs hb hx hy1 hy2
    have hsame : (((y1 : Int) == (y2 : Int)) == ((x : Int) == 4294967295)) = true := by
      by_cases h : x = 4294967295
      · have := hxy.2 h; subst this; simp [h]
      · have : ¬ y1 = y2 := fun e => h (hxy.1 e)
        have e1 : ((y1 : Int) == (y2 : Int)) = false := by simpa using (by omega : ¬ (y1 : Int) = y2)
        have e2 : ((x : Int) == 4294967295) = false := by simpa using (by omega : ¬ (x : Int) = 4294967295)
        rw [e1, e2]; rfl
    clear hxy
    go_enter Try.func7, Try.ntmps7
    go_wp2_with (first
      | (go_at_call 8; refine (awake_any _).mono ?_; rintro r wA ⟨rfl, hgA⟩; have HS1 := Lib.hid (HS.out.grown hgA))
      | (go_at_call 10; have K := of1 (w := wA) (t := 22) (q := wA.heap.size) rfl HS1.out HB.out; ((with_reducible refine K.mono ?_); clear K; rintro r wB ⟨rfl, hgB⟩; have HS2 := Lib.hid (HS1.out.grown hgB); rw [← HX.out]))
      | (at_make; refine wpList_make_full _ rfl _ _ 22 rfl wB.heap.size 5 i0 (.int .u8 0) 1 Try.underlying22 hi hz0 hz1 .i64 .i64 _ _ m rfl rfl ?c1 ?c2 ?c3 ?c4 (Nat.le_refl _) ?_; (case c1 => rfl); (case c2 => rfl); (case c3 => rw [hz2]; omega); (case c4 => unfold maxLen; omega); intro wM hown hgM; have HS3 := Lib.hid (HS2.out.grown hgM); have HM3 := Lib.hid (seq_made hown); clear hown; generalize (some (⟨wB.heap.size, 0, none⟩ : Addr)) = a2 at HM3 ⊢; obtain ⟨A, hA⟩ : ∃ A, (if m = 1 then a2 else Option.map (fun x => (⟨x.block, x.off + 1, none⟩ : Addr)) a2) = A := ⟨_, rfl⟩; have HA := Lib.hid hA)
      | (go_at_call 10; have HP := HM3.out.post1 hm1 HA.out; rw [HDZ.out] at HP; have K := of2 (w := wM) (t := 22) (q := wM.heap.size) rfl HS3.out HP HB.out HZ1.out; clear HP; ((with_reducible refine K.mono ?_); clear K; rintro r wC ⟨rfl, hgC⟩; rw [← HY1.out]; have HS4 := Lib.hid (HS3.out.grown hgC); have HM4 := Lib.hid (HM3.out.grown hgC)))
      | (go_at_call 10; have K := of2 (w := wC) (t := 22) (q := wC.heap.size) rfl HS4.out HM4.out HB.out HZ.out; ((with_reducible refine K.mono ?_); clear K; rintro r wD ⟨rfl, hgD⟩; rw [← HY2.out]; have HS5 := Lib.hid (HS4.out.grown hgD); have HM5 := Lib.hid (HM4.out.grown hgD))))
    have HZm := Lib.hid (show (List.replicate m (0 : Int)).length = m by simp)
    have HN1 := Lib.hid (show crcN (bs ++ (List.replicate m 0 ++ [])) = y2 by rw [List.append_nil, HY2.out])
    have HN2 := Lib.hid (show crcN (bs ++ ((List.replicate m 0).take 1 ++ (List.replicate m 0).drop 1)) = y2 by rw [List.take_append_drop, HY2.out])
    have hm1i : (1 : Int) ≤ (m : Int) := by omega
    clear HY2 HDZ HZ1
    generalize List.replicate m (0 : Int) = Z at HM5 HZ HZm HN1 HN2
    go_region_held3 (fun _ => True) (trivial) (first
      | (go_at_call 10; have K := nought1 wD _ bs HS5.out HB.out; rw [← HX.out] at K; ((with_reducible refine K.mono ?_); clear K; rintro r wE ⟨rfl, hgE⟩; have HS6 := Lib.hid (HS5.out.grown hgE); have HM6 := Lib.hid (HM5.out.grown hgE)))
      | (go_at_call 10; have K := of3 (w := wE) (t := 22) (q := wE.heap.size) rfl HS6.out HM6.out (seq_nil _ _) HB.out HZ.out nil_byt; rw [HN1.out] at K; ((with_reducible refine K.mono ?_); clear K; rintro r wF ⟨rfl, hgF⟩; have HS7 := Lib.hid (HS6.out.grown hgF); have HM7 := Lib.hid (HM6.out.grown hgF)))
      | (go_at_call 10; have K := of3 (w := wF) (t := 22) (q := wF.heap.size) rfl HS7.out (HM7.out.pre 1 (by rw [HZm.out]; exact hm1)) (HM7.out.post1 hm1 HA.out) HB.out (Byt.take HZ.out 1) (Byt.drop HZ.out 1); rw [HN2.out] at K; ((with_reducible refine K.mono ?_); clear K; rintro r wG ⟨rfl, hgG⟩; have hgX := gtrans hgF hgG))
      | (go_at_call 10; have K := ofb3 (W := (wE.alloc (.cells #[.slice ao n c, .slice a2 m m, .slice none 0 0] 22)).alloc (.cells #[.slice ao n c, .slice a2 1 m, .slice A (m - 1) (m - 1)] 22)) (q := wE.heap.size) (two_lit0 wE _ _) (HS6.out.grown (two_grown wE _ _)) (HM6.out.grown (two_grown wE _ _)) (seq_nil _ _) HB.out HZ.out nil_byt; rw [HN1.out] at K; ((with_reducible refine K.mono ?_); clear K; rintro r wF ⟨rfl, hgF⟩; have hgF2 := gtrans (two_grown wE _ _) hgF))
      | (go_at_call 10; have K := ofb3 (W := (wE.alloc (.cells #[.slice ao n c, .slice a2 1 m, .slice A (m - 1) (m - 1)] 22)).alloc (.cells #[.slice ao n c, .slice a2 m m, .slice none 0 0] 22)) (q := wE.heap.size + 1) (two_lit1 wE _ _) (HS6.out.grown (two_grown wE _ _)) (HM6.out.grown (two_grown wE _ _)) (seq_nil _ _) HB.out HZ.out nil_byt; rw [HN1.out] at K; ((with_reducible refine K.mono ?_); clear K; rintro r wF ⟨rfl, hgF⟩; have hgF2 := gtrans (two_grown wE _ _) hgF))
      | (go_at_call 10; have K := ofb3 (W := wF) (q := wE.heap.size + 1) (two_later1 hgF) (HS6.out.grown hgF2) ((HM6.out.pre 1 (by rw [HZm.out]; exact hm1)).grown hgF2) ((HM6.out.post1 hm1 HA.out).grown hgF2) HB.out (Byt.take HZ.out 1) (Byt.drop HZ.out 1); rw [HN2.out] at K; ((with_reducible refine K.mono ?_); clear K; rintro r wG ⟨rfl, hgG⟩; have hgX := gtrans hgF2 hgG))
      | (go_at_call 10; have K := ofb3 (W := wF) (q := wE.heap.size) (two_later0 hgF) (HS6.out.grown hgF2) ((HM6.out.pre 1 (by rw [HZm.out]; exact hm1)).grown hgF2) ((HM6.out.post1 hm1 HA.out).grown hgF2) HB.out (Byt.take HZ.out 1) (Byt.drop HZ.out 1); rw [HN2.out] at K; ((with_reducible refine K.mono ?_); clear K; rintro r wG ⟨rfl, hgG⟩; have hgX := gtrans hgF2 hgG)))
    all_goals
      go_wp2
      go_ret
      exact ⟨rfl, gbelow (gtrans hgA (gtrans hgB (gtrans hgM (gtrans hgC (gtrans hgD (gtrans hgE hgX))))))⟩

open Go.ChangeShapes Go.WideShapes Go.ChangeAt
set_option linter.unusedVariables false
set_option maxRecDepth 100000 in
theorem noughts_lifted (os : Os) (started : os.Started) (H : Type) (enc : TypeId × Value → H) :
    ReturnsInHanded {} Try.checked os 7 .any (Rows.crcNoughtsSpec.pre6 enc Try.prog Try.f7 Rows.crcNoughtsRow.domain false) (Rows.crcNoughtsSpec.post enc Try.prog Try.f7 false true false false) := by
  refine returnsInHanded_of_change (C := Try.checked) ownKnob0 started (by kernel_rfl) Try.func7
    (ChangeSpec.witness6 (enc := enc) (C := Try.checked) false ⟨#[], #[.slice none 0 0, .int .u8 0], []⟩ 8 (by kernel_rfl) (by kernel_rfl) (by kernel_rfl) (by kernel_rfl)) ?_
  intro W base args ds gs before hval0 hW hcnd _
  have hval : ∀ (j : Nat) t v, Try.f7.params[j]? = some t → args[j]? = some v → Value.okWide Try.prog W .any base t v := hval0
  have hW' := hW
  obtain ⟨p, q, hA0, hV, rfl, hfz, hnd⟩ := hW
  have hA : DataW.TrodAll enc Try.prog W 0 (fun _ => true) true Try.f7.params.toList args.toList ds p := hA0
  rw [Try.params7] at hA hval
  obtain ⟨v0, vs0, d0, ds0, p0, q0, hargs, rfl, rfl, h0, r0⟩ := trodAll_cons hA
  obtain ⟨v1, vs1, d1, ds1, p1, q1, rfl, rfl, rfl, h1, r1⟩ := trodAll_cons r0
  obtain ⟨rfl, rfl, rfl⟩ := trodAll_nil r1
  obtain rfl : args = #[v0, v1] := by cases args; simp_all
  obtain ⟨rfl, rfl⟩ := trodVars_none hV
  obtain ⟨a0, len0, cap0, rfl⟩ := okWide_slice Try.underlying22 (hval 0 22 v0 rfl rfl)
  have lt0 : ∀ x ∈ p0, x.block < W.heap.size := by obtain ⟨m, hm⟩ := h0; exact DataW.trod_lt m _ _ _ hm
  obtain ⟨z0, w0, y0⟩ := open_bytes h0
  obtain ⟨a1, rfl, rfl, rfl, w1⟩ := open_int Try.underlying5 (hval 1 5 v1 rfl rfl) h1
  clear hA0 hval0
  have b1 := bounds_u8 w1
  refine (noughts_any W a0 len0 cap0 z0 a1 w0 y0 b1.1 b1.2).mono fun e W' ⟨he, bel⟩ => ?_
  subst he
  exact ⟨_, rfl, _, _, _, [], _, [], hW', trodAll_mk1 (shut_bool Try.underlying4 _), (trodAll_cons_mk (Below.trod laidOut0 (by kernel_rfl) (of_decide_eq_true (by kernel_rfl)) h0 bel lt0) (trodAll_cons_mk (shut_int Try.underlying5 w1) trodAll_mk0)), rfl, bel.frame _, fun h => by cases h⟩

/-- CrcNoughts, for every input. -/
theorem crcNoughts_holds : Rows.CrcNoughtsSaid :=
  OpenClaim.holds_of_wide 7 Try.f7 rfl rfl rfl rfl rfl rfl rfl ⟨rfl, rfl, rfl, rfl, rfl⟩ rfl rfl rfl rfl rfl (by kernel_rfl) Try.func7 (by kernel_rfl)
    (of_decide_eq_true (by kernel_rfl)) (by unfold Func.isWrapper; first | (rw [if_pos (by decide +kernel)]; kernel_rfl) | (rw [if_neg (by decide +kernel)]; exact ⟨rfl, rfl⟩))
    (fun os started H enc _ => noughts_lifted os started H enc)
#print axioms crcNoughts_holds

end Go.Proofs.Ytjcaeadeogdppaa
