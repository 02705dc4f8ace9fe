/-
  CrcEnds holds: for any row of bytes the law returns true, and its argument reads as it did. No condition beyond the row's own. Own work; the frame is the guide's.
-/
import Derived.Test.YtjcaeadeogdppaaCrcC
import Derived.Test.YtjcaeadeogdppaaCrcN
namespace Go.Proofs.Ytjcaeadeogdppaa
open Go.RowKit

theorem ends2 (w : World) (v : Value) (bs : List Int) (x q : Nat) (hq : q = w.heap.size) (hs : Seq w.heap.size w v bs) (hb : Byt bs) (hx : x = crcN bs) (hx32 : x < 4294967296) :
    Calls Try.prog 10 #[.slice (some ⟨q + 1, 0, none⟩) 2 2] ((w.alloc (.cells #[.int .u8 ((x : Int) % 256), .int .u8 ((x : Int) / 256 % 256), .int .u8 ((x : Int) / 65536 % 256), .int .u8 ((x : Int) / 16777216)] 5)).alloc (.cells #[v, .slice (some ⟨q, 0, none⟩) 4 4] 22))
    fun r w' => r = .returned (.int .u32 558161692) ∧ w.grownBy w' none := by
  subst hq
  have := of2 (t := 22) (v0 := v) (q := w.heap.size + 1) (l0 := bs) (l1 := le4 x) (w := w.alloc (.cells #[.int .u8 ((x : Int) % 256), .int .u8 ((x : Int) / 256 % 256), .int .u8 ((x : Int) / 65536 % 256), .int .u8 ((x : Int) / 16777216)] 5)) (by simp) (hs.grown (World.grownBy_alloc _ _ _))
    (lit_seq (xs := le4 x) rfl rfl (show 4 ≤ maxLen by decide) (fun j hj => match j, hj with
      | 0, _ => by simp [le4]
      | 1, _ => by simp [le4]
      | 2, _ => by simp [le4]
      | 3, _ => by simp [le4]; omega)) hb (le4_byt x)
  refine this.mono ?_
  rintro r w1 ⟨rfl, hg⟩
  rw [hx, crc_ends bs hb]
  exact ⟨rfl, glit0 hg⟩

set_option maxHeartbeats 1000000 in
theorem ends_any (w : World) (ao : Option Addr) (n c : Nat) (bs : List Int) (hs : Seq w.heap.size w (.slice ao n c) bs) (hb : Byt bs) :
    Calls Try.prog 6 #[.slice ao n c] w fun r w' => r = .returned (.bool true) ∧ Below w.heap.size w w' := by
  have hn : n = bs.length := by obtain ⟨_, _, hv, _⟩ := hs; injection hv
  have HL := Lib.hid hn
  clear hn
  by_cases hb1 : 500 < n
  · clear hs
    go_enter Try.func6, Try.ntmps6
    go_wp2_with (go_at_call 8; refine (awake_any _).mono ?_; rintro r wA ⟨rfl, hgA⟩)
    go_ret
    exact ⟨rfl, gbelow hgA⟩
  · have HS := Lib.hid hs
    have HB := Lib.hid hb
    obtain ⟨x, hx⟩ : ∃ x, x = crcN bs := ⟨_, rfl⟩
    have hx32 : x < 4294967296 := by rw [hx]; exact crcN_lt hb
    have HX := Lib.hid hx
    clear hs hb hx
    go_enter Try.func6, Try.ntmps6
    go_wp2_with (first
      | (go_at_call 8; refine (awake_any _).mono ?_; rintro r wA ⟨rfl, hgA⟩; have HS1 := Lib.hid (HS.out.grown hgA))
      | (go_at_call 10; have K := of1 (w := wA) (t := 22) (q := wA.heap.size) rfl HS1.out HB.out; ((with_reducible refine K.mono ?_); clear K; rintro r wB ⟨rfl, hgB⟩; have HS2 := Lib.hid (HS1.out.grown hgB); rw [← HX.out]))
      | (go_at_call 10; have K := ends2 wB _ bs x _ rfl HS2.out HB.out HX.out hx32; ((with_reducible refine K.mono ?_); clear K; rintro r wC ⟨rfl, hgC⟩)))
    go_ret
    exact ⟨rfl, gbelow (gtrans hgA (gtrans hgB hgC))⟩

open Go.ChangeShapes Go.WideShapes Go.ChangeAt
set_option linter.unusedVariables false
set_option maxRecDepth 100000 in
theorem ends_lifted (os : Os) (started : os.Started) (H : Type) (enc : TypeId × Value → H) :
    ReturnsInHanded {} Try.checked os 6 .any (Rows.crcEndsSpec.pre6 enc Try.prog Try.f6 Rows.crcEndsRow.domain false) (Rows.crcEndsSpec.post enc Try.prog Try.f6 false true false false) := by
  refine returnsInHanded_of_change (C := Try.checked) ownKnob0 started (by kernel_rfl) Try.func6
    (ChangeSpec.witness6 (enc := enc) (C := Try.checked) false ⟨#[], #[.slice none 0 0], []⟩ 8 (by kernel_rfl) (by kernel_rfl) (by kernel_rfl) (by kernel_rfl)) ?_
  intro W base args ds gs before hval0 hW hcnd _
  have hval : ∀ (j : Nat) t v, Try.f6.params[j]? = some t → args[j]? = some v → Value.okWide Try.prog W .any base t v := hval0
  have hW' := hW
  obtain ⟨p, q, hA0, hV, rfl, hfz, hnd⟩ := hW
  have hA : DataW.TrodAll enc Try.prog W 0 (fun _ => true) true Try.f6.params.toList args.toList ds p := hA0
  rw [Try.params6] at hA hval
  obtain ⟨v0, vs0, d0, ds0, p0, q0, hargs, rfl, rfl, h0, r0⟩ := trodAll_cons hA
  obtain ⟨rfl, rfl, rfl⟩ := trodAll_nil r0
  obtain rfl : args = #[v0] := by cases args; simp_all
  obtain ⟨rfl, rfl⟩ := trodVars_none hV
  obtain ⟨a0, len0, cap0, rfl⟩ := okWide_slice Try.underlying22 (hval 0 22 v0 rfl rfl)
  have lt0 : ∀ x ∈ p0, x.block < W.heap.size := by obtain ⟨m, hm⟩ := h0; exact DataW.trod_lt m _ _ _ hm
  obtain ⟨z0, w0, y0⟩ := open_bytes h0
  clear hA0 hval0
  refine (ends_any W a0 len0 cap0 z0 w0 y0).mono fun e W' ⟨he, bel⟩ => ?_
  subst he
  exact ⟨_, rfl, _, _, _, [], _, [], hW', trodAll_mk1 (shut_bool Try.underlying4 _), (trodAll_cons_mk (Below.trod laidOut0 (by kernel_rfl) (of_decide_eq_true (by kernel_rfl)) h0 bel lt0) trodAll_mk0), rfl, bel.frame _, fun h => by cases h⟩

/-- CrcEnds, for every input. -/
theorem crcEnds_holds : Rows.CrcEndsSaid :=
  OpenClaim.holds_of_wide 6 Try.f6 rfl rfl rfl rfl rfl rfl rfl ⟨rfl, rfl, rfl, rfl, rfl⟩ rfl rfl rfl rfl rfl (by kernel_rfl) Try.func6 (by kernel_rfl)
    (of_decide_eq_true (by kernel_rfl)) (by unfold Func.isWrapper; first | (rw [if_pos (by decide +kernel)]; kernel_rfl) | (rw [if_neg (by decide +kernel)]; exact ⟨rfl, rfl⟩))
    (fun os started H enc _ => ends_lifted os started H enc)
#print axioms crcEnds_holds

end Go.Proofs.Ytjcaeadeogdppaa
