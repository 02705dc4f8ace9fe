/-
  Layer 4: the contract of Get; a page that was put is got. Own work.
-/
import Derived.Test.YtfencmidjolgfaaLefN
import Derived.Test.YtfencmidjolgfaaLefF
namespace Go.Proofs.Ytfencmidjolgfaa
open Go.RowKit

/-- What Get tells. -/
def GetR (b : List Int) (w w' : World) (r : Ending) : Prop :=
  (∃ (lv : Value) (es : List (Value × Value × En)), r = .returned (.tuple #[lv, .int .i64 0]) ∧ Laid leafY b (xsOf es) ∧ RightP (xsOf es) (b.length : Int) ∧ EOwns w.heap.size w' lv es ∧ es.length ≤ 65535 ∧ w.grownBy w' none) ∨
  (r = .returned (.tuple #[.slice none 0 0, .int .i64 11]) ∧ (∀ L, Laid leafY b L → ¬ RightP L (b.length : Int)) ∧ w.grownBy w' none)

set_option maxHeartbeats 2000000 in
theorem get_any (w : World) (B : Nat) (ao : Option Addr) (n c0 : Nat) (b : List Int) (h : Seq B w (.slice ao n c0) b) (hB : B ≤ w.heap.size) (hb : Byt b) (hl : b.length ≤ 140737488355328) :
    Calls Try.prog 25 #[.slice ao n c0] w fun r w' => GetR b w w' r := by
  have hnl : n = b.length := by obtain ⟨_, _, hv, _⟩ := h; injection hv
  have H := Lib.hid (getT_any w B ao n c0 b h hB hb hl)
  have HN := Lib.hid hnl
  clear h hb hl hnl
  go_enter Try.func25, Try.ntmps25
  go_wp2_with fail
  refine H.out.mono ?_
  rintro r w1 ⟨lv, es, ok, rfl, h1, h2, h3, h4, h5⟩
  obtain ⟨la, lc, rfl⟩ := own_shape h3.row
  have HE := Lib.hid h3
  have HG := Lib.hid h5
  have HEN := Lib.hid (h3.ents (by omega))
  have H1 := Lib.hid h1
  have H2 := Lib.hid h2
  clear h1 h2 h3 h5
  cases ok with
  | false =>
    have HNO := Lib.hid (show ∀ L, Laid leafY b L → ¬ RightP L (b.length : Int) from fun L hL => absurd (H2.out L hL).1 (by decide))
    clear H1 H2
    go_wp2
    go_ret2
    exact .inr ⟨rfl, HNO.out, HG.out⟩
  | true =>
    by_cases hr : RightP (xsOf es) (b.length : Int)
    · have HR := Lib.hid hr
      have HLa := Lib.hid (H1.out rfl (by have := hr.2.1; omega))
      clear hr H1 H2
      go_wp2_with (go_at_call 19; have Kc := right_yes (size := (n : Int)) HEN.out (Nat.le_refl _) (by rw [HN.out]; exact HR.out); ((with_reducible refine Kc.mono ?_); clear Kc; rintro r w2 ⟨rfl, hg⟩); have HE2 := Lib.hid (HE.out.grown hg); have HG2 := Lib.hid (gtrans HG.out hg); clear hg)
      go_ret2
      exact .inl ⟨_, es, rfl, HLa.out, HR.out, HE2.out, h4, HG2.out⟩
    · have HR := Lib.hid hr
      have HNO := Lib.hid (show ∀ L, Laid leafY b L → ¬ RightP L (b.length : Int) from fun L hL => by rw [← (H2.out L hL).2]; exact hr)
      clear hr H1 H2
      go_wp2_with (go_at_call 19; have Kc := right_no (size := (n : Int)) HEN.out (Nat.le_refl _) (by rw [HN.out]; exact HR.out); ((with_reducible refine Kc.mono ?_); clear Kc; rintro r w2 ⟨rfl, hg⟩); have HG2 := Lib.hid (gtrans HG.out hg); clear hg)
      go_ret2
      exact .inr ⟨rfl, HNO.out, HG2.out⟩

theorem Ents.ok {B : Nat} {w : World} {v : Value} {l : List En} (h : Ents B w v l) : ∀ x ∈ l, EnOk x := by
  intro x hx
  obtain ⟨i, hi⟩ := List.getElem?_of_mem hx
  obtain ⟨ao, c, rfl⟩ := h.shape
  obtain ⟨b, o, _, _, a1, c1, a2, c2, _, _, h3, _⟩ := h.at i x hi
  exact h3
theorem seq_page {w : World} {b S : Nat} {bs : List Int} (h : w.heap[b]? = some (.cells (bs.map (Value.int .u8)).toArray 5 (0, 0))) (hl : bs.length = S) (hm : S ≤ maxLen) : Seq w.heap.size w (.slice (some ⟨b, 0, none⟩) S S) bs := by
  refine ⟨_, S, by rw [hl], by omega, hm, by simp, fun _ => ⟨b, 0, rfl, lt_of_block h, fun j hj => ?_⟩⟩
  simp [World.cell?, h, hj, List.getD_eq_getElem?_getD]
/-- A page is got as it was put. -/
theorem get_back {w : World} {B : Nat} {ao : Option Addr} {n c0 : Nat} {l : List En} {S : Nat} (h : Seq B w (.slice ao n c0) (pageB leafY l S)) (hB : B ≤ w.heap.size) (ho : ∀ x ∈ l, EnOk x) (hr : RightP l (S : Int)) (hf : fillL leafY l ≤ S) :
    Calls Try.prog 25 #[.slice ao n c0] w fun r w' => ∃ (lv : Value) (es : List (Value × Value × En)), r = .returned (.tuple #[lv, .int .i64 0]) ∧ xsOf es = l ∧ EOwns w.heap.size w' lv es ∧ es.length ≤ 65535 ∧ w.grownBy w' none := by
  have hS : S ≤ 4096 := by have := hr.2.1; omega
  have hpl := pageB_len hf
  have hla := laid_page ho hr hf
  refine (get_any w B ao n c0 _ h hB (pageB_byt ho S) (by omega)).mono ?_
  rintro r w' (⟨lv, es, e, h1, h2, h3, h4, h5⟩ | ⟨_, h2, _⟩)
  · refine ⟨lv, es, e, ?_, h3, h4, h5⟩
    exact laid_uniq h1 hla
  · exact absurd (by rw [hpl]; exact hr) (h2 l hla)

end Go.Proofs.Ytfencmidjolgfaa
