/-
  Layer 4: the contract of Get; a page that was put is got. Own work.
-/
import Derived.Test.YtnodclijlhoobaaLefN
namespace Go.Proofs.Ytnodclijlhoobaa
open Go.RowKit

/-- What Get tells. -/
def GetR (b : List Int) (w w' : World) (r : Ending) : Prop :=
  (∃ (lv : Value) (es : List (Value × Value × En)), r = .returned (.tuple #[lv, .int .i64 0]) ∧ Laid b (xsOf es) ∧ RightP (xsOf es) (b.length : Int) ∧ EOwns w.heap.size w' lv es ∧ es.length ≤ 65535 ∧ w.grownBy w' none) ∨
  (r = .returned (.tuple #[.slice none 0 0, .int .i64 11]) ∧ (∀ L, Laid b L → ¬ RightP L (b.length : Int)) ∧ w.grownBy w' none)

set_option maxHeartbeats 2000000 in
theorem get_any (w : World) (B : Nat) (ao : Option Addr) (n c0 : Nat) (b : List Int) (h : Seq B w (.slice ao n c0) b) (hB : B ≤ w.heap.size) (hb : Byt b) (hl : b.length ≤ 140737488355328) :
    Calls Try.prog 43 #[.slice ao n c0] w fun r w' => GetR b w w' r := by
  have hnl : n = b.length := by obtain ⟨_, _, hv, _⟩ := h; injection hv
  have H := Lib.hid (entries_any w B ao n c0 b h hB hb hl)
  have HN := Lib.hid hnl
  clear h hb hl hnl
  go_enter Try.func43, Try.ntmps43
  go_wp2_with fail
  refine H.out.mono ?_
  rintro r w1 ⟨lv, es, ok, rfl, h1, h2, h3, h4, h5⟩
  obtain ⟨la, lc, rfl⟩ := own_shape h3.row
  have HE := Lib.hid h3
  have HG := Lib.hid h5
  have HEN := Lib.hid (h3.ents (by omega))
  have H1 := Lib.hid h1
  have H2 := Lib.hid h2
  clear h1 h2 h3 h5
  cases ok with
  | false =>
    have HNO := Lib.hid (show ∀ L, Laid b L → ¬ RightP L (b.length : Int) from fun L hL => absurd (H2.out L hL).1 (by decide))
    clear H1 H2
    go_wp2
    go_ret2
    exact .inr ⟨rfl, HNO.out, HG.out⟩
  | true =>
    by_cases hr : RightP (xsOf es) (b.length : Int)
    · have HR := Lib.hid hr
      have HLa := Lib.hid (H1.out rfl (by have := hr.2.1; omega))
      clear hr H1 H2
      go_wp2_with (go_at_call 37; have Kc := right_yes (size := (n : Int)) HEN.out (Nat.le_refl _) (by rw [HN.out]; exact HR.out); ((with_reducible refine Kc.mono ?_); clear Kc; rintro r w2 ⟨rfl, hg⟩); have HE2 := Lib.hid (HE.out.grown hg); have HG2 := Lib.hid (gtrans HG.out hg); clear hg)
      go_ret2
      exact .inl ⟨_, es, rfl, HLa.out, HR.out, HE2.out, h4, HG2.out⟩
    · have HR := Lib.hid hr
      have HNO := Lib.hid (show ∀ L, Laid b L → ¬ RightP L (b.length : Int) from fun L hL => by rw [← (H2.out L hL).2]; exact hr)
      clear hr H1 H2
      go_wp2_with (go_at_call 37; have Kc := right_no (size := (n : Int)) HEN.out (Nat.le_refl _) (by rw [HN.out]; exact HR.out); ((with_reducible refine Kc.mono ?_); clear Kc; rintro r w2 ⟨rfl, hg⟩); have HG2 := Lib.hid (gtrans HG.out hg); clear hg)
      go_ret2
      exact .inr ⟨rfl, HNO.out, HG2.out⟩

theorem cellB_byt {x : En} (h : EnOk x) : Byt (cellB x) := by
  unfold cellB
  split
  · exact ((((numB_byt _ _ _).app h.k).app (numB_byt _ _ _)).app (numB_byt _ _ _)).app (numB_byt _ _ _)
  · exact ((((numB_byt _ _ _).app h.k).app (numB_byt _ _ _)).app (numB_byt _ _ _)).app h.v
theorem rep_byt (n : Nat) : Byt (List.replicate n 0) := fun x hx => by rw [List.eq_of_mem_replicate hx]; omega
theorem tlB_byt {l : List En} (h : ∀ x ∈ l, EnOk x) : ∀ k, Byt (tlB l k)
  | 0 => fun x hx => by cases hx
  | k + 1 => by
    rcases hx : l[k]? with _ | x
    · rw [tlB, hx]; exact tlB_byt h k
    · rw [tlB_snoc hx]; exact (cellB_byt (h x (List.mem_of_getElem? hx))).app (tlB_byt h k)
theorem hdB_byt (l : List En) (S : Nat) : ∀ k, Byt (hdB l S k)
  | 0 => by
    rw [hdB]
    have h0 : Byt [] := fun x hx => by cases hx
    exact ((h0.app (numB_byt _ _ _)).app (numB_byt _ _ _)).app (numB_byt _ _ _)
  | k + 1 => by rw [hdB]; exact (hdB_byt l S k).app (numB_byt _ _ _)
theorem pageB_byt {l : List En} (h : ∀ x ∈ l, EnOk x) (S : Nat) : Byt (pageB l S) := (hdB_byt l S _).app ((rep_byt _).app (tlB_byt h _))
/-- A page that is put is laid as one. -/
theorem laid_page {l : List En} {S : Nat} (h : ∀ x ∈ l, EnOk x) (hr : RightP l (S : Int)) (hf : fillL l ≤ S) : Laid (pageB l S) l := by
  have hS : S ≤ 4096 := by have := hr.2.1; omega
  have hpl := pageB_len hf
  refine ⟨fun x hx => ?_, ?_, by omega, by omega, by rw [hpl]⟩
  · obtain ⟨i, hi⟩ := List.getElem?_of_mem hx
    have hil : i < l.length := (List.getElem?_eq_some_iff.1 hi).1
    obtain ⟨⟨h1, h2, h3, h4⟩, _⟩ := hr.2.2 i x hil hi
    have ho := h x hx
    have hm : mostI (S : Int) ≤ 1021 := by unfold mostI; omega
    refine ⟨ho.k, ho.v, by omega, fun hp => ?_, fun hp => ?_⟩
    · rw [rvB, if_pos hp] at h3
      simp at h3
      exact ⟨by rw [h3.1.1], by omega, by omega, by have := ho.f1; omega⟩
    · rw [rvB, if_neg hp] at h3
      rw [cl_here hp] at h4
      simp at h3
      have := ho.f0
      exact ⟨by omega, h3, by omega⟩
  · unfold fillL fillK at hf
    omega
theorem Ents.ok {B : Nat} {w : World} {v : Value} {l : List En} (h : Ents B w v l) : ∀ x ∈ l, EnOk x := by
  intro x hx
  obtain ⟨i, hi⟩ := List.getElem?_of_mem hx
  obtain ⟨ao, c, rfl⟩ := h.shape
  obtain ⟨b, o, _, _, a1, c1, a2, c2, _, _, h3, _⟩ := h.at i x hi
  exact h3
theorem seq_page {w : World} {b S : Nat} {bs : List Int} (h : w.heap[b]? = some (.cells (bs.map (Value.int .u8)).toArray 5 (0, 0))) (hl : bs.length = S) (hm : S ≤ maxLen) : Seq w.heap.size w (.slice (some ⟨b, 0, none⟩) S S) bs := by
  refine ⟨_, S, by rw [hl], by omega, hm, by simp, fun _ => ⟨b, 0, rfl, lt_of_block h, fun j hj => ?_⟩⟩
  simp [World.cell?, h, hj, List.getD_eq_getElem?_getD]
/-- A page is that of one list of entries alone. -/
theorem laid_uniq {b : List Int} {l m : List En} (h : Laid b l) (k : Laid b m) : l = m := by
  have hb : (plB l b.length l.length).length + 4 ≤ b.length := by have := h.fill; unfold fillL fillK at this; rw [plB_len]; omega
  obtain ⟨r1, p1, _⟩ := page_head h
  obtain ⟨r2, p2, _⟩ := page_head k
  have hlen : l.length = m.length := by
    have e := p1.symm.trans p2
    have e2 := List.append_inj e (by simp [numB_len])
    have e3 := List.append_inj e2.1 rfl
    have e4 := congrArg beVal e3.2
    have := h.few; have := k.few
    rw [be2 (by omega) (by omega), be2 (by omega) (by omega)] at e4
    omega
  have key : ∀ n, n ≤ l.length → l.take n = m.take n ∧ cs l n = cs m n := by
    intro n
    induction n with
    | zero => intro _; exact ⟨rfl, rfl⟩
    | succ n ih =>
      intro hn
      obtain ⟨i1, i2⟩ := ih (by omega)
      obtain ⟨x, hx⟩ : ∃ x, l[n]? = some x := ⟨_, List.getElem?_eq_getElem (by omega)⟩
      obtain ⟨y, hy⟩ : ∃ y, m[n]? = some y := ⟨_, List.getElem?_eq_getElem (by omega)⟩
      have hcx := cs_snoc hx
      have hcy := cs_snoc hy
      have hmx := cs_mono l (show n + 1 ≤ l.length by omega)
      have hmy := cs_mono m (show n + 1 ≤ m.length by omega)
      have hfl := h.fill
      have hfm := k.fill
      unfold fillL fillK at hfl hfm
      have hc : cs l (n + 1) = cs m (n + 1) := by
        obtain ⟨s1, q1⟩ := plB_split (l := l) (size := b.length) (n := l.length) (k := n) (by omega)
        obtain ⟨s2, q2⟩ := plB_split (l := m) (size := b.length) (n := m.length) (k := n) (by omega)
        rw [q1] at p1
        rw [q2] at p2
        have e := p1.symm.trans p2
        have e2 := List.append_inj e (by simp [numB_len])
        have e3 := e2.2
        simp only [List.append_assoc] at e3
        have e4 := List.append_inj e3 (by rw [plB_len, plB_len])
        have e5 := List.append_inj e4.2 (by rw [numB_len, numB_len])
        have e6 := congrArg beVal e5.1
        have := h.small
        rw [be2 (by omega) (by omega), be2 (by omega) (by omega)] at e6
        omega
      have hcell1 := page_cell h hx
      have hcell2 := page_cell k hy
      rw [hc, show cl x = cl y by omega] at hcell1
      have : x = y := cellB_inj (c := cellB x) ⟨rfl, h.got x (List.mem_of_getElem? hx)⟩ ⟨hcell1.symm.trans hcell2, k.got y (List.mem_of_getElem? hy)⟩
      subst this
      exact ⟨by rw [List.take_add_one, List.take_add_one, i1, hx, hy], hc⟩
  have := (key l.length (Nat.le_refl _)).1
  rw [List.take_length, hlen, List.take_length] at this
  exact this
/-- A page is got as it was put. -/
theorem get_back {w : World} {B : Nat} {ao : Option Addr} {n c0 : Nat} {l : List En} {S : Nat} (h : Seq B w (.slice ao n c0) (pageB l S)) (hB : B ≤ w.heap.size) (ho : ∀ x ∈ l, EnOk x) (hr : RightP l (S : Int)) (hf : fillL l ≤ S) :
    Calls Try.prog 43 #[.slice ao n c0] w fun r w' => ∃ (lv : Value) (es : List (Value × Value × En)), r = .returned (.tuple #[lv, .int .i64 0]) ∧ xsOf es = l ∧ EOwns w.heap.size w' lv es ∧ es.length ≤ 65535 ∧ w.grownBy w' none := by
  have hS : S ≤ 4096 := by have := hr.2.1; omega
  have hpl := pageB_len hf
  have hla := laid_page ho hr hf
  refine (get_any w B ao n c0 _ h hB (pageB_byt ho S) (by omega)).mono ?_
  rintro r w' (⟨lv, es, e, h1, h2, h3, h4, h5⟩ | ⟨_, h2, _⟩)
  · refine ⟨lv, es, e, ?_, h3, h4, h5⟩
    exact laid_uniq h1 hla
  · exact absurd (by rw [hpl]; exact hr) (h2 l hla)

end Go.Proofs.Ytnodclijlhoobaa
