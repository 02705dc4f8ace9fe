/-
  The contracts of octet's NewReader, take, next, Raw, End, Out. Own work.
-/
import Derived.Test.YtpgpilalhbdidaaOctB
namespace Go.Proofs.Ytpgpilalhbdidaa
open Go.RowKit

set_option maxHeartbeats 400000 in
theorem newR_any (w : World) (B : Nat) (v : Value) (bs : List Int) (hs : Seq B w v bs) (hB : B ≤ w.heap.size) (hl : bs.length ≤ 140737488355328) :
    Calls Try.prog 69 #[v] w fun r w' => ∃ g, r = .returned (.pointer (some ⟨g, 0, none⟩)) ∧ w.heap.size ≤ g ∧ RdAt w' g bs 0 ∧ w.grownBy w' none := by
  go_enter Try.func69, Try.ntmps69
  go_wp2_with (go_at_call 58; refine (clone_any _ _ _ _ hs hB hl).mono ?_; rintro r w1 ⟨ao, c, rfl, hown, hgr⟩)
  go_ret
  have hsz := hgr.size
  exact ⟨w1.heap.size, rfl, hsz, ⟨_, (Seq.owned hown).below (fun i hi => Below.heap_alloc _ _ _ hi), heap_alloc_new _ _⟩, gtrans hgr (World.grownBy_alloc _ _ _)⟩

set_option maxHeartbeats 400000 in
theorem take_any (w : World) (g : Nat) (bs : List Int) (e : Int) (k : Nat) (h : RdAt w g bs e) (hk : k ≤ bs.length) (_hl : bs.length ≤ 140737488355328) :
    Calls Try.prog 72 #[.pointer (some ⟨g, 0, none⟩), .int .i64 k] w fun r w' => ∃ v, r = .returned v ∧ Seq g w' v (bs.take k) ∧ RdAt w' g (bs.drop k) e ∧ w.grownBy w' (some g) := by
  obtain ⟨v, hs, hv⟩ := h
  have hs' := hs
  obtain ⟨ao, c, rfl, h1, h2, h3, h4⟩ := hs
  have hc0 := two_cell0 hv
  have hf0 := two_free0 hv
  unfold maxLen at h2
  go_enter Try.func72, Try.ntmps72
  go_wp2
  all_goals
    go_ret
  · have hck : c = k := by assumption
    subst hck
    exact ⟨_, rfl, (hs'.head _ hk).below (fun i hi => Below.heap_setCell _ _ _ _ (by simp; omega)), ⟨_, hs'.tail0.below (fun i hi => Below.heap_setCell _ _ _ _ (by simp; omega)), two_set0 hv⟩, gset _ _ _⟩
  · exact ⟨_, rfl, (hs'.head _ hk).below (fun i hi => Below.heap_setCell _ _ _ _ (by simp; omega)), ⟨_, (hs'.tail hk).below (fun i hi => Below.heap_setCell _ _ _ _ (by simp; omega)), two_set0 hv⟩, gset _ _ _⟩

theorem RdAt.set1 {w : World} {g : Nat} {bs : List Int} {e : Int} (h : RdAt w g bs e) (e' : Int) : RdAt (w.setCell ⟨g, 1, none⟩ (.int .i64 e')) g bs e' := by
  obtain ⟨v, hs, hv⟩ := h
  exact ⟨v, hs.below (fun i hi => Below.heap_setCell _ _ _ _ (by simp; omega)), two_set1 hv⟩

set_option maxHeartbeats 400000 in
theorem next_any (w : World) (g : Nat) (bs : List Int) (e n : Int) (right : Bool) (h : RdAt w g bs e) (hn : right = true → 0 ≤ n) (hl : bs.length ≤ 140737488355328) :
    Calls Try.prog 63 #[.pointer (some ⟨g, 0, none⟩), .int .i64 n, .bool right] w fun r w' => ∃ v, r = .returned v ∧ Seq g w' v (nx bs e n right).2.2 ∧ RdAt w' g (nx bs e n right).1 (nx bs e n right).2.1 ∧ w.grownBy w' (some g) := by
  by_cases he : e = 0
  · subst he
    cases right with
    | false =>
      have hx : nx bs 0 n false = (bs, 1, []) := by simp [nx]
      have H := Lib.hid h
      obtain ⟨v, hs, hv⟩ := h
      have hc1 := two_cell1 hv
      have hf1 := two_free1 hv
      clear hs hv hn
      rw [hx]
      clear hx
      go_enter Try.func63, Try.ntmps63
      go_wp2_with (go_at_call 70; refine (err_any _ _ _ _ H.out).mono ?_; rintro r w1 ⟨rfl, rfl⟩)
      go_ret
      exact ⟨_, rfl, seq_nil _ _, H.out.set1 _, gset _ _ _⟩
    | true =>
      have hn := hn rfl
      obtain ⟨k, rfl⟩ := Int.eq_ofNat_of_zero_le hn
      clear hn
      by_cases hk : k ≤ bs.length
      · have hx : nx bs 0 (k : Int) true = (bs.drop k, 0, bs.take k) := by
          have : ¬ (bs.length : Int) < k := by omega
          simp [nx, this]
        have H := Lib.hid h
        obtain ⟨v, hs, hv⟩ := h
        obtain ⟨ao, c, rfl, _⟩ := hs
        have hc0 := two_cell0 hv
        clear hv
        rw [hx]
        clear hx
        go_enter Try.func63, Try.ntmps63
        go_wp2_with (first | (go_at_call 70; refine (err_any _ _ _ _ H.out).mono ?_; rintro r w1 ⟨rfl, rfl⟩) | (go_at_call 72; refine (take_any _ _ _ _ _ H.out hk hl).mono ?_; rintro r w1 ⟨v1, rfl, hs1, hr1, hg1⟩))
        go_ret
        exact ⟨_, rfl, hs1, hr1, hg1⟩
      · have hx : nx bs 0 (k : Int) true = (bs, 10, []) := by
          have : (bs.length : Int) < k := by omega
          simp [nx, this]
        have H := Lib.hid h
        obtain ⟨v, hs, hv⟩ := h
        have hc1 := two_cell1 hv
        have hf1 := two_free1 hv
        obtain ⟨ao, c, rfl, _⟩ := hs
        have hc0 := two_cell0 hv
        clear hv
        rw [hx]
        clear hx
        go_enter Try.func63, Try.ntmps63
        go_wp2_with (go_at_call 70; refine (err_any _ _ _ _ H.out).mono ?_; rintro r w1 ⟨rfl, rfl⟩)
        go_ret
        exact ⟨_, rfl, seq_nil _ _, H.out.set1 _, gset _ _ _⟩
  · have hx : nx bs e n right = (bs, e, []) := by simp [nx, he]
    rw [hx]
    clear hx hn
    go_enter Try.func63, Try.ntmps63
    go_wp2_with (go_at_call 70; refine (err_any _ _ _ _ h).mono ?_; rintro r w1 ⟨rfl, rfl⟩)
    go_ret
    exact ⟨_, rfl, seq_nil _ _, h, grefl _ _⟩

end Go.Proofs.Ytpgpilalhbdidaa
