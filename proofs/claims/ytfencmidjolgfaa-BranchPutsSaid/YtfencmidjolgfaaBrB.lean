/-
  Layer 5: a slice of branch's entries; the contracts of branch's Fill, rightNext and Right. Own work.
-/
import Derived.Test.YtfencmidjolgfaaLefC
import Derived.Test.YtfencmidjolgfaaBrM
import Derived.Deep.Cut
namespace Go.Proofs.Ytfencmidjolgfaa
open Go.RowKit

/-- The cells of an entry. -/
abbrev bcs (k : Value) (f : Int) : Array Value := #[k, .int .u32 f]

/-- The two cells at o of block b are the entry x; its bytes lie below block B. -/
def BEnAt (B : Nat) (w : World) (b o : Nat) (x : En) : Prop :=
  ∃ a1 c1, Seq B w (.slice a1 x.key.length c1) x.key ∧ BOk x ∧ w.cell? ⟨b, o, none⟩ = some (.slice a1 x.key.length c1) ∧ w.cell? ⟨b, o + 1, none⟩ = some (.int .u32 x.first)
/-- The value v is a slice of the entries l; all lies below block B. -/
def BEnts (B : Nat) (w : World) (v : Value) (l : List En) : Prop :=
  ∃ ao c, v = .slice ao l.length c ∧ l.length ≤ c ∧ c ≤ maxLen ∧ l.length ≤ 100000 ∧ (l ≠ [] → ∃ b o, ao = some ⟨b, o, none⟩ ∧ b < B ∧ ∀ i x, l[i]? = some x → BEnAt B w b (o + i * 2) x)
theorem BEnAt.below {B b o : Nat} {w w' : World} {x : En} (h : BEnAt B w b o x) (hb : b < B) (k : ∀ i, i < B → w'.heap[i]? = w.heap[i]?) : BEnAt B w' b o x := by
  obtain ⟨a1, c1, h1, h3, q0, q1⟩ := h
  have hc : ∀ o, w'.cell? ⟨b, o, none⟩ = w.cell? ⟨b, o, none⟩ := fun o => World.cell?_of_block (w := w) (k b hb)
  exact ⟨a1, c1, h1.below k, h3, (hc _).trans q0, (hc _).trans q1⟩
theorem BEnAt.mono {B B' b o : Nat} {w : World} {x : En} (h : BEnAt B w b o x) (k : B ≤ B') : BEnAt B' w b o x := by
  obtain ⟨a1, c1, h1, h3⟩ := h
  exact ⟨a1, c1, h1.mono k, h3⟩
theorem BEnts.below {B : Nat} {w w' : World} {v : Value} {l : List En} (h : BEnts B w v l) (k : ∀ i, i < B → w'.heap[i]? = w.heap[i]?) : BEnts B w' v l := by
  obtain ⟨ao, c, hv, h1, h2, h3, h4⟩ := h
  refine ⟨ao, c, hv, h1, h2, h3, fun hne => ?_⟩
  obtain ⟨b, o, ha, hb, hc⟩ := h4 hne
  exact ⟨b, o, ha, hb, fun i x hx => (hc i x hx).below hb k⟩
theorem BEnts.mono {B B' : Nat} {w : World} {v : Value} {l : List En} (h : BEnts B w v l) (k : B ≤ B') : BEnts B' w v l := by
  obtain ⟨ao, c, hv, h1, h2, h3, h4⟩ := h
  refine ⟨ao, c, hv, h1, h2, h3, fun hne => ?_⟩
  obtain ⟨b, o, ha, hb, hc⟩ := h4 hne
  exact ⟨b, o, ha, by omega, fun i x hx => (hc i x hx).mono k⟩
theorem BEnts.grown {B : Nat} {w w' : World} {v : Value} {l : List En} (h : BEnts B w v l) (k : w.grownBy w' none) (hB : B ≤ w.heap.size) : BEnts B w' v l := h.below fun i hi => k.block i (by omega) (by simp)
theorem BEnts.len {B : Nat} {w : World} {ao : Option Addr} {n c : Nat} {l : List En} (h : BEnts B w (.slice ao n c) l) : n = l.length := by
  obtain ⟨_, _, hv, _⟩ := h; injection hv
theorem BEnts.few {B : Nat} {w : World} {v : Value} {l : List En} (h : BEnts B w v l) : l.length ≤ 100000 := by obtain ⟨_, _, _, _, _, h3, _⟩ := h; exact h3
theorem BEnts.shape {B : Nat} {w : World} {v : Value} {l : List En} (h : BEnts B w v l) : ∃ ao c, v = .slice ao l.length c := by
  obtain ⟨ao, c, hv, _⟩ := h; exact ⟨ao, c, hv⟩
theorem BEnts.at {B : Nat} {w : World} {ao : Option Addr} {n c : Nat} {l : List En} (h : BEnts B w (.slice ao n c) l) (i : Nat) (x : En) (hx : l[i]? = some x) :
    ∃ b o, ao = some ⟨b, o, none⟩ ∧ b < B ∧ BEnAt B w b (o + i * 2) x := by
  obtain ⟨ao', c', hv, h1, h2, h3, h4⟩ := h
  cases hv
  obtain ⟨b, o, ha, hb, hc⟩ := h4 (by rintro rfl; simp at hx)
  exact ⟨b, o, ha, hb, hc i x hx⟩
theorem BEnts.nil (B : Nat) (w : World) : BEnts B w (.slice none 0 0) [] := ⟨none, 0, rfl, Nat.le_refl _, by decide, by decide, fun h => absurd rfl h⟩
theorem BEnts.take {B : Nat} {w : World} {ao : Option Addr} {n c : Nat} {l : List En} (h : BEnts B w (.slice ao n c) l) (k : Nat) (hk : k ≤ l.length) : BEnts B w (.slice ao k c) (l.take k) := by
  obtain ⟨ao', c', hv, h1, h2, h3, h4⟩ := h
  cases hv
  have hl : (l.take k).length = k := by simp; omega
  refine ⟨ao, c, by rw [hl], by omega, h2, by omega, fun hne => ?_⟩
  obtain ⟨b, o, ha, hb, hc⟩ := h4 (by rintro rfl; simp at hne)
  refine ⟨b, o, ha, hb, fun i x hx => hc i x ?_⟩
  rw [List.getElem?_take] at hx
  split at hx
  · exact hx
  · cases hx


set_option maxHeartbeats 800000 in
theorem bfill_any (w : World) (B : Nat) (ao : Option Addr) (n c : Nat) (l : List En) (h : BEnts B w (.slice ao n c) l) (hB : B ≤ w.heap.size) :
    Calls Try.prog 37 #[.slice ao n c] w fun r w' => r = .returned (.int .i64 (fillL brY l)) ∧ w.grownBy w' none := by
  have hn : n = l.length := h.len
  have hs := h.few
  have hs1 : n ≤ 100000 := by omega
  have HN := Lib.hid hn
  have H := Lib.hid h
  clear hn hs h
  go_enter Try.func37, Try.ntmps37
  go_wp2
  go_loopw [3, 8] (fun s i wr => ∃ k : Nat, k ≤ n ∧ i = .int .i64 k ∧ s = .int .i64 (fillK brY l k) ∧ fillK brY l k ≤ 4 + 200006 * k ∧ w.grownBy wr none) (fun _ i _ => n - (intOf i).toNat)
  case atStart => exact ⟨0, Nat.zero_le _, rfl, rfl, Nat.le_refl _, grefl _ _⟩
  case round =>
    obtain ⟨k, hk, rfl, rfl, hf, hg⟩ := hrel
    have HG := Lib.hid hg
    clear hg
    by_cases hlt : k < n
    · obtain ⟨x, hx⟩ : ∃ x, l[k]? = some x := ⟨_, List.getElem?_eq_getElem (by have := HN.out; omega)⟩
      obtain ⟨b, o, rfl, hb, a1, c1, h1, h3, q0, q1⟩ := (H.out.grown HG.out hB).at k x hx
      have HK := Lib.hid (bfillK_snoc hx)
      have hcl := bcl_le h3
      have hkl := h3.ok.kl
      obtain ⟨N1, hN1⟩ : ∃ N, N = x.key.length := ⟨_, rfl⟩
      have hz : bcl x = 5 + N1 := by rw [hN1]; rfl
      obtain ⟨f, hf'⟩ : ∃ f, f = fillK brY l k := ⟨_, rfl⟩
      rw [← hf'] at hf ⊢
      rw [← hN1] at q0 hkl
      have HZ := Lib.hid hz
      have HF := Lib.hid hf'
      clear hz hf' h1 h3 hx hN1 hcl
      go_wp2
      go_roundw
      case rel => exact ⟨k + 1, by omega, by go_num, by rw [HK.out, ← HF.out, HZ.out, show f + (2 + (5 + N1)) = f + (7 + N1) by omega]; go_num, by rw [HK.out, ← HF.out, HZ.out]; omega, gtrans HG.out (World.grownBy_alloc _ _ _)⟩
      case measure => simp [intOf]; omega
    · obtain rfl : k = n := by omega
      go_wp2
      go_ret
      exact ⟨by rw [HN.out]; rfl, HG.out⟩

theorem two_cells2 {w : World} {q : Nat} {a b : Value} {t : TypeId} (h : w.heap[q]? = some (.cells #[a, b] t (0, 0))) : w.cell? ⟨q, 0, none⟩ = some a ∧ w.cell? ⟨q, 1, none⟩ = some b := by
  refine ⟨?_, ?_⟩ <;> simp [World.cell?, h]
def nextB (key next : List Int) : Bool := decide (1 ≤ next.length) && decide (next.length ≤ 96) && decide (cmpL key next < 0)
set_option maxHeartbeats 800000 in
theorem next_ok (w : World) (B C : Nat) (a1 a2 : Option Addr) (n1 c1 n2 c2 : Nat) (xs ys : List Int) (h1 : Seq B w (.slice a1 n1 c1) xs) (h2 : Seq C w (.slice a2 n2 c2) ys) :
    Calls Try.prog 57 #[.slice a1 n1 c1, .slice a2 n2 c2] w fun r w' => r = .returned (.bool (nextB xs ys)) ∧ w = w' := by
  have e2 : n2 = ys.length := by obtain ⟨_, _, hv, _⟩ := h2; injection hv
  have H1 := Lib.hid h1
  have H2 := Lib.hid h2
  have HE := Lib.hid e2
  clear h1 h2 e2
  by_cases hk : 1 ≤ n2 ∧ n2 ≤ 96
  · obtain ⟨hk1, hk2⟩ := hk
    obtain ⟨z, hz⟩ : ∃ z, z = cmpL xs ys := ⟨_, rfl⟩
    have HZ := Lib.hid hz
    have HR := Lib.hid (show nextB xs ys = decide (z < 0) by unfold nextB; rw [← HE.out, hz]; simp [hk1, hk2])
    clear hz
    go_enter Try.func57, Try.ntmps57
    go_wp2_with (first
      | (go_at_call 47; refine (rkey_yes _ _ _ _ hk1 hk2).mono ?_; rintro r w1 ⟨rfl, rfl⟩)
      | (go_at_call 49; refine (compare_any _ _ _ _ _ _ _ _ _ _ _ H1.out H2.out).mono ?_; rintro r w1 ⟨rfl, rfl⟩; rw [← HZ.out]))
    go_ret
    exact ⟨by rw [HR.out]; rfl, rfl⟩
  · have HR := Lib.hid (show nextB xs ys = false by unfold nextB; rw [← HE.out]; simp; omega)
    have HK := Lib.hid hk
    clear hk
    go_enter Try.func57, Try.ntmps57
    go_wp2_with (go_at_call 47; refine (rkey_no _ _ _ _ HK.out).mono ?_; rintro r w1 ⟨rfl, rfl⟩)
    go_ret
    exact ⟨by rw [HR.out]; rfl, rfl⟩

theorem next_is (w : World) (B C : Nat) (a1 a2 : Option Addr) (n1 c1 n2 c2 : Nat) (xs ys : List Int) (h1 : Seq B w (.slice a1 n1 c1) xs) (h2 : Seq C w (.slice a2 n2 c2) ys) {b : Bool} (hb : nextB xs ys = b) :
    Calls Try.prog 57 #[.slice a1 n1 c1, .slice a2 n2 c2] w fun r w' => r = .returned (.bool b) ∧ w = w' := by
  subst hb; exact next_ok w B C a1 a2 n1 c1 n2 c2 xs ys h1 h2

/-- What Right tells. -/
def BRightR (l : List En) (size : Int) (w w' : World) (r : Ending) : Prop := ∃ b, r = .returned (.bool b) ∧ (b = true ↔ BRightP l size) ∧ w.grownBy w' none

set_option maxRecDepth 100000 in
set_option maxHeartbeats 4000000 in
theorem bright_any (w : World) (B : Nat) (ao : Option Addr) (n c : Nat) (l : List En) (size : Int) (h : BEnts B w (.slice ao n c) l) (hB : B ≤ w.heap.size) :
    Calls Try.prog 36 #[.slice ao n c, .int .i64 size] w fun r w' => BRightR l size w w' r := by
  have hn : n = l.length := h.len
  have hf := h.few
  have hn1 : n ≤ 100000 := by omega
  have HN := Lib.hid hn
  have H := Lib.hid h
  clear hn hf h
  by_cases hs : 512 ≤ size ∧ size ≤ 4096
  · obtain ⟨hs1, hs2⟩ := hs
    by_cases h2 : 2 ≤ n
    · have hd1 : decide ((n : Int) < 2) = false := by simp; omega
      have hd2 : decide (n < 2) = false := by simp; omega
      have h0n : (0 : Int) < (n : Int) := by omega
      have h0m : 0 < n := by omega
      obtain ⟨x0, hx0⟩ : ∃ x, l[0]? = some x := ⟨_, List.getElem?_eq_getElem (by have := HN.out; omega)⟩
      obtain ⟨b, o, rfl, hb, a0, c0, s0, k0, q0, q1⟩ := H.out.at 0 x0 hx0
      simp only [Nat.zero_mul, Nat.add_zero] at q0 q1
      have HX0 := Lib.hid hx0
      obtain ⟨N0, hN0⟩ : ∃ N, N = x0.key.length := ⟨_, rfl⟩
      have hN09 := k0.ok.kl
      rw [← hN0] at q0 hN09
      have HN0 := Lib.hid hN0
      clear hx0 s0 k0 hN0
      by_cases hz : N0 = 0
      · subst hz
        have HE0 := Lib.hid (show ∀ x, l[0]? = some x → x.key = [] from fun x hx => by rw [HX0.out] at hx; cases hx; exact List.eq_nil_of_length_eq_zero HN0.out.symm)
        have HR := Lib.hid (show BTo l l.length ↔ BRightP l size from ⟨fun h => ⟨hs1, hs2, by rw [← HN.out]; exact h2, HE0.out, h⟩, fun h => h.2.2.2.2⟩)
        clear HN0
        go_enter Try.func36, Try.ntmps36
        go_wp2_with (go_at_call 46; refine (lsize_yes _ _ hs1 hs2).mono ?_; rintro r w1 ⟨rfl, rfl⟩)
        clear q0 q1
        go_loopw [25] (fun i wr => ∃ k : Nat, k ≤ n ∧ i = .int .i64 k ∧ BTo l k ∧ w.grownBy wr none) (fun i _ => n - (intOf i).toNat)
        case atStart => exact ⟨0, Nat.zero_le _, rfl, BTo.zero _, grefl _ _⟩
        case round =>
          obtain ⟨k, hk, rfl, hr, hg⟩ := hrel
          have HG := Lib.hid hg
          have HRT := Lib.hid hr
          clear hg hr
          by_cases hlt : k < n
          · obtain ⟨x, hx⟩ : ∃ x, l[k]? = some x := ⟨_, List.getElem?_eq_getElem (by have := HN.out; omega)⟩
            have HE := Lib.hid (H.out.grown HG.out hB)
            obtain ⟨b', o', hbo, hb', a1, c1, s1, k1, q0, q1⟩ := HE.out.at k x hx
            injection hbo with hbo
            injection hbo with e1 e2
            subst e1 e2
            have HX := Lib.hid hx
            have S1 := Lib.hid s1
            clear s1 k1 hx
            by_cases hc2 : 2 ≤ x.first
            · have hd3 : decide (x.first < 2) = false := by simp; omega
              by_cases hk0 : k = 0
              · subst hk0
                simp only [Nat.zero_mul, Nat.add_zero] at q0 q1
                go_wp2
                go_quiet (fail)
                go_wp2
                go_roundw
                case rel => exact ⟨1, by omega, by go_num, HRT.out.snoc HX.out hc2 (fun i y hi => by omega), gtrans HG.out (gtrans (World.grownBy_alloc _ _ _) ⟨rfl, rfl, rfl, Nat.le_refl _, fun _ _ _ => rfl⟩)⟩
                case measure => simp [intOf]; omega
              · obtain ⟨y, hy⟩ : ∃ y, l[k - 1]? = some y := ⟨_, List.getElem?_eq_getElem (by have := HN.out; omega)⟩
                obtain ⟨b3, o3, hbo, _, a3, c3, s3, k3, p0, _⟩ := HE.out.at (k - 1) y hy
                injection hbo with hbo
                injection hbo with e1 e2
                subst e1 e2
                have HY := Lib.hid hy
                have hpos : (0 : Int) < (k : Int) := by omega
                have hdp : decide ((0 : Int) < (k : Int)) = true := by simpa using hpos
                have hdn : decide (0 < k) = true := by simp; omega
                have hbw := HG.out.size
                have hga := World.grownBy_alloc wr (.cells (bcs (.slice a1 x.key.length c1) x.first) 79) none
                have hkz : ∀ i, i < B → (wr.alloc (.cells (bcs (.slice a1 x.key.length c1) x.first) 79)).heap[i]? = wr.heap[i]? := fun i hi => hga.block i (by omega) (by simp)
                have T1 := Lib.hid (S1.out.below hkz)
                have T3 := Lib.hid (s3.below hkz)
                have hnz := heap_alloc_new wr (.cells (bcs (.slice a1 x.key.length c1) x.first) 79)
                have z0 : (wr.alloc (.cells (bcs (.slice a1 x.key.length c1) x.first) 79)).cell? ⟨wr.heap.size, 0, none⟩ = some (.slice a1 x.key.length c1) := (two_cells2 hnz).1
                have z1 : (wr.alloc (.cells (bcs (.slice a1 x.key.length c1) x.first) 79)).cell? ⟨b, o + (k - 1) * 2, none⟩ = some (.slice a3 y.key.length c3) := (World.cell?_of_block (w := wr) (hkz b hb')).trans p0
                have z2 : (wr.alloc (.cells (bcs (.slice a1 x.key.length c1) x.first) 79)).cell? ⟨wr.heap.size, 1, none⟩ = some (.int .u32 x.first) := (two_cells2 hnz).2
                have HGZ := Lib.hid hga
                have i1 : (0 : Int) ≤ (k : Int) - 1 := by omega
                have i2 : (k : Int) - 1 < (n : Int) := by omega
                have i3 : ((k : Int) - 1).toNat = k - 1 := by omega
                have i4 : IntKind.i64.wrap ((k : Int) - 1) = (k : Int) - 1 := IntWalk.i64_in _ (by omega)
                go_upto_region 6 with (fail)
                clear hga hnz hkz p0 s3 k3 hk0 hy q0 q1
                generalize wr.alloc (.cells (bcs (.slice a1 x.key.length c1) x.first) 79) = wz at *
                cases hnb : nextB y.key x.key with
                | true =>
                  have HC := Lib.hid (show 1 ≤ x.key.length ∧ x.key.length ≤ 96 ∧ cmpL y.key x.key < 0 by unfold nextB at hnb; simpa [and_assoc] using hnb)
                  have HNB := Lib.hid hnb
                  clear hnb
                  go_wp2
                  go_quiet ((go_at_call 57; exact quiet_now (next_is _ _ _ a3 a1 _ _ _ _ y.key x.key (T3.out.drewN _) (T1.out.drewN _) HNB.out)))
                  go_wp2
                  go_roundw
                  case rel => exact ⟨k + 1, by omega, by go_num, HRT.out.snoc HX.out hc2 (fun i y' hi hy' => by
                    obtain rfl : i = k - 1 := by omega
                    rw [HY.out] at hy'; cases hy'; exact HC.out), gtrans HG.out (gtrans HGZ.out ⟨rfl, rfl, rfl, Nat.le_refl _, fun _ _ _ => rfl⟩)⟩
                  case measure => simp [intOf]; omega
                | false =>
                  have HC := Lib.hid (show ¬ (1 ≤ x.key.length ∧ x.key.length ≤ 96 ∧ cmpL y.key x.key < 0) by
                    intro ⟨h1, h2, h3⟩
                    unfold nextB at hnb
                    simp [h1, h2, h3] at hnb)
                  have HNB := Lib.hid hnb
                  clear hnb
                  go_wp2
                  go_quiet ((go_at_call 57; exact quiet_now (next_is _ _ _ a3 a1 _ _ _ _ y.key x.key (T3.out.drewN _) (T1.out.drewN _) HNB.out)))
                  go_wp2
                  go_ret
                  exact ⟨false, rfl, ⟨(fun e => by cases e), fun e => absurd (((HR.out.2 e) k x (by have := HN.out; omega) HX.out).2 (k - 1) y (by omega) HY.out) HC.out⟩, gtrans HG.out (gtrans HGZ.out ⟨rfl, rfl, rfl, Nat.le_refl _, fun _ _ _ => rfl⟩)⟩
            · have hd3 : decide (x.first < 2) = true := by simp; omega
              have HC := Lib.hid hc2
              clear hc2
              go_wp2
              go_ret
              exact ⟨false, rfl, ⟨(fun e => by cases e), fun e => absurd ((HR.out.2 e) k x (by have := HN.out; omega) HX.out).1 (by have := HC.out; omega)⟩, gtrans HG.out (World.grownBy_alloc _ _ _)⟩
          · obtain rfl : k = n := by omega
            have HF := Lib.hid (show BRightP l size from HR.out.1 (by rw [← HN.out]; exact HRT.out))
            go_wp2
            go_ret
            exact ⟨true, rfl, ⟨fun _ => HF.out, fun _ => rfl⟩, HG.out⟩
      · have hd4 : decide ((0 : Int) < (N0 : Int)) = true := by simp; omega
        have hd5 : decide (0 < N0) = true := by simp; omega
        have HZ := Lib.hid hz
        clear hz
        go_enter Try.func36, Try.ntmps36
        go_wp2_with (go_at_call 46; refine (lsize_yes _ _ hs1 hs2).mono ?_; rintro r w1 ⟨rfl, rfl⟩)
        go_ret
        exact ⟨false, rfl, ⟨(fun e => by cases e), fun e => absurd (by rw [HN0.out, e.2.2.2.1 x0 HX0.out]; rfl) HZ.out⟩, grefl _ _⟩
    · have hd1 : decide ((n : Int) < 2) = true := by simp; omega
      have hd2 : decide (n < 2) = true := by simp; omega
      have H2 := Lib.hid h2
      clear h2
      go_enter Try.func36, Try.ntmps36
      go_wp2_with (go_at_call 46; refine (lsize_yes _ _ hs1 hs2).mono ?_; rintro r w1 ⟨rfl, rfl⟩)
      go_ret
      exact ⟨false, rfl, ⟨(fun e => by cases e), fun e => absurd (by rw [HN.out]; exact e.2.2.1) H2.out⟩, grefl _ _⟩
  · have HS := Lib.hid hs
    clear hs
    go_enter Try.func36, Try.ntmps36
    go_wp2_with (go_at_call 46; refine (lsize_no _ _ HS.out).mono ?_; rintro r w1 ⟨rfl, rfl⟩)
    go_ret
    exact ⟨false, rfl, ⟨(fun e => by cases e), fun e => absurd ⟨e.1, e.2.1⟩ HS.out⟩, grefl _ _⟩

end Go.Proofs.Ytfencmidjolgfaa
