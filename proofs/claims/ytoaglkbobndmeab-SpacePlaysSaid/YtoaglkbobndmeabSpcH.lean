/-
  Layer 8: a space, and what Usable, End, Fresh and inUse tell. Own work.
-/
import Derived.Test.YtoaglkbobndmeabSpcG
namespace Go.Proofs.Ytoaglkbobndmeab
open Go.RowKit Go.Maps

structure Sp where
  en : Nat
  lim : Nat
  low : Nat
  us : List Nat
  fr : List Nat
  go : List Nat
  wa : List Nat
  ws : List Rc
/-- Its waiting records lie behind it, below block H. -/
def SpAt (B H : Nat) (w : World) (M : Sp) : Prop := ∃ wv, Fiv B w M.en M.lim M.low M.us M.fr M.go M.wa wv ∧ RSq (fun b => B + 5 ≤ b ∧ b < H) w wv M.ws
/-- All but a space's own blocks is as it was. -/
structure Sfr (B : Nat) (w w' : World) : Prop where
  os : w'.os = w.os
  tape : w'.tape = w.tape
  output : w'.output = w.output
  size : w.heap.size ≤ w'.heap.size
  block : ∀ i, i < w.heap.size → (i < B ∨ B + 5 ≤ i) → w'.heap[i]? = w.heap[i]?
theorem Sfr.refl (B : Nat) (w : World) : Sfr B w w := ⟨rfl, rfl, rfl, Nat.le_refl _, fun _ _ _ => rfl⟩
theorem Sfr.trans {B : Nat} {a b c : World} (h : Sfr B a b) (k : Sfr B b c) : Sfr B a c :=
  ⟨k.os.trans h.os, k.tape.trans h.tape, k.output.trans h.output, Nat.le_trans h.size k.size, fun i hi hn => (k.block i (Nat.lt_of_lt_of_le hi h.size) hn).trans (h.block i hi hn)⟩
theorem Sfr.of {B : Nat} {w w' : World} (h : w.grownBy w' none) : Sfr B w w' := ⟨h.os, h.tape, h.output, h.size, fun i hi _ => h.block i hi (by simp)⟩
theorem Sfr.row {B r : Nat} {w w' : World} (h : w.grownBy w' (some r)) (h1 : B ≤ r) (h2 : r < B + 5) : Sfr B w w' := ⟨h.os, h.tape, h.output, h.size, fun i hi hn => h.block i hi (by intro e; injection e with e; omega)⟩
theorem Sfr.turn {B b : Nat} {w w' : World} (h : w.mapTurned w' b) (h1 : B ≤ b) (h2 : b < B + 5) : Sfr B w w' := Sfr.row h.grown h1 h2
theorem Sfr.grown {B : Nat} {w0 w w' : World} (g : w0.grownBy w none) (h : Sfr B w w') (hB : w0.heap.size ≤ B) : w0.grownBy w' none :=
  ⟨h.os.trans g.os, h.tape.trans g.tape, h.output.trans g.output, Nat.le_trans g.size h.size, fun i hi _ => (h.block i (Nat.lt_of_lt_of_le hi g.size) (.inl (by omega))).trans (g.block i hi (by simp))⟩
theorem RSq.sfr {B H : Nat} {w w' : World} {v : Value} {rs : List Rc} (h : RSq (fun b => B + 5 ≤ b ∧ b < H) w v rs) (k : Sfr B w w') : RSq (fun b => B + 5 ≤ b ∧ b < H) w' v rs := h.kept fun b hb hs => k.block b hs (.inr hb.1)
theorem SpAt.grown {B H : Nat} {w w' : World} {M : Sp} (h : SpAt B H w M) (k : w.grownBy w' none) : SpAt B H w' M := by
  obtain ⟨wv, h1, h2⟩ := h
  exact ⟨wv, h1.grown k, h2.grown k⟩

/-- What stands behind block H may change. -/
theorem SpAt.far {B H r : Nat} {w w' : World} {M : Sp} (h : SpAt B H w M) (k : w.grownBy w' (some r)) (hr : H ≤ r) (hB : B + 5 ≤ r) : SpAt B H w' M := by
  obtain ⟨wv, h1, h2⟩ := h
  exact ⟨wv, h1.kept fun i _ hi => k.block i (by have := h1.lt; omega) (by intro e; injection e with e; omega), h2.kept fun b hb hs => k.block b hs (by intro e; injection e with e; omega)⟩
theorem has_g (w : World) (b p : Nat) (L : List Nat) (h : SetAt w b L) (hp : p < 4294967296) (d : Bool) (hd : decide (p ∈ L) = d) :
    Calls Try.prog 26 #[.map (some b), .int .u32 (p : Int)] w fun r w' => r = .returned (.bool d) ∧ w.grownBy w' none := by
  subst hd
  refine (has_any w b p L h hp).mono ?_
  rintro r w' ⟨rfl, rfl⟩
  exact ⟨rfl, World.grownBy_alloc _ _ _⟩

set_option maxHeartbeats 400000 in
theorem end_any {H : Nat} (w : World) (B : Nat) (M : Sp) (h : SpAt B H w M) : Calls Try.prog 17 #[.pointer (some ⟨B + 4, 0, none⟩)] w fun r w' => r = .returned (.int .u32 (M.en : Int)) ∧ w = w' := by
  obtain ⟨wv, h1, h2⟩ := h
  obtain ⟨f0, -⟩ := h1.cells
  clear h1 h2
  go_enter Try.func17, Try.ntmps17
  go_wp2
  go_ret
  exact ⟨rfl, rfl⟩
set_option maxHeartbeats 400000 in
theorem end_nil (w : World) : Calls Try.prog 17 #[.pointer none] w fun r w' => r = .returned (.int .u32 0) ∧ w = w' := by
  go_enter Try.func17, Try.ntmps17
  go_wp2
  go_ret
  exact ⟨rfl, rfl⟩
set_option maxHeartbeats 400000 in
theorem usable_any {H : Nat} (w : World) (B : Nat) (M : Sp) (h : SpAt B H w M) : Calls Try.prog 21 #[.pointer (some ⟨B + 4, 0, none⟩)] w fun r w' => r = .returned (.int .i64 (M.us.length : Int)) ∧ w = w' := by
  obtain ⟨wv, h1, h2⟩ := h
  obtain ⟨-, -, -, f3, -⟩ := h1.cells
  have hown := h1.us.1
  clear h1 h2
  go_enter Try.func21, Try.ntmps21
  go_wp2_with (first
    | (at_len; refine wpList_len_own _ rfl _ 69 rfl 36 79 Try.underlying69 _ B _ _ rfl hown ?_)
    | go_in)
  go_ret
  rw [size_setD]
  exact ⟨rfl, rfl⟩
set_option maxHeartbeats 400000 in
theorem usable_nil (w : World) : Calls Try.prog 21 #[.pointer none] w fun r w' => r = .returned (.int .i64 0) ∧ w = w' := by
  go_enter Try.func21, Try.ntmps21
  go_wp2
  go_ret
  exact ⟨rfl, rfl⟩
set_option maxHeartbeats 400000 in
theorem fresh_any {H : Nat} (w : World) (B : Nat) (M : Sp) (h : SpAt B H w M) (p : Nat) (hp : p < 4294967296) : Calls Try.prog 16 #[.pointer (some ⟨B + 4, 0, none⟩), .int .u32 (p : Int)] w fun r w' => r = .returned (.bool (decide (p ∈ M.fr))) ∧ w.grownBy w' none := by
  obtain ⟨wv, h1, h2⟩ := h
  obtain ⟨-, -, -, -, f4, -⟩ := h1.cells
  have HS := Lib.hid h1.fr
  clear h1 h2
  obtain ⟨d, hd⟩ : ∃ d, decide (p ∈ M.fr) = d := ⟨_, rfl⟩
  have HD := Lib.hid hd
  rw [hd]
  clear hd
  go_enter Try.func16, Try.ntmps16
  go_wp2_with (first
    | (go_at_call 26; (with_reducible refine (has_g w (B + 1) p M.fr HS.out hp d HD.out).mono ?_); rintro r w1 ⟨rfl, hg⟩; have HG := Lib.hid hg; clear hg))
  go_ret
  exact ⟨rfl, HG.out⟩
set_option maxHeartbeats 400000 in
theorem fresh_nil (w : World) (p : Int) : Calls Try.prog 16 #[.pointer none, .int .u32 p] w fun r w' => r = .returned (.bool false) ∧ w = w' := by
  go_enter Try.func16, Try.ntmps16
  go_wp2
  go_ret
  exact ⟨rfl, rfl⟩

def inUseM (M : Sp) (p : Nat) : Bool := decide (2 ≤ p) && decide (p < M.en) && !decide (p ∈ M.us) && !decide (p ∈ M.fr) && !decide (p ∈ M.go) && !decide (p ∈ M.wa)

set_option maxHeartbeats 1000000 in
theorem inUse_any {H : Nat} (w : World) (B : Nat) (M : Sp) (h : SpAt B H w M) (p : Nat) (hp : p < 4294967296) (d : Bool) (hd : inUseM M p = d) : Calls Try.prog 29 #[.pointer (some ⟨B + 4, 0, none⟩), .int .u32 (p : Int)] w fun r w' => r = .returned (.bool d) ∧ w.grownBy w' none := by
  obtain ⟨wv, h1, h2⟩ := h
  obtain ⟨f0, -, -, f3, f4, f5, f6, -⟩ := h1.cells
  have HF := Lib.hid h1
  have HD := Lib.hid hd
  clear h1 h2 hd
  by_cases c1 : p < 2
  · have i1 : (p : Int) < 2 := by omega
    have HE := Lib.hid (show d = false by rw [← HD.out]; unfold inUseM; simp [show ¬ 2 ≤ p by omega])
    go_enter Try.func29, Try.ntmps29
    go_wp2
    go_ret
    exact ⟨by rw [HE.out]; rfl, grefl _ _⟩
  have i1 : ¬ (p : Int) < 2 := by omega
  by_cases c2 : M.en ≤ p
  · have i2 : (M.en : Int) ≤ (p : Int) := by omega
    have HE := Lib.hid (show d = false by rw [← HD.out]; unfold inUseM; simp [show ¬ p < M.en by omega])
    go_enter Try.func29, Try.ntmps29
    go_wp2
    go_ret
    exact ⟨by rw [HE.out]; rfl, grefl _ _⟩
  have i2 : ¬ (M.en : Int) ≤ (p : Int) := by omega
  have e1 : decide (2 ≤ p) = true := by simp; omega
  have e2 : decide (p < M.en) = true := by simp; omega
  have HD2 := Lib.hid (show (!decide (p ∈ M.us) && !decide (p ∈ M.fr) && !decide (p ∈ M.go) && !decide (p ∈ M.wa)) = d by
    rw [← HD.out]; unfold inUseM; rw [e1, e2]; simp)
  obtain ⟨b1, hb1⟩ : ∃ b, decide (p ∈ M.us) = b := ⟨_, rfl⟩
  obtain ⟨b2, hb2⟩ : ∃ b, decide (p ∈ M.fr) = b := ⟨_, rfl⟩
  obtain ⟨b3, hb3⟩ : ∃ b, decide (p ∈ M.go) = b := ⟨_, rfl⟩
  obtain ⟨b4, hb4⟩ : ∃ b, decide (p ∈ M.wa) = b := ⟨_, rfl⟩
  rw [hb1, hb2, hb3, hb4] at HD2
  have H1 := Lib.hid hb1
  have H2 := Lib.hid hb2
  have H3 := Lib.hid hb3
  have H4 := Lib.hid hb4
  clear hb1 hb2 hb3 hb4 e1 e2 HD c1 c2
  have HG0 := Lib.hid (grefl w none)
  cases b1 <;> cases b2 <;> cases b3
  all_goals
    go_enter Try.func29, Try.ntmps29
    go_wp2_with (first
      | (go_at_call 26; (with_reducible refine (has_g _ B p M.us HF.out.us hp _ H1.out).mono ?_); rintro r w1 ⟨rfl, hg⟩; have HG1 := Lib.hid hg; have HF1 := Lib.hid (HF.out.grown hg); obtain ⟨g0, -, -, g3, g4, g5, g6, -⟩ := (HF.out.grown hg).cells; clear hg)
      | (go_at_call 26; (with_reducible refine (has_g _ (B + 1) p M.fr HF1.out.fr hp _ H2.out).mono ?_); rintro r w2 ⟨rfl, hg⟩; have HG2 := Lib.hid (gtrans HG1.out hg); have HF2 := Lib.hid (HF1.out.grown hg); obtain ⟨h0, -, -, h3, h4, h5, h6, -⟩ := (HF1.out.grown hg).cells; clear hg)
      | (go_at_call 26; (with_reducible refine (has_g _ (B + 2) p M.go HF2.out.go hp _ H3.out).mono ?_); rintro r w3 ⟨rfl, hg⟩; have HG3 := Lib.hid (gtrans HG2.out hg); have HF3 := Lib.hid (HF2.out.grown hg); obtain ⟨k0, -, -, k3, k4, k5, k6, -⟩ := (HF2.out.grown hg).cells; clear hg)
      | (go_at_call 26; (with_reducible refine (has_g _ (B + 3) p M.wa HF3.out.wa hp _ H4.out).mono ?_); rintro r w4 ⟨rfl, hg⟩; have HG4 := Lib.hid (gtrans HG3.out hg); clear hg))
    go_ret
    rw [← HD2.out]
    first
      | exact ⟨rfl, HG4.out⟩
      | exact ⟨rfl, HG3.out⟩
      | exact ⟨rfl, HG2.out⟩
      | exact ⟨rfl, HG1.out⟩

end Go.Proofs.Ytoaglkbobndmeab
