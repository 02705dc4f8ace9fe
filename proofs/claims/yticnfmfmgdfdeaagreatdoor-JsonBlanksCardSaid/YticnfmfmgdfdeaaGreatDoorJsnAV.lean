/-
  Things with commas between them, as they are read: the code's row; printed by tools/mkjsz.py. Own work.
-/
import Derived.Test.YticnfmfmgdfdeaaGreatDoorJsnAU
import Derived.Defers
import Derived.Recover

set_option linter.unusedVariables false
set_option linter.unusedSimpArgs false
namespace Go.Proofs.YticnfmfmgdfdeaaGreatDoor
open Go.RowKit

/-- What is kept: what lies ahead of B but R, and all boxes of readers. -/
structure FR (B R : Nat) (w w' : World) : Prop where
  os : w'.os = w.os
  tape : w'.tape = w.tape
  output : w'.output = w.output
  size : w.heap.size ≤ w'.heap.size
  below : ∀ i : Nat, i < B → i ≠ R → w'.heap[i]? = w.heap[i]?
  box : ∀ (i : Nat) (c : Array Value) (fr : Nat × Nat), w.heap[i]? = some (Obj.cells c 61 fr) → w'.heap[i]? = some (Obj.cells c 61 fr)
theorem FR.refl (B R : Nat) (w : World) : FR B R w w := ⟨rfl, rfl, rfl, Nat.le_refl _, fun _ _ _ => rfl, fun _ _ _ h => h⟩
theorem FR.trans {B R : Nat} {a b c : World} (h : FR B R a b) (k : FR B R b c) : FR B R a c :=
  ⟨k.os.trans h.os, k.tape.trans h.tape, k.output.trans h.output, Nat.le_trans h.size k.size, fun i hi hn => (k.below i hi hn).trans (h.below i hi hn), fun i c fr e => k.box i c fr (h.box i c fr e)⟩
theorem FR.row {B R q : Nat} {w w' : World} (g : w.grownBy w' (some q)) (hB : B ≤ w.heap.size) (hq : B ≤ q ∨ q = R) (hk : ∀ c fr, w.heap[q]? ≠ some (Obj.cells c 61 fr)) : FR B R w w' :=
  ⟨g.os, g.tape, g.output, g.size, fun i hi hn => g.block i (by omega) (by intro e; injection e with e; omega), fun i c fr e => (g.block i (lt_of_block e) (by intro k; injection k with k; subst k; exact hk c fr e)).trans e⟩
theorem FR.gr {B R : Nat} {w w' : World} (g : Gr w w') (hB : B ≤ w.heap.size) : FR B R w w' :=
  ⟨g.os, g.tape, g.output, g.size, fun i hi _ => g.block i (by omega) (by simp), fun i c fr e => (g.block i (lt_of_block e) (by simp)).trans e⟩
theorem FR.g1 {B R M : Nat} {s : Bs} {d : Int} {w w' : World} (h : RC R M s d w) (g : G1 R w w') (hB : B ≤ w.heap.size) : FR B R w w' :=
  FR.row g hB (.inr rfl) (by
    intro c fr e
    have := h.symm.trans e
    simp at this)
theorem FR.to1 {B R : Nat} {w w' : World} (h : FR B R w w') (hB : w.heap.size ≤ B) : G1 R w w' :=
  ⟨h.os, h.tape, h.output, h.size, fun i hi hn => h.below i (by omega) (fun e => hn (by rw [e]))⟩

/-- What is left to be read, in bytes. -/
def leftSz (R : Nat) (w : World) : Nat := match w.cell? ⟨R, 0, none⟩ with
  | some (.string s) => s.size
  | _ => 0
theorem RC.left {R M : Nat} {s : Bs} {d : Int} {w : World} (h : RC R M s d w) : leftSz R w = s.length := by
  unfold leftSz; rw [h.cells.1]; exact Sx_size s
theorem blk_len (s : Bs) : (blk s).length ≤ s.length := (List.dropWhile_sublist _).length_le
theorem blk_blk : ∀ s : Bs, blk (blk s) = blk s
  | [] => rfl
  | b :: t => by
    by_cases h : blankB b = true
    · have : blk (b :: t) = blk t := by simp [blk, List.dropWhile, h]
      rw [this]; exact blk_blk t
    · have : blk (b :: t) = b :: t := by simp [blk, List.dropWhile, h]
      rw [this, this]
theorem ES.fr {B R M : Nat} {s : Bs} {d : Int} {w w' : World} (h : ES w) (hr : RC R M s d w) (f : FR B R w w') (hB : (6 : Nat) < B) : ES w' := by
  obtain ⟨tp, p, h⟩ := h
  refine ⟨tp, p, (World.cell?_of_block (w := w) (f.below _ hB ?_)).trans h⟩
  intro e
  have := hr.cells.1
  rw [← e] at this
  have := this.symm.trans h
  simp at this
theorem blk_head {c : UInt8} {s : Bs} (h : isH c s = true) (hc : blankB c = false) : blk s = s := by
  cases s with
  | nil => simp [isH] at h
  | cons b t =>
    have : b = c := by simpa [isH] using h
    subst this
    simp [blk, List.dropWhile, hc]
theorem pre1 (c : UInt8) (s : Bs) : Lib.hasPrefix s [c] = isH c s := isH_prefix c s
theorem box1 {W : World} {q : Nat} {a : Value} {t : TypeId} (h : W.heap[q]? = some (.cells #[a] t (0, 0))) : W.cell? ⟨q, 0, none⟩ = some a := by simp [World.cell?, h]

/-- What a row, or one thing of it, hands back. -/
def RowR {α : Type} (I : α → World → Prop) (B R M : Nat) (d : Int) (w : World) (m : Rd α) (r : Ending) (w' : World) : Prop :=
  ∃ x' e s', r = .returned (.int .i64 e) ∧ RC R M s' d w' ∧ I x' w' ∧ FR B R w w' ∧ match m with | .ok (y, r') => e = 0 ∧ x' = y ∧ s' = r' | .error c => e = c ∧ e ≠ 0
theorem closeD_any (R M P : Nat) (s : Bs) (d : Int) (u : FrameMode) (w : World) (hr : RC R M s d w) (hP : w.heap[P]? = some (.cells #[pR R] 61 (0, 0))) (h0 : 0 < d) (h1 : d ≤ 16) :
    CallsD Tryz.prog 148 #[.pointer (some ⟨P, 0, none⟩)] u w fun e u' w' => u' = u ∧ (e = .returned (.tuple #[]) ∧ w' = w.setCell ⟨R, 1, none⟩ (.int .i64 (d - 1))) := by
  obtain ⟨c0, c1, c2, f0, f1, f2⟩ := hr.cells
  have hp := box1 hP
  have hw : IntKind.i64.wrap (d - 1) = d - 1 := IntWalk.i64_in _ (by omega)
  clear hr hP
  go_enter_d Tryz.func148, Tryz.ntmps148
  go_wp2
  go_end0
  exact ⟨rfl, rfl⟩

set_option maxRecDepth 100000 in
set_option maxHeartbeats 4000000 in
theorem rowA_deep (R M Bx Vb : Nat) (s : Bs) (w : World) (hr : RC R M s 16 w) :
    Calls Tryz.prog 111 #[pR R, .string ⟨#[91]⟩, .string ⟨#[93]⟩, .func (.func 112) #[] #[.pointer (some ⟨Bx, 0, none⟩), .pointer (some ⟨Vb, 0, none⟩)]] w fun r w' => r = .returned (.int .i64 35) ∧ Gr w w' := by
  have HG := Lib.hid (World.grownBy_alloc w (.cells #[pR R] 61) none)
  obtain ⟨c0, c1, c2, f0, f1, f2⟩ := (hr.gr HG.out).cells
  clear hr
  go_enter_defers Tryz.func111, Tryz.ntmps111
  go_wp2_with fail
  exact ⟨_, results_tmp rfl _ _ _, rfl, HG.out⟩

set_option maxRecDepth 100000 in
set_option maxHeartbeats 8000000 in
theorem rowA_go {α : Type} (T : α → Bs → Rd α) (I : α → World → Prop) (cnt : α → Nat) (K : Nat) (R M Bx Vb B : Nat) (d : Int) (h0 : 0 ≤ d) (h1 : d < 16) (hGB : (6 : Nat) < B)
    (hlen : ∀ x s y r, T x s = .ok (y, r) → r.length ≤ s.length ∧ cnt y + r.length ≤ cnt x + s.length) (hI : ∀ x w w', I x w → G1 R w w' → I x w')
    (hT : ∀ x s w, RC R M s (d + 1) w → I x w → ES w → B ≤ w.heap.size → s.length ≤ 100000 → cnt x + s.length ≤ K → Calls Tryz.prog 112 #[.pointer (some ⟨Bx, 0, none⟩), .pointer (some ⟨Vb, 0, none⟩)] w fun r w' => RowR I B R M (d + 1) w (T x s) r w')
    (x : α) (s : Bs) (w : World) (hr : RC R M s d w) (hi : I x w) (hE : ES w) (hB : B ≤ w.heap.size) (hl : s.length ≤ 100000) (hK : cnt x + s.length ≤ K) (hf : isH 91 s = true) :
    Calls Tryz.prog 111 #[pR R, .string ⟨#[91]⟩, .string ⟨#[93]⟩, .func (.func 112) #[] #[.pointer (some ⟨Bx, 0, none⟩), .pointer (some ⟨Vb, 0, none⟩)]] w fun r w' => RowR I B R M d w (rowsM T 93 x s.tail) r w' := by
  have hmf : ∀ (fn : Fn) (first cap : Array Value) (w : World), (Instr.makeFunc fn first cap).run Tryz.prog w = .ok (.func fn first cap) w := fun _ _ _ _ => rfl
  have HG := Lib.hid (World.grownBy_alloc w (.cells #[pR R] 61) none)
  have hP0 : (w.alloc (.cells #[pR R] 61)).heap[w.heap.size]? = some (.cells #[pR R] 61 (0, 0)) := heap_alloc_new _ _
  have hr0 := hr.gr HG.out
  obtain ⟨c0, c1, c2, f0, f1, f2⟩ := hr0.cells
  have hw1 : IntKind.i64.wrap (d + 1) = d + 1 := IntWalk.i64_in _ (by omega)
  have hd16 : ¬ d = 16 := by omega
  have g1 : G1 R (w.alloc (.cells #[pR R] 61)) ((w.alloc (.cells #[pR R] 61)).setCell ⟨R, 1, none⟩ (.int .i64 (d + 1))) := g1_set R 1 _ _
  have H1 := Lib.hid (hr0.set1 (d + 1))
  have hRs := hr.lt
  have hPR : w.heap.size ≠ R := by omega
  have P1 := Lib.hid ((set_other (V := w.alloc (.cells #[pR R] 61)) hPR.symm 1 (.int .i64 (d + 1))).trans hP0)
  have I1 := Lib.hid (hI _ _ _ (hI _ _ _ hi (gwide HG.out)) g1)
  have E1 : Hid (ES ((w.alloc (.cells #[pR R] 61)).setCell ⟨R, 1, none⟩ (.int .i64 (d + 1)))) := Lib.hid ((hE.gr HG.out).g1 hr0 g1)
  have Q1 : Hid (FR B R w ((w.alloc (.cells #[pR R] 61)).setCell ⟨R, 1, none⟩ (.int .i64 (d + 1)))) := Lib.hid ((FR.gr HG.out hB).trans (FR.g1 hr0 g1 (by simp; omega)))
  have HB := Lib.hid hB
  have hp1 := box1 P1.out
  have HL := Lib.hid hl
  have HF := Lib.hid hf
  have HPR := Lib.hid hPR
  have HEW : Hid (∀ w', FR B R w w' → ES w') := Lib.hid (fun w' f => hE.fr hr f hGB)
  clear hr hr0 hi hE hB g1 hP0 hRs hPR hl hf
  have KS := Lib.hid (fun p s' d' w' (k : RC R M s' d' w') (h : s'.length ≤ 100000) => jsign_any R M s' p d' w' k (by omega))
  have hbs : blk s = s := blk_head HF.out (by decide)
  have K1 := KS.out [91] s (d + 1) _ H1.out HL.out
  rw [hbs, pre1, HF.out] at K1
  simp only [if_true] at K1
  have htl : s.drop ([91] : Bs).length = s.tail := by cases s <;> rfl
  rw [htl] at K1
  have HTL : Hid (s.tail.length ≤ 100000 ∧ cnt x + s.tail.length ≤ K) := Lib.hid ⟨Nat.le_trans (by simp) HL.out, Nat.le_trans (Nat.add_le_add_left (by simp) _) hK⟩
  clear hK
  obtain ⟨res, hres⟩ : ∃ res, res = rowsM T 93 x s.tail := ⟨_, rfl⟩
  rw [← hres]
  unfold rowsM at hres
  generalize s.tail = s1 at *
  have HRS := Lib.hid hres
  clear hres hbs htl HF HL
  rw [show Sx [91] = ⟨#[91]⟩ from rfl] at K1
  have K2 := Lib.hid (fun w' (k : RC R M s1 (d + 1) w') => KS.out [93] s1 (d + 1) w' k HTL.out.1)
  rw [show Sx [93] = ⟨#[93]⟩ from rfl] at K2
  simp only [pre1] at K2
  cases hen : isH 93 (blk s1) with
  | true =>
    rw [hen] at K2 HRS
    simp only [if_true] at K2 HRS
    have htl : (blk s1).drop ([93] : Bs).length = (blk s1).tail := by cases blk s1 <;> rfl
    rw [htl] at K2
    clear htl hen
    go_enter_defers Tryz.func111, Tryz.ntmps111
    go_wp2_with (first
      | (go_at_call 149; ((with_reducible refine K1.mono ?_); rintro r w2 ⟨rfl, hc, hg⟩); have H2 := Lib.hid hc; have I2 := Lib.hid (hI _ _ _ I1.out hg); have Q2 := Lib.hid (Q1.out.trans (FR.g1 H1.out hg (Nat.le_trans HB.out Q1.out.size))); have P2 := Lib.hid ((hg.block _ (lt_of_block P1.out) (by intro e; injection e with e; exact HPR.out e)).trans P1.out); have hp1 := box1 P2.out; clear hc hg)
      | (go_at_call 149; ((with_reducible refine (K2.out _ H2.out).mono ?_); rintro r w3 ⟨rfl, hc, hg⟩); have H3 := Lib.hid hc; have I3 := Lib.hid (hI _ _ _ I2.out hg); have Q3 := Lib.hid (Q2.out.trans (FR.g1 H2.out hg (Nat.le_trans HB.out Q2.out.size))); have P3 := Lib.hid ((hg.block _ (lt_of_block P2.out) (by intro e; injection e with e; exact HPR.out e)).trans P2.out); have hp1 := box1 P3.out; clear hc hg))
    refine leaves_cons (f := 148) (args := #[.pointer (some ⟨w.heap.size, 0, none⟩)]) (by simp) (by simp [go_sem]) ?_
    refine (closeD_any R M w.heap.size _ (d + 1) .returning _ H3.out P3.out (by omega) (by omega)).mono ?_
    rintro e u' w'' ⟨rfl, rfl, rfl⟩
    refine ⟨_, results_tmp rfl _ _ _, x, 0, (blk s1).tail, rfl, ?_, hI _ _ _ I3.out (g1_set R 1 _ _), Q3.out.trans (FR.g1 H3.out (g1_set R 1 _ _) (Nat.le_trans HB.out Q3.out.size)), ?_⟩
    · have := H3.out.set1 (d + 1 - 1)
      have e1 : d + 1 - 1 = d := by omega
      rw [e1] at this ⊢
      exact this
    · rw [HRS.out]; exact ⟨rfl, rfl, rfl⟩
  | false =>
    rw [hen] at K2 HRS
    simp only [Bool.false_eq_true, if_false] at K2 HRS
    have HBL := Lib.hid (blk_len s1)
    have HT := Lib.hid hT
    have HII := Lib.hid hI
    have HLN := Lib.hid hlen
    clear hen hT hI hlen
    go_enter_defers Tryz.func111, Tryz.ntmps111
    go_wp2_with (first
      | (go_at_call 149; ((with_reducible refine K1.mono ?_); rintro r w2 ⟨rfl, hc, hg⟩); have H2 := Lib.hid hc; have I2 := Lib.hid (HII.out _ _ _ I1.out hg); have Q2 := Lib.hid (Q1.out.trans (FR.g1 H1.out hg (Nat.le_trans HB.out Q1.out.size))); have P2 := Lib.hid ((hg.block _ (lt_of_block P1.out) (by intro e; injection e with e; exact HPR.out e)).trans P1.out); have E2 := Lib.hid (E1.out.g1 H1.out hg); have hp1 := box1 P2.out; clear hc hg)
      | (go_at_call 149; ((with_reducible refine (K2.out _ H2.out).mono ?_); rintro r w3 ⟨rfl, hc, hg⟩); have H3 := Lib.hid hc; have I3 := Lib.hid (HII.out _ _ _ I2.out hg); have Q3 := Lib.hid (Q2.out.trans (FR.g1 H2.out hg (Nat.le_trans HB.out Q2.out.size))); have P3 := Lib.hid ((hg.block _ (lt_of_block P2.out) (by intro e; injection e with e; exact HPR.out e)).trans P2.out); have E3 := Lib.hid (E2.out.g1 H2.out hg); have hp1 := box1 P3.out; clear hc hg))
    go_loopw [9] (fun _ wr => ∃ (y : α) (t : Bs) (m : Nat), Hid (t.length < m ∧ (t.length ≤ 100000 ∧ cnt y + t.length ≤ K) ∧ I y wr ∧ RC R M t (d + 1) wr ∧ FR B R w wr ∧ ES wr ∧ wr.heap[w.heap.size]? = some (.cells #[pR R] 61 (0, 0)) ∧ res = rowM T 93 m y t)) (fun _ wr => leftSz R wr)
    case atStart =>
      have h1 := HBL.out
      have h2 := HTL.out.1
      have h3 := HTL.out.2
      exact ⟨x, blk s1, s1.length + 1, Lib.hid ⟨by omega, ⟨by omega, by omega⟩, I3.out, H3.out, Q3.out, E3.out, P3.out, HRS.out⟩⟩
    case round =>
      obtain ⟨y, t, m, hh⟩ := hrel
      obtain ⟨hm, hl, hi, hr, hq, he, hp, hre⟩ := hh.out
      clear hh
      have hlf := hr.left
      have HSET : Hid (∀ s' w', RC R M s' (d + 1) w' → RC R M s' d (w'.setCell ⟨R, 1, none⟩ (.int .i64 (d + 1 - 1)))) := Lib.hid (fun s' w' k => by
        have := k.set1 (d + 1 - 1)
        have e1 : d + 1 - 1 = d := by omega
        rw [e1] at this ⊢
        exact this)
      cases m with
      | zero => omega
      | succ m =>
      have KT := HT.out y t wr hr hi he (Nat.le_trans HB.out hq.size) hl.1 hl.2
      simp only [rowM] at hre
      unfold RowR at KT
      have HQ := Lib.hid hq
      have HP := Lib.hid hp
      have HR0 := Lib.hid hr
      have HE0 := Lib.hid he
      have hp1 := box1 hp
      have H4F : Hid (∀ (y2 : α) (s2 : Bs) (w2 : World), RC R M s2 (d + 1) w2 → I y2 w2 → FR B R wr w2 → RC R M s2 (d + 1) w2 ∧ I y2 w2 ∧ w2.heap[w.heap.size]? = some (.cells #[pR R] 61 (0, 0)) ∧ FR B R w w2 ∧ w2.cell? ⟨w.heap.size, 0, none⟩ = some (pR R)) := Lib.hid (fun y2 s2 w2 a b c => ⟨a, b, c.box _ _ _ HP.out, HQ.out.trans c, box1 (c.box _ _ _ HP.out)⟩)
      have HSF : Hid (∀ (y2 : α) (s2 s3 : Bs) (w2 w3 : World), (RC R M s2 (d + 1) w2 ∧ I y2 w2 ∧ w2.heap[w.heap.size]? = some (.cells #[pR R] 61 (0, 0)) ∧ FR B R w w2 ∧ w2.cell? ⟨w.heap.size, 0, none⟩ = some (pR R)) → RC R M s3 (d + 1) w3 → G1 R w2 w3 → RC R M s3 (d + 1) w3 ∧ I y2 w3 ∧ w3.heap[w.heap.size]? = some (.cells #[pR R] 61 (0, 0)) ∧ FR B R w w3 ∧ w3.cell? ⟨w.heap.size, 0, none⟩ = some (pR R)) := Lib.hid (fun y2 s2 s3 w2 w3 k a g => by
        have f := FR.g1 k.1 g (Nat.le_trans HB.out k.2.2.2.1.size)
        exact ⟨a, HII.out _ _ _ k.2.1 g, f.box _ _ _ k.2.2.1, k.2.2.2.1.trans f, box1 (f.box _ _ _ k.2.2.1)⟩)
      cases hTy : T y t with
      | error c =>
        rw [hTy] at KT hre
        simp only at hre KT
        have HRE := Lib.hid hre
        clear hre hTy hm hl hi hr hq he hp hlf
        go_wp2_with (go_at_call 112; ((with_reducible refine KT.mono ?_); rintro r w4 ⟨y4, e4, s4, rfl, hc, hi4, hf4, he4, hn4⟩); have H4 := Lib.hid (H4F.out _ _ _ hc hi4 hf4); have HE4 := Lib.hid he4; have hne4 : (e4 == 0) = false := beq_eq_false_iff_ne.2 hn4; have HN4 := Lib.hid hn4; clear hc hi4 hf4 he4 hn4)
        refine leaves_cons (f := 148) (args := #[.pointer (some ⟨w.heap.size, 0, none⟩)]) (by simp) (by simp [go_sem]) ?_
        refine (closeD_any R M w.heap.size _ (d + 1) .returning _ H4.out.1 H4.out.2.2.1 (by omega) (by omega)).mono ?_
        rintro e' u' w'' ⟨rfl, rfl, rfl⟩
        refine ⟨_, results_tmp rfl _ _ _, y4, e4, s4, rfl, HSET.out _ _ H4.out.1, HII.out _ _ _ H4.out.2.1 (g1_set R 1 _ _), H4.out.2.2.2.1.trans (FR.g1 H4.out.1 (g1_set R 1 _ _) (Nat.le_trans HB.out H4.out.2.2.2.1.size)), ?_⟩
        rw [HRE.out]; exact ⟨HE4.out, HN4.out⟩
      | ok zr =>
        obtain ⟨z, r'⟩ := zr
        rw [hTy] at KT hre
        simp only at hre KT
        obtain ⟨hlr, hcr⟩ := HLN.out _ _ _ _ hTy
        obtain ⟨hl, hlk⟩ := hl
        have hbl := blk_len r'
        have K5 := Lib.hid (fun w' (k : RC R M r' (d + 1) w') => KS.out [93] r' (d + 1) w' k (by omega))
        rw [show Sx [93] = ⟨#[93]⟩ from rfl] at K5
        simp only [pre1] at K5
        have K6 := Lib.hid (fun w' (k : RC R M (blk r') (d + 1) w') => KS.out [44] (blk r') (d + 1) w' k (by omega))
        rw [show Sx [44] = ⟨#[44]⟩ from rfl] at K6
        simp only [pre1] at K6
        have hbb : blk (blk r') = blk r' := blk_blk r'
        rw [hbb] at K6
        have htl : ∀ c : UInt8, (blk r').drop ([c] : Bs).length = (blk r').tail := fun c => by cases blk r' <;> rfl
        rw [htl] at K5 K6
        clear htl hbb
        cases h1 : isH 93 (blk r') with
        | true =>
          rw [h1] at K5 hre
          simp only [if_true] at K5 hre
          have HRE := Lib.hid hre
          clear hre hTy hm hl hlk hcr hi hr hq he hp hlf hlr hbl h1
          go_wp2_with (first
            | (go_at_call 112; ((with_reducible refine KT.mono ?_); rintro r w4 ⟨y4, e4, s4, rfl, hc, hi4, hf4, rfl, rfl, rfl⟩); have H4 := Lib.hid (H4F.out _ _ _ hc hi4 hf4); have hp1 := H4.out.2.2.2.2; clear hc hi4 hf4)
            | (go_at_call 149; ((with_reducible refine (K5.out _ H4.out.1).mono ?_); rintro r w5 ⟨rfl, hc, hg⟩); have H5 := Lib.hid (HSF.out _ _ _ _ _ H4.out hc hg); have hp1 := H5.out.2.2.2.2; clear hc hg))
          refine leaves_cons (f := 148) (args := #[.pointer (some ⟨w.heap.size, 0, none⟩)]) (by simp) (by simp [go_sem]) ?_
          refine (closeD_any R M w.heap.size _ (d + 1) .returning _ H5.out.1 H5.out.2.2.1 (by omega) (by omega)).mono ?_
          rintro e' u' w'' ⟨rfl, rfl, rfl⟩
          refine ⟨_, results_tmp rfl _ _ _, _, 0, _, rfl, HSET.out _ _ H5.out.1, HII.out _ _ _ H5.out.2.1 (g1_set R 1 _ _), H5.out.2.2.2.1.trans (FR.g1 H5.out.1 (g1_set R 1 _ _) (Nat.le_trans HB.out H5.out.2.2.2.1.size)), ?_⟩
          rw [HRE.out]; exact ⟨rfl, rfl, rfl⟩
        | false =>
          rw [h1] at K5 hre
          simp only [Bool.false_eq_true, if_false] at K5 hre
          cases h2 : isH 44 (blk r') with
          | true =>
            rw [h2] at K6 hre
            simp only [if_true] at K6 hre
            have hpos : (blk r').tail.length < t.length := by
              have := congrArg List.length (isH_eq h2)
              simp only [List.length_cons] at this
              omega
            have htl2 : (blk r').tail.length ≤ (blk r').length := by simp
            have HRE := Lib.hid hre
            have HM : Hid ((blk r').tail.length < m ∧ ((blk r').tail.length ≤ 100000 ∧ cnt z + (blk r').tail.length ≤ K) ∧ (blk r').tail.length < leftSz R wr) := Lib.hid ⟨by omega, ⟨by omega, by omega⟩, by omega⟩
            clear hre hTy hm hl hlk hcr hi hr hq he hp hlf hlr hbl h1 h2 hpos htl2
            go_wp2_with (first
              | (go_at_call 112; ((with_reducible refine KT.mono ?_); rintro r w4 ⟨y4, e4, s4, rfl, hc, hi4, hf4, rfl, rfl, rfl⟩); have H4 := Lib.hid (H4F.out _ _ _ hc hi4 hf4); have hp1 := H4.out.2.2.2.2; clear hc hi4 hf4)
              | (go_at_call 149; ((with_reducible refine (K5.out _ H4.out.1).mono ?_); rintro r w5 ⟨rfl, hc, hg⟩); have H5 := Lib.hid (HSF.out _ _ _ _ _ H4.out hc hg); have hp1 := H5.out.2.2.2.2; clear hc hg)
              | (go_at_call 149; ((with_reducible refine (K6.out _ H5.out.1).mono ?_); rintro r w6 ⟨rfl, hc, hg⟩); have H6 := Lib.hid (HSF.out _ _ _ _ _ H5.out hc hg); clear hc hg))
            have H6E : Hid (ES w6) := Lib.hid (HEW.out _ H6.out.2.2.2.1)
            go_roundw
            case rel => exact ⟨_, _, m, Lib.hid ⟨HM.out.1, HM.out.2.1, H6.out.2.1, H6.out.1, H6.out.2.2.2.1, H6E.out, H6.out.2.2.1, HRE.out⟩⟩
            case measure => rw [H6.out.1.left]; exact HM.out.2.2
          | false =>
            rw [h2] at K6 hre
            simp only [Bool.false_eq_true, if_false] at K6 hre
            have HRE := Lib.hid hre
            clear hre hTy hm hl hlk hcr hi hr hq he hp hlf hlr hbl h1 h2
            go_wp2_with (first
              | (go_at_call 112; ((with_reducible refine KT.mono ?_); rintro r w4 ⟨y4, e4, s4, rfl, hc, hi4, hf4, rfl, rfl, rfl⟩); have H4 := Lib.hid (H4F.out _ _ _ hc hi4 hf4); have hp1 := H4.out.2.2.2.2; clear hc hi4 hf4)
              | (go_at_call 149; ((with_reducible refine (K5.out _ H4.out.1).mono ?_); rintro r w5 ⟨rfl, hc, hg⟩); have H5 := Lib.hid (HSF.out _ _ _ _ _ H4.out hc hg); have hp1 := H5.out.2.2.2.2; clear hc hg)
              | (go_at_call 149; ((with_reducible refine (K6.out _ H5.out.1).mono ?_); rintro r w6 ⟨rfl, hc, hg⟩); have H6 := Lib.hid (HSF.out _ _ _ _ _ H5.out hc hg); clear hc hg))
            refine leaves_cons (f := 148) (args := #[.pointer (some ⟨w.heap.size, 0, none⟩)]) (by simp) (by simp [go_sem]) ?_
            refine (closeD_any R M w.heap.size _ (d + 1) .returning _ H6.out.1 H6.out.2.2.1 (by omega) (by omega)).mono ?_
            rintro e' u' w'' ⟨rfl, rfl, rfl⟩
            refine ⟨_, results_tmp rfl _ _ _, _, 11, _, rfl, HSET.out _ _ H6.out.1, HII.out _ _ _ H6.out.2.1 (g1_set R 1 _ _), H6.out.2.2.2.1.trans (FR.g1 H6.out.1 (g1_set R 1 _ _) (Nat.le_trans HB.out H6.out.2.2.2.1.size)), ?_⟩
            rw [HRE.out]; exact ⟨rfl, by omega⟩

set_option maxRecDepth 100000 in
set_option maxHeartbeats 4000000 in
theorem rowO_deep (R M Bx Vb : Nat) (s : Bs) (w : World) (hr : RC R M s 16 w) :
    Calls Tryz.prog 111 #[pR R, .string ⟨#[123]⟩, .string ⟨#[125]⟩, .func (.func 113) #[] #[.pointer (some ⟨Bx, 0, none⟩), .pointer (some ⟨Vb, 0, none⟩)]] w fun r w' => r = .returned (.int .i64 35) ∧ Gr w w' := by
  have HG := Lib.hid (World.grownBy_alloc w (.cells #[pR R] 61) none)
  obtain ⟨c0, c1, c2, f0, f1, f2⟩ := (hr.gr HG.out).cells
  clear hr
  go_enter_defers Tryz.func111, Tryz.ntmps111
  go_wp2_with fail
  exact ⟨_, results_tmp rfl _ _ _, rfl, HG.out⟩

set_option maxRecDepth 100000 in
set_option maxHeartbeats 8000000 in
theorem rowO_go {α : Type} (T : α → Bs → Rd α) (I : α → World → Prop) (cnt : α → Nat) (K : Nat) (R M Bx Vb B : Nat) (d : Int) (h0 : 0 ≤ d) (h1 : d < 16) (hGB : (6 : Nat) < B)
    (hlen : ∀ x s y r, T x s = .ok (y, r) → r.length ≤ s.length ∧ cnt y + r.length ≤ cnt x + s.length) (hI : ∀ x w w', I x w → G1 R w w' → I x w')
    (hT : ∀ x s w, RC R M s (d + 1) w → I x w → ES w → B ≤ w.heap.size → s.length ≤ 100000 → cnt x + s.length ≤ K → Calls Tryz.prog 113 #[.pointer (some ⟨Bx, 0, none⟩), .pointer (some ⟨Vb, 0, none⟩)] w fun r w' => RowR I B R M (d + 1) w (T x s) r w')
    (x : α) (s : Bs) (w : World) (hr : RC R M s d w) (hi : I x w) (hE : ES w) (hB : B ≤ w.heap.size) (hl : s.length ≤ 100000) (hK : cnt x + s.length ≤ K) (hf : isH 123 s = true) :
    Calls Tryz.prog 111 #[pR R, .string ⟨#[123]⟩, .string ⟨#[125]⟩, .func (.func 113) #[] #[.pointer (some ⟨Bx, 0, none⟩), .pointer (some ⟨Vb, 0, none⟩)]] w fun r w' => RowR I B R M d w (rowsM T 125 x s.tail) r w' := by
  have hmf : ∀ (fn : Fn) (first cap : Array Value) (w : World), (Instr.makeFunc fn first cap).run Tryz.prog w = .ok (.func fn first cap) w := fun _ _ _ _ => rfl
  have HG := Lib.hid (World.grownBy_alloc w (.cells #[pR R] 61) none)
  have hP0 : (w.alloc (.cells #[pR R] 61)).heap[w.heap.size]? = some (.cells #[pR R] 61 (0, 0)) := heap_alloc_new _ _
  have hr0 := hr.gr HG.out
  obtain ⟨c0, c1, c2, f0, f1, f2⟩ := hr0.cells
  have hw1 : IntKind.i64.wrap (d + 1) = d + 1 := IntWalk.i64_in _ (by omega)
  have hd16 : ¬ d = 16 := by omega
  have g1 : G1 R (w.alloc (.cells #[pR R] 61)) ((w.alloc (.cells #[pR R] 61)).setCell ⟨R, 1, none⟩ (.int .i64 (d + 1))) := g1_set R 1 _ _
  have H1 := Lib.hid (hr0.set1 (d + 1))
  have hRs := hr.lt
  have hPR : w.heap.size ≠ R := by omega
  have P1 := Lib.hid ((set_other (V := w.alloc (.cells #[pR R] 61)) hPR.symm 1 (.int .i64 (d + 1))).trans hP0)
  have I1 := Lib.hid (hI _ _ _ (hI _ _ _ hi (gwide HG.out)) g1)
  have E1 : Hid (ES ((w.alloc (.cells #[pR R] 61)).setCell ⟨R, 1, none⟩ (.int .i64 (d + 1)))) := Lib.hid ((hE.gr HG.out).g1 hr0 g1)
  have Q1 : Hid (FR B R w ((w.alloc (.cells #[pR R] 61)).setCell ⟨R, 1, none⟩ (.int .i64 (d + 1)))) := Lib.hid ((FR.gr HG.out hB).trans (FR.g1 hr0 g1 (by simp; omega)))
  have HB := Lib.hid hB
  have hp1 := box1 P1.out
  have HL := Lib.hid hl
  have HF := Lib.hid hf
  have HPR := Lib.hid hPR
  have HEW : Hid (∀ w', FR B R w w' → ES w') := Lib.hid (fun w' f => hE.fr hr f hGB)
  clear hr hr0 hi hE hB g1 hP0 hRs hPR hl hf
  have KS := Lib.hid (fun p s' d' w' (k : RC R M s' d' w') (h : s'.length ≤ 100000) => jsign_any R M s' p d' w' k (by omega))
  have hbs : blk s = s := blk_head HF.out (by decide)
  have K1 := KS.out [123] s (d + 1) _ H1.out HL.out
  rw [hbs, pre1, HF.out] at K1
  simp only [if_true] at K1
  have htl : s.drop ([123] : Bs).length = s.tail := by cases s <;> rfl
  rw [htl] at K1
  have HTL : Hid (s.tail.length ≤ 100000 ∧ cnt x + s.tail.length ≤ K) := Lib.hid ⟨Nat.le_trans (by simp) HL.out, Nat.le_trans (Nat.add_le_add_left (by simp) _) hK⟩
  clear hK
  obtain ⟨res, hres⟩ : ∃ res, res = rowsM T 125 x s.tail := ⟨_, rfl⟩
  rw [← hres]
  unfold rowsM at hres
  generalize s.tail = s1 at *
  have HRS := Lib.hid hres
  clear hres hbs htl HF HL
  rw [show Sx [123] = ⟨#[123]⟩ from rfl] at K1
  have K2 := Lib.hid (fun w' (k : RC R M s1 (d + 1) w') => KS.out [125] s1 (d + 1) w' k HTL.out.1)
  rw [show Sx [125] = ⟨#[125]⟩ from rfl] at K2
  simp only [pre1] at K2
  cases hen : isH 125 (blk s1) with
  | true =>
    rw [hen] at K2 HRS
    simp only [if_true] at K2 HRS
    have htl : (blk s1).drop ([125] : Bs).length = (blk s1).tail := by cases blk s1 <;> rfl
    rw [htl] at K2
    clear htl hen
    go_enter_defers Tryz.func111, Tryz.ntmps111
    go_wp2_with (first
      | (go_at_call 149; ((with_reducible refine K1.mono ?_); rintro r w2 ⟨rfl, hc, hg⟩); have H2 := Lib.hid hc; have I2 := Lib.hid (hI _ _ _ I1.out hg); have Q2 := Lib.hid (Q1.out.trans (FR.g1 H1.out hg (Nat.le_trans HB.out Q1.out.size))); have P2 := Lib.hid ((hg.block _ (lt_of_block P1.out) (by intro e; injection e with e; exact HPR.out e)).trans P1.out); have hp1 := box1 P2.out; clear hc hg)
      | (go_at_call 149; ((with_reducible refine (K2.out _ H2.out).mono ?_); rintro r w3 ⟨rfl, hc, hg⟩); have H3 := Lib.hid hc; have I3 := Lib.hid (hI _ _ _ I2.out hg); have Q3 := Lib.hid (Q2.out.trans (FR.g1 H2.out hg (Nat.le_trans HB.out Q2.out.size))); have P3 := Lib.hid ((hg.block _ (lt_of_block P2.out) (by intro e; injection e with e; exact HPR.out e)).trans P2.out); have hp1 := box1 P3.out; clear hc hg))
    refine leaves_cons (f := 148) (args := #[.pointer (some ⟨w.heap.size, 0, none⟩)]) (by simp) (by simp [go_sem]) ?_
    refine (closeD_any R M w.heap.size _ (d + 1) .returning _ H3.out P3.out (by omega) (by omega)).mono ?_
    rintro e u' w'' ⟨rfl, rfl, rfl⟩
    refine ⟨_, results_tmp rfl _ _ _, x, 0, (blk s1).tail, rfl, ?_, hI _ _ _ I3.out (g1_set R 1 _ _), Q3.out.trans (FR.g1 H3.out (g1_set R 1 _ _) (Nat.le_trans HB.out Q3.out.size)), ?_⟩
    · have := H3.out.set1 (d + 1 - 1)
      have e1 : d + 1 - 1 = d := by omega
      rw [e1] at this ⊢
      exact this
    · rw [HRS.out]; exact ⟨rfl, rfl, rfl⟩
  | false =>
    rw [hen] at K2 HRS
    simp only [Bool.false_eq_true, if_false] at K2 HRS
    have HBL := Lib.hid (blk_len s1)
    have HT := Lib.hid hT
    have HII := Lib.hid hI
    have HLN := Lib.hid hlen
    clear hen hT hI hlen
    go_enter_defers Tryz.func111, Tryz.ntmps111
    go_wp2_with (first
      | (go_at_call 149; ((with_reducible refine K1.mono ?_); rintro r w2 ⟨rfl, hc, hg⟩); have H2 := Lib.hid hc; have I2 := Lib.hid (HII.out _ _ _ I1.out hg); have Q2 := Lib.hid (Q1.out.trans (FR.g1 H1.out hg (Nat.le_trans HB.out Q1.out.size))); have P2 := Lib.hid ((hg.block _ (lt_of_block P1.out) (by intro e; injection e with e; exact HPR.out e)).trans P1.out); have E2 := Lib.hid (E1.out.g1 H1.out hg); have hp1 := box1 P2.out; clear hc hg)
      | (go_at_call 149; ((with_reducible refine (K2.out _ H2.out).mono ?_); rintro r w3 ⟨rfl, hc, hg⟩); have H3 := Lib.hid hc; have I3 := Lib.hid (HII.out _ _ _ I2.out hg); have Q3 := Lib.hid (Q2.out.trans (FR.g1 H2.out hg (Nat.le_trans HB.out Q2.out.size))); have P3 := Lib.hid ((hg.block _ (lt_of_block P2.out) (by intro e; injection e with e; exact HPR.out e)).trans P2.out); have E3 := Lib.hid (E2.out.g1 H2.out hg); have hp1 := box1 P3.out; clear hc hg))
    go_loopw [9] (fun _ wr => ∃ (y : α) (t : Bs) (m : Nat), Hid (t.length < m ∧ (t.length ≤ 100000 ∧ cnt y + t.length ≤ K) ∧ I y wr ∧ RC R M t (d + 1) wr ∧ FR B R w wr ∧ ES wr ∧ wr.heap[w.heap.size]? = some (.cells #[pR R] 61 (0, 0)) ∧ res = rowM T 125 m y t)) (fun _ wr => leftSz R wr)
    case atStart =>
      have h1 := HBL.out
      have h2 := HTL.out.1
      have h3 := HTL.out.2
      exact ⟨x, blk s1, s1.length + 1, Lib.hid ⟨by omega, ⟨by omega, by omega⟩, I3.out, H3.out, Q3.out, E3.out, P3.out, HRS.out⟩⟩
    case round =>
      obtain ⟨y, t, m, hh⟩ := hrel
      obtain ⟨hm, hl, hi, hr, hq, he, hp, hre⟩ := hh.out
      clear hh
      have hlf := hr.left
      have HSET : Hid (∀ s' w', RC R M s' (d + 1) w' → RC R M s' d (w'.setCell ⟨R, 1, none⟩ (.int .i64 (d + 1 - 1)))) := Lib.hid (fun s' w' k => by
        have := k.set1 (d + 1 - 1)
        have e1 : d + 1 - 1 = d := by omega
        rw [e1] at this ⊢
        exact this)
      cases m with
      | zero => omega
      | succ m =>
      have KT := HT.out y t wr hr hi he (Nat.le_trans HB.out hq.size) hl.1 hl.2
      simp only [rowM] at hre
      unfold RowR at KT
      have HQ := Lib.hid hq
      have HP := Lib.hid hp
      have HR0 := Lib.hid hr
      have HE0 := Lib.hid he
      have hp1 := box1 hp
      have H4F : Hid (∀ (y2 : α) (s2 : Bs) (w2 : World), RC R M s2 (d + 1) w2 → I y2 w2 → FR B R wr w2 → RC R M s2 (d + 1) w2 ∧ I y2 w2 ∧ w2.heap[w.heap.size]? = some (.cells #[pR R] 61 (0, 0)) ∧ FR B R w w2 ∧ w2.cell? ⟨w.heap.size, 0, none⟩ = some (pR R)) := Lib.hid (fun y2 s2 w2 a b c => ⟨a, b, c.box _ _ _ HP.out, HQ.out.trans c, box1 (c.box _ _ _ HP.out)⟩)
      have HSF : Hid (∀ (y2 : α) (s2 s3 : Bs) (w2 w3 : World), (RC R M s2 (d + 1) w2 ∧ I y2 w2 ∧ w2.heap[w.heap.size]? = some (.cells #[pR R] 61 (0, 0)) ∧ FR B R w w2 ∧ w2.cell? ⟨w.heap.size, 0, none⟩ = some (pR R)) → RC R M s3 (d + 1) w3 → G1 R w2 w3 → RC R M s3 (d + 1) w3 ∧ I y2 w3 ∧ w3.heap[w.heap.size]? = some (.cells #[pR R] 61 (0, 0)) ∧ FR B R w w3 ∧ w3.cell? ⟨w.heap.size, 0, none⟩ = some (pR R)) := Lib.hid (fun y2 s2 s3 w2 w3 k a g => by
        have f := FR.g1 k.1 g (Nat.le_trans HB.out k.2.2.2.1.size)
        exact ⟨a, HII.out _ _ _ k.2.1 g, f.box _ _ _ k.2.2.1, k.2.2.2.1.trans f, box1 (f.box _ _ _ k.2.2.1)⟩)
      cases hTy : T y t with
      | error c =>
        rw [hTy] at KT hre
        simp only at hre KT
        have HRE := Lib.hid hre
        clear hre hTy hm hl hi hr hq he hp hlf
        go_wp2_with (go_at_call 113; ((with_reducible refine KT.mono ?_); rintro r w4 ⟨y4, e4, s4, rfl, hc, hi4, hf4, he4, hn4⟩); have H4 := Lib.hid (H4F.out _ _ _ hc hi4 hf4); have HE4 := Lib.hid he4; have hne4 : (e4 == 0) = false := beq_eq_false_iff_ne.2 hn4; have HN4 := Lib.hid hn4; clear hc hi4 hf4 he4 hn4)
        refine leaves_cons (f := 148) (args := #[.pointer (some ⟨w.heap.size, 0, none⟩)]) (by simp) (by simp [go_sem]) ?_
        refine (closeD_any R M w.heap.size _ (d + 1) .returning _ H4.out.1 H4.out.2.2.1 (by omega) (by omega)).mono ?_
        rintro e' u' w'' ⟨rfl, rfl, rfl⟩
        refine ⟨_, results_tmp rfl _ _ _, y4, e4, s4, rfl, HSET.out _ _ H4.out.1, HII.out _ _ _ H4.out.2.1 (g1_set R 1 _ _), H4.out.2.2.2.1.trans (FR.g1 H4.out.1 (g1_set R 1 _ _) (Nat.le_trans HB.out H4.out.2.2.2.1.size)), ?_⟩
        rw [HRE.out]; exact ⟨HE4.out, HN4.out⟩
      | ok zr =>
        obtain ⟨z, r'⟩ := zr
        rw [hTy] at KT hre
        simp only at hre KT
        obtain ⟨hlr, hcr⟩ := HLN.out _ _ _ _ hTy
        obtain ⟨hl, hlk⟩ := hl
        have hbl := blk_len r'
        have K5 := Lib.hid (fun w' (k : RC R M r' (d + 1) w') => KS.out [125] r' (d + 1) w' k (by omega))
        rw [show Sx [125] = ⟨#[125]⟩ from rfl] at K5
        simp only [pre1] at K5
        have K6 := Lib.hid (fun w' (k : RC R M (blk r') (d + 1) w') => KS.out [44] (blk r') (d + 1) w' k (by omega))
        rw [show Sx [44] = ⟨#[44]⟩ from rfl] at K6
        simp only [pre1] at K6
        have hbb : blk (blk r') = blk r' := blk_blk r'
        rw [hbb] at K6
        have htl : ∀ c : UInt8, (blk r').drop ([c] : Bs).length = (blk r').tail := fun c => by cases blk r' <;> rfl
        rw [htl] at K5 K6
        clear htl hbb
        cases h1 : isH 125 (blk r') with
        | true =>
          rw [h1] at K5 hre
          simp only [if_true] at K5 hre
          have HRE := Lib.hid hre
          clear hre hTy hm hl hlk hcr hi hr hq he hp hlf hlr hbl h1
          go_wp2_with (first
            | (go_at_call 113; ((with_reducible refine KT.mono ?_); rintro r w4 ⟨y4, e4, s4, rfl, hc, hi4, hf4, rfl, rfl, rfl⟩); have H4 := Lib.hid (H4F.out _ _ _ hc hi4 hf4); have hp1 := H4.out.2.2.2.2; clear hc hi4 hf4)
            | (go_at_call 149; ((with_reducible refine (K5.out _ H4.out.1).mono ?_); rintro r w5 ⟨rfl, hc, hg⟩); have H5 := Lib.hid (HSF.out _ _ _ _ _ H4.out hc hg); have hp1 := H5.out.2.2.2.2; clear hc hg))
          refine leaves_cons (f := 148) (args := #[.pointer (some ⟨w.heap.size, 0, none⟩)]) (by simp) (by simp [go_sem]) ?_
          refine (closeD_any R M w.heap.size _ (d + 1) .returning _ H5.out.1 H5.out.2.2.1 (by omega) (by omega)).mono ?_
          rintro e' u' w'' ⟨rfl, rfl, rfl⟩
          refine ⟨_, results_tmp rfl _ _ _, _, 0, _, rfl, HSET.out _ _ H5.out.1, HII.out _ _ _ H5.out.2.1 (g1_set R 1 _ _), H5.out.2.2.2.1.trans (FR.g1 H5.out.1 (g1_set R 1 _ _) (Nat.le_trans HB.out H5.out.2.2.2.1.size)), ?_⟩
          rw [HRE.out]; exact ⟨rfl, rfl, rfl⟩
        | false =>
          rw [h1] at K5 hre
          simp only [Bool.false_eq_true, if_false] at K5 hre
          cases h2 : isH 44 (blk r') with
          | true =>
            rw [h2] at K6 hre
            simp only [if_true] at K6 hre
            have hpos : (blk r').tail.length < t.length := by
              have := congrArg List.length (isH_eq h2)
              simp only [List.length_cons] at this
              omega
            have htl2 : (blk r').tail.length ≤ (blk r').length := by simp
            have HRE := Lib.hid hre
            have HM : Hid ((blk r').tail.length < m ∧ ((blk r').tail.length ≤ 100000 ∧ cnt z + (blk r').tail.length ≤ K) ∧ (blk r').tail.length < leftSz R wr) := Lib.hid ⟨by omega, ⟨by omega, by omega⟩, by omega⟩
            clear hre hTy hm hl hlk hcr hi hr hq he hp hlf hlr hbl h1 h2 hpos htl2
            go_wp2_with (first
              | (go_at_call 113; ((with_reducible refine KT.mono ?_); rintro r w4 ⟨y4, e4, s4, rfl, hc, hi4, hf4, rfl, rfl, rfl⟩); have H4 := Lib.hid (H4F.out _ _ _ hc hi4 hf4); have hp1 := H4.out.2.2.2.2; clear hc hi4 hf4)
              | (go_at_call 149; ((with_reducible refine (K5.out _ H4.out.1).mono ?_); rintro r w5 ⟨rfl, hc, hg⟩); have H5 := Lib.hid (HSF.out _ _ _ _ _ H4.out hc hg); have hp1 := H5.out.2.2.2.2; clear hc hg)
              | (go_at_call 149; ((with_reducible refine (K6.out _ H5.out.1).mono ?_); rintro r w6 ⟨rfl, hc, hg⟩); have H6 := Lib.hid (HSF.out _ _ _ _ _ H5.out hc hg); clear hc hg))
            have H6E : Hid (ES w6) := Lib.hid (HEW.out _ H6.out.2.2.2.1)
            go_roundw
            case rel => exact ⟨_, _, m, Lib.hid ⟨HM.out.1, HM.out.2.1, H6.out.2.1, H6.out.1, H6.out.2.2.2.1, H6E.out, H6.out.2.2.1, HRE.out⟩⟩
            case measure => rw [H6.out.1.left]; exact HM.out.2.2
          | false =>
            rw [h2] at K6 hre
            simp only [Bool.false_eq_true, if_false] at K6 hre
            have HRE := Lib.hid hre
            clear hre hTy hm hl hlk hcr hi hr hq he hp hlf hlr hbl h1 h2
            go_wp2_with (first
              | (go_at_call 113; ((with_reducible refine KT.mono ?_); rintro r w4 ⟨y4, e4, s4, rfl, hc, hi4, hf4, rfl, rfl, rfl⟩); have H4 := Lib.hid (H4F.out _ _ _ hc hi4 hf4); have hp1 := H4.out.2.2.2.2; clear hc hi4 hf4)
              | (go_at_call 149; ((with_reducible refine (K5.out _ H4.out.1).mono ?_); rintro r w5 ⟨rfl, hc, hg⟩); have H5 := Lib.hid (HSF.out _ _ _ _ _ H4.out hc hg); have hp1 := H5.out.2.2.2.2; clear hc hg)
              | (go_at_call 149; ((with_reducible refine (K6.out _ H5.out.1).mono ?_); rintro r w6 ⟨rfl, hc, hg⟩); have H6 := Lib.hid (HSF.out _ _ _ _ _ H5.out hc hg); clear hc hg))
            refine leaves_cons (f := 148) (args := #[.pointer (some ⟨w.heap.size, 0, none⟩)]) (by simp) (by simp [go_sem]) ?_
            refine (closeD_any R M w.heap.size _ (d + 1) .returning _ H6.out.1 H6.out.2.2.1 (by omega) (by omega)).mono ?_
            rintro e' u' w'' ⟨rfl, rfl, rfl⟩
            refine ⟨_, results_tmp rfl _ _ _, _, 11, _, rfl, HSET.out _ _ H6.out.1, HII.out _ _ _ H6.out.2.1 (g1_set R 1 _ _), H6.out.2.2.2.1.trans (FR.g1 H6.out.1 (g1_set R 1 _ _) (Nat.le_trans HB.out H6.out.2.2.2.1.size)), ?_⟩
            rw [HRE.out]; exact ⟨rfl, by omega⟩

end Go.Proofs.YticnfmfmgdfdeaaGreatDoor
