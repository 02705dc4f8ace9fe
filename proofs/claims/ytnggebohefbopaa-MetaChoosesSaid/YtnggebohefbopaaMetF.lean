/-
  Layer 7: the contract of meta's Choose. Own work.
-/
import Derived.Test.YtnggebohefbopaaMetE
namespace Go.Proofs.Ytnggebohefbopaa
open Go.RowKit

theorem mget_as {W : World} {ao : Option Addr} {n c : Nat} {b : List Int} (h : Seq W.heap.size W (.slice ao n c) b) (hb : Byt b) {X : Mt} (hX : X = mgetM b) {E : Int} (hE : E = mgetE b) :
    Calls Try.prog 17 #[.slice ao n c] W fun r w' => r = .returned (.tuple #[.agg #[.int .u64 (X.t : Int), .int .u32 (X.e : Int), .int .u32 (X.m : Int), .int .u32 (X.f : Int)], .int .i64 E]) ∧ W.grownBy w' none := by
  subst hX hE
  exact mget_any W ao n c b h hb
theorem other4 {W : World} {q i : Nat} {x : Option Obj} (h : W.heap[i]? = x) (hi : i ≠ q) (a b c d : Value) : ((((W.setCell ⟨q, 0, none⟩ a).setCell ⟨q, 1, none⟩ b).setCell ⟨q, 2, none⟩ c).setCell ⟨q, 3, none⟩ d).heap[i]? = x :=
  ((Below.heap_setCell _ _ _ _ (by simpa using hi)).trans ((Below.heap_setCell _ _ _ _ (by simpa using hi)).trans ((Below.heap_setCell _ _ _ _ (by simpa using hi)).trans (Below.heap_setCell _ _ _ _ (by simpa using hi))))).trans h

/-- What stands while both pages are gone through: the newest one yet is N, in block q + 1. -/
structure CS7 (q : Nat) (w0 w : World) (va vb : Value) (a b : List Int) (N : Mt) : Prop where
  hq : w.heap[q]? = some (.cells zC 29 (0, 0))
  hn : w.heap[q + 1]? = some (.cells (mtC N) 29 (0, 0))
  bel : Below w0.heap.size w0 w
  q0 : w0.heap.size ≤ q
  sa : Seq w0.heap.size w va a
  sb : Seq w0.heap.size w vb b
theorem CS7.far {q : Nat} {w0 w w' : World} {va vb : Value} {a b : List Int} {N : Mt} (h : CS7 q w0 w va vb a b N) (k : w.grownBy w' none) : CS7 q w0 w' va vb a b N :=
  ⟨(k.block q (lt_of_block h.hq) (by simp)).trans h.hq, (k.block (q + 1) (lt_of_block h.hn) (by simp)).trans h.hn, h.bel.trans ((gbelow k).mono h.bel.size), h.q0,
    h.sa.below (fun i hi => k.block i (by have := h.bel.size; omega) (by simp)), h.sb.below (fun i hi => k.block i (by have := h.bel.size; omega) (by simp))⟩
theorem CS7.put {q : Nat} {w0 w : World} {va vb : Value} {a b : List Int} {N : Mt} (h : CS7 q w0 w va vb a b N) (X : Mt) :
    CS7 q w0 ((((w.setCell ⟨q + 1, 0, none⟩ (.int .u64 (X.t : Int))).setCell ⟨q + 1, 1, none⟩ (.int .u32 (X.e : Int))).setCell ⟨q + 1, 2, none⟩ (.int .u32 (X.m : Int))).setCell ⟨q + 1, 3, none⟩ (.int .u32 (X.f : Int))) va vb a b X := by
  have hg := grown4 w (q + 1) (.int .u64 (X.t : Int)) (.int .u32 (X.e : Int)) (.int .u32 (X.m : Int)) (.int .u32 (X.f : Int))
  have kk : ∀ i, i < w0.heap.size → _ := fun i hi => hg.block i (by have := h.bel.size; omega) (by intro e; injection e with e; have := h.q0; omega)
  exact ⟨other4 h.hq (by omega) _ _ _ _, store4 h.hn _ _ _ _, below4 h.bel (by have := h.q0; omega) _ _ _ _, h.q0, h.sa.below kk, h.sb.below kk⟩
theorem CS7.start {w : World} {va vb : Value} {a b : List Int} (ha : Seq w.heap.size w va a) (hb : Seq w.heap.size w vb b) :
    CS7 w.heap.size w ((w.alloc (.cells zC 29)).alloc (.cells zC 29)) va vb a b mt0 := by
  have hg := two_grown w (.cells zC 29) (.cells zC 29)
  exact ⟨two_lit0 _ _ _, two_lit1 _ _ _, gbelow hg, Nat.le_refl _, ha.below (fun i hi => hg.block i hi (by simp)), hb.below (fun i hi => hg.block i hi (by simp))⟩

/-- The newest one, a page later. -/
def nextM (k : Nat) (l : List Int) (N : Mt) : Mt := if isOf k l = true ∧ N.t < (mgetM l).t then mgetM l else N
def pkM (a b : List Int) : Nat → Mt
  | 0 => mt0
  | 1 => nextM 0 a mt0
  | _ => nextM 1 b (nextM 0 a mt0)
theorem nextM_first (a : List Int) : nextM 0 a mt0 = firstM a := by
  unfold nextM firstM
  by_cases h : isOf 0 a = true
  · rw [if_pos ⟨h, (isOf_t h).2.2⟩, if_pos h]
  · rw [if_neg (fun k => h k.1), if_neg h]
theorem pkM_2 (a b : List Int) : pkM a b 2 = chM a b := by
  show nextM 1 b (nextM 0 a mt0) = _
  rw [nextM_first]; rfl
theorem next_e {k : Nat} {l : List Int} {N : Mt} (h : mgetE l ≠ 0) : nextM k l N = N := by
  unfold nextM isOf; rw [if_neg (by simp [h])]
theorem next_s {k : Nat} {l : List Int} {N : Mt} (h : (mgetM l).t % 2 ≠ k) : nextM k l N = N := by
  unfold nextM isOf; rw [if_neg (by simp [h])]
theorem next_t {k : Nat} {l : List Int} {N : Mt} (h : ¬ N.t < (mgetM l).t) : nextM k l N = N := by
  unfold nextM; rw [if_neg (fun k => h k.2)]
theorem next_y {k : Nat} {l : List Int} {N : Mt} (h1 : mgetE l = 0) (h2 : (mgetM l).t % 2 = k) (h3 : N.t < (mgetM l).t) : nextM k l N = mgetM l := by
  unfold nextM isOf; rw [if_pos ⟨by simp [h1, h2], h3⟩]

/-- What Choose tells. -/
def ChoseM (a b : List Int) (w w' : World) (r : Ending) : Prop := r = .returned (.tuple #[.agg (mtC (chM a b)), .int .i64 (chE a b)]) ∧ w.grownBy w' none

set_option maxHeartbeats 4000000 in
theorem choose_any (w : World) (a0 : Option Addr) (n0 c0 : Nat) (a : List Int) (a1 : Option Addr) (n1 c1 : Nat) (b : List Int) (ha : Seq w.heap.size w (.slice a0 n0 c0) a) (hb : Seq w.heap.size w (.slice a1 n1 c1) b) (hba : Byt a) (hbb : Byt b) :
    Calls Try.prog 21 #[.slice a0 n0 c0, .slice a1 n1 c1] w fun r w' => ChoseM a b w w' r := by
  have i0 : ∀ w : World, (Instr.index 78 (.agg #[.slice a0 n0 c0, .slice a1 n1 c1]) (.int .i64 0)).run Try.prog w = .ok (.slice a0 n0 c0) w := fun _ => by kernel_rfl
  have i1 : ∀ w : World, (Instr.index 78 (.agg #[.slice a0 n0 c0, .slice a1 n1 c1]) (.int .i64 1)).run Try.prog w = .ok (.slice a1 n1 c1) w := fun _ => by kernel_rfl
  have HS := Lib.hid (CS7.start ha hb)
  have HBA := Lib.hid hba
  have HBB := Lib.hid hbb
  clear ha hb hba hbb
  go_enter Try.func21, Try.ntmps21
  go_wp2
  go_loopw [14] (fun i wr => ∃ k : Nat, k ≤ 2 ∧ i = .int .i64 k ∧ Hid (CS7 w.heap.size w wr (.slice a0 n0 c0) (.slice a1 n1 c1) a b (pkM a b k))) (fun i _ => 2 - (intOf i).toNat)
  case atStart => exact ⟨0, by omega, rfl, HS⟩
  case round =>
    obtain ⟨k, hk, rfl, HR⟩ := hrel
    clear HS
    by_cases hlt : k < 2
    · rcases (by omega : k = 0 ∨ k = 1) with rfl | rfl
      · obtain ⟨X, hX⟩ : ∃ X, X = mgetM a := ⟨_, rfl⟩
        obtain ⟨E, hE⟩ : ∃ E, E = mgetE a := ⟨_, rfl⟩
        obtain ⟨N, hN⟩ : ∃ N, N = pkM a b 0 := ⟨_, rfl⟩
        rw [← hN] at HR
        have HXo := Lib.hid (show MtOk X by rw [hX]; exact mgetM_ok HBA.out)
        have HX := Lib.hid hX
        have HE := Lib.hid hE
        have HN := Lib.hid (show pkM a b 1 = nextM 0 a N by rw [hN]; rfl)
        clear hN hX hE
        by_cases he : E = 0
        · subst he
          by_cases hs : X.t % 2 = 0
          · by_cases ht : N.t < X.t
            · have hti : (N.t : Int) < (X.t : Int) := by omega
              have htd : decide ((N.t : Int) < (X.t : Int)) = true := by simpa using ht
              have HNX := Lib.hid (show pkM a b 1 = X by rw [HN.out, next_y HE.out.symm (by rw [← HX.out]; exact hs) (by rw [← HX.out]; exact ht), HX.out])
              go_wp2_with (first
            | (go_at_call 17; have K := mget_as (HR.out.sa.mono HR.out.bel.size) HBA.out HX.out HE.out; ((with_reducible refine K.mono ?_); clear K; rintro r w1 ⟨rfl, hg⟩); have HC := Lib.hid ((HR.out.far hg).far (World.grownBy_alloc w1 (.cells #[.int .u64 (X.t : Int), .int .u32 (X.e : Int), .int .u32 (X.m : Int), .int .u32 (X.f : Int)] 29) none)); obtain ⟨⟨y0, y1, y2, y3⟩, f0, f1, f2, f3⟩ := cells4 HC.out.hn; clear hg)
            | (go_at_call 16; have K := mslot_any X.t HXo.out.t (w1.alloc (.cells #[.int .u64 (X.t : Int), .int .u32 (X.e : Int), .int .u32 (X.m : Int), .int .u32 (X.f : Int)] 29)); rw [hs] at K; ((with_reducible refine K.mono ?_); clear K; rintro r w2 ⟨rfl, rfl⟩)))
              go_roundw
              case rel => exact ⟨1, by omega, by go_num, Lib.hid (by rw [HNX.out]; exact HC.out.put X)⟩
              case measure => simp [intOf]
            · have hti : ¬ (N.t : Int) < (X.t : Int) := by omega
              have htd : decide ((N.t : Int) < (X.t : Int)) = false := by simpa using ht
              have HNX := Lib.hid (show pkM a b 1 = N by rw [HN.out, next_t (by rw [← HX.out]; exact ht)])
              go_wp2_with (first
            | (go_at_call 17; have K := mget_as (HR.out.sa.mono HR.out.bel.size) HBA.out HX.out HE.out; ((with_reducible refine K.mono ?_); clear K; rintro r w1 ⟨rfl, hg⟩); have HC := Lib.hid ((HR.out.far hg).far (World.grownBy_alloc w1 (.cells #[.int .u64 (X.t : Int), .int .u32 (X.e : Int), .int .u32 (X.m : Int), .int .u32 (X.f : Int)] 29) none)); obtain ⟨⟨y0, y1, y2, y3⟩, f0, f1, f2, f3⟩ := cells4 HC.out.hn; clear hg)
            | (go_at_call 16; have K := mslot_any X.t HXo.out.t (w1.alloc (.cells #[.int .u64 (X.t : Int), .int .u32 (X.e : Int), .int .u32 (X.m : Int), .int .u32 (X.f : Int)] 29)); rw [hs] at K; ((with_reducible refine K.mono ?_); clear K; rintro r w2 ⟨rfl, rfl⟩)))
              go_roundw
              case rel => exact ⟨1, by omega, by go_num, Lib.hid (by rw [HNX.out]; exact HC.out)⟩
              case measure => simp [intOf]
          · have hs2 : X.t % 2 = 1 := by omega
            have HNX := Lib.hid (show pkM a b 1 = N by rw [HN.out, next_s (by rw [← HX.out]; exact hs)])
            go_wp2_with (first
            | (go_at_call 17; have K := mget_as (HR.out.sa.mono HR.out.bel.size) HBA.out HX.out HE.out; ((with_reducible refine K.mono ?_); clear K; rintro r w1 ⟨rfl, hg⟩); have HC := Lib.hid ((HR.out.far hg).far (World.grownBy_alloc w1 (.cells #[.int .u64 (X.t : Int), .int .u32 (X.e : Int), .int .u32 (X.m : Int), .int .u32 (X.f : Int)] 29) none)); obtain ⟨⟨y0, y1, y2, y3⟩, f0, f1, f2, f3⟩ := cells4 HC.out.hn; clear hg)
            | (go_at_call 16; have K := mslot_any X.t HXo.out.t (w1.alloc (.cells #[.int .u64 (X.t : Int), .int .u32 (X.e : Int), .int .u32 (X.m : Int), .int .u32 (X.f : Int)] 29)); rw [hs2] at K; ((with_reducible refine K.mono ?_); clear K; rintro r w2 ⟨rfl, rfl⟩)))
            go_roundw
            case rel => exact ⟨1, by omega, by go_num, Lib.hid (by rw [HNX.out]; exact HC.out)⟩
            case measure => simp [intOf]
        · have hed : (E == 0) = false := by simpa using he
          have HNX := Lib.hid (show pkM a b 1 = N by rw [HN.out, next_e (by rw [← HE.out]; exact he)])
          go_wp2_with (first
            | (go_at_call 17; have K := mget_as (HR.out.sa.mono HR.out.bel.size) HBA.out HX.out HE.out; ((with_reducible refine K.mono ?_); clear K; rintro r w1 ⟨rfl, hg⟩); have HC := Lib.hid ((HR.out.far hg).far (World.grownBy_alloc w1 (.cells #[.int .u64 (X.t : Int), .int .u32 (X.e : Int), .int .u32 (X.m : Int), .int .u32 (X.f : Int)] 29) none)); obtain ⟨⟨y0, y1, y2, y3⟩, f0, f1, f2, f3⟩ := cells4 HC.out.hn; clear hg)
            | (go_at_call 16; have K := mslot_any X.t HXo.out.t (w1.alloc (.cells #[.int .u64 (X.t : Int), .int .u32 (X.e : Int), .int .u32 (X.m : Int), .int .u32 (X.f : Int)] 29)); ((with_reducible refine K.mono ?_); clear K; rintro r w2 ⟨rfl, rfl⟩)))
          go_roundw
          case rel => exact ⟨1, by omega, by go_num, Lib.hid (by rw [HNX.out]; exact HC.out)⟩
          case measure => simp [intOf]
      · obtain ⟨X, hX⟩ : ∃ X, X = mgetM b := ⟨_, rfl⟩
        obtain ⟨E, hE⟩ : ∃ E, E = mgetE b := ⟨_, rfl⟩
        obtain ⟨N, hN⟩ : ∃ N, N = pkM a b 1 := ⟨_, rfl⟩
        rw [← hN] at HR
        have HXo := Lib.hid (show MtOk X by rw [hX]; exact mgetM_ok HBB.out)
        have HX := Lib.hid hX
        have HE := Lib.hid hE
        have HN := Lib.hid (show pkM a b 2 = nextM 1 b N by rw [hN]; rfl)
        clear hN hX hE
        by_cases he : E = 0
        · subst he
          by_cases hs : X.t % 2 = 1
          · by_cases ht : N.t < X.t
            · have hti : (N.t : Int) < (X.t : Int) := by omega
              have htd : decide ((N.t : Int) < (X.t : Int)) = true := by simpa using ht
              have HNX := Lib.hid (show pkM a b 2 = X by rw [HN.out, next_y HE.out.symm (by rw [← HX.out]; exact hs) (by rw [← HX.out]; exact ht), HX.out])
              go_wp2_with (first
            | (go_at_call 17; have K := mget_as (HR.out.sb.mono HR.out.bel.size) HBB.out HX.out HE.out; ((with_reducible refine K.mono ?_); clear K; rintro r w1 ⟨rfl, hg⟩); have HC := Lib.hid ((HR.out.far hg).far (World.grownBy_alloc w1 (.cells #[.int .u64 (X.t : Int), .int .u32 (X.e : Int), .int .u32 (X.m : Int), .int .u32 (X.f : Int)] 29) none)); obtain ⟨⟨y0, y1, y2, y3⟩, f0, f1, f2, f3⟩ := cells4 HC.out.hn; clear hg)
            | (go_at_call 16; have K := mslot_any X.t HXo.out.t (w1.alloc (.cells #[.int .u64 (X.t : Int), .int .u32 (X.e : Int), .int .u32 (X.m : Int), .int .u32 (X.f : Int)] 29)); rw [hs] at K; ((with_reducible refine K.mono ?_); clear K; rintro r w2 ⟨rfl, rfl⟩)))
              go_roundw
              case rel => exact ⟨2, by omega, by go_num, Lib.hid (by rw [HNX.out]; exact HC.out.put X)⟩
              case measure => simp [intOf]
            · have hti : ¬ (N.t : Int) < (X.t : Int) := by omega
              have htd : decide ((N.t : Int) < (X.t : Int)) = false := by simpa using ht
              have HNX := Lib.hid (show pkM a b 2 = N by rw [HN.out, next_t (by rw [← HX.out]; exact ht)])
              go_wp2_with (first
            | (go_at_call 17; have K := mget_as (HR.out.sb.mono HR.out.bel.size) HBB.out HX.out HE.out; ((with_reducible refine K.mono ?_); clear K; rintro r w1 ⟨rfl, hg⟩); have HC := Lib.hid ((HR.out.far hg).far (World.grownBy_alloc w1 (.cells #[.int .u64 (X.t : Int), .int .u32 (X.e : Int), .int .u32 (X.m : Int), .int .u32 (X.f : Int)] 29) none)); obtain ⟨⟨y0, y1, y2, y3⟩, f0, f1, f2, f3⟩ := cells4 HC.out.hn; clear hg)
            | (go_at_call 16; have K := mslot_any X.t HXo.out.t (w1.alloc (.cells #[.int .u64 (X.t : Int), .int .u32 (X.e : Int), .int .u32 (X.m : Int), .int .u32 (X.f : Int)] 29)); rw [hs] at K; ((with_reducible refine K.mono ?_); clear K; rintro r w2 ⟨rfl, rfl⟩)))
              go_roundw
              case rel => exact ⟨2, by omega, by go_num, Lib.hid (by rw [HNX.out]; exact HC.out)⟩
              case measure => simp [intOf]
          · have hs2 : X.t % 2 = 0 := by omega
            have HNX := Lib.hid (show pkM a b 2 = N by rw [HN.out, next_s (by rw [← HX.out]; exact hs)])
            go_wp2_with (first
            | (go_at_call 17; have K := mget_as (HR.out.sb.mono HR.out.bel.size) HBB.out HX.out HE.out; ((with_reducible refine K.mono ?_); clear K; rintro r w1 ⟨rfl, hg⟩); have HC := Lib.hid ((HR.out.far hg).far (World.grownBy_alloc w1 (.cells #[.int .u64 (X.t : Int), .int .u32 (X.e : Int), .int .u32 (X.m : Int), .int .u32 (X.f : Int)] 29) none)); obtain ⟨⟨y0, y1, y2, y3⟩, f0, f1, f2, f3⟩ := cells4 HC.out.hn; clear hg)
            | (go_at_call 16; have K := mslot_any X.t HXo.out.t (w1.alloc (.cells #[.int .u64 (X.t : Int), .int .u32 (X.e : Int), .int .u32 (X.m : Int), .int .u32 (X.f : Int)] 29)); rw [hs2] at K; ((with_reducible refine K.mono ?_); clear K; rintro r w2 ⟨rfl, rfl⟩)))
            go_roundw
            case rel => exact ⟨2, by omega, by go_num, Lib.hid (by rw [HNX.out]; exact HC.out)⟩
            case measure => simp [intOf]
        · have hed : (E == 0) = false := by simpa using he
          have HNX := Lib.hid (show pkM a b 2 = N by rw [HN.out, next_e (by rw [← HE.out]; exact he)])
          go_wp2_with (first
            | (go_at_call 17; have K := mget_as (HR.out.sb.mono HR.out.bel.size) HBB.out HX.out HE.out; ((with_reducible refine K.mono ?_); clear K; rintro r w1 ⟨rfl, hg⟩); have HC := Lib.hid ((HR.out.far hg).far (World.grownBy_alloc w1 (.cells #[.int .u64 (X.t : Int), .int .u32 (X.e : Int), .int .u32 (X.m : Int), .int .u32 (X.f : Int)] 29) none)); obtain ⟨⟨y0, y1, y2, y3⟩, f0, f1, f2, f3⟩ := cells4 HC.out.hn; clear hg)
            | (go_at_call 16; have K := mslot_any X.t HXo.out.t (w1.alloc (.cells #[.int .u64 (X.t : Int), .int .u32 (X.e : Int), .int .u32 (X.m : Int), .int .u32 (X.f : Int)] 29)); ((with_reducible refine K.mono ?_); clear K; rintro r w2 ⟨rfl, rfl⟩)))
          go_roundw
          case rel => exact ⟨2, by omega, by go_num, Lib.hid (by rw [HNX.out]; exact HC.out)⟩
          case measure => simp [intOf]
    · obtain rfl : k = 2 := by omega
      rw [pkM_2] at HR
      obtain ⟨X, hX⟩ : ∃ X, X = chM a b := ⟨_, rfl⟩
      rw [← hX] at HR
      obtain ⟨⟨x0, x1, x2, x3⟩, _⟩ := cells4 HR.out.hq
      obtain ⟨⟨_, _, _, _⟩, e0, e1, e2, e3⟩ := cells4 HR.out.hq
      obtain ⟨⟨y0, y1, y2, y3⟩, _⟩ := cells4 HR.out.hn
      by_cases h1 : X.t < 1
      · have hd : decide ((X.t : Int) < 1) = true := by simp; omega
        have hXz : X = mt0 := by rw [hX]; exact (chM_0 (by rw [← hX]; exact h1)).1
        have HE := Lib.hid (show chE a b = 24 by unfold chE; rw [← hX, if_pos h1])
        have HX := Lib.hid (show chM a b = mt0 by rw [← hX, hXz])
        have h1i : (X.t : Int) < 1 := by omega
        clear hX hXz
        go_wp2
        exact bodyPost_ret (results_M rfl _ _ w.heap.size _ _ rfl rfl (store4 HR.out.hq _ _ _ _) rfl) rfl ⟨by rw [HE.out, HX.out]; rfl, gof (below4 HR.out.bel (Nat.le_refl _) _ _ _ _) none⟩
      · have hd : decide ((X.t : Int) < 1) = false := by simp; omega
        have HE := Lib.hid (show chE a b = 0 by unfold chE; rw [← hX, if_neg h1])
        have HX := Lib.hid hX
        have h1i : ¬ (X.t : Int) < 1 := by omega
        clear hX
        go_wp2
        exact bodyPost_ret (results_M rfl _ _ w.heap.size _ _ rfl rfl (store4 HR.out.hq _ _ _ _) rfl) rfl ⟨by rw [HE.out, ← HX.out]; rfl, gof (below4 HR.out.bel (Nat.le_refl _) _ _ _ _) none⟩

end Go.Proofs.Ytnggebohefbopaa
