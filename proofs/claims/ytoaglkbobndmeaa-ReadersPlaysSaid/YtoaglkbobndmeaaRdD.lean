/-
  Layer 9: Begin, Clear, Oldest, Live. Own work.
-/
import Derived.Test.YtoaglkbobndmeaaRdC
namespace Go.Proofs.Ytoaglkbobndmeaa
open Go.RowKit

theorem results_H {fn : Func} {p u : Tmp} (h : fn.results = #[.cell p 36, .tmp u]) (tmps : Array Value) (W : World) (q : Nat) (cs : Array Value) (e : Value) (hp : tmps.getD p undef = .pointer (some ⟨q, 0, none⟩)) (he : tmps.getD u undef = e)
    (hq : W.heap[q]? = some (.cells cs 36 (0, 0))) (hs : cs.size = 2) : (results fn tmps).run Try.prog W = .ok (.tuple #[.agg cs, e]) W := by
  have hld := run_loadVar_row (P := Try.prog) W q 36 36 cs (0, 0) _ hq Try.underlying36 rfl (by rw [hs]; kernel_rfl)
  have hp' : tmps[p]?.getD undef = .pointer (some ⟨q, 0, none⟩) := by simpa using hp
  have he' : tmps[u]?.getD undef = e := by simpa using he
  simp [results, h, hp', he', asAddr, hld]
theorem set_in {w : World} {q i : Nat} {cs : Array Value} {t : TypeId} (u : Value) (h : w.heap[q]? = some (.cells cs t (0, 0))) : (w.setCell ⟨q, i, none⟩ u).heap[q]? = some (.cells (cs.setIfInBounds i u) t (0, 0)) := heap_setCell_same _ q i _ t u h
theorem store2 {w : World} {q : Nat} {a b : Value} {t : TypeId} (a' b' : Value) (h : w.heap[q]? = some (.cells #[a, b] t (0, 0))) :
    ((w.setCell ⟨q, 0, none⟩ a').setCell ⟨q, 1, none⟩ b').heap[q]? = some (.cells #[a', b'] t (0, 0)) := set_in b' (set_in a' h)
theorem two_free {w : World} {q : Nat} {a b : Value} {t : TypeId} (h : w.heap[q]? = some (.cells #[a, b] t (0, 0))) : w.frozen? ⟨q, 0, none⟩ = false ∧ w.frozen? ⟨q, 1, none⟩ = false := by
  refine ⟨?_, ?_⟩ <;> simp [World.frozen?, h]

theorem keep_alloc1 {w : World} {i : Nat} {x : Obj} (h : w.heap[i]? = some x) (o : Obj) : (w.alloc o).heap[i]? = some x := (Below.heap_alloc w o i (lt_of_block h)).trans h

set_option maxHeartbeats 2000000 in
theorem begin_nil (w : World) (x : Int) : Calls Try.prog 11 #[.pointer none, .int .u64 x] w fun r w' => r = .returned (.tuple #[hdl 0 0, .int .i64 1]) ∧ w.grownBy w' none := by
  go_enter Try.func11, Try.ntmps11
  go_wp2
  exact bodyPost_ret (results_H rfl _ _ w.heap.size _ _ rfl rfl (heap_alloc_new _ _) rfl) rfl ⟨rfl, World.grownBy_alloc _ _ _⟩

set_option maxHeartbeats 4000000 in
theorem begin_full (w : World) (b : Nat) (L : List Sl) (x : Nat) (h : TabAt b w L) (hf : ∀ s ∈ L, s.st ≠ 0) :
    Calls Try.prog 11 #[.pointer (some ⟨b, 0, none⟩), .int .u64 (x : Int)] w fun r w' => r = .returned (.tuple #[hdl 0 0, .int .i64 22]) ∧ w.grownBy w' none := by
  have HA := Lib.hid (World.grownBy_alloc w (.cells #[.int .i64 0, .int .u64 0] 36) none)
  have HR := Lib.hid (heap_alloc_new w (.cells #[.int .i64 0, .int .u64 0] 36))
  have H := Lib.hid (h.grown HA.out)
  have hms := h.most
  have hmm := H.out.many
  have HF := Lib.hid hf
  clear h hf
  go_enter Try.func11, Try.ntmps11
  go_wp2
  go_loopw [15] (fun i wr => ∃ (k : Nat), k ≤ L.length ∧ i = .int .i64 (k : Int) ∧ w.alloc (.cells #[.int .i64 0, .int .u64 0] 36) = wr) (fun i _ => L.length - (intOf i).toNat)
  case atStart => exact ⟨0, Nat.zero_le _, rfl, rfl⟩
  case round =>
    obtain ⟨k, hk, rfl, rfl⟩ := hrel
    by_cases hlt : k < L.length
    · have hki : (k : Int) < (L.length : Int) := by omega
      obtain ⟨s, hs⟩ : ∃ s, L[k]? = some s := ⟨L[k], List.getElem?_eq_getElem hlt⟩
      obtain ⟨c0, c1, c2⟩ := H.out.cells hs
      have hn := HF.out s (List.mem_of_getElem? hs)
      have hni : ¬ (s.st : Int) = 0 := by omega
      have hnb : ((s.st : Int) == 0) = false := by simpa using hni
      have i126 : (k : Int) < 126 := by omega
      have hk126 : k < 126 := by omega
      rw [Nat.mul_comm] at c0
      clear hs c1 c2
      go_wp2
      go_roundw
      case rel => exact ⟨k + 1, by omega, by go_num, trivial⟩
      case measure => simp [intOf]; omega
    · have hki : ¬ (k : Int) < (L.length : Int) := by omega
      go_wp2
      exact bodyPost_ret (results_H rfl _ _ w.heap.size _ _ rfl rfl HR.out rfl) rfl ⟨rfl, HA.out⟩

set_option maxRecDepth 100000 in
set_option maxHeartbeats 4000000 in
theorem begin_at (w : World) (b : Nat) (L : List Sl) (x f : Nat) (s : Sl) (h : TabAt b w L) (hf : ∀ j, j < f → ∀ s, L[j]? = some s → s.st ≠ 0) (hs : L[f]? = some s) (h0 : s.st = 0) (hx : x < 18446744073709551616) :
    Calls Try.prog 11 #[.pointer (some ⟨b, 0, none⟩), .int .u64 (x : Int)] w fun r w' => r = .returned (.tuple #[hdl (f : Int) (sbeg s x).turn, .int .i64 0]) ∧ TabTo b w w' (L.set f (sbeg s x)) := by
  have HA := Lib.hid (World.grownBy_alloc w (.cells #[.int .i64 0, .int .u64 0] 36) none)
  have HR := Lib.hid (heap_alloc_new w (.cells #[.int .i64 0, .int .u64 0] 36))
  have H := Lib.hid (h.grown HA.out)
  have hms := h.most
  have hbw := h.lt
  have hmm := H.out.many
  have HF := Lib.hid hf
  have HS := Lib.hid hs
  have hfl : f < L.length := by have := List.getElem?_eq_some_iff.1 hs; exact this.1
  have HX := Lib.hid hx
  clear h hf hs hx
  go_enter Try.func11, Try.ntmps11
  go_wp2
  go_loopw [15] (fun i wr => ∃ (k : Nat), k ≤ f ∧ i = .int .i64 (k : Int) ∧ w.alloc (.cells #[.int .i64 0, .int .u64 0] 36) = wr) (fun i _ => L.length - (intOf i).toNat)
  case atStart => exact ⟨0, Nat.zero_le _, rfl, rfl⟩
  case round =>
    obtain ⟨k, hk, rfl, rfl⟩ := hrel
    have hki : (k : Int) < (L.length : Int) := by omega
    have i126 : (k : Int) < 126 := by omega
    have hk126 : k < 126 := by omega
    by_cases hlt : k < f
    · obtain ⟨s', hs⟩ : ∃ s, L[k]? = some s := ⟨L[k], List.getElem?_eq_getElem (by omega)⟩
      obtain ⟨c0, c1, c2⟩ := H.out.cells hs
      have hn := HF.out k hlt s' hs
      have hni : ¬ (s'.st : Int) = 0 := by omega
      have hnb : ((s'.st : Int) == 0) = false := by simpa using hni
      rw [Nat.mul_comm] at c0
      clear hs c1 c2
      go_wp2
      go_roundw
      case rel => exact ⟨k + 1, by omega, by go_num, trivial⟩
      case measure => simp [intOf]; omega
    · have hke : k = f := by omega
      subst hke
      obtain ⟨c0, c1, c2⟩ := H.out.cells HS.out
      rw [h0] at c0
      have hT := H.out.set3 HS.out (sbeg_ok s HX.out)
      have d1 := (hT.cells (List.getElem?_set_self (by omega) : (L.set k (sbeg s x))[k]? = some (sbeg s x))).2.1
      have fr2 := two_free HR.out
      have hgS := set3_grown (w.alloc (.cells #[.int .i64 0, .int .u64 0] 36)) b k (sbeg s x)
      have hR3 := (hgS.block _ (lt_of_block HR.out) (by intro e; injection e with e; omega)).trans HR.out
      have r3 := cells2 hR3
      have fr3 := two_free hR3
      have HT := Lib.hid hT
      have HGS := Lib.hid hgS
      have HR3 := Lib.hid hR3
      rw [Nat.mul_comm] at c0 d1
      clear c1 c2 hT hgS hR3
      go_wp2_with (first
        | (go_at_call 25; have K := sbegin_any _ b k L s x H.out HS.out; rw [Nat.mul_comm 3 k] at K; (with_reducible refine K.mono ?_); clear K; rintro r w2 ⟨rfl, hw2⟩; generalize set3 (w.alloc (.cells #[.int .i64 0, .int .u64 0] 36)) b k (sbeg s x) = W3 at *; subst hw2)
        | go_in)
      refine bodyPost_ret (results_H rfl _ _ w.heap.size _ _ rfl rfl (store2 _ _ HR3.out) rfl) rfl ⟨rfl, (HT.out.far (gset _ ⟨_, 0, none⟩ _) ?_).far (gset _ ⟨_, 1, none⟩ _) ?_, gnew (gnew (gtrans (gwide HA.out) HGS.out) (gset _ ⟨_, 0, none⟩ _) (Nat.le_refl _)) (gset _ ⟨_, 1, none⟩ _) (Nat.le_refl _)⟩
      · intro e; injection e with e; simp at e; omega
      · intro e; injection e with e; simp at e; omega

end Go.Proofs.Ytoaglkbobndmeaa
