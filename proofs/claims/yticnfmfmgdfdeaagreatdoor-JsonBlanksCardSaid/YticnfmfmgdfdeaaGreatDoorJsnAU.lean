/-
  The map from a value's first byte, as it is laid; printed by tools/mkjsy.py. Own work.
-/
import Derived.Test.YticnfmfmgdfdeaaGreatDoorJsnAS
import Derived.Lib.SmallJoins

set_option linter.unusedVariables false
set_option linter.unusedSimpArgs false
namespace Go.Proofs.YticnfmfmgdfdeaaGreatDoor
open Go.RowKit Go.Maps

section
variable {ops : Array Oper} {rest : List Oper} {o : Oper} {a : Act} {Q : Exit → Act → World → Prop}
theorem mp_update {M n : Nat} {F : UInt8 → Option Value} {w : World} (h : Mp w M n F) (c : UInt8) (val : Value) (hn : n < 1000) :
    ∃ w', (Instr.mapUpdate 64 (.map (some M)) (.int .u8 (c.toNat : Int)) val).run Tryz.prog w = .ok () w' ∧ Mp w' M (n + 1) (upF F c val) ∧ w.grownBy w' (some M) := by
  obtain ⟨D, h1, h2⟩ := h
  obtain ⟨w', hrun, o1, g1⟩ := h1.update lawB Tryz.underlying64 (by unfold maxLen; omega) (keyB c) (show heldR val = some (.held val, []) from rfl)
  refine ⟨w', hrun, ⟨D.put (kB c) (.held val), o1, fun d => ?_⟩, g1⟩
  obtain ⟨e1, e2⟩ := h2 d
  unfold upF
  by_cases hd : d = c
  · subst hd
    rw [if_pos rfl]
    refine ⟨Maps.has_put_same h1.isMap (key_is d) _, fun v hv z => ?_⟩
    cases hv
    exact Maps.atKey_put_same h1.isMap (key_is d) _ z
  · rw [if_neg hd]
    have hne : kB d ≠ kB c := fun e => hd (kB_inj e)
    refine ⟨(Maps.has_put_other hne _).trans e1, fun v hv z => ?_⟩
    exact (Maps.atKey_put_other hne _ z).trans (e2 v hv z)
theorem wp_minsert (hg : o.guard = none) (m x v : Operand) (hop : o.op = Op.insert 64 m x v) {M n : Nat} {F : UInt8 → Option Value} (w : World) (c : UInt8) (k : Int) (hk : k = (c.toNat : Int)) (val : Value)
    (hm : a.eval m = .map (some M)) (hx : a.eval x = .int .u8 k) (hv : a.eval v = val) (h : Mp w M n F) (hn : n < 1000)
    (hK : ∀ w', Mp w' M (n + 1) (upF F c val) → w.grownBy w' (some M) → wpList Tryz.prog ops Q rest (a.put o.dst undef) w') : wpList Tryz.prog ops Q (o :: rest) a w := by
  subst hk
  refine wpList_plain hg fun K' hK' => ?_
  obtain ⟨w', hrun, r1, r2⟩ := mp_update h c val hn
  unfold Oper.wp
  simp [execOp, hop, hm, hx, hv, hrun, Result.andThen]
  exact hK' _ _ (hK w' r1 r2)
end

abbrev fnR (k R : Nat) : Value := .func (.func k) #[pR R] #[]
def F0 : UInt8 → Option Value := fun _ => none
abbrev F1 (R : Nat) := upF (F0) 110 (fnR 62 R)
abbrev F2 (R : Nat) := upF (F1 R) 116 (fnR 63 R)
abbrev F3 (R : Nat) := upF (F2 R) 102 (fnR 64 R)
abbrev F4 (R : Nat) := upF (F3 R) 34 (fnR 65 R)
abbrev F5 (R : Nat) := upF (F4 R) 91 (fnR 66 R)
abbrev F6 (R : Nat) := upF (F5 R) 123 (fnR 67 R)
abbrev F7 (R : Nat) := upF (F6 R) 45 (fnR 68 R)
/-- Behind k digits. -/
def FD (R k : Nat) : UInt8 → Option Value := fun c => if 48 ≤ c.toNat ∧ c.toNat < 48 + k then some (fnR 68 R) else F7 R c
theorem FD_zero (R : Nat) : FD R 0 = F7 R := by funext c; unfold FD; rw [if_neg (by omega)]
theorem FD_succ (R k : Nat) (hk : k < 10) (c : UInt8) (hc : c.toNat = 48 + k) : upF (FD R k) c (fnR 68 R) = FD R (k + 1) := by
  funext d
  unfold upF FD
  by_cases h : d = c
  · subst h
    rw [if_pos rfl, if_pos (by omega)]
  · have hne : d.toNat ≠ c.toNat := fun e => h (UInt8.toNat_inj.1 e)
    rw [if_neg h]
    by_cases h2 : 48 ≤ d.toNat ∧ d.toNat < 48 + k
    · rw [if_pos h2, if_pos (by omega)]
    · rw [if_neg h2, if_neg (by omega)]
/-- What reads a value that begins so. -/
abbrev FB (R : Nat) : UInt8 → Option Value := FD R 10

theorem cells10 {W : World} {q : Nat} {t : TypeId} {fr : Nat × Nat} (H : W.heap[q]? = some (.cells #[.int .u8 48, .int .u8 49, .int .u8 50, .int .u8 51, .int .u8 52, .int .u8 53, .int .u8 54, .int .u8 55, .int .u8 56, .int .u8 57] t fr)) (k : Nat) (hk : k < 10) :
    W.cell? ⟨q, k, none⟩ = some (.int .u8 ((48 + k : Nat) : Int)) := by
  match k, hk with
  | 0, _ => simp [World.cell?, H]
  | 1, _ => simp [World.cell?, H]
  | 2, _ => simp [World.cell?, H]
  | 3, _ => simp [World.cell?, H]
  | 4, _ => simp [World.cell?, H]
  | 5, _ => simp [World.cell?, H]
  | 6, _ => simp [World.cell?, H]
  | 7, _ => simp [World.cell?, H]
  | 8, _ => simp [World.cell?, H]
  | 9, _ => simp [World.cell?, H]
  | k + 10, hk => omega

structure NR (w : World) (s : Bs) (D k : Nat) (wr : World) : Prop where
  mp : Mp wr (w.heap.size + 1) (7 + k) (FD w.heap.size k)
  rc : RC w.heap.size (w.heap.size + 1) s 0 wr
  row : wr.heap[D]? = some (.cells #[.int .u8 48, .int .u8 49, .int .u8 50, .int .u8 51, .int .u8 52, .int .u8 53, .int .u8 54, .int .u8 55, .int .u8 56, .int .u8 57] 5 (10, 11))
  gr : Gr w wr
theorem NR.step {w wr wr2 : World} {s : Bs} {D k : Nat} (h : NR w s D k wr) (hD : w.heap.size + 2 ≤ D) (hk : k < 10) (c : UInt8) (hc : c.toNat = 48 + k) (hm : Mp wr2 (w.heap.size + 1) (7 + k + 1) (upF (FD w.heap.size k) c (fnR 68 w.heap.size))) (g : wr.grownBy wr2 (some (w.heap.size + 1))) : NR w s D (k + 1) wr2 where
  mp := by rw [FD_succ _ _ hk c hc] at hm; exact hm
  rc := h.rc.other g (by omega)
  row := (g.block _ (lt_of_block h.row) (by intro e; injection e with e; omega)).trans h.row
  gr := gnew h.gr g (by omega)

set_option maxRecDepth 100000 in
set_option maxHeartbeats 8000000 in
theorem newReader_any (s : Bs) (w : World) :
    Calls Tryz.prog 31 #[.string (Sx s)] w fun r w' => ∃ R M n, r = .returned (pR R) ∧ w.heap.size ≤ R ∧ w.heap.size ≤ M ∧ M ≠ R ∧ RC R M s 0 w' ∧ Mp w' M n (FB R) ∧ Gr w w' := by
  have hmm := @run_makeMap Tryz.prog
  have hmf : ∀ (fn : Fn) (first cap : Array Value) (w : World), (Instr.makeFunc fn first cap).run Tryz.prog w = .ok (.func fn first cap) w := fun _ _ _ _ => rfl
  obtain ⟨B, hB⟩ : ∃ B, B = Sx s := ⟨_, rfl⟩
  rw [← hB]
  have HB := Lib.hid hB
  clear hB
  have H0 : Hid (Mp ((w.alloc (.cells #[.string B, .int .i64 0, .map none] 66)).alloc (.map #[] 0)) (w.heap.size + 1) 0 F0) := Lib.hid (by
    have := mp_made (w.alloc (.cells #[.string B, .int .i64 0, .map none] 66))
    rwa [show (w.alloc (.cells #[.string B, .int .i64 0, .map none] 66)).heap.size = w.heap.size + 1 by simp] at this)
  have C0 : Hid (((w.alloc (.cells #[.string B, .int .i64 0, .map none] 66)).alloc (.map #[] 0)).heap[w.heap.size]? = some (.cells #[.string B, .int .i64 0, .map none] 66 (0, 0))) := Lib.hid (two_lit0 w _ _)
  have G0 := Lib.hid (two_grown w (.cells #[.string B, .int .i64 0, .map none] 66) (.map #[] 0))
  have HFM : Hid (∀ (W W' : World) (x : Obj), W.heap[w.heap.size]? = some x → W.grownBy W' (some (w.heap.size + 1)) → W'.heap[w.heap.size]? = some x) := Lib.hid (fun W W' x h g => (g.block _ (lt_of_block h) (by intro e; injection e with e; omega)).trans h)
  go_enter Tryz.func31, Tryz.ntmps31
  go_wp2_with (first
    | (refine wp_minsert rfl _ _ _ rfl _ 110 110 rfl (fnR 62 w.heap.size) rfl rfl rfl H0.out (by omega) ?_; intro w1 hm1 hg1; have H1 := Lib.hid hm1; have C1 := Lib.hid (HFM.out _ _ _ C0.out hg1); have G1 := Lib.hid (gnew G0.out hg1 (by omega)); clear hm1 hg1; skip)
    | (refine wp_minsert rfl _ _ _ rfl _ 116 116 rfl (fnR 63 w.heap.size) rfl rfl rfl H1.out (by omega) ?_; intro w2 hm2 hg2; have H2 := Lib.hid hm2; have C2 := Lib.hid (HFM.out _ _ _ C1.out hg2); have G2 := Lib.hid (gnew G1.out hg2 (by omega)); clear hm2 hg2; skip)
    | (refine wp_minsert rfl _ _ _ rfl _ 102 102 rfl (fnR 64 w.heap.size) rfl rfl rfl H2.out (by omega) ?_; intro w3 hm3 hg3; have H3 := Lib.hid hm3; have C3 := Lib.hid (HFM.out _ _ _ C2.out hg3); have G3 := Lib.hid (gnew G2.out hg3 (by omega)); clear hm3 hg3; skip)
    | (refine wp_minsert rfl _ _ _ rfl _ 34 34 rfl (fnR 65 w.heap.size) rfl rfl rfl H3.out (by omega) ?_; intro w4 hm4 hg4; have H4 := Lib.hid hm4; have C4 := Lib.hid (HFM.out _ _ _ C3.out hg4); have G4 := Lib.hid (gnew G3.out hg4 (by omega)); clear hm4 hg4; skip)
    | (refine wp_minsert rfl _ _ _ rfl _ 91 91 rfl (fnR 66 w.heap.size) rfl rfl rfl H4.out (by omega) ?_; intro w5 hm5 hg5; have H5 := Lib.hid hm5; have C5 := Lib.hid (HFM.out _ _ _ C4.out hg5); have G5 := Lib.hid (gnew G4.out hg5 (by omega)); clear hm5 hg5; skip)
    | (refine wp_minsert rfl _ _ _ rfl _ 123 123 rfl (fnR 67 w.heap.size) rfl rfl rfl H5.out (by omega) ?_; intro w6 hm6 hg6; have H6 := Lib.hid hm6; have C6 := Lib.hid (HFM.out _ _ _ C5.out hg6); have G6 := Lib.hid (gnew G5.out hg6 (by omega)); clear hm6 hg6; skip)
    | (refine wp_minsert rfl _ _ _ rfl _ 45 45 rfl (fnR 68 w.heap.size) rfl rfl rfl H6.out (by omega) ?_; intro w7 hm7 hg7; have H7 := Lib.hid hm7; have C7 := Lib.hid (HFM.out _ _ _ C6.out hg7); have G7 := Lib.hid (gnew G6.out hg7 (by omega)); clear hm7 hg7; obtain ⟨c0, c1, c2, f0, f1, f2⟩ := cells3 C7.out; have hcv := Joins.run_convert_bytes_const_at (P := Tryz.prog) (w7.setCell ⟨w.heap.size, 2, none⟩ (.map (some (w.heap.size + 1)))) 48 5 #[.int .u8 48, .int .u8 49, .int .u8 50, .int .u8 51, .int .u8 52, .int .u8 53, .int .u8 54, .int .u8 55, .int .u8 56, .int .u8 57] 10 10 w7.heap.size (by simp [World.setCell]) Tryz.underlying48 Tryz.underlying5; skip))
  have hw7 : w.heap.size + 2 ≤ w7.heap.size := H7.out.lt
  have hN0 : NR w s w7.heap.size 0 ((w7.setCell ⟨w.heap.size, 2, none⟩ (.map (some (w.heap.size + 1)))).alloc (.cells #[.int .u8 48, .int .u8 49, .int .u8 50, .int .u8 51, .int .u8 52, .int .u8 53, .int .u8 54, .int .u8 55, .int .u8 56, .int .u8 57] 5 (10, 11))) := by
    have g1 : w7.grownBy (w7.setCell ⟨w.heap.size, 2, none⟩ (.map (some (w.heap.size + 1)))) (some w.heap.size) := gset _ ⟨w.heap.size, 2, none⟩ _
    have c1 := set_cell C7.out 2 (.map (some (w.heap.size + 1)))
    refine ⟨?_, ?_, ?_, ?_⟩
    · rw [FD_zero]
      exact (H7.out.kept g1 (by intro e; injection e with e; omega)).gr (World.grownBy_alloc _ _ none)
    · have c2 : RC w.heap.size (w.heap.size + 1) s 0 (w7.setCell ⟨w.heap.size, 2, none⟩ (.map (some (w.heap.size + 1)))) := by
        rw [HB.out] at c1
        simpa [RC] using c1
      exact c2.gr (World.grownBy_alloc _ _ none)
    · have := heap_alloc_new (w7.setCell ⟨w.heap.size, 2, none⟩ (.map (some (w.heap.size + 1)))) (.cells #[.int .u8 48, .int .u8 49, .int .u8 50, .int .u8 51, .int .u8 52, .int .u8 53, .int .u8 54, .int .u8 55, .int .u8 56, .int .u8 57] 5 (10, 11))
      rwa [show (w7.setCell ⟨w.heap.size, 2, none⟩ (.map (some (w.heap.size + 1)))).heap.size = w7.heap.size by simp [World.setCell]] at this
    · exact gtrans (gnew G7.out g1 (Nat.le_refl _)) (World.grownBy_alloc _ _ none)
  have HN0 := Lib.hid hN0
  clear hN0
  go_loopw [31] (fun vi wr => ∃ k : Nat, k ≤ 10 ∧ vi = .int .i64 k ∧ Hid (NR w s w7.heap.size k wr)) (fun vi _ => 10 - (intOf vi).toNat)
  case atStart => exact ⟨0, by omega, rfl, HN0⟩
  case round =>
    obtain ⟨k, hk, rfl, hh⟩ := hrel
    by_cases hlt : k < 10
    · have hc := cells10 hh.out.row k hlt
      obtain ⟨c0, c1, c2, f0, f1, f2⟩ := cells3 hh.out.rc
      have i0 : (k : Int) < 10 := by omega
      obtain ⟨c, hcc⟩ : ∃ c : UInt8, c.toNat = 48 + k := ⟨(48 + k).toUInt8, by simp; omega⟩
      have hz : ((48 + k : Nat) : Int) = (c.toNat : Int) := by omega
      rw [hz] at hc
      have HC := Lib.hid hcc
      clear hz hcc
      go_wp2_with (refine wp_mput rfl _ _ _ rfl _ c _ rfl (fnR 68 w.heap.size) rfl rfl rfl hh.out.mp (by omega) ?_; intro w' hm' hg'; have HN := Lib.hid (hh.out.step hw7 hlt c HC.out hm' hg'); clear hm' hg')
      go_round
      case rel => exact ⟨k + 1, by omega, by go_num, HN⟩
      case measure => simp [intOf]; omega
    · obtain rfl : k = 10 := by omega
      go_wp2
      go_ret
      exact ⟨w.heap.size, w.heap.size + 1, _, rfl, Nat.le_refl _, Nat.le_succ _, by omega, hh.out.rc, hh.out.mp, hh.out.gr⟩

end Go.Proofs.YticnfmfmgdfdeaaGreatDoor
