/-
  'DiskOwn' returns true for every input: what is read, and what was handed in, can be changed: the disk stays as it is. No condition. Own work.
-/
import Derived.Test.YtkcadiiahbkmcaaDskS
import Derived.ProofKit
import Derived.OpenShut
import Derived.ShutString
import Derived.ChangeOld
namespace Go.Proofs.Ytkcadiiahbkmcaa
open Go.RowKit

theorem own_over {w w' : World} {base size n r : Nat} {e : TypeId} {v : Value} {xs : List Value} (h : w.ownsRow base e size v n xs) (hg : w.grownBy w' (some r)) (hr : r < base) : w'.ownsRow base e size v n xs := by
  refine h.kept hg ?_
  cases hv : v.ownBlock with
  | none => exact .inl rfl
  | some k => exact .inr fun e' => by injection e' with e'; have := (h.lt k hv).1; omega
/-- The disk stands where a block below it is written to. -/
theorem DskAt.over {B d r : Nat} {w w' : World} {M : SM} (h : DskAt B w d M) (hg : w.grownBy w' (some r)) (hr : r < B) : DskAt B w' d M := by
  obtain ⟨pv, lv, nv, ps, ls, h1, h2, h3, h4, h5⟩ := h
  refine ⟨pv, lv, nv, ps, ls, h1, (hg.block d (lt_of_block h2) (fun e => by injection e with e; omega)).trans h2, ⟨own_over h3.pown hg hr, fun y hy => ⟨own_over (h3.pall y hy).1 hg hr, own_over (h3.pall y hy).2 hg hr⟩, own_over h3.lown hg hr, fun y hy => own_over (h3.lall y hy) hg hr, ?_⟩, h4, h5⟩
  have := h3.nown
  cases hM : M.once
  · rw [hM] at this; exact this
  · rw [hM] at this; exact own_over (show w.ownsRow B 5 1 nv M.size _ from this) hg hr

def ow0 (F : List Int) : SM := { size := 512, limit := 3, pg := [(F, F)], loose := [], fails := false, ahead := 0, calls := 0, once := false }
def ow1 (F : List Int) : SM := wrM (ow0 F) 0 F
def ow3 (F : List Int) : SM := crashM (cntM (ow1 F)) []
theorem ow1_last (F : List Int) : lastM (ow1 F) 0 = F := rfl
theorem ow3_last (F : List Int) : lastM (ow3 F) 0 = F := rfl
theorem ow_fine (F : List Int) : Fine (ow0 F) ∧ Fine (ow1 F) ∧ Fine (ow3 F) := by
  refine ⟨⟨?_, ?_, ?_⟩, ⟨?_, ?_, ?_⟩, ⟨?_, ?_, ?_⟩⟩
  · exact (by decide : (-9223372036854775808 : Int) ≤ 0)
  · exact (by decide : (0 : Int) ≤ 9223372036854775807)
  · exact (by decide : 0 < 9223372036854775807)
  · exact (by decide : (-9223372036854775808 : Int) ≤ 0)
  · exact (by decide : (0 : Int) ≤ 9223372036854775807)
  · exact (by decide : 1 < 9223372036854775807)
  · exact (by decide : (-9223372036854775808 : Int) ≤ -1)
  · exact (by decide : (-1 : Int) ≤ 9223372036854775807)
  · exact (by decide : 2 < 9223372036854775807)
theorem ow_in (F : List Int) : ∀ x ∈ (cntM (ow1 F)).loose, x.1 < (cntM (ow1 F)).pg.length := by
  intro x hx
  have : x = (0, F) := by simpa [cntM, ow1, wrM, ow0] using hx
  rw [this]; exact (by decide : 0 < 1)

set_option maxRecDepth 100000 in
set_option maxHeartbeats 4000000 in
theorem own_some (W : World) (ao : Option Addr) (n c : Nat) (bs : List Int) (x : Int) (hs : Seq W.heap.size W (.slice ao n c) bs) (hn : n = bs.length) (h0 : 0 < n) (h1 : n ≤ 100) :
    Calls Try.prog 8 #[.slice ao n c, .int .u8 x] W fun r w' => r = .returned (.bool true) ∧ Below W.heap.size W w' := by
  have hnot : ∀ (x : Bool) (w : World), (Op.unary .not (.bool x)).run Try.prog w = .ok (.bool (!x)) w := fun _ _ => rfl
  have hmay : May ((512 : Nat) : Int) ((3 : Nat) : Int) := by decide
  have hn0 : ((n : Int) == 0) = false := by simpa using (by omega : ¬ (n : Int) = 0)
  have hn1 : decide ((100 : Int) < (n : Int)) = false := by simp; omega
  have hn2 : decide (100 < n) = false := by simp; omega
  have HS := Lib.hid hs
  obtain ⟨F, hF⟩ : ∃ F, F = fullB 512 bs 512 := ⟨_, rfl⟩
  obtain ⟨y, hy⟩ : ∃ y, y = F.getD 7 0 := ⟨_, rfl⟩
  have HF := Lib.hid hF
  have HY := Lib.hid hy
  have HFi := Lib.hid (ow_fine F)
  have HIn := Lib.hid (ow_in F)
  clear hs hn hF hy
  go_enter Try.func8, Try.ntmps8
  go_wp2_with (first
    | (go_at_call 9; refine (awake3_any _).mono ?_; rintro e wA ⟨rfl, hA⟩; have HA := Lib.hid hA; have HSA := Lib.hid ((HS.out.below (fun i hi => hA.block i hi (by simp))).mono hA.size); clear hA)
    | (go_at_call 12; refine (full_any _ 512 _ n c bs false HSA.out (by decide)).mono ?_; rintro e w1 ⟨g, k, rfl, ho, hg⟩; obtain rfl := full_own ho; have HO1 : Hid (Own8 wA.heap.size w1 512 (.slice (some ⟨g, 0, none⟩) 512 512) F) := Lib.hid (by rw [HF.out]; exact ho); have HG1 := Lib.hid (gtrans HA.out hg); have HGB := Lib.hid (own_tag ho g rfl); have HAs := Lib.hid HA.out.size; clear ho hg)
    | (go_at_call 10; refine (from_ok _ _ 512 512 F 512 3 1 hmay HO1.out.seq (by decide) (by decide)).mono ?_; rintro e w2 ⟨rfl, hd, hg⟩; have HD2 : Hid (DskAt w1.heap.size w2 w1.heap.size (ow0 F)) := Lib.hid (by
        have e1 : chunks F 512 1 = [(F, F)] := by
          have hl := HO1.out.len
          simp [chunks, chunk, List.take_of_length_le (Nat.le_of_eq hl)]
        rw [e1] at hd; exact hd); have HO2 : Hid (Own8 wA.heap.size w2 512 (.slice (some ⟨g, 0, none⟩) 512 512) F) := Lib.hid (HO1.out.kept hg (.inr (by simp [Value.ownBlock]))); have HG2 := Lib.hid (dfr_new (B := w1.heap.size) hg); clear hd hg)
    | (go_at_call 13; refine (HD2.out.write (i := 0) HFi.out.1 (show 0 < 1 by decide) (show 512 ≤ 4096 by decide) rfl HO2.out (show 0 ≤ 100000 by decide)).mono ?_; rintro e w3 ⟨rfl, hd, hf⟩; have HD3 : Hid (DskAt w1.heap.size w3 w1.heap.size (ow1 F)) := Lib.hid hd; have HG3 := Lib.hid (HG2.out.trans hf); have HO3 : Hid (Own8 wA.heap.size w3 512 (.slice (some ⟨g, 0, none⟩) 512 512) F) := Lib.hid (hf.own HO2.out (by decide)); have kp : w3.cell? ⟨g, 7, none⟩ = some (.int .u8 y) := (by
        obtain ⟨b', hb, _, _, hc⟩ := HO3.out.at (by decide); cases hb; rw [HY.out]; exact hc 7 (by decide)); have fp := HO3.out.frozenAt 7; have HD4 : Hid (DskAt w1.heap.size (w3.setCell ⟨g, 7, none⟩ (.int .u8 x)) w1.heap.size (ow1 F)) := Lib.hid (hd.over (gset w3 ⟨g, 7, none⟩ _) HGB.out.2.1); have HG4 : Hid (Below W.heap.size W (w3.setCell ⟨g, 7, none⟩ (.int .u8 x))) := Lib.hid (gbelow (gnew (gtrans HG1.out (gof (HG3.out.below (Nat.le_refl _)) none)) (gset w3 ⟨g, 7, none⟩ _) (by show W.heap.size ≤ g; exact Nat.le_trans HAs.out HGB.out.1))); clear hd hf)
    | (go_at_call 15; refine (HD4.out.read (i := 0) HFi.out.2.1 (show 0 < 1 by decide) (show 512 ≤ 4096 by decide) rfl).mono ?_; rintro e w5 ⟨wc, aq, eq, he, hd, hz, hf, hg, ho⟩; obtain rfl : e = .returned (.tuple #[.slice aq 512 eq, .int .i64 0]) := he; rw [ow1_last] at ho; have HO5 : Hid (Own8 wc.heap.size w5 512 (.slice aq 512 eq) F) := Lib.hid ho; obtain ⟨q, rfl, hq1, hq2, hq3⟩ := HO5.out.at (by decide); have kq : w5.cell? ⟨q, 7, none⟩ = some (.int .u8 y) := (by rw [HY.out]; exact hq3 7 (by decide)); have fq := HO5.out.frozenAt 7; have HDc := Lib.hid hd; have HGc := Lib.hid hg; have HQ := Lib.hid hq2; have HZc := Lib.hid hz; have HG5 := Lib.hid (HG4.out.trans (((hf.trans (dfr_new hg)).below (Nat.le_of_lt (HD4.out.lt))).mono HG1.out.size)); clear hd hz hf hg ho hq1 hq2 hq3 kp fp)
    | (go_at_call 23; (have HD6 : Hid (DskAt w1.heap.size (w5.setCell ⟨q, 7, none⟩ (.int .u8 (IntKind.u8.wrap (x + 1)))) w1.heap.size (cntM (ow1 F))) := Lib.hid (HDc.out.new (gnew HGc.out (gset w5 ⟨q, 7, none⟩ _) HQ.out)); have HG6 : Hid (Below W.heap.size W (w5.setCell ⟨q, 7, none⟩ (.int .u8 (IntKind.u8.wrap (x + 1))))) := Lib.hid (gbelow (gnew (gof HG5.out none) (gset w5 ⟨q, 7, none⟩ _) (by show W.heap.size ≤ q; have := HQ.out; have := HZc.out; have := HG4.out.size; omega))); refine (HD6.out.crash (ks := []) (fun _ _ => seq_nil _ _) (fun _ h => by simp at h) (show 512 ≤ 4096 by decide) (show 512 % 128 = 0 by decide) HIn.out (show 1 ≤ 100000 by decide) (show 1 ≤ 100000 by decide)).mono ?_; rintro e w7 ⟨rfl, hd, hf⟩; have HD7 : Hid (DskAt w1.heap.size w7 w1.heap.size (ow3 F)) := Lib.hid hd; have HG7 := Lib.hid (HG6.out.trans ((hf.below (Nat.le_of_lt HD6.out.lt)).mono HG1.out.size)); clear hd hf kq fq))
    | (go_at_call 15; (refine (HD7.out.read (i := 0) HFi.out.2.2 (show 0 < 1 by decide) (show 512 ≤ 4096 by decide) rfl).mono ?_; rintro e w8 ⟨wd, ar, er, he, hd, hz, hf, hg, ho⟩; obtain rfl : e = .returned (.tuple #[.slice ar 512 er, .int .i64 0]) := he; rw [ow3_last] at ho; have HO8 : Hid (Own8 wd.heap.size w8 512 (.slice ar 512 er) F) := Lib.hid ho; obtain ⟨q8, rfl, -, -, hq3⟩ := HO8.out.at (by decide); have k8 : w8.cell? ⟨q8, 7, none⟩ = some (.int .u8 y) := (by rw [HY.out]; exact hq3 7 (by decide)); have HG8 := Lib.hid (HG7.out.trans (((hf.trans (dfr_new hg)).below (Nat.le_of_lt (HD7.out.lt))).mono HG1.out.size)); clear hd hz hf hg ho hq3)))
  go_ret
  exact ⟨rfl, HG8.out⟩

set_option maxRecDepth 100000 in
set_option maxHeartbeats 4000000 in
theorem own_none (W : World) (ao : Option Addr) (n c : Nat) (x : Int) (h : n = 0 ∨ 100 < n) :
    Calls Try.prog 8 #[.slice ao n c, .int .u8 x] W fun r w' => r = .returned (.bool true) ∧ Below W.heap.size W w' := by
  have hnot : ∀ (x : Bool) (w : World), (Op.unary .not (.bool x)).run Try.prog w = .ok (.bool (!x)) w := fun _ _ => rfl
  by_cases h0 : n = 0
  · subst h0
    clear h
    go_enter Try.func8, Try.ntmps8
    go_wp2_with (first
      | (go_at_call 9; refine (awake3_any _).mono ?_; rintro e wA ⟨rfl, hA⟩; have HA := Lib.hid (gbelow hA); clear hA))
    go_ret
    exact ⟨rfl, HA.out⟩
  · have hn0 : ((n : Int) == 0) = false := by simpa using (by omega : ¬ (n : Int) = 0)
    have hn1 : (100 : Int) < (n : Int) := by omega
    clear h h0
    go_enter Try.func8, Try.ntmps8
    go_wp2_with (first
      | (go_at_call 9; refine (awake3_any _).mono ?_; rintro e wA ⟨rfl, hA⟩; have HA := Lib.hid (gbelow hA); clear hA))
    go_ret
    exact ⟨rfl, HA.out⟩

theorem own_any (W : World) (ao : Option Addr) (n c : Nat) (bs : List Int) (x : Int) (hs : Seq W.heap.size W (.slice ao n c) bs) (_ : Byt bs) (_ : 0 ≤ x) (_ : x ≤ 255) :
    Calls Try.prog 8 #[.slice ao n c, .int .u8 x] W fun r w' => r = .returned (.bool true) ∧ Below W.heap.size W w' := by
  by_cases h : n = 0 ∨ 100 < n
  · exact own_none W ao n c x h
  · exact own_some W ao n c bs x hs (by obtain ⟨_, _, hv, _⟩ := hs; injection hv) (by omega) (by omega)

open Go.ChangeShapes Go.WideShapes Go.ChangeAt
set_option linter.unusedVariables false
set_option maxRecDepth 100000 in
theorem own_lifted (os : Os) (started : os.Started) (H : Type) (enc : TypeId × Value → H) :
    ReturnsInHanded {} Try.checked os 8 .any (Rows.diskOwnSpec.pre6 enc Try.prog Try.f8 Rows.diskOwnRow.domain false) (Rows.diskOwnSpec.post enc Try.prog Try.f8 false true false false) := by
  refine returnsInHanded_of_change (C := Try.checked) ownKnob0 started (by kernel_rfl) Try.func8
    (ChangeSpec.witness6 (enc := enc) (C := Try.checked) false ⟨#[], #[.slice none 0 0, .int .u8 0], []⟩ 8 (by kernel_rfl) (by kernel_rfl) (by kernel_rfl) (by kernel_rfl)) ?_
  intro W base args ds gs before hval0 hW hcnd _
  have hval : ∀ (j : Nat) t v, Try.f8.params[j]? = some t → args[j]? = some v → Value.okWide Try.prog W .any base t v := hval0
  have hW' := hW
  obtain ⟨p, q, hA0, hV, rfl, hfz, hnd⟩ := hW
  have hA : DataW.TrodAll enc Try.prog W 0 (fun _ => true) true Try.f8.params.toList args.toList ds p := hA0
  rw [Try.params8] at hA hval
  obtain ⟨v0, vs0, d0, ds0, p0, q0, hargs, rfl, rfl, h0, r0⟩ := trodAll_cons hA
  obtain ⟨v1, vs1, d1, ds1, p1, q1, rfl, rfl, rfl, h1, r1⟩ := trodAll_cons r0
  obtain ⟨rfl, rfl, rfl⟩ := trodAll_nil r1
  obtain rfl : args = #[v0, v1] := by cases args; simp_all
  obtain ⟨rfl, rfl⟩ := trodVars_none hV
  obtain ⟨a0, len0, cap0, rfl⟩ := okWide_slice Try.underlying22 (hval 0 22 v0 rfl rfl)
  have lt0 : ∀ x ∈ p0, x.block < W.heap.size := by obtain ⟨m, hm⟩ := h0; exact DataW.trod_lt m _ _ _ hm
  obtain ⟨z0, w0, y0⟩ := open_bytes h0
  obtain ⟨a1, rfl, rfl, rfl, w1⟩ := open_int Try.underlying5 (hval 1 5 v1 rfl rfl) h1
  have b1 := bounds_u8 w1
  clear hA0 hval0
  refine (own_any W a0 len0 cap0 z0 a1 w0 y0 b1.1 b1.2).mono fun e W' ⟨he, bel⟩ => ?_
  subst he
  exact ⟨_, rfl, _, _, _, [], _, [], hW', trodAll_mk1 (shut_bool Try.underlying4 _), (trodAll_cons_mk (Below.trod laidOut0 (by kernel_rfl) (of_decide_eq_true (by kernel_rfl)) h0 bel lt0) (trodAll_cons_mk (shut_int Try.underlying5 w1) trodAll_mk0)), rfl, bel.frame _, fun h => by cases h⟩

/-- DiskOwn, for every input. -/
theorem diskOwn_holds : Rows.DiskOwnSaid :=
  OpenClaim.holds_of_wide 8 Try.f8 rfl rfl rfl rfl rfl rfl rfl ⟨rfl, rfl, rfl, rfl, rfl⟩ rfl rfl rfl rfl rfl (by kernel_rfl) Try.func8 (by kernel_rfl)
    (of_decide_eq_true (by kernel_rfl)) (by unfold Func.isWrapper; first | (rw [if_pos (by decide +kernel)]; kernel_rfl) | (rw [if_neg (by decide +kernel)]; exact ⟨rfl, rfl⟩))
    (fun os started H enc _ => own_lifted os started H enc)
#print axioms diskOwn_holds

end Go.Proofs.Ytkcadiiahbkmcaa
