/-
  'MetaChooses' returns true for every input: which of any two pages is chosen, also spoiled ones, is the document's. No condition. Own work; the frame is the guide's.
-/
import Derived.Test.YtnggebohefbopaaMetZ
import Derived.Test.YtnggebohefbopaaMetU
import Derived.OwnWalk
import Derived.StillTailTactics
import Derived.Deep.LoopGhost
import Derived.Deep.QuietTactic
import Derived.BigQuiet
import Derived.ProofKit
import Derived.OpenShut
import Derived.ShutString
import Derived.ChangeOld
namespace Go.Proofs.Ytnggebohefbopaa
open Go.RowKit

theorem Buf.lt {w : World} {q N c : Nat} {bs : List Int} (h : Buf w q N c bs) : q < w.heap.size := by
  obtain ⟨cs, f, hq, _⟩ := h.row
  exact lt_of_block hq
theorem Buf.other {w : World} {q N c : Nat} {bs : List Int} (h : Buf w q N c bs) (a : Addr) (v : Value) (hn : q ≠ a.block) : Buf (w.setCell a v) q N c bs := by
  obtain ⟨cs, f, hq, hc, hf⟩ := h.row
  have hb : (w.setCell a v).heap[q]? = w.heap[q]? := Below.heap_setCell _ _ _ _ hn
  refine ⟨⟨cs, f, hb.trans hq, hc, fun j hj => ?_⟩, h.byt, h.len, h.cap⟩
  rw [← hf j hj]
  simp [World.frozen?, hb]
theorem kchoose_as {W : World} {a b : List Int} (ha : Byt a) (hb : Byt b) (hla : a.length ≤ 140737488355328) (hlb : b.length ≤ 140737488355328) {X : Mt} {E : Int} (h : chM a b = X ∧ chE a b = E) :
    Calls Try.prog 22 #[.string (strOfNums a), .string (strOfNums b)] W fun r w' => r = .returned (.tuple #[.agg #[.int .u64 (X.t : Int), .int .u32 (X.e : Int), .int .u32 (X.m : Int), .int .u32 (X.f : Int)], .int .i64 E]) ∧ W.grownBy w' none := by
  have K := kchoose_any W a b ha hb hla hlb
  unfold ChoseM at K
  rw [h.1, h.2] at K
  exact K
theorem nil_byts : Byt ([] : List Int) := fun x hx => by cases hx

set_option maxRecDepth 30000 in
set_option maxHeartbeats 4000000 in
theorem chooses_a (w : World) (M N : Mt) (size : Int) (a2 : Option Addr) (n2 c2 : Nat) (a3 : Option Addr) (n3 c3 : Nat) (h : 20 < n2) :
    Calls Try.prog 5 #[.agg (mtC M), .agg (mtC N), .int .i64 size, .slice a2 n2 c2, .slice a3 n3 c3] w fun r w' => r = .returned (.bool true) ∧ Below w.heap.size w w' := by
  have hmc : mtC M = #[.int .u64 (M.t : Int), .int .u32 (M.e : Int), .int .u32 (M.m : Int), .int .u32 (M.f : Int)] := rfl
  have hmn : mtC N = #[.int .u64 (N.t : Int), .int .u32 (N.e : Int), .int .u32 (N.m : Int), .int .u32 (N.f : Int)] := rfl
  have d1 : decide ((20 : Int) < (n2 : Int)) = true := by simp; omega
  have d1' : decide (20 < n2) = true := by simp; omega
  go_enter Try.func5, Try.ntmps5
  go_wp2_with (first
    | (go_at_call 10; have K := awake7_any ((w.alloc (.cells #[.int .u64 (M.t : Int), .int .u32 (M.e : Int), .int .u32 (M.m : Int), .int .u32 (M.f : Int)] 25)).alloc (.cells #[.int .u64 (N.t : Int), .int .u32 (N.e : Int), .int .u32 (N.m : Int), .int .u32 (N.f : Int)] 25)); ((with_reducible refine K.mono ?_); clear K; rintro r wA ⟨rfl, hgA⟩); have GA := Lib.hid (gtrans (two_grown w (.cells #[.int .u64 (M.t : Int), .int .u32 (M.e : Int), .int .u32 (M.m : Int), .int .u32 (M.f : Int)] 25) (.cells #[.int .u64 (N.t : Int), .int .u32 (N.e : Int), .int .u32 (N.m : Int), .int .u32 (N.f : Int)] 25)) hgA); have BX := Lib.hid (two_later0 hgA); have BY := Lib.hid (two_later1 hgA); obtain ⟨x0, x1, x2, x3⟩ := mt_cells BX.out; clear hgA))
  go_ret
  exact ⟨rfl, gbelow GA.out⟩

set_option maxRecDepth 30000 in
set_option maxHeartbeats 4000000 in
theorem chooses_b (w : World) (M N : Mt) (size : Int) (a2 : Option Addr) (n2 c2 : Nat) (a3 : Option Addr) (n3 c3 : Nat) (h1 : ¬ 20 < n2) (h : n3 < n2) :
    Calls Try.prog 5 #[.agg (mtC M), .agg (mtC N), .int .i64 size, .slice a2 n2 c2, .slice a3 n3 c3] w fun r w' => r = .returned (.bool true) ∧ Below w.heap.size w w' := by
  have hmc : mtC M = #[.int .u64 (M.t : Int), .int .u32 (M.e : Int), .int .u32 (M.m : Int), .int .u32 (M.f : Int)] := rfl
  have hmn : mtC N = #[.int .u64 (N.t : Int), .int .u32 (N.e : Int), .int .u32 (N.m : Int), .int .u32 (N.f : Int)] := rfl
  have d1 : decide ((20 : Int) < (n2 : Int)) = false := by simp; omega
  have d1' : decide (20 < n2) = false := by simp; omega
  have d3 : decide ((n3 : Int) < (n2 : Int)) = true := by simp; omega
  have d3' : decide (n3 < n2) = true := by simp; omega
  go_enter Try.func5, Try.ntmps5
  go_wp2_with (first
    | (go_at_call 10; have K := awake7_any ((w.alloc (.cells #[.int .u64 (M.t : Int), .int .u32 (M.e : Int), .int .u32 (M.m : Int), .int .u32 (M.f : Int)] 25)).alloc (.cells #[.int .u64 (N.t : Int), .int .u32 (N.e : Int), .int .u32 (N.m : Int), .int .u32 (N.f : Int)] 25)); ((with_reducible refine K.mono ?_); clear K; rintro r wA ⟨rfl, hgA⟩); have GA := Lib.hid (gtrans (two_grown w (.cells #[.int .u64 (M.t : Int), .int .u32 (M.e : Int), .int .u32 (M.m : Int), .int .u32 (M.f : Int)] 25) (.cells #[.int .u64 (N.t : Int), .int .u32 (N.e : Int), .int .u32 (N.m : Int), .int .u32 (N.f : Int)] 25)) hgA); have BX := Lib.hid (two_later0 hgA); have BY := Lib.hid (two_later1 hgA); obtain ⟨x0, x1, x2, x3⟩ := mt_cells BX.out; clear hgA))
  go_ret
  exact ⟨rfl, gbelow GA.out⟩

set_option maxRecDepth 30000 in
set_option maxHeartbeats 8000000 in
theorem chooses_yy (w : World) (M N : Mt) (S : Nat) (hM : Good M S) (hN : Good N S) (a2 : Option Addr) (n2 c2 : Nat) (zs : List Int) (a3 : Option Addr) (n3 c3 : Nat) (xs : List Int)
    (hn2 : ¬ 20 < n2) (hn23 : ¬ n3 < n2) (h2 : Seq16 w (.slice a2 n2 c2) zs) (h3 : Seq w.heap.size w (.slice a3 n3 c3) xs) (b3 : Byt xs) :
    Calls Try.prog 5 #[.agg (mtC M), .agg (mtC N), .int .i64 (S : Int), .slice a2 n2 c2, .slice a3 n3 c3] w fun r w' => r = .returned (.bool true) ∧ Below w.heap.size w w' := by
  have hmc : mtC M = #[.int .u64 (M.t : Int), .int .u32 (M.e : Int), .int .u32 (M.m : Int), .int .u32 (M.f : Int)] := rfl
  have hmn : mtC N = #[.int .u64 (N.t : Int), .int .u32 (N.e : Int), .int .u32 (N.m : Int), .int .u32 (N.f : Int)] := rfl
  have e3 : n3 = xs.length := by obtain ⟨_, _, hv, _⟩ := h3; injection hv
  have hm3 : n3 ≤ 9223372036854775807 := by obtain ⟨_, _, hv, k1, k2, _⟩ := h3; injection hv; unfold maxLen at k2; omega
  have H2 := Lib.hid h2
  have H3 := Lib.hid h3
  have B3 := Lib.hid b3
  have E3 := Lib.hid e3
  have d1 : decide ((20 : Int) < (n2 : Int)) = false := by simp; omega
  have d1' : decide (20 < n2) = false := by simp; omega
  have d3 : decide ((n3 : Int) < (n2 : Int)) = false := by simp; omega
  have d3' : decide (n3 < n2) = false := by simp; omega
  have h1 := hM.lo
  have hS9 := hM.hi
  have HPM := Lib.hid (fun W => mput_ok W M hM.ok hM.right S hM.lo hM.hi)
  have HBM := Lib.hid (mpage_byt M S)
  generalize mpage M S = la0 at *
  have HPN := Lib.hid (fun W => mput_ok W N hN.ok hN.right S hN.lo hN.hi)
  have HBN := Lib.hid (mpage_byt N S)
  generalize mpage N S = lb0 at *
  rw [hmc] at HPM
  rw [hmn] at HPN
  clear h2 h3 b3 e3 hM hN
  go_enter Try.func5, Try.ntmps5
  go_wp2_with (first
    | (go_at_call 10; have K := awake7_any ((w.alloc (.cells #[.int .u64 (M.t : Int), .int .u32 (M.e : Int), .int .u32 (M.m : Int), .int .u32 (M.f : Int)] 25)).alloc (.cells #[.int .u64 (N.t : Int), .int .u32 (N.e : Int), .int .u32 (N.m : Int), .int .u32 (N.f : Int)] 25)); ((with_reducible refine K.mono ?_); clear K; rintro r wA ⟨rfl, hgA⟩); have GA := Lib.hid (gtrans (two_grown w (.cells #[.int .u64 (M.t : Int), .int .u32 (M.e : Int), .int .u32 (M.m : Int), .int .u32 (M.f : Int)] 25) (.cells #[.int .u64 (N.t : Int), .int .u32 (N.e : Int), .int .u32 (N.m : Int), .int .u32 (N.f : Int)] 25)) hgA); have BX := Lib.hid (two_later0 hgA); have BY := Lib.hid (two_later1 hgA); obtain ⟨x0, x1, x2, x3⟩ := mt_cells BX.out; clear hgA)
    | (go_at_call 11; have K := of7_any wA M; rw [hmc] at K; ((with_reducible refine K.mono ?_); clear K; rintro r w2 ⟨rfl, hg⟩); have hg2 := gtrans hg (two_grown w2 (.cells #[.int .u64 (M.t : Int), .int .u32 (M.e : Int), .int .u32 (M.m : Int), .int .u32 (M.f : Int)] 29) (.cells #[.int .u64 (M.t : Int), .int .u32 (M.e : Int), .int .u32 (M.m : Int), .int .u32 (M.f : Int)] 30)); have G2 := Lib.hid (gtrans GA.out hg2); have G02 := Lib.hid (Nat.le_trans GA.out.size hg.size); have M2 := Lib.hid (two_lit0 w2 (.cells #[.int .u64 (M.t : Int), .int .u32 (M.e : Int), .int .u32 (M.m : Int), .int .u32 (M.f : Int)] 29) (.cells #[.int .u64 (M.t : Int), .int .u32 (M.e : Int), .int .u32 (M.m : Int), .int .u32 (M.f : Int)] 30)); have BY2 := Lib.hid ((hg2.block _ (lt_of_block BY.out) (by simp)).trans BY.out); clear hg hg2 x0 x1 x2 x3; obtain ⟨y0, y1, y2, y3⟩ := mt_cells BY2.out)
    | (go_at_call 11; have K := of7_any ((w2.alloc (.cells #[.int .u64 (M.t : Int), .int .u32 (M.e : Int), .int .u32 (M.m : Int), .int .u32 (M.f : Int)] 29)).alloc (.cells #[.int .u64 (M.t : Int), .int .u32 (M.e : Int), .int .u32 (M.m : Int), .int .u32 (M.f : Int)] 30)) N; rw [hmn] at K; ((with_reducible refine K.mono ?_); clear K; rintro r w3 ⟨rfl, hg⟩); have hg3 := gtrans hg (two_grown w3 (.cells #[.int .u64 (N.t : Int), .int .u32 (N.e : Int), .int .u32 (N.m : Int), .int .u32 (N.f : Int)] 29) (.cells #[.int .u64 (N.t : Int), .int .u32 (N.e : Int), .int .u32 (N.m : Int), .int .u32 (N.f : Int)] 30)); have G3 := Lib.hid (gtrans G2.out hg3); have G23 := Lib.hid hg.size; have N3 := Lib.hid (two_lit0 w3 (.cells #[.int .u64 (N.t : Int), .int .u32 (N.e : Int), .int .u32 (N.m : Int), .int .u32 (N.f : Int)] 29) (.cells #[.int .u64 (N.t : Int), .int .u32 (N.e : Int), .int .u32 (N.m : Int), .int .u32 (N.f : Int)] 30)); have M3 := Lib.hid ((hg3.block _ (lt_of_block M2.out) (by simp)).trans M2.out); clear hg hg3 y0 y1 y2 y3; obtain ⟨m0, m1, m2, m3⟩ := mt_cells M3.out)
    | (go_at_call 12; ((with_reducible refine (HPM.out ((w3.alloc (.cells #[.int .u64 (N.t : Int), .int .u32 (N.e : Int), .int .u32 (N.m : Int), .int .u32 (N.f : Int)] 29)).alloc (.cells #[.int .u64 (N.t : Int), .int .u32 (N.e : Int), .int .u32 (N.m : Int), .int .u32 (N.f : Int)] 30))).mono ?_); rintro r w4 ⟨ao, ca, rfl, ho, hg⟩); have N4 := Lib.hid ((hg.block _ (lt_of_block N3.out) (by simp)).trans N3.out); have G4 := Lib.hid (gtrans G3.out hg); clear m0 m1 m2 m3; obtain ⟨n0, n1, n2', n3'⟩ := mt_cells N4.out; obtain ⟨ga, rfl, hga, hbuf⟩ := buf_own ho (by omega) HBM.out; have HFA4 := Lib.hid hbuf; have HGA := Lib.hid (Nat.le_trans G3.out.size hga); clear ho hg hbuf hga)
    | (go_at_call 12; ((with_reducible refine (HPN.out w4).mono ?_); rintro r w5 ⟨bo, cb, rfl, ho, hg⟩); have G5 := Lib.hid (gtrans G4.out hg); have HFA5 := Lib.hid (HFA4.out.grown hg); obtain ⟨gb, rfl, hgb, hbuf⟩ := buf_own ho (by omega) HBN.out; have HFB5 := Lib.hid hbuf; have HGB := Lib.hid (Nat.le_trans G4.out.size hgb); have hab : ga < gb := Nat.lt_of_lt_of_le HFA4.out.lt hgb; clear ho hg hbuf hgb n0 n1 n2' n3'))
  have HBW := Lib.hid (gbelow G5.out)
  go_loopg [20] n2 (fun q i wr => ∃ (k : Nat) (la lb : List Int), k + q = n2 ∧ i = .int .i64 (k : Int) ∧ Buf wr ga S ca la ∧ Buf wr gb S cb lb ∧ Below w.heap.size w wr)
  case atStart => exact ⟨0, la0, lb0, by omega, rfl, HFA5.out, HFB5.out, HBW.out⟩
  case round =>
    obtain ⟨k, la, lb, hkq, rfl, hfa, hfb, hbw⟩ := hrel
    have HFA := Lib.hid hfa
    clear hfa
    have HFB := Lib.hid hfb
    clear hfb
    have HBW1 := Lib.hid hbw
    clear hbw HBW
    by_cases hlt : k < n2
    · obtain ⟨q, rfl⟩ : ∃ q, gk = q + 1 := ⟨gk - 1, by omega⟩
      have hki : (k : Int) < (n2 : Int) := by omega
      have hk3 : (k : Int) < (n3 : Int) := by omega
      rcases (by omega : (k : Int) % 2 = 0 ∨ (k : Int) % 2 = 1) with hk2 | hk2
      · have hkt : (k : Int).tmod 2 = 0 := by rw [Int.tmod_eq_emod_of_nonneg (by omega)]; exact hk2
        obtain ⟨ba, oa, rfl, hba, A, hA, hA2⟩ := H2.out.at k (by omega)
        obtain ⟨bx, ox, rfl, hbx, hcx⟩ := (show ∃ b o, a3 = some ⟨b, o, none⟩ ∧ b < w.heap.size ∧ w.cell? ⟨b, o + k, none⟩ = some (.int .u8 (xs.getD k 0)) from by
          obtain ⟨ao', c', hv, _, _, _, h4⟩ := H3.out
          have e := E3.out
          obtain ⟨b, o, ha, hb, hc⟩ := h4 (by rintro rfl; simp at e; omega)
          cases hv
          exact ⟨b, o, ha, hb, hc k (by omega)⟩)
        have y3 := B3.out.get k
        have hwA : IntKind.i64.wrap (A : Int) = (A : Int) := IntWalk.i64_in _ (by omega)
        obtain ⟨idx, hidx⟩ : ∃ i : Nat, i = A % S := ⟨_, rfl⟩
        have hil : idx < S := by rw [hidx]; exact Nat.mod_lt _ (by omega)
        have hrem : (A : Int) % (S : Int) = (idx : Int) := by rw [hidx]; rfl
        have htm : (A : Int).tmod (S : Int) = (idx : Int) := by rw [hidx]; rfl
        have hii : (idx : Int) < (S : Int) := by omega
        have hMi : (0 : Int) < (S : Int) := by omega
        have hM0 : ((S : Int) == 0) = false := by simp; omega
        have hM1 : ¬ (S : Int) = 0 := by omega
        have hMn : ¬ S = 0 := by omega
        obtain ⟨q1, f1⟩ := HFA.out.at idx hil
        have yb := HFA.out.byt.get idx
        have z1 := (HBW1.out.cell (p := ⟨ba, oa + k, none⟩) hba).trans hA
        have z2 := (HBW1.out.cell (p := ⟨bx, ox + k, none⟩) hbx).trans hcx
        obtain ⟨X1, hX1⟩ : ∃ x, x = xs.getD k 0 := ⟨_, rfl⟩
        obtain ⟨X2, hX2⟩ : ∃ x, x = la.getD idx 0 := ⟨_, rfl⟩
        rw [← hX1] at z2 y3
        rw [← hX2] at q1 yb
        have hx := xor_byte yb.1 yb.2 y3.1 y3.2
        have HBS := Lib.hid (HFA.out.set idx hil _ hx.1 hx.2)
        have hgq : w.heap.size ≤ ga := HGA.out
        have HBX := Lib.hid (HBW1.out.setCell (p := ⟨ga, idx, none⟩) hgq (.int .u8 (bits .xor .u8 X2 X1)))
        have z1d : wr.drew.cell? ⟨ba, oa + k, none⟩ = some (.int .u16 (A : Int)) := z1
        have z2d : wr.drew.cell? ⟨bx, ox + k, none⟩ = some (.int .u8 X1) := z2
        have q1d : wr.drew.cell? ⟨ga, idx, none⟩ = some (.int .u8 X2) := q1
        have f1d : wr.drew.frozen? ⟨ga, idx, none⟩ = false := f1
        have HEQ := Lib.hid (show wr.drew.setCell ⟨ga, idx, none⟩ (.int .u8 (bits .xor .u8 X2 X1)) = (wr.setCell ⟨ga, idx, none⟩ (.int .u8 (bits .xor .u8 X2 X1))).drew from rfl)
        clear hA hcx hidx hX1 hX2 z1 z2 q1 f1 hx hba hbx
        go_wp2
        go_still_tail 17, (by kernel_rfl)
        change wpList _ _ _ _ _ wr.drew
        generalize hw2 : wr.drew = w2z at *
        have HW2 := Lib.hid hw2
        clear hw2
        go_wp2
        go_roundg q
        case measure => omega
        case rel => exact ⟨k + 1, _, _, by omega, by go_num, by rw [HEQ.out]; exact HBS.out.grown (gdrew _), by rw [HEQ.out]; exact (HFB.out.other _ _ (by show gb ≠ ga; omega)).grown (gdrew _), by rw [HEQ.out]; exact HBX.out.trans ((gbelow (gdrew _)).mono HBX.out.size)⟩
      · have hkt : (k : Int).tmod 2 = 1 := by rw [Int.tmod_eq_emod_of_nonneg (by omega)]; exact hk2
        obtain ⟨ba, oa, rfl, hba, A, hA, hA2⟩ := H2.out.at k (by omega)
        obtain ⟨bx, ox, rfl, hbx, hcx⟩ := (show ∃ b o, a3 = some ⟨b, o, none⟩ ∧ b < w.heap.size ∧ w.cell? ⟨b, o + k, none⟩ = some (.int .u8 (xs.getD k 0)) from by
          obtain ⟨ao', c', hv, _, _, _, h4⟩ := H3.out
          have e := E3.out
          obtain ⟨b, o, ha, hb, hc⟩ := h4 (by rintro rfl; simp at e; omega)
          cases hv
          exact ⟨b, o, ha, hb, hc k (by omega)⟩)
        have y3 := B3.out.get k
        have hwA : IntKind.i64.wrap (A : Int) = (A : Int) := IntWalk.i64_in _ (by omega)
        obtain ⟨idx, hidx⟩ : ∃ i : Nat, i = A % S := ⟨_, rfl⟩
        have hil : idx < S := by rw [hidx]; exact Nat.mod_lt _ (by omega)
        have hrem : (A : Int) % (S : Int) = (idx : Int) := by rw [hidx]; rfl
        have htm : (A : Int).tmod (S : Int) = (idx : Int) := by rw [hidx]; rfl
        have hii : (idx : Int) < (S : Int) := by omega
        have hMi : (0 : Int) < (S : Int) := by omega
        have hM0 : ((S : Int) == 0) = false := by simp; omega
        have hM1 : ¬ (S : Int) = 0 := by omega
        have hMn : ¬ S = 0 := by omega
        obtain ⟨q1, f1⟩ := HFB.out.at idx hil
        have yb := HFB.out.byt.get idx
        have z1 := (HBW1.out.cell (p := ⟨ba, oa + k, none⟩) hba).trans hA
        have z2 := (HBW1.out.cell (p := ⟨bx, ox + k, none⟩) hbx).trans hcx
        obtain ⟨X1, hX1⟩ : ∃ x, x = xs.getD k 0 := ⟨_, rfl⟩
        obtain ⟨X2, hX2⟩ : ∃ x, x = lb.getD idx 0 := ⟨_, rfl⟩
        rw [← hX1] at z2 y3
        rw [← hX2] at q1 yb
        have hx := xor_byte yb.1 yb.2 y3.1 y3.2
        have HBS := Lib.hid (HFB.out.set idx hil _ hx.1 hx.2)
        have hgq : w.heap.size ≤ gb := HGB.out
        have HBX := Lib.hid (HBW1.out.setCell (p := ⟨gb, idx, none⟩) hgq (.int .u8 (bits .xor .u8 X2 X1)))
        have z1d : wr.drew.cell? ⟨ba, oa + k, none⟩ = some (.int .u16 (A : Int)) := z1
        have z2d : wr.drew.cell? ⟨bx, ox + k, none⟩ = some (.int .u8 X1) := z2
        have q1d : wr.drew.cell? ⟨gb, idx, none⟩ = some (.int .u8 X2) := q1
        have f1d : wr.drew.frozen? ⟨gb, idx, none⟩ = false := f1
        have HEQ := Lib.hid (show wr.drew.setCell ⟨gb, idx, none⟩ (.int .u8 (bits .xor .u8 X2 X1)) = (wr.setCell ⟨gb, idx, none⟩ (.int .u8 (bits .xor .u8 X2 X1))).drew from rfl)
        clear hA hcx hidx hX1 hX2 z1 z2 q1 f1 hx hba hbx
        go_wp2
        go_still_tail 17, (by kernel_rfl)
        change wpList _ _ _ _ _ wr.drew
        generalize hw2 : wr.drew = w2z at *
        have HW2 := Lib.hid hw2
        clear hw2
        go_wp2
        go_roundg q
        case measure => omega
        case rel => exact ⟨k + 1, _, _, by omega, by go_num, by rw [HEQ.out]; exact (HFA.out.other _ _ (by show ga ≠ gb; omega)).grown (gdrew _), by rw [HEQ.out]; exact HBS.out.grown (gdrew _), by rw [HEQ.out]; exact HBX.out.trans ((gbelow (gdrew _)).mono HBX.out.size)⟩
    · obtain rfl : k = n2 := by omega
      have hkk : ¬ (k : Int) < (k : Int) := by omega
      have HSA : Hid (Seq wr.heap.size wr (.slice (some ⟨ga, 0, none⟩) S ca) la) := Lib.hid HFA.out.seq
      have HSB : Hid (Seq wr.heap.size wr (.slice (some ⟨gb, 0, none⟩) S cb) lb) := Lib.hid HFB.out.seq
      obtain ⟨X, hX⟩ : ∃ X, chM la lb = X := ⟨_, rfl⟩
      obtain ⟨E, hE⟩ : ∃ E, chE la lb = E := ⟨_, rfl⟩
      have HXE := Lib.hid (And.intro hX hE)
      have KC := Lib.hid (choose_as HSA.out HSB.out HFA.out.byt HFB.out.byt HXE.out)
      have KK := Lib.hid (fun W => kchoose_as (W := W) HFA.out.byt HFB.out.byt (by rw [HFA.out.len]; omega) (by rw [HFB.out.len]; omega) HXE.out)
      obtain ⟨TA, hTA⟩ : ∃ T, T = strOfNums la := ⟨_, rfl⟩
      obtain ⟨TB, hTB⟩ : ∃ T, T = strOfNums lb := ⟨_, rfl⟩
      rw [← hTA, ← hTB] at KK
      have HTA := Lib.hid hTA
      have HTB := Lib.hid hTB
      have hxc : mtC X = #[.int .u64 (X.t : Int), .int .u32 (X.e : Int), .int .u32 (X.m : Int), .int .u32 (X.f : Int)] := rfl
      have HSM := Lib.hid (fun W => same7_any W X)
      rw [hxc] at HSM
      clear hX hE hTA hTB
      go_wp2_with (first
        | (go_at_call 21; ((with_reducible refine KC.out.mono ?_); rintro r w8 ⟨rfl, hg⟩); have hg8 := gtrans hg (World.grownBy_alloc w8 (.cells #[.int .u64 (X.t : Int), .int .u32 (X.e : Int), .int .u32 (X.m : Int), .int .u32 (X.f : Int)] 29) none); have HG8 := Lib.hid hg8; have X8 := Lib.hid (heap_alloc_new w8 (.cells #[.int .u64 (X.t : Int), .int .u32 (X.e : Int), .int .u32 (X.m : Int), .int .u32 (X.f : Int)] 29)); have cva := seq_string (HSA.out.grown hg8); have cvb := seq_string (HSB.out.grown hg8); rw [← HTA.out] at cva; rw [← HTB.out] at cvb; clear hg hg8)
        | (go_at_call 22; ((with_reducible refine (KK.out (w8.alloc (.cells #[.int .u64 (X.t : Int), .int .u32 (X.e : Int), .int .u32 (X.m : Int), .int .u32 (X.f : Int)] 29))).mono ?_); rintro r w9 ⟨rfl, hg⟩); have hg9 := gtrans hg (World.grownBy_alloc w9 (.cells #[.int .u64 (X.t : Int), .int .u32 (X.e : Int), .int .u32 (X.m : Int), .int .u32 (X.f : Int)] 30) none); have HG9 := Lib.hid (gtrans HG8.out hg9); have X9 := Lib.hid ((hg9.block _ (lt_of_block X8.out) (by simp)).trans X8.out); have K9 := Lib.hid (heap_alloc_new w9 (.cells #[.int .u64 (X.t : Int), .int .u32 (X.e : Int), .int .u32 (X.m : Int), .int .u32 (X.f : Int)] 30)); obtain ⟨x0, x1, x2, x3⟩ := mt_cells X9.out; obtain ⟨y0, y1, y2, y3'⟩ := mt_cells K9.out; clear hg hg9 cva cvb)
        | (go_at_call 20; ((with_reducible refine (HSM.out _).mono ?_); rintro r w10 ⟨rfl, hg⟩); have HG10 := Lib.hid (gtrans HG9.out hg); clear hg x0 x1 x2 x3 y0 y1 y2 y3'))
      go_ret
      exact ⟨by simp, HBW1.out.trans ((gbelow HG10.out).mono HBW1.out.size)⟩

set_option maxRecDepth 30000 in
set_option maxHeartbeats 8000000 in
theorem chooses_yn (w : World) (M N : Mt) (S : Nat) (hM : Good M S) (hN : ¬ (mright N = true ∧ 512 ≤ (S : Int) ∧ (S : Int) ≤ 4096)) (a2 : Option Addr) (n2 c2 : Nat) (zs : List Int) (a3 : Option Addr) (n3 c3 : Nat) (xs : List Int)
    (hn2 : ¬ 20 < n2) (hn23 : ¬ n3 < n2) (h2 : Seq16 w (.slice a2 n2 c2) zs) (h3 : Seq w.heap.size w (.slice a3 n3 c3) xs) (b3 : Byt xs) :
    Calls Try.prog 5 #[.agg (mtC M), .agg (mtC N), .int .i64 (S : Int), .slice a2 n2 c2, .slice a3 n3 c3] w fun r w' => r = .returned (.bool true) ∧ Below w.heap.size w w' := by
  have hmc : mtC M = #[.int .u64 (M.t : Int), .int .u32 (M.e : Int), .int .u32 (M.m : Int), .int .u32 (M.f : Int)] := rfl
  have hmn : mtC N = #[.int .u64 (N.t : Int), .int .u32 (N.e : Int), .int .u32 (N.m : Int), .int .u32 (N.f : Int)] := rfl
  have e3 : n3 = xs.length := by obtain ⟨_, _, hv, _⟩ := h3; injection hv
  have hm3 : n3 ≤ 9223372036854775807 := by obtain ⟨_, _, hv, k1, k2, _⟩ := h3; injection hv; unfold maxLen at k2; omega
  have H2 := Lib.hid h2
  have H3 := Lib.hid h3
  have B3 := Lib.hid b3
  have E3 := Lib.hid e3
  have d1 : decide ((20 : Int) < (n2 : Int)) = false := by simp; omega
  have d1' : decide (20 < n2) = false := by simp; omega
  have d3 : decide ((n3 : Int) < (n2 : Int)) = false := by simp; omega
  have d3' : decide (n3 < n2) = false := by simp; omega
  have h1 := hM.lo
  have hS9 := hM.hi
  have HPM := Lib.hid (fun W => mput_ok W M hM.ok hM.right S hM.lo hM.hi)
  have HBM := Lib.hid (mpage_byt M S)
  generalize mpage M S = la0 at *
  have HPN := Lib.hid (fun W => mput_no W N (S : Int) hN)
  rw [hmc] at HPM
  rw [hmn] at HPN
  clear h2 h3 b3 e3 hM hN
  go_enter Try.func5, Try.ntmps5
  go_wp2_with (first
    | (go_at_call 10; have K := awake7_any ((w.alloc (.cells #[.int .u64 (M.t : Int), .int .u32 (M.e : Int), .int .u32 (M.m : Int), .int .u32 (M.f : Int)] 25)).alloc (.cells #[.int .u64 (N.t : Int), .int .u32 (N.e : Int), .int .u32 (N.m : Int), .int .u32 (N.f : Int)] 25)); ((with_reducible refine K.mono ?_); clear K; rintro r wA ⟨rfl, hgA⟩); have GA := Lib.hid (gtrans (two_grown w (.cells #[.int .u64 (M.t : Int), .int .u32 (M.e : Int), .int .u32 (M.m : Int), .int .u32 (M.f : Int)] 25) (.cells #[.int .u64 (N.t : Int), .int .u32 (N.e : Int), .int .u32 (N.m : Int), .int .u32 (N.f : Int)] 25)) hgA); have BX := Lib.hid (two_later0 hgA); have BY := Lib.hid (two_later1 hgA); obtain ⟨x0, x1, x2, x3⟩ := mt_cells BX.out; clear hgA)
    | (go_at_call 11; have K := of7_any wA M; rw [hmc] at K; ((with_reducible refine K.mono ?_); clear K; rintro r w2 ⟨rfl, hg⟩); have hg2 := gtrans hg (two_grown w2 (.cells #[.int .u64 (M.t : Int), .int .u32 (M.e : Int), .int .u32 (M.m : Int), .int .u32 (M.f : Int)] 29) (.cells #[.int .u64 (M.t : Int), .int .u32 (M.e : Int), .int .u32 (M.m : Int), .int .u32 (M.f : Int)] 30)); have G2 := Lib.hid (gtrans GA.out hg2); have G02 := Lib.hid (Nat.le_trans GA.out.size hg.size); have M2 := Lib.hid (two_lit0 w2 (.cells #[.int .u64 (M.t : Int), .int .u32 (M.e : Int), .int .u32 (M.m : Int), .int .u32 (M.f : Int)] 29) (.cells #[.int .u64 (M.t : Int), .int .u32 (M.e : Int), .int .u32 (M.m : Int), .int .u32 (M.f : Int)] 30)); have BY2 := Lib.hid ((hg2.block _ (lt_of_block BY.out) (by simp)).trans BY.out); clear hg hg2 x0 x1 x2 x3; obtain ⟨y0, y1, y2, y3⟩ := mt_cells BY2.out)
    | (go_at_call 11; have K := of7_any ((w2.alloc (.cells #[.int .u64 (M.t : Int), .int .u32 (M.e : Int), .int .u32 (M.m : Int), .int .u32 (M.f : Int)] 29)).alloc (.cells #[.int .u64 (M.t : Int), .int .u32 (M.e : Int), .int .u32 (M.m : Int), .int .u32 (M.f : Int)] 30)) N; rw [hmn] at K; ((with_reducible refine K.mono ?_); clear K; rintro r w3 ⟨rfl, hg⟩); have hg3 := gtrans hg (two_grown w3 (.cells #[.int .u64 (N.t : Int), .int .u32 (N.e : Int), .int .u32 (N.m : Int), .int .u32 (N.f : Int)] 29) (.cells #[.int .u64 (N.t : Int), .int .u32 (N.e : Int), .int .u32 (N.m : Int), .int .u32 (N.f : Int)] 30)); have G3 := Lib.hid (gtrans G2.out hg3); have G23 := Lib.hid hg.size; have N3 := Lib.hid (two_lit0 w3 (.cells #[.int .u64 (N.t : Int), .int .u32 (N.e : Int), .int .u32 (N.m : Int), .int .u32 (N.f : Int)] 29) (.cells #[.int .u64 (N.t : Int), .int .u32 (N.e : Int), .int .u32 (N.m : Int), .int .u32 (N.f : Int)] 30)); have M3 := Lib.hid ((hg3.block _ (lt_of_block M2.out) (by simp)).trans M2.out); clear hg hg3 y0 y1 y2 y3; obtain ⟨m0, m1, m2, m3⟩ := mt_cells M3.out)
    | (go_at_call 12; ((with_reducible refine (HPM.out ((w3.alloc (.cells #[.int .u64 (N.t : Int), .int .u32 (N.e : Int), .int .u32 (N.m : Int), .int .u32 (N.f : Int)] 29)).alloc (.cells #[.int .u64 (N.t : Int), .int .u32 (N.e : Int), .int .u32 (N.m : Int), .int .u32 (N.f : Int)] 30))).mono ?_); rintro r w4 ⟨ao, ca, rfl, ho, hg⟩); have N4 := Lib.hid ((hg.block _ (lt_of_block N3.out) (by simp)).trans N3.out); have G4 := Lib.hid (gtrans G3.out hg); clear m0 m1 m2 m3; obtain ⟨n0, n1, n2', n3'⟩ := mt_cells N4.out; obtain ⟨ga, rfl, hga, hbuf⟩ := buf_own ho (by omega) HBM.out; have HFA4 := Lib.hid hbuf; have HGA := Lib.hid (Nat.le_trans G3.out.size hga); clear ho hg hbuf hga)
    | (go_at_call 12; ((with_reducible refine (HPN.out w4).mono ?_); rintro r w5 ⟨rfl, hg⟩); have G5 := Lib.hid (gtrans G4.out hg); have HFA5 := Lib.hid (HFA4.out.grown hg); clear hg n0 n1 n2' n3'))
  have HBW := Lib.hid (gbelow G5.out)
  go_loopg [20] n2 (fun q i wr => ∃ (k : Nat) (la lb : List Int), k + q = n2 ∧ i = .int .i64 (k : Int) ∧ Buf wr ga S ca la ∧ lb = [] ∧ Below w.heap.size w wr)
  case atStart => exact ⟨0, la0, [], by omega, rfl, HFA5.out, rfl, HBW.out⟩
  case round =>
    obtain ⟨k, la, lb, hkq, rfl, hfa, rfl, hbw⟩ := hrel
    have HFA := Lib.hid hfa
    clear hfa
    have HBW1 := Lib.hid hbw
    clear hbw HBW
    by_cases hlt : k < n2
    · obtain ⟨q, rfl⟩ : ∃ q, gk = q + 1 := ⟨gk - 1, by omega⟩
      have hki : (k : Int) < (n2 : Int) := by omega
      have hk3 : (k : Int) < (n3 : Int) := by omega
      rcases (by omega : (k : Int) % 2 = 0 ∨ (k : Int) % 2 = 1) with hk2 | hk2
      · have hkt : (k : Int).tmod 2 = 0 := by rw [Int.tmod_eq_emod_of_nonneg (by omega)]; exact hk2
        obtain ⟨ba, oa, rfl, hba, A, hA, hA2⟩ := H2.out.at k (by omega)
        obtain ⟨bx, ox, rfl, hbx, hcx⟩ := (show ∃ b o, a3 = some ⟨b, o, none⟩ ∧ b < w.heap.size ∧ w.cell? ⟨b, o + k, none⟩ = some (.int .u8 (xs.getD k 0)) from by
          obtain ⟨ao', c', hv, _, _, _, h4⟩ := H3.out
          have e := E3.out
          obtain ⟨b, o, ha, hb, hc⟩ := h4 (by rintro rfl; simp at e; omega)
          cases hv
          exact ⟨b, o, ha, hb, hc k (by omega)⟩)
        have y3 := B3.out.get k
        have hwA : IntKind.i64.wrap (A : Int) = (A : Int) := IntWalk.i64_in _ (by omega)
        obtain ⟨idx, hidx⟩ : ∃ i : Nat, i = A % S := ⟨_, rfl⟩
        have hil : idx < S := by rw [hidx]; exact Nat.mod_lt _ (by omega)
        have hrem : (A : Int) % (S : Int) = (idx : Int) := by rw [hidx]; rfl
        have htm : (A : Int).tmod (S : Int) = (idx : Int) := by rw [hidx]; rfl
        have hii : (idx : Int) < (S : Int) := by omega
        have hMi : (0 : Int) < (S : Int) := by omega
        have hM0 : ((S : Int) == 0) = false := by simp; omega
        have hM1 : ¬ (S : Int) = 0 := by omega
        have hMn : ¬ S = 0 := by omega
        obtain ⟨q1, f1⟩ := HFA.out.at idx hil
        have yb := HFA.out.byt.get idx
        have z1 := (HBW1.out.cell (p := ⟨ba, oa + k, none⟩) hba).trans hA
        have z2 := (HBW1.out.cell (p := ⟨bx, ox + k, none⟩) hbx).trans hcx
        obtain ⟨X1, hX1⟩ : ∃ x, x = xs.getD k 0 := ⟨_, rfl⟩
        obtain ⟨X2, hX2⟩ : ∃ x, x = la.getD idx 0 := ⟨_, rfl⟩
        rw [← hX1] at z2 y3
        rw [← hX2] at q1 yb
        have hx := xor_byte yb.1 yb.2 y3.1 y3.2
        have HBS := Lib.hid (HFA.out.set idx hil _ hx.1 hx.2)
        have hgq : w.heap.size ≤ ga := HGA.out
        have HBX := Lib.hid (HBW1.out.setCell (p := ⟨ga, idx, none⟩) hgq (.int .u8 (bits .xor .u8 X2 X1)))
        have z1d : wr.drew.cell? ⟨ba, oa + k, none⟩ = some (.int .u16 (A : Int)) := z1
        have z2d : wr.drew.cell? ⟨bx, ox + k, none⟩ = some (.int .u8 X1) := z2
        have q1d : wr.drew.cell? ⟨ga, idx, none⟩ = some (.int .u8 X2) := q1
        have f1d : wr.drew.frozen? ⟨ga, idx, none⟩ = false := f1
        have HEQ := Lib.hid (show wr.drew.setCell ⟨ga, idx, none⟩ (.int .u8 (bits .xor .u8 X2 X1)) = (wr.setCell ⟨ga, idx, none⟩ (.int .u8 (bits .xor .u8 X2 X1))).drew from rfl)
        clear hA hcx hidx hX1 hX2 z1 z2 q1 f1 hx hba hbx
        go_wp2
        go_still_tail 17, (by kernel_rfl)
        change wpList _ _ _ _ _ wr.drew
        generalize hw2 : wr.drew = w2z at *
        have HW2 := Lib.hid hw2
        clear hw2
        go_wp2
        go_roundg q
        case measure => omega
        case rel => exact ⟨k + 1, _, _, by omega, by go_num, by rw [HEQ.out]; exact HBS.out.grown (gdrew _), rfl, by rw [HEQ.out]; exact HBX.out.trans ((gbelow (gdrew _)).mono HBX.out.size)⟩
      · have hkt : (k : Int).tmod 2 = 1 := by rw [Int.tmod_eq_emod_of_nonneg (by omega)]; exact hk2
        go_wp2
        go_roundg q
        case measure => omega
        case rel => exact ⟨k + 1, _, _, by omega, by go_num, HFA.out, rfl, HBW1.out⟩
    · obtain rfl : k = n2 := by omega
      have hkk : ¬ (k : Int) < (k : Int) := by omega
      have HSA : Hid (Seq wr.heap.size wr (.slice (some ⟨ga, 0, none⟩) S ca) la) := Lib.hid HFA.out.seq
      have HSB : Hid (Seq wr.heap.size wr (.slice none 0 0) []) := Lib.hid (seq_nil _ _)
      obtain ⟨X, hX⟩ : ∃ X, chM la [] = X := ⟨_, rfl⟩
      obtain ⟨E, hE⟩ : ∃ E, chE la [] = E := ⟨_, rfl⟩
      have HXE := Lib.hid (And.intro hX hE)
      have KC := Lib.hid (choose_as HSA.out HSB.out HFA.out.byt nil_byts HXE.out)
      have KK := Lib.hid (fun W => kchoose_as (W := W) HFA.out.byt nil_byts (by rw [HFA.out.len]; omega) (by simp) HXE.out)
      obtain ⟨TA, hTA⟩ : ∃ T, T = strOfNums la := ⟨_, rfl⟩
      obtain ⟨TB, hTB⟩ : ∃ T, T = strOfNums [] := ⟨_, rfl⟩
      rw [← hTA, ← hTB] at KK
      have HTA := Lib.hid hTA
      have HTB := Lib.hid hTB
      have hxc : mtC X = #[.int .u64 (X.t : Int), .int .u32 (X.e : Int), .int .u32 (X.m : Int), .int .u32 (X.f : Int)] := rfl
      have HSM := Lib.hid (fun W => same7_any W X)
      rw [hxc] at HSM
      clear hX hE hTA hTB
      go_wp2_with (first
        | (go_at_call 21; ((with_reducible refine KC.out.mono ?_); rintro r w8 ⟨rfl, hg⟩); have hg8 := gtrans hg (World.grownBy_alloc w8 (.cells #[.int .u64 (X.t : Int), .int .u32 (X.e : Int), .int .u32 (X.m : Int), .int .u32 (X.f : Int)] 29) none); have HG8 := Lib.hid hg8; have X8 := Lib.hid (heap_alloc_new w8 (.cells #[.int .u64 (X.t : Int), .int .u32 (X.e : Int), .int .u32 (X.m : Int), .int .u32 (X.f : Int)] 29)); have cva := seq_string (HSA.out.grown hg8); have cvb := seq_string (HSB.out.grown hg8); rw [← HTA.out] at cva; rw [← HTB.out] at cvb; clear hg hg8)
        | (go_at_call 22; ((with_reducible refine (KK.out (w8.alloc (.cells #[.int .u64 (X.t : Int), .int .u32 (X.e : Int), .int .u32 (X.m : Int), .int .u32 (X.f : Int)] 29))).mono ?_); rintro r w9 ⟨rfl, hg⟩); have hg9 := gtrans hg (World.grownBy_alloc w9 (.cells #[.int .u64 (X.t : Int), .int .u32 (X.e : Int), .int .u32 (X.m : Int), .int .u32 (X.f : Int)] 30) none); have HG9 := Lib.hid (gtrans HG8.out hg9); have X9 := Lib.hid ((hg9.block _ (lt_of_block X8.out) (by simp)).trans X8.out); have K9 := Lib.hid (heap_alloc_new w9 (.cells #[.int .u64 (X.t : Int), .int .u32 (X.e : Int), .int .u32 (X.m : Int), .int .u32 (X.f : Int)] 30)); obtain ⟨x0, x1, x2, x3⟩ := mt_cells X9.out; obtain ⟨y0, y1, y2, y3'⟩ := mt_cells K9.out; clear hg hg9 cva cvb)
        | (go_at_call 20; ((with_reducible refine (HSM.out _).mono ?_); rintro r w10 ⟨rfl, hg⟩); have HG10 := Lib.hid (gtrans HG9.out hg); clear hg x0 x1 x2 x3 y0 y1 y2 y3'))
      go_ret
      exact ⟨by simp, HBW1.out.trans ((gbelow HG10.out).mono HBW1.out.size)⟩

set_option maxRecDepth 30000 in
set_option maxHeartbeats 8000000 in
theorem chooses_ny (w : World) (M N : Mt) (S : Nat) (hM : ¬ (mright M = true ∧ 512 ≤ (S : Int) ∧ (S : Int) ≤ 4096)) (hN : Good N S) (a2 : Option Addr) (n2 c2 : Nat) (zs : List Int) (a3 : Option Addr) (n3 c3 : Nat) (xs : List Int)
    (hn2 : ¬ 20 < n2) (hn23 : ¬ n3 < n2) (h2 : Seq16 w (.slice a2 n2 c2) zs) (h3 : Seq w.heap.size w (.slice a3 n3 c3) xs) (b3 : Byt xs) :
    Calls Try.prog 5 #[.agg (mtC M), .agg (mtC N), .int .i64 (S : Int), .slice a2 n2 c2, .slice a3 n3 c3] w fun r w' => r = .returned (.bool true) ∧ Below w.heap.size w w' := by
  have hmc : mtC M = #[.int .u64 (M.t : Int), .int .u32 (M.e : Int), .int .u32 (M.m : Int), .int .u32 (M.f : Int)] := rfl
  have hmn : mtC N = #[.int .u64 (N.t : Int), .int .u32 (N.e : Int), .int .u32 (N.m : Int), .int .u32 (N.f : Int)] := rfl
  have e3 : n3 = xs.length := by obtain ⟨_, _, hv, _⟩ := h3; injection hv
  have hm3 : n3 ≤ 9223372036854775807 := by obtain ⟨_, _, hv, k1, k2, _⟩ := h3; injection hv; unfold maxLen at k2; omega
  have H2 := Lib.hid h2
  have H3 := Lib.hid h3
  have B3 := Lib.hid b3
  have E3 := Lib.hid e3
  have d1 : decide ((20 : Int) < (n2 : Int)) = false := by simp; omega
  have d1' : decide (20 < n2) = false := by simp; omega
  have d3 : decide ((n3 : Int) < (n2 : Int)) = false := by simp; omega
  have d3' : decide (n3 < n2) = false := by simp; omega
  have h1 := hN.lo
  have hS9 := hN.hi
  have HPM := Lib.hid (fun W => mput_no W M (S : Int) hM)
  have HPN := Lib.hid (fun W => mput_ok W N hN.ok hN.right S hN.lo hN.hi)
  have HBN := Lib.hid (mpage_byt N S)
  generalize mpage N S = lb0 at *
  rw [hmc] at HPM
  rw [hmn] at HPN
  clear h2 h3 b3 e3 hM hN
  go_enter Try.func5, Try.ntmps5
  go_wp2_with (first
    | (go_at_call 10; have K := awake7_any ((w.alloc (.cells #[.int .u64 (M.t : Int), .int .u32 (M.e : Int), .int .u32 (M.m : Int), .int .u32 (M.f : Int)] 25)).alloc (.cells #[.int .u64 (N.t : Int), .int .u32 (N.e : Int), .int .u32 (N.m : Int), .int .u32 (N.f : Int)] 25)); ((with_reducible refine K.mono ?_); clear K; rintro r wA ⟨rfl, hgA⟩); have GA := Lib.hid (gtrans (two_grown w (.cells #[.int .u64 (M.t : Int), .int .u32 (M.e : Int), .int .u32 (M.m : Int), .int .u32 (M.f : Int)] 25) (.cells #[.int .u64 (N.t : Int), .int .u32 (N.e : Int), .int .u32 (N.m : Int), .int .u32 (N.f : Int)] 25)) hgA); have BX := Lib.hid (two_later0 hgA); have BY := Lib.hid (two_later1 hgA); obtain ⟨x0, x1, x2, x3⟩ := mt_cells BX.out; clear hgA)
    | (go_at_call 11; have K := of7_any wA M; rw [hmc] at K; ((with_reducible refine K.mono ?_); clear K; rintro r w2 ⟨rfl, hg⟩); have hg2 := gtrans hg (two_grown w2 (.cells #[.int .u64 (M.t : Int), .int .u32 (M.e : Int), .int .u32 (M.m : Int), .int .u32 (M.f : Int)] 29) (.cells #[.int .u64 (M.t : Int), .int .u32 (M.e : Int), .int .u32 (M.m : Int), .int .u32 (M.f : Int)] 30)); have G2 := Lib.hid (gtrans GA.out hg2); have G02 := Lib.hid (Nat.le_trans GA.out.size hg.size); have M2 := Lib.hid (two_lit0 w2 (.cells #[.int .u64 (M.t : Int), .int .u32 (M.e : Int), .int .u32 (M.m : Int), .int .u32 (M.f : Int)] 29) (.cells #[.int .u64 (M.t : Int), .int .u32 (M.e : Int), .int .u32 (M.m : Int), .int .u32 (M.f : Int)] 30)); have BY2 := Lib.hid ((hg2.block _ (lt_of_block BY.out) (by simp)).trans BY.out); clear hg hg2 x0 x1 x2 x3; obtain ⟨y0, y1, y2, y3⟩ := mt_cells BY2.out)
    | (go_at_call 11; have K := of7_any ((w2.alloc (.cells #[.int .u64 (M.t : Int), .int .u32 (M.e : Int), .int .u32 (M.m : Int), .int .u32 (M.f : Int)] 29)).alloc (.cells #[.int .u64 (M.t : Int), .int .u32 (M.e : Int), .int .u32 (M.m : Int), .int .u32 (M.f : Int)] 30)) N; rw [hmn] at K; ((with_reducible refine K.mono ?_); clear K; rintro r w3 ⟨rfl, hg⟩); have hg3 := gtrans hg (two_grown w3 (.cells #[.int .u64 (N.t : Int), .int .u32 (N.e : Int), .int .u32 (N.m : Int), .int .u32 (N.f : Int)] 29) (.cells #[.int .u64 (N.t : Int), .int .u32 (N.e : Int), .int .u32 (N.m : Int), .int .u32 (N.f : Int)] 30)); have G3 := Lib.hid (gtrans G2.out hg3); have G23 := Lib.hid hg.size; have N3 := Lib.hid (two_lit0 w3 (.cells #[.int .u64 (N.t : Int), .int .u32 (N.e : Int), .int .u32 (N.m : Int), .int .u32 (N.f : Int)] 29) (.cells #[.int .u64 (N.t : Int), .int .u32 (N.e : Int), .int .u32 (N.m : Int), .int .u32 (N.f : Int)] 30)); have M3 := Lib.hid ((hg3.block _ (lt_of_block M2.out) (by simp)).trans M2.out); clear hg hg3 y0 y1 y2 y3; obtain ⟨m0, m1, m2, m3⟩ := mt_cells M3.out)
    | (go_at_call 12; ((with_reducible refine (HPM.out ((w3.alloc (.cells #[.int .u64 (N.t : Int), .int .u32 (N.e : Int), .int .u32 (N.m : Int), .int .u32 (N.f : Int)] 29)).alloc (.cells #[.int .u64 (N.t : Int), .int .u32 (N.e : Int), .int .u32 (N.m : Int), .int .u32 (N.f : Int)] 30))).mono ?_); rintro r w4 ⟨rfl, hg⟩); have N4 := Lib.hid ((hg.block _ (lt_of_block N3.out) (by simp)).trans N3.out); have G4 := Lib.hid (gtrans G3.out hg); clear m0 m1 m2 m3; obtain ⟨n0, n1, n2', n3'⟩ := mt_cells N4.out; clear hg)
    | (go_at_call 12; ((with_reducible refine (HPN.out w4).mono ?_); rintro r w5 ⟨bo, cb, rfl, ho, hg⟩); have G5 := Lib.hid (gtrans G4.out hg); obtain ⟨gb, rfl, hgb, hbuf⟩ := buf_own ho (by omega) HBN.out; have HFB5 := Lib.hid hbuf; have HGB := Lib.hid (Nat.le_trans G4.out.size hgb); clear ho hg hbuf hgb n0 n1 n2' n3'))
  have HBW := Lib.hid (gbelow G5.out)
  go_loopg [20] n2 (fun q i wr => ∃ (k : Nat) (la lb : List Int), k + q = n2 ∧ i = .int .i64 (k : Int) ∧ la = [] ∧ Buf wr gb S cb lb ∧ Below w.heap.size w wr)
  case atStart => exact ⟨0, [], lb0, by omega, rfl, rfl, HFB5.out, HBW.out⟩
  case round =>
    obtain ⟨k, la, lb, hkq, rfl, rfl, hfb, hbw⟩ := hrel
    have HFB := Lib.hid hfb
    clear hfb
    have HBW1 := Lib.hid hbw
    clear hbw HBW
    by_cases hlt : k < n2
    · obtain ⟨q, rfl⟩ : ∃ q, gk = q + 1 := ⟨gk - 1, by omega⟩
      have hki : (k : Int) < (n2 : Int) := by omega
      have hk3 : (k : Int) < (n3 : Int) := by omega
      rcases (by omega : (k : Int) % 2 = 0 ∨ (k : Int) % 2 = 1) with hk2 | hk2
      · have hkt : (k : Int).tmod 2 = 0 := by rw [Int.tmod_eq_emod_of_nonneg (by omega)]; exact hk2
        go_wp2
        go_roundg q
        case measure => omega
        case rel => exact ⟨k + 1, _, _, by omega, by go_num, rfl, HFB.out, HBW1.out⟩
      · have hkt : (k : Int).tmod 2 = 1 := by rw [Int.tmod_eq_emod_of_nonneg (by omega)]; exact hk2
        obtain ⟨ba, oa, rfl, hba, A, hA, hA2⟩ := H2.out.at k (by omega)
        obtain ⟨bx, ox, rfl, hbx, hcx⟩ := (show ∃ b o, a3 = some ⟨b, o, none⟩ ∧ b < w.heap.size ∧ w.cell? ⟨b, o + k, none⟩ = some (.int .u8 (xs.getD k 0)) from by
          obtain ⟨ao', c', hv, _, _, _, h4⟩ := H3.out
          have e := E3.out
          obtain ⟨b, o, ha, hb, hc⟩ := h4 (by rintro rfl; simp at e; omega)
          cases hv
          exact ⟨b, o, ha, hb, hc k (by omega)⟩)
        have y3 := B3.out.get k
        have hwA : IntKind.i64.wrap (A : Int) = (A : Int) := IntWalk.i64_in _ (by omega)
        obtain ⟨idx, hidx⟩ : ∃ i : Nat, i = A % S := ⟨_, rfl⟩
        have hil : idx < S := by rw [hidx]; exact Nat.mod_lt _ (by omega)
        have hrem : (A : Int) % (S : Int) = (idx : Int) := by rw [hidx]; rfl
        have htm : (A : Int).tmod (S : Int) = (idx : Int) := by rw [hidx]; rfl
        have hii : (idx : Int) < (S : Int) := by omega
        have hMi : (0 : Int) < (S : Int) := by omega
        have hM0 : ((S : Int) == 0) = false := by simp; omega
        have hM1 : ¬ (S : Int) = 0 := by omega
        have hMn : ¬ S = 0 := by omega
        obtain ⟨q1, f1⟩ := HFB.out.at idx hil
        have yb := HFB.out.byt.get idx
        have z1 := (HBW1.out.cell (p := ⟨ba, oa + k, none⟩) hba).trans hA
        have z2 := (HBW1.out.cell (p := ⟨bx, ox + k, none⟩) hbx).trans hcx
        obtain ⟨X1, hX1⟩ : ∃ x, x = xs.getD k 0 := ⟨_, rfl⟩
        obtain ⟨X2, hX2⟩ : ∃ x, x = lb.getD idx 0 := ⟨_, rfl⟩
        rw [← hX1] at z2 y3
        rw [← hX2] at q1 yb
        have hx := xor_byte yb.1 yb.2 y3.1 y3.2
        have HBS := Lib.hid (HFB.out.set idx hil _ hx.1 hx.2)
        have hgq : w.heap.size ≤ gb := HGB.out
        have HBX := Lib.hid (HBW1.out.setCell (p := ⟨gb, idx, none⟩) hgq (.int .u8 (bits .xor .u8 X2 X1)))
        have z1d : wr.drew.cell? ⟨ba, oa + k, none⟩ = some (.int .u16 (A : Int)) := z1
        have z2d : wr.drew.cell? ⟨bx, ox + k, none⟩ = some (.int .u8 X1) := z2
        have q1d : wr.drew.cell? ⟨gb, idx, none⟩ = some (.int .u8 X2) := q1
        have f1d : wr.drew.frozen? ⟨gb, idx, none⟩ = false := f1
        have HEQ := Lib.hid (show wr.drew.setCell ⟨gb, idx, none⟩ (.int .u8 (bits .xor .u8 X2 X1)) = (wr.setCell ⟨gb, idx, none⟩ (.int .u8 (bits .xor .u8 X2 X1))).drew from rfl)
        clear hA hcx hidx hX1 hX2 z1 z2 q1 f1 hx hba hbx
        go_wp2
        go_still_tail 17, (by kernel_rfl)
        change wpList _ _ _ _ _ wr.drew
        generalize hw2 : wr.drew = w2z at *
        have HW2 := Lib.hid hw2
        clear hw2
        go_wp2
        go_roundg q
        case measure => omega
        case rel => exact ⟨k + 1, _, _, by omega, by go_num, rfl, by rw [HEQ.out]; exact HBS.out.grown (gdrew _), by rw [HEQ.out]; exact HBX.out.trans ((gbelow (gdrew _)).mono HBX.out.size)⟩
    · obtain rfl : k = n2 := by omega
      have hkk : ¬ (k : Int) < (k : Int) := by omega
      have HSA : Hid (Seq wr.heap.size wr (.slice none 0 0) []) := Lib.hid (seq_nil _ _)
      have HSB : Hid (Seq wr.heap.size wr (.slice (some ⟨gb, 0, none⟩) S cb) lb) := Lib.hid HFB.out.seq
      obtain ⟨X, hX⟩ : ∃ X, chM [] lb = X := ⟨_, rfl⟩
      obtain ⟨E, hE⟩ : ∃ E, chE [] lb = E := ⟨_, rfl⟩
      have HXE := Lib.hid (And.intro hX hE)
      have KC := Lib.hid (choose_as HSA.out HSB.out nil_byts HFB.out.byt HXE.out)
      have KK := Lib.hid (fun W => kchoose_as (W := W) nil_byts HFB.out.byt (by simp) (by rw [HFB.out.len]; omega) HXE.out)
      obtain ⟨TA, hTA⟩ : ∃ T, T = strOfNums [] := ⟨_, rfl⟩
      obtain ⟨TB, hTB⟩ : ∃ T, T = strOfNums lb := ⟨_, rfl⟩
      rw [← hTA, ← hTB] at KK
      have HTA := Lib.hid hTA
      have HTB := Lib.hid hTB
      have hxc : mtC X = #[.int .u64 (X.t : Int), .int .u32 (X.e : Int), .int .u32 (X.m : Int), .int .u32 (X.f : Int)] := rfl
      have HSM := Lib.hid (fun W => same7_any W X)
      rw [hxc] at HSM
      clear hX hE hTA hTB
      go_wp2_with (first
        | (go_at_call 21; ((with_reducible refine KC.out.mono ?_); rintro r w8 ⟨rfl, hg⟩); have hg8 := gtrans hg (World.grownBy_alloc w8 (.cells #[.int .u64 (X.t : Int), .int .u32 (X.e : Int), .int .u32 (X.m : Int), .int .u32 (X.f : Int)] 29) none); have HG8 := Lib.hid hg8; have X8 := Lib.hid (heap_alloc_new w8 (.cells #[.int .u64 (X.t : Int), .int .u32 (X.e : Int), .int .u32 (X.m : Int), .int .u32 (X.f : Int)] 29)); have cva := seq_string (HSA.out.grown hg8); have cvb := seq_string (HSB.out.grown hg8); rw [← HTA.out] at cva; rw [← HTB.out] at cvb; clear hg hg8)
        | (go_at_call 22; ((with_reducible refine (KK.out (w8.alloc (.cells #[.int .u64 (X.t : Int), .int .u32 (X.e : Int), .int .u32 (X.m : Int), .int .u32 (X.f : Int)] 29))).mono ?_); rintro r w9 ⟨rfl, hg⟩); have hg9 := gtrans hg (World.grownBy_alloc w9 (.cells #[.int .u64 (X.t : Int), .int .u32 (X.e : Int), .int .u32 (X.m : Int), .int .u32 (X.f : Int)] 30) none); have HG9 := Lib.hid (gtrans HG8.out hg9); have X9 := Lib.hid ((hg9.block _ (lt_of_block X8.out) (by simp)).trans X8.out); have K9 := Lib.hid (heap_alloc_new w9 (.cells #[.int .u64 (X.t : Int), .int .u32 (X.e : Int), .int .u32 (X.m : Int), .int .u32 (X.f : Int)] 30)); obtain ⟨x0, x1, x2, x3⟩ := mt_cells X9.out; obtain ⟨y0, y1, y2, y3'⟩ := mt_cells K9.out; clear hg hg9 cva cvb)
        | (go_at_call 20; ((with_reducible refine (HSM.out _).mono ?_); rintro r w10 ⟨rfl, hg⟩); have HG10 := Lib.hid (gtrans HG9.out hg); clear hg x0 x1 x2 x3 y0 y1 y2 y3'))
      go_ret
      exact ⟨by simp, HBW1.out.trans ((gbelow HG10.out).mono HBW1.out.size)⟩

set_option maxRecDepth 30000 in
set_option maxHeartbeats 8000000 in
theorem chooses_nn (w : World) (M N : Mt) (size : Int) (hM : ¬ (mright M = true ∧ 512 ≤ size ∧ size ≤ 4096)) (hN : ¬ (mright N = true ∧ 512 ≤ size ∧ size ≤ 4096)) (a2 : Option Addr) (n2 c2 : Nat) (zs : List Int) (a3 : Option Addr) (n3 c3 : Nat) (xs : List Int)
    (hn2 : ¬ 20 < n2) (hn23 : ¬ n3 < n2) (h2 : Seq16 w (.slice a2 n2 c2) zs) (h3 : Seq w.heap.size w (.slice a3 n3 c3) xs) (b3 : Byt xs) :
    Calls Try.prog 5 #[.agg (mtC M), .agg (mtC N), .int .i64 size, .slice a2 n2 c2, .slice a3 n3 c3] w fun r w' => r = .returned (.bool true) ∧ Below w.heap.size w w' := by
  have hmc : mtC M = #[.int .u64 (M.t : Int), .int .u32 (M.e : Int), .int .u32 (M.m : Int), .int .u32 (M.f : Int)] := rfl
  have hmn : mtC N = #[.int .u64 (N.t : Int), .int .u32 (N.e : Int), .int .u32 (N.m : Int), .int .u32 (N.f : Int)] := rfl
  have e3 : n3 = xs.length := by obtain ⟨_, _, hv, _⟩ := h3; injection hv
  have hm3 : n3 ≤ 9223372036854775807 := by obtain ⟨_, _, hv, k1, k2, _⟩ := h3; injection hv; unfold maxLen at k2; omega
  have H2 := Lib.hid h2
  have H3 := Lib.hid h3
  have B3 := Lib.hid b3
  have E3 := Lib.hid e3
  have d1 : decide ((20 : Int) < (n2 : Int)) = false := by simp; omega
  have d1' : decide (20 < n2) = false := by simp; omega
  have d3 : decide ((n3 : Int) < (n2 : Int)) = false := by simp; omega
  have d3' : decide (n3 < n2) = false := by simp; omega
  have HPM := Lib.hid (fun W => mput_no W M size hM)
  have HPN := Lib.hid (fun W => mput_no W N size hN)
  rw [hmc] at HPM
  rw [hmn] at HPN
  clear h2 h3 b3 e3 hM hN
  go_enter Try.func5, Try.ntmps5
  go_wp2_with (first
    | (go_at_call 10; have K := awake7_any ((w.alloc (.cells #[.int .u64 (M.t : Int), .int .u32 (M.e : Int), .int .u32 (M.m : Int), .int .u32 (M.f : Int)] 25)).alloc (.cells #[.int .u64 (N.t : Int), .int .u32 (N.e : Int), .int .u32 (N.m : Int), .int .u32 (N.f : Int)] 25)); ((with_reducible refine K.mono ?_); clear K; rintro r wA ⟨rfl, hgA⟩); have GA := Lib.hid (gtrans (two_grown w (.cells #[.int .u64 (M.t : Int), .int .u32 (M.e : Int), .int .u32 (M.m : Int), .int .u32 (M.f : Int)] 25) (.cells #[.int .u64 (N.t : Int), .int .u32 (N.e : Int), .int .u32 (N.m : Int), .int .u32 (N.f : Int)] 25)) hgA); have BX := Lib.hid (two_later0 hgA); have BY := Lib.hid (two_later1 hgA); obtain ⟨x0, x1, x2, x3⟩ := mt_cells BX.out; clear hgA)
    | (go_at_call 11; have K := of7_any wA M; rw [hmc] at K; ((with_reducible refine K.mono ?_); clear K; rintro r w2 ⟨rfl, hg⟩); have hg2 := gtrans hg (two_grown w2 (.cells #[.int .u64 (M.t : Int), .int .u32 (M.e : Int), .int .u32 (M.m : Int), .int .u32 (M.f : Int)] 29) (.cells #[.int .u64 (M.t : Int), .int .u32 (M.e : Int), .int .u32 (M.m : Int), .int .u32 (M.f : Int)] 30)); have G2 := Lib.hid (gtrans GA.out hg2); have G02 := Lib.hid (Nat.le_trans GA.out.size hg.size); have M2 := Lib.hid (two_lit0 w2 (.cells #[.int .u64 (M.t : Int), .int .u32 (M.e : Int), .int .u32 (M.m : Int), .int .u32 (M.f : Int)] 29) (.cells #[.int .u64 (M.t : Int), .int .u32 (M.e : Int), .int .u32 (M.m : Int), .int .u32 (M.f : Int)] 30)); have BY2 := Lib.hid ((hg2.block _ (lt_of_block BY.out) (by simp)).trans BY.out); clear hg hg2 x0 x1 x2 x3; obtain ⟨y0, y1, y2, y3⟩ := mt_cells BY2.out)
    | (go_at_call 11; have K := of7_any ((w2.alloc (.cells #[.int .u64 (M.t : Int), .int .u32 (M.e : Int), .int .u32 (M.m : Int), .int .u32 (M.f : Int)] 29)).alloc (.cells #[.int .u64 (M.t : Int), .int .u32 (M.e : Int), .int .u32 (M.m : Int), .int .u32 (M.f : Int)] 30)) N; rw [hmn] at K; ((with_reducible refine K.mono ?_); clear K; rintro r w3 ⟨rfl, hg⟩); have hg3 := gtrans hg (two_grown w3 (.cells #[.int .u64 (N.t : Int), .int .u32 (N.e : Int), .int .u32 (N.m : Int), .int .u32 (N.f : Int)] 29) (.cells #[.int .u64 (N.t : Int), .int .u32 (N.e : Int), .int .u32 (N.m : Int), .int .u32 (N.f : Int)] 30)); have G3 := Lib.hid (gtrans G2.out hg3); have G23 := Lib.hid hg.size; have N3 := Lib.hid (two_lit0 w3 (.cells #[.int .u64 (N.t : Int), .int .u32 (N.e : Int), .int .u32 (N.m : Int), .int .u32 (N.f : Int)] 29) (.cells #[.int .u64 (N.t : Int), .int .u32 (N.e : Int), .int .u32 (N.m : Int), .int .u32 (N.f : Int)] 30)); have M3 := Lib.hid ((hg3.block _ (lt_of_block M2.out) (by simp)).trans M2.out); clear hg hg3 y0 y1 y2 y3; obtain ⟨m0, m1, m2, m3⟩ := mt_cells M3.out)
    | (go_at_call 12; ((with_reducible refine (HPM.out ((w3.alloc (.cells #[.int .u64 (N.t : Int), .int .u32 (N.e : Int), .int .u32 (N.m : Int), .int .u32 (N.f : Int)] 29)).alloc (.cells #[.int .u64 (N.t : Int), .int .u32 (N.e : Int), .int .u32 (N.m : Int), .int .u32 (N.f : Int)] 30))).mono ?_); rintro r w4 ⟨rfl, hg⟩); have N4 := Lib.hid ((hg.block _ (lt_of_block N3.out) (by simp)).trans N3.out); have G4 := Lib.hid (gtrans G3.out hg); clear m0 m1 m2 m3; obtain ⟨n0, n1, n2', n3'⟩ := mt_cells N4.out; clear hg)
    | (go_at_call 12; ((with_reducible refine (HPN.out w4).mono ?_); rintro r w5 ⟨rfl, hg⟩); have G5 := Lib.hid (gtrans G4.out hg); clear hg n0 n1 n2' n3'))
  have HBW := Lib.hid (gbelow G5.out)
  go_loopg [20] n2 (fun q i wr => ∃ (k : Nat) (la lb : List Int), k + q = n2 ∧ i = .int .i64 (k : Int) ∧ la = [] ∧ lb = [] ∧ Below w.heap.size w wr)
  case atStart => exact ⟨0, [], [], by omega, rfl, rfl, rfl, HBW.out⟩
  case round =>
    obtain ⟨k, la, lb, hkq, rfl, rfl, rfl, hbw⟩ := hrel
    have HBW1 := Lib.hid hbw
    clear hbw HBW
    by_cases hlt : k < n2
    · obtain ⟨q, rfl⟩ : ∃ q, gk = q + 1 := ⟨gk - 1, by omega⟩
      have hki : (k : Int) < (n2 : Int) := by omega
      have hk3 : (k : Int) < (n3 : Int) := by omega
      rcases (by omega : (k : Int) % 2 = 0 ∨ (k : Int) % 2 = 1) with hk2 | hk2
      · have hkt : (k : Int).tmod 2 = 0 := by rw [Int.tmod_eq_emod_of_nonneg (by omega)]; exact hk2
        go_wp2
        go_roundg q
        case measure => omega
        case rel => exact ⟨k + 1, _, _, by omega, by go_num, rfl, rfl, HBW1.out⟩
      · have hkt : (k : Int).tmod 2 = 1 := by rw [Int.tmod_eq_emod_of_nonneg (by omega)]; exact hk2
        go_wp2
        go_roundg q
        case measure => omega
        case rel => exact ⟨k + 1, _, _, by omega, by go_num, rfl, rfl, HBW1.out⟩
    · obtain rfl : k = n2 := by omega
      have hkk : ¬ (k : Int) < (k : Int) := by omega
      have HSA : Hid (Seq wr.heap.size wr (.slice none 0 0) []) := Lib.hid (seq_nil _ _)
      have HSB : Hid (Seq wr.heap.size wr (.slice none 0 0) []) := Lib.hid (seq_nil _ _)
      obtain ⟨X, hX⟩ : ∃ X, chM [] [] = X := ⟨_, rfl⟩
      obtain ⟨E, hE⟩ : ∃ E, chE [] [] = E := ⟨_, rfl⟩
      have HXE := Lib.hid (And.intro hX hE)
      have KC := Lib.hid (choose_as HSA.out HSB.out nil_byts nil_byts HXE.out)
      have KK := Lib.hid (fun W => kchoose_as (W := W) nil_byts nil_byts (by simp) (by simp) HXE.out)
      obtain ⟨TA, hTA⟩ : ∃ T, T = strOfNums [] := ⟨_, rfl⟩
      rw [← hTA] at KK
      have HTA := Lib.hid hTA
      have hxc : mtC X = #[.int .u64 (X.t : Int), .int .u32 (X.e : Int), .int .u32 (X.m : Int), .int .u32 (X.f : Int)] := rfl
      have HSM := Lib.hid (fun W => same7_any W X)
      rw [hxc] at HSM
      clear hX hE hTA
      go_wp2_with (first
        | (go_at_call 21; ((with_reducible refine KC.out.mono ?_); rintro r w8 ⟨rfl, hg⟩); have hg8 := gtrans hg (World.grownBy_alloc w8 (.cells #[.int .u64 (X.t : Int), .int .u32 (X.e : Int), .int .u32 (X.m : Int), .int .u32 (X.f : Int)] 29) none); have HG8 := Lib.hid hg8; have X8 := Lib.hid (heap_alloc_new w8 (.cells #[.int .u64 (X.t : Int), .int .u32 (X.e : Int), .int .u32 (X.m : Int), .int .u32 (X.f : Int)] 29)); have cva := seq_string (HSA.out.grown hg8); have cvb := seq_string (HSB.out.grown hg8); rw [← HTA.out] at cva; rw [← HTA.out] at cvb; clear hg hg8)
        | (go_at_call 22; ((with_reducible refine (KK.out (w8.alloc (.cells #[.int .u64 (X.t : Int), .int .u32 (X.e : Int), .int .u32 (X.m : Int), .int .u32 (X.f : Int)] 29))).mono ?_); rintro r w9 ⟨rfl, hg⟩); have hg9 := gtrans hg (World.grownBy_alloc w9 (.cells #[.int .u64 (X.t : Int), .int .u32 (X.e : Int), .int .u32 (X.m : Int), .int .u32 (X.f : Int)] 30) none); have HG9 := Lib.hid (gtrans HG8.out hg9); have X9 := Lib.hid ((hg9.block _ (lt_of_block X8.out) (by simp)).trans X8.out); have K9 := Lib.hid (heap_alloc_new w9 (.cells #[.int .u64 (X.t : Int), .int .u32 (X.e : Int), .int .u32 (X.m : Int), .int .u32 (X.f : Int)] 30)); obtain ⟨x0, x1, x2, x3⟩ := mt_cells X9.out; obtain ⟨y0, y1, y2, y3'⟩ := mt_cells K9.out; clear hg hg9 cva cvb)
        | (go_at_call 20; ((with_reducible refine (HSM.out _).mono ?_); rintro r w10 ⟨rfl, hg⟩); have HG10 := Lib.hid (gtrans HG9.out hg); clear hg x0 x1 x2 x3 y0 y1 y2 y3'))
      go_ret
      exact ⟨by simp, HBW1.out.trans ((gbelow HG10.out).mono HBW1.out.size)⟩

theorem chooses_any (w : World) (M N : Mt) (size : Int) (a2 : Option Addr) (n2 c2 : Nat) (zs : List Int) (a3 : Option Addr) (n3 c3 : Nat) (xs : List Int) (hM : MtOk M) (hN : MtOk N) (_z0 : -9223372036854775808 ≤ size) (_z1 : size ≤ 9223372036854775807)
    (h2 : Seq16 w (.slice a2 n2 c2) zs) (h3 : Seq w.heap.size w (.slice a3 n3 c3) xs) (b3 : Byt xs) :
    Calls Try.prog 5 #[.agg (mtC M), .agg (mtC N), .int .i64 size, .slice a2 n2 c2, .slice a3 n3 c3] w fun r w' => r = .returned (.bool true) ∧ Below w.heap.size w w' := by
  by_cases h1 : 20 < n2
  · exact chooses_a w M N size a2 n2 c2 a3 n3 c3 h1
  by_cases h4 : n3 < n2
  · exact chooses_b w M N size a2 n2 c2 a3 n3 c3 h1 h4
  rcases gput_or w M hM size with h | ⟨S, rfl, hG⟩
  · rcases gput_or w N hN size with h' | ⟨S, rfl, hG'⟩
    · exact chooses_nn w M N size h h' a2 n2 c2 zs a3 n3 c3 xs h1 h4 h2 h3 b3
    · exact chooses_ny w M N S h hG' a2 n2 c2 zs a3 n3 c3 xs h1 h4 h2 h3 b3
  · rcases gput_or w N hN (S : Int) with h' | ⟨S', e, hG'⟩
    · exact chooses_yn w M N S hG h' a2 n2 c2 zs a3 n3 c3 xs h1 h4 h2 h3 b3
    · obtain rfl : S' = S := by omega
      exact chooses_yy w M N S' hG hG' a2 n2 c2 zs a3 n3 c3 xs h1 h4 h2 h3 b3

open Go.ChangeShapes Go.WideShapes Go.ChangeAt
set_option linter.unusedVariables false
set_option maxRecDepth 100000 in
theorem chooses_lifted (os : Os) (started : os.Started) (H : Type) (enc : TypeId × Value → H) :
    ReturnsInHanded {} Try.checked os 5 .any (Rows.metaChoosesSpec.pre6 enc Try.prog Try.f5 Rows.metaChoosesRow.domain false) (Rows.metaChoosesSpec.post enc Try.prog Try.f5 false true false false) := by
  refine returnsInHanded_of_change (C := Try.checked) ownKnob0 started (by kernel_rfl) Try.func5
    (ChangeSpec.witness6 (enc := enc) (C := Try.checked) false ⟨#[], #[.agg #[.int .u64 0, .int .u32 0, .int .u32 0, .int .u32 0], .agg #[.int .u64 0, .int .u32 0, .int .u32 0, .int .u32 0], .int .i64 0, .slice none 0 0, .slice none 0 0], []⟩ 8 (by kernel_rfl) (by kernel_rfl) (by kernel_rfl) (by kernel_rfl)) ?_
  intro W base args ds gs before hval0 hW hcnd _
  have hval : ∀ (j : Nat) t v, Try.f5.params[j]? = some t → args[j]? = some v → Value.okWide Try.prog W .any base t v := hval0
  have hW' := hW
  obtain ⟨p, q, hA0, hV, rfl, hfz, hnd⟩ := hW
  have hA : DataW.TrodAll enc Try.prog W 0 (fun _ => true) true Try.f5.params.toList args.toList ds p := hA0
  rw [Try.params5] at hA hval
  obtain ⟨v0, vs0, d0, ds0, p0, q0, hargs, rfl, rfl, h0, r0⟩ := trodAll_cons hA
  obtain ⟨v1, vs1, d1, ds1, p1, q1, rfl, rfl, rfl, h1, r1⟩ := trodAll_cons r0
  obtain ⟨v2, vs2, d2, ds2, p2, q2, rfl, rfl, rfl, h2, r2⟩ := trodAll_cons r1
  obtain ⟨v3, vs3, d3, ds3, p3, q3, rfl, rfl, rfl, h3, r3⟩ := trodAll_cons r2
  obtain ⟨v4, vs4, d4, ds4, p4, q4, rfl, rfl, rfl, h4, r4⟩ := trodAll_cons r3
  obtain ⟨rfl, rfl, rfl⟩ := trodAll_nil r4
  obtain rfl : args = #[v0, v1, v2, v3, v4] := by cases args; simp_all
  obtain ⟨rfl, rfl⟩ := trodVars_none hV
  have lt0 : ∀ x ∈ p0, x.block < W.heap.size := by obtain ⟨m, hm⟩ := h0; exact DataW.trod_lt m _ _ _ hm
  obtain ⟨M0, w0, rfl⟩ := open_raw7 (hval 0 25 v0 rfl rfl) h0
  have lt1 : ∀ x ∈ p1, x.block < W.heap.size := by obtain ⟨m, hm⟩ := h1; exact DataW.trod_lt m _ _ _ hm
  obtain ⟨M1, w1, rfl⟩ := open_raw7 (hval 1 25 v1 rfl rfl) h1
  obtain ⟨a2, rfl, rfl, rfl, w2⟩ := open_int Try.underlying3 (hval 2 3 v2 rfl rfl) h2
  have b2 := bounds_i64 w2
  obtain ⟨a3, len3, cap3, rfl⟩ := okWide_slice Try.underlying45 (hval 3 45 v3 rfl rfl)
  have lt3 : ∀ x ∈ p3, x.block < W.heap.size := by obtain ⟨m, hm⟩ := h3; exact DataW.trod_lt m _ _ _ hm
  obtain ⟨z3, w3⟩ := open_u16s h3
  obtain ⟨a4, len4, cap4, rfl⟩ := okWide_slice Try.underlying33 (hval 4 33 v4 rfl rfl)
  have lt4 : ∀ x ∈ p4, x.block < W.heap.size := by obtain ⟨m, hm⟩ := h4; exact DataW.trod_lt m _ _ _ hm
  obtain ⟨z4, w4, y4⟩ := open_bytes h4
  clear hA0 hval0
  refine (chooses_any W M0 M1 a2 a3 len3 cap3 z3 a4 len4 cap4 z4 w0 w1 b2.1 b2.2 w3 w4 y4).mono fun e W' ⟨he, bel⟩ => ?_
  subst he
  exact ⟨_, rfl, _, _, _, [], _, [], hW', trodAll_mk1 (shut_bool Try.underlying4 _), (trodAll_cons_mk (Below.trod laidOut0 (by kernel_rfl) (of_decide_eq_true (by kernel_rfl)) h0 bel lt0) (trodAll_cons_mk (Below.trod laidOut0 (by kernel_rfl) (of_decide_eq_true (by kernel_rfl)) h1 bel lt1) (trodAll_cons_mk (shut_int Try.underlying3 w2) (trodAll_cons_mk (Below.trod laidOut0 (by kernel_rfl) (of_decide_eq_true (by kernel_rfl)) h3 bel lt3) (trodAll_cons_mk (Below.trod laidOut0 (by kernel_rfl) (of_decide_eq_true (by kernel_rfl)) h4 bel lt4) trodAll_mk0))))), rfl, bel.frame _, fun h => by cases h⟩

/-- MetaChooses, for every input. -/
theorem metaChooses_holds : Rows.MetaChoosesSaid :=
  OpenClaim.holds_of_wide 5 Try.f5 rfl rfl rfl rfl rfl rfl rfl ⟨rfl, rfl, rfl, rfl, rfl⟩ rfl rfl rfl rfl rfl (by kernel_rfl) Try.func5 (by kernel_rfl)
    (of_decide_eq_true (by kernel_rfl)) (by unfold Func.isWrapper; first | (rw [if_pos (by decide +kernel)]; kernel_rfl) | (rw [if_neg (by decide +kernel)]; exact ⟨rfl, rfl⟩))
    (fun os started H enc _ => chooses_lifted os started H enc)
#print axioms metaChooses_holds

end Go.Proofs.Ytnggebohefbopaa
