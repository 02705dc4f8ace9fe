/-
  'MetaGets' returns true for every input: what any bytes tell, also a page's with some of them others, and with the sum that fits, is the document's, or refused. No condition. Own work; the frame is the guide's.
-/
import Derived.Test.YtnggebohefbopaaMetZ
import Derived.Test.YtnggebohefbopaaMetU
import Derived.OwnWalk
import Derived.StillTailTactics
import Derived.Deep.LoopGhost
import Derived.Deep.QuietTactic
import Derived.BigQuiet
import Derived.ProofKit
import Derived.OpenShut
import Derived.ShutString
import Derived.ChangeOld
namespace Go.Proofs.Ytnggebohefbopaa
open Go.RowKit

theorem put_back {bs : List Int} (hb : Byt bs) (h : mgetE bs = 0) : Good (mgetM bs) bs.length ∧ bs = mpage (mgetM bs) bs.length := by
  have ht := mget_told h
  rw [mgetM_yes h]
  exact ⟨⟨mtOf_ok hb, ht.right, ht.lo, ht.hi⟩, page_of hb h⟩

set_option maxRecDepth 30000 in
set_option maxHeartbeats 4000000 in
theorem gets_a (w : World) (M : Mt) (size : Int) (a2 : Option Addr) (n2 c2 : Nat) (a3 : Option Addr) (n3 c3 : Nat) (sm : Bool) (h : 20 < n2) :
    Calls Try.prog 4 #[.agg (mtC M), .int .i64 size, .slice a2 n2 c2, .slice a3 n3 c3, .bool sm] w fun r w' => r = .returned (.bool true) ∧ Below w.heap.size w w' := by
  have hmc : mtC M = #[.int .u64 (M.t : Int), .int .u32 (M.e : Int), .int .u32 (M.m : Int), .int .u32 (M.f : Int)] := rfl
  have d1 : decide ((20 : Int) < (n2 : Int)) = true := by simp; omega
  have d1' : decide (20 < n2) = true := by simp; omega
  go_enter Try.func4, Try.ntmps4
  go_wp2_with (first
    | (go_at_call 10; have K := awake7_any (w.alloc (.cells #[.int .u64 (M.t : Int), .int .u32 (M.e : Int), .int .u32 (M.m : Int), .int .u32 (M.f : Int)] 25)); ((with_reducible refine K.mono ?_); clear K; rintro r wA ⟨rfl, hgA⟩); have GA := Lib.hid (gtrans (World.grownBy_alloc _ _ _) hgA); have BX := Lib.hid ((hgA.block w.heap.size (by simp) (by simp)).trans (heap_alloc_new _ _)); obtain ⟨x0, x1, x2, x3⟩ := mt_cells BX.out; clear hgA))
  go_ret
  exact ⟨rfl, gbelow GA.out⟩

set_option maxRecDepth 30000 in
set_option maxHeartbeats 4000000 in
theorem gets_b (w : World) (M : Mt) (size : Int) (a2 : Option Addr) (n2 c2 : Nat) (a3 : Option Addr) (n3 c3 : Nat) (sm : Bool) (h1 : ¬ 20 < n2) (h : n3 < n2) :
    Calls Try.prog 4 #[.agg (mtC M), .int .i64 size, .slice a2 n2 c2, .slice a3 n3 c3, .bool sm] w fun r w' => r = .returned (.bool true) ∧ Below w.heap.size w w' := by
  have hmc : mtC M = #[.int .u64 (M.t : Int), .int .u32 (M.e : Int), .int .u32 (M.m : Int), .int .u32 (M.f : Int)] := rfl
  have d1 : decide ((20 : Int) < (n2 : Int)) = false := by simp; omega
  have d1' : decide (20 < n2) = false := by simp; omega
  have d3 : decide ((n3 : Int) < (n2 : Int)) = true := by simp; omega
  have d3' : decide (n3 < n2) = true := by simp; omega
  go_enter Try.func4, Try.ntmps4
  go_wp2_with (first
    | (go_at_call 10; have K := awake7_any (w.alloc (.cells #[.int .u64 (M.t : Int), .int .u32 (M.e : Int), .int .u32 (M.m : Int), .int .u32 (M.f : Int)] 25)); ((with_reducible refine K.mono ?_); clear K; rintro r wA ⟨rfl, hgA⟩); have GA := Lib.hid (gtrans (World.grownBy_alloc _ _ _) hgA); have BX := Lib.hid ((hgA.block w.heap.size (by simp) (by simp)).trans (heap_alloc_new _ _)); obtain ⟨x0, x1, x2, x3⟩ := mt_cells BX.out; clear hgA))
  go_ret
  exact ⟨rfl, gbelow GA.out⟩

set_option maxRecDepth 30000 in
set_option maxHeartbeats 4000000 in
theorem gets_c (w : World) (M : Mt) (size : Int) (a2 : Option Addr) (n2 c2 : Nat) (a3 : Option Addr) (n3 c3 : Nat) (sm : Bool) (h1 : ¬ 20 < n2) (h3 : ¬ n3 < n2) (h : 5000 < n3) :
    Calls Try.prog 4 #[.agg (mtC M), .int .i64 size, .slice a2 n2 c2, .slice a3 n3 c3, .bool sm] w fun r w' => r = .returned (.bool true) ∧ Below w.heap.size w w' := by
  have hmc : mtC M = #[.int .u64 (M.t : Int), .int .u32 (M.e : Int), .int .u32 (M.m : Int), .int .u32 (M.f : Int)] := rfl
  have d1 : decide ((20 : Int) < (n2 : Int)) = false := by simp; omega
  have d1' : decide (20 < n2) = false := by simp; omega
  have d3 : decide ((n3 : Int) < (n2 : Int)) = false := by simp; omega
  have d3' : decide (n3 < n2) = false := by simp; omega
  have d5 : decide ((5000 : Int) < (n3 : Int)) = true := by simp; omega
  have d5' : decide (5000 < n3) = true := by simp; omega
  go_enter Try.func4, Try.ntmps4
  go_wp2_with (first
    | (go_at_call 10; have K := awake7_any (w.alloc (.cells #[.int .u64 (M.t : Int), .int .u32 (M.e : Int), .int .u32 (M.m : Int), .int .u32 (M.f : Int)] 25)); ((with_reducible refine K.mono ?_); clear K; rintro r wA ⟨rfl, hgA⟩); have GA := Lib.hid (gtrans (World.grownBy_alloc _ _ _) hgA); have BX := Lib.hid ((hgA.block w.heap.size (by simp) (by simp)).trans (heap_alloc_new _ _)); obtain ⟨x0, x1, x2, x3⟩ := mt_cells BX.out; clear hgA))
  go_ret
  exact ⟨rfl, gbelow GA.out⟩

set_option maxRecDepth 30000 in
set_option maxHeartbeats 8000000 in
theorem gets_ok (w : World) (M : Mt) (S : Nat) (hG : Good M S) (a2 : Option Addr) (n2 c2 : Nat) (zs : List Int) (a3 : Option Addr) (n3 c3 : Nat) (xs : List Int) (sm : Bool)
    (hn2 : ¬ 20 < n2) (hn23 : ¬ n3 < n2) (hn3 : ¬ 5000 < n3) (h2 : Seq16 w (.slice a2 n2 c2) zs) (h3 : Seq w.heap.size w (.slice a3 n3 c3) xs) (b3 : Byt xs) :
    Calls Try.prog 4 #[.agg (mtC M), .int .i64 (S : Int), .slice a2 n2 c2, .slice a3 n3 c3, .bool sm] w fun r w' => r = .returned (.bool true) ∧ Below w.heap.size w w' := by
  have hmc : mtC M = #[.int .u64 (M.t : Int), .int .u32 (M.e : Int), .int .u32 (M.m : Int), .int .u32 (M.f : Int)] := rfl
  have e3 : n3 = xs.length := by obtain ⟨_, _, hv, _⟩ := h3; injection hv
  have H2 := Lib.hid h2
  have H3 := Lib.hid h3
  have B3 := Lib.hid b3
  have E3 := Lib.hid e3
  have d1 : decide ((20 : Int) < (n2 : Int)) = false := by simp; omega
  have d1' : decide (20 < n2) = false := by simp; omega
  have d3 : decide ((n3 : Int) < (n2 : Int)) = false := by simp; omega
  have d3' : decide (n3 < n2) = false := by simp; omega
  have d5 : decide ((5000 : Int) < (n3 : Int)) = false := by simp; omega
  have d5' : decide (5000 < n3) = false := by simp; omega
  have h1 := hG.lo
  have hS9 := hG.hi
  have HP := Lib.hid (fun W => mput_ok W M hG.ok hG.right S hG.lo hG.hi)
  rw [hmc] at HP
  have HB := Lib.hid (mpage_byt M S)
  generalize mpage M S = bs0 at *
  clear h2 h3 b3 e3 hG
  go_enter Try.func4, Try.ntmps4
  go_wp2_with (first
    | (go_at_call 10; have K := awake7_any (w.alloc (.cells #[.int .u64 (M.t : Int), .int .u32 (M.e : Int), .int .u32 (M.m : Int), .int .u32 (M.f : Int)] 25)); ((with_reducible refine K.mono ?_); clear K; rintro r wA ⟨rfl, hgA⟩); have GA := Lib.hid (gtrans (World.grownBy_alloc _ _ _) hgA); have BX := Lib.hid ((hgA.block w.heap.size (by simp) (by simp)).trans (heap_alloc_new _ _)); obtain ⟨x0, x1, x2, x3⟩ := mt_cells BX.out; clear hgA)
    | (go_at_call 11; have K := of7_any wA M; rw [hmc] at K; ((with_reducible refine K.mono ?_); clear K; rintro r w2 ⟨rfl, hg⟩); have hg2 := gtrans hg (two_grown w2 (.cells #[.int .u64 (M.t : Int), .int .u32 (M.e : Int), .int .u32 (M.m : Int), .int .u32 (M.f : Int)] 29) (.cells #[.int .u64 (M.t : Int), .int .u32 (M.e : Int), .int .u32 (M.m : Int), .int .u32 (M.f : Int)] 30)); have G2 := Lib.hid (gtrans GA.out hg2); have M2 := Lib.hid (two_lit0 w2 (.cells #[.int .u64 (M.t : Int), .int .u32 (M.e : Int), .int .u32 (M.m : Int), .int .u32 (M.f : Int)] 29) (.cells #[.int .u64 (M.t : Int), .int .u32 (M.e : Int), .int .u32 (M.m : Int), .int .u32 (M.f : Int)] 30)); have K2 := Lib.hid (two_lit1 w2 (.cells #[.int .u64 (M.t : Int), .int .u32 (M.e : Int), .int .u32 (M.m : Int), .int .u32 (M.f : Int)] 29) (.cells #[.int .u64 (M.t : Int), .int .u32 (M.e : Int), .int .u32 (M.m : Int), .int .u32 (M.f : Int)] 30)); clear hg hg2 x0 x1 x2 x3)
    | (go_at_call 12; ((with_reducible refine (HP.out ((w2.alloc (.cells #[.int .u64 (M.t : Int), .int .u32 (M.e : Int), .int .u32 (M.m : Int), .int .u32 (M.f : Int)] 29)).alloc (.cells #[.int .u64 (M.t : Int), .int .u32 (M.e : Int), .int .u32 (M.m : Int), .int .u32 (M.f : Int)] 30))).mono ?_); rintro r w3 ⟨ao, c, rfl, ho, hg⟩); have G3 := Lib.hid (gtrans G2.out hg); obtain ⟨gb, rfl, hgb, hbuf⟩ := buf_own ho (by omega) HB.out; have HBF := Lib.hid hbuf; have HGB := Lib.hid (Nat.le_trans G2.out.size hgb); clear ho hg hbuf hgb))
  have HBW := Lib.hid (gbelow G3.out)
  go_loopg [16] n2 (fun q i wr => ∃ (k : Nat) (bs : List Int), k + q = n2 ∧ i = .int .i64 (k : Int) ∧ Buf wr gb S c bs ∧ Below w.heap.size w wr)
  case atStart => exact ⟨0, bs0, by omega, rfl, HBF.out, HBW.out⟩
  case round =>
    obtain ⟨k, bs, hkq, rfl, hbf, hbw⟩ := hrel
    have HBF1 := Lib.hid hbf
    have HBW1 := Lib.hid hbw
    clear hbf hbw HBF HBW
    by_cases hlt : k < n2
    · obtain ⟨q, rfl⟩ : ∃ q, gk = q + 1 := ⟨gk - 1, by omega⟩
      have hki : (k : Int) < (n2 : Int) := by omega
      have hk3 : (k : Int) < (n3 : Int) := by omega
      obtain ⟨ba, oa, rfl, hba, A, hA, hA2⟩ := H2.out.at k (by omega)
      obtain ⟨bx, ox, rfl, hbx, hcx⟩ := (show ∃ b o, a3 = some ⟨b, o, none⟩ ∧ b < w.heap.size ∧ w.cell? ⟨b, o + k, none⟩ = some (.int .u8 (xs.getD k 0)) from by
        obtain ⟨ao', c', hv, _, _, _, h4⟩ := H3.out
        have e := E3.out
        obtain ⟨b, o, ha, hb, hc⟩ := h4 (by rintro rfl; simp at e; omega)
        cases hv
        exact ⟨b, o, ha, hb, hc k (by omega)⟩)
      have y3 := B3.out.get k
      have hwA : IntKind.i64.wrap (A : Int) = (A : Int) := IntWalk.i64_in _ (by omega)
      obtain ⟨idx, hidx⟩ : ∃ i : Nat, i = A % S := ⟨_, rfl⟩
      have hil : idx < S := by rw [hidx]; exact Nat.mod_lt _ (by omega)
      have hrem : (A : Int) % (S : Int) = (idx : Int) := by rw [hidx]; rfl
      have htm : (A : Int).tmod (S : Int) = (idx : Int) := by rw [hidx]; rfl
      have hii : (idx : Int) < (S : Int) := by omega
      have hMi : (0 : Int) < (S : Int) := by omega
      have hM0 : ((S : Int) == 0) = false := by simp; omega
      have hM1 : ¬ (S : Int) = 0 := by omega
      have hMn : ¬ S = 0 := by omega
      obtain ⟨q1, f1⟩ := HBF1.out.at idx hil
      have yb := HBF1.out.byt.get idx
      have z1 := (HBW1.out.cell (p := ⟨ba, oa + k, none⟩) hba).trans hA
      have z2 := (HBW1.out.cell (p := ⟨bx, ox + k, none⟩) hbx).trans hcx
      obtain ⟨X1, hX1⟩ : ∃ x, x = xs.getD k 0 := ⟨_, rfl⟩
      obtain ⟨X2, hX2⟩ : ∃ x, x = bs.getD idx 0 := ⟨_, rfl⟩
      rw [← hX1] at z2 y3
      rw [← hX2] at q1 yb
      have hx := xor_byte yb.1 yb.2 y3.1 y3.2
      have HBS := Lib.hid (HBF1.out.set idx hil _ hx.1 hx.2)
      have hgq : w.heap.size ≤ gb := HGB.out
      have HBX := Lib.hid (HBW1.out.setCell (p := ⟨gb, idx, none⟩) hgq (.int .u8 (bits .xor .u8 X2 X1)))
      have z1d : wr.drew.cell? ⟨ba, oa + k, none⟩ = some (.int .u16 (A : Int)) := z1
      have z2d : wr.drew.cell? ⟨bx, ox + k, none⟩ = some (.int .u8 X1) := z2
      have q1d : wr.drew.cell? ⟨gb, idx, none⟩ = some (.int .u8 X2) := q1
      have f1d : wr.drew.frozen? ⟨gb, idx, none⟩ = false := f1
      have HEQ := Lib.hid (show wr.drew.setCell ⟨gb, idx, none⟩ (.int .u8 (bits .xor .u8 X2 X1)) = (wr.setCell ⟨gb, idx, none⟩ (.int .u8 (bits .xor .u8 X2 X1))).drew from rfl)
      clear hA hcx hidx hX1 hX2 z1 z2 q1 f1 hx hba hbx
      go_wp2
      go_still_tail 17, (by kernel_rfl)
      change wpList _ _ _ _ _ wr.drew
      generalize hw2 : wr.drew = w2z at *
      have HW2 := Lib.hid hw2
      clear hw2
      go_wp2
      go_roundg q
      case measure => omega
      case rel => exact ⟨k + 1, _, by omega, by go_num, by rw [HEQ.out]; exact HBS.out.grown (gdrew _), by rw [HEQ.out]; exact HBX.out.trans ((gbelow (gdrew _)).mono HBX.out.size)⟩
    · obtain rfl : k = n2 := by omega
      have hkk : ¬ (k : Int) < (k : Int) := by omega
      cases sm
      · have hsm0 : True := trivial
        have hNl : bs.length = S := HBF1.out.len
        have HBy := Lib.hid HBF1.out.byt
        have HSq := Lib.hid HBF1.out.seq
        have hNb : S ≤ 140737488355328 := by omega
        obtain ⟨X, hX⟩ : ∃ X, X = mgetM bs := ⟨_, rfl⟩
        obtain ⟨E, hE⟩ : ∃ E, E = mgetE bs := ⟨_, rfl⟩
        obtain ⟨T, hT⟩ : ∃ T, T = strOfNums bs := ⟨_, rfl⟩
        have HX := Lib.hid hX
        have HE := Lib.hid hE
        have HT := Lib.hid hT
        have hxc : mtC X = #[.int .u64 (X.t : Int), .int .u32 (X.e : Int), .int .u32 (X.m : Int), .int .u32 (X.f : Int)] := rfl
        have HSM := Lib.hid (fun W => same7_any W X)
        rw [hxc] at HSM
        have HLz := Lib.hid hNl
        clear hX hT hNl
        by_cases he : E = 0
        · have HPB := Lib.hid (put_back HBy.out (hE.symm.trans he))
          rw [← HX.out, HLz.out] at HPB
          subst he
          clear hE
          have HPut := Lib.hid (fun W => mput_ok W X HPB.out.1.ok HPB.out.1.right S HPB.out.1.lo HPB.out.1.hi)
          rw [hxc, ← HPB.out.2] at HPut
          go_wp2_with (first
            | (go_at_call 17; have K := mget_as HSq.out HBy.out HX.out HE.out; ((with_reducible refine K.mono ?_); clear K; rintro r w8 ⟨rfl, hg⟩); have hg8 := gtrans hg (World.grownBy_alloc w8 (.cells #[.int .u64 (X.t : Int), .int .u32 (X.e : Int), .int .u32 (X.m : Int), .int .u32 (X.f : Int)] 29) none); have HG8 := Lib.hid hg8; have X8 := Lib.hid (heap_alloc_new w8 (.cells #[.int .u64 (X.t : Int), .int .u32 (X.e : Int), .int .u32 (X.m : Int), .int .u32 (X.f : Int)] 29)); have hcv := seq_string (HSq.out.grown hg8); rw [← HT.out] at hcv; clear hg hg8)
            | (go_at_call 19; have K := kget_as (W := w8.alloc (.cells #[.int .u64 (X.t : Int), .int .u32 (X.e : Int), .int .u32 (X.m : Int), .int .u32 (X.f : Int)] 29)) HBy.out (by rw [HLz.out]; omega) HX.out HE.out; rw [← HT.out] at K; ((with_reducible refine K.mono ?_); clear K; rintro r w9 ⟨rfl, hg⟩); have hg9 := gtrans hg (World.grownBy_alloc w9 (.cells #[.int .u64 (X.t : Int), .int .u32 (X.e : Int), .int .u32 (X.m : Int), .int .u32 (X.f : Int)] 30) none); have HG9 := Lib.hid (gtrans HG8.out hg9); have X9 := Lib.hid ((hg9.block _ (lt_of_block X8.out) (by simp)).trans X8.out); have K9 := Lib.hid (heap_alloc_new w9 (.cells #[.int .u64 (X.t : Int), .int .u32 (X.e : Int), .int .u32 (X.m : Int), .int .u32 (X.f : Int)] 30)); obtain ⟨x0, x1, x2, x3⟩ := mt_cells X9.out; obtain ⟨y0, y1, y2, y3'⟩ := mt_cells K9.out; clear hg hg9 hcv)
            | (go_at_call 20; ((with_reducible refine (HSM.out _).mono ?_); rintro r w10 ⟨rfl, hg⟩); have HG10 := Lib.hid (gtrans HG9.out hg); have X10 := Lib.hid ((hg.block _ (lt_of_block X9.out) (by simp)).trans X9.out); clear hg x0 x1 x2 x3 y0 y1 y2 y3'; obtain ⟨x0, x1, x2, x3⟩ := mt_cells X10.out)
            | (go_at_call 12; ((with_reducible refine (HPut.out w10).mono ?_); rintro r w11 ⟨a9, c9, rfl, ho, hg⟩); have HG11 := Lib.hid (gtrans HG10.out hg); have cv1 := seq_string (Seq.owned1 HLz.out ho); have cv2 := seq_string (HSq.out.grown HG11.out); rw [← HT.out] at cv1 cv2; clear hg ho))
          go_ret
          exact ⟨by simp, HBW1.out.trans ((gbelow HG11.out).mono HBW1.out.size)⟩
        · have hed : (E != 0) = true := by simpa using he
          clear hE
          go_wp2_with (first
            | (go_at_call 17; have K := mget_as HSq.out HBy.out HX.out HE.out; ((with_reducible refine K.mono ?_); clear K; rintro r w8 ⟨rfl, hg⟩); have hg8 := gtrans hg (World.grownBy_alloc w8 (.cells #[.int .u64 (X.t : Int), .int .u32 (X.e : Int), .int .u32 (X.m : Int), .int .u32 (X.f : Int)] 29) none); have HG8 := Lib.hid hg8; have X8 := Lib.hid (heap_alloc_new w8 (.cells #[.int .u64 (X.t : Int), .int .u32 (X.e : Int), .int .u32 (X.m : Int), .int .u32 (X.f : Int)] 29)); have hcv := seq_string (HSq.out.grown hg8); rw [← HT.out] at hcv; clear hg hg8)
            | (go_at_call 19; have K := kget_as (W := w8.alloc (.cells #[.int .u64 (X.t : Int), .int .u32 (X.e : Int), .int .u32 (X.m : Int), .int .u32 (X.f : Int)] 29)) HBy.out (by rw [HLz.out]; omega) HX.out HE.out; rw [← HT.out] at K; ((with_reducible refine K.mono ?_); clear K; rintro r w9 ⟨rfl, hg⟩); have hg9 := gtrans hg (World.grownBy_alloc w9 (.cells #[.int .u64 (X.t : Int), .int .u32 (X.e : Int), .int .u32 (X.m : Int), .int .u32 (X.f : Int)] 30) none); have HG9 := Lib.hid (gtrans HG8.out hg9); have X9 := Lib.hid ((hg9.block _ (lt_of_block X8.out) (by simp)).trans X8.out); have K9 := Lib.hid (heap_alloc_new w9 (.cells #[.int .u64 (X.t : Int), .int .u32 (X.e : Int), .int .u32 (X.m : Int), .int .u32 (X.f : Int)] 30)); obtain ⟨x0, x1, x2, x3⟩ := mt_cells X9.out; obtain ⟨y0, y1, y2, y3'⟩ := mt_cells K9.out; clear hg hg9 hcv)
            | (go_at_call 20; ((with_reducible refine (HSM.out _).mono ?_); rintro r w10 ⟨rfl, hg⟩); have HG10 := Lib.hid (gtrans HG9.out hg); have X10 := Lib.hid ((hg.block _ (lt_of_block X9.out) (by simp)).trans X9.out); clear hg x0 x1 x2 x3 y0 y1 y2 y3'; obtain ⟨x0, x1, x2, x3⟩ := mt_cells X10.out))
          go_ret
          exact ⟨by simp, HBW1.out.trans ((gbelow HG10.out).mono HBW1.out.size)⟩
      · have h32 : 32 ≤ S := by omega
        have h32i : (32 : Int) ≤ (S : Int) := by omega
        have h32d : decide ((32 : Int) ≤ (S : Int)) = true := by simpa using h32i
        have KRf := Lib.hid (refit7_any wr gb S c bs HBF1.out h32 (by omega))
        go_wp2_with (go_at_call 18; ((with_reducible refine KRf.out.mono ?_); rintro r w5 ⟨g5, c5, bsT, rfl, hb5, hg5, hw5⟩); have HB5 := Lib.hid hb5; have HW5 := Lib.hid (HBW1.out.trans ((gbelow hw5).mono HBW1.out.size)); clear hb5 hg5 hw5)
        have hNl : bsT.length = S := HB5.out.len
        have HBy := Lib.hid HB5.out.byt
        have HSq := Lib.hid HB5.out.seq
        have hNb : S ≤ 140737488355328 := by omega
        obtain ⟨X, hX⟩ : ∃ X, X = mgetM bsT := ⟨_, rfl⟩
        obtain ⟨E, hE⟩ : ∃ E, E = mgetE bsT := ⟨_, rfl⟩
        obtain ⟨T, hT⟩ : ∃ T, T = strOfNums bsT := ⟨_, rfl⟩
        have HX := Lib.hid hX
        have HE := Lib.hid hE
        have HT := Lib.hid hT
        have hxc : mtC X = #[.int .u64 (X.t : Int), .int .u32 (X.e : Int), .int .u32 (X.m : Int), .int .u32 (X.f : Int)] := rfl
        have HSM := Lib.hid (fun W => same7_any W X)
        rw [hxc] at HSM
        have HLz := Lib.hid hNl
        clear hX hT hNl
        by_cases he : E = 0
        · have HPB := Lib.hid (put_back HBy.out (hE.symm.trans he))
          rw [← HX.out, HLz.out] at HPB
          subst he
          clear hE
          have HPut := Lib.hid (fun W => mput_ok W X HPB.out.1.ok HPB.out.1.right S HPB.out.1.lo HPB.out.1.hi)
          rw [hxc, ← HPB.out.2] at HPut
          go_wp2_with (first
            | (go_at_call 17; have K := mget_as HSq.out HBy.out HX.out HE.out; ((with_reducible refine K.mono ?_); clear K; rintro r w8 ⟨rfl, hg⟩); have hg8 := gtrans hg (World.grownBy_alloc w8 (.cells #[.int .u64 (X.t : Int), .int .u32 (X.e : Int), .int .u32 (X.m : Int), .int .u32 (X.f : Int)] 29) none); have HG8 := Lib.hid hg8; have X8 := Lib.hid (heap_alloc_new w8 (.cells #[.int .u64 (X.t : Int), .int .u32 (X.e : Int), .int .u32 (X.m : Int), .int .u32 (X.f : Int)] 29)); have hcv := seq_string (HSq.out.grown hg8); rw [← HT.out] at hcv; clear hg hg8)
            | (go_at_call 19; have K := kget_as (W := w8.alloc (.cells #[.int .u64 (X.t : Int), .int .u32 (X.e : Int), .int .u32 (X.m : Int), .int .u32 (X.f : Int)] 29)) HBy.out (by rw [HLz.out]; omega) HX.out HE.out; rw [← HT.out] at K; ((with_reducible refine K.mono ?_); clear K; rintro r w9 ⟨rfl, hg⟩); have hg9 := gtrans hg (World.grownBy_alloc w9 (.cells #[.int .u64 (X.t : Int), .int .u32 (X.e : Int), .int .u32 (X.m : Int), .int .u32 (X.f : Int)] 30) none); have HG9 := Lib.hid (gtrans HG8.out hg9); have X9 := Lib.hid ((hg9.block _ (lt_of_block X8.out) (by simp)).trans X8.out); have K9 := Lib.hid (heap_alloc_new w9 (.cells #[.int .u64 (X.t : Int), .int .u32 (X.e : Int), .int .u32 (X.m : Int), .int .u32 (X.f : Int)] 30)); obtain ⟨x0, x1, x2, x3⟩ := mt_cells X9.out; obtain ⟨y0, y1, y2, y3'⟩ := mt_cells K9.out; clear hg hg9 hcv)
            | (go_at_call 20; ((with_reducible refine (HSM.out _).mono ?_); rintro r w10 ⟨rfl, hg⟩); have HG10 := Lib.hid (gtrans HG9.out hg); have X10 := Lib.hid ((hg.block _ (lt_of_block X9.out) (by simp)).trans X9.out); clear hg x0 x1 x2 x3 y0 y1 y2 y3'; obtain ⟨x0, x1, x2, x3⟩ := mt_cells X10.out)
            | (go_at_call 12; ((with_reducible refine (HPut.out w10).mono ?_); rintro r w11 ⟨a9, c9, rfl, ho, hg⟩); have HG11 := Lib.hid (gtrans HG10.out hg); have cv1 := seq_string (Seq.owned1 HLz.out ho); have cv2 := seq_string (HSq.out.grown HG11.out); rw [← HT.out] at cv1 cv2; clear hg ho))
          go_ret
          exact ⟨by simp, HW5.out.trans ((gbelow HG11.out).mono HW5.out.size)⟩
        · have hed : (E != 0) = true := by simpa using he
          clear hE
          go_wp2_with (first
            | (go_at_call 17; have K := mget_as HSq.out HBy.out HX.out HE.out; ((with_reducible refine K.mono ?_); clear K; rintro r w8 ⟨rfl, hg⟩); have hg8 := gtrans hg (World.grownBy_alloc w8 (.cells #[.int .u64 (X.t : Int), .int .u32 (X.e : Int), .int .u32 (X.m : Int), .int .u32 (X.f : Int)] 29) none); have HG8 := Lib.hid hg8; have X8 := Lib.hid (heap_alloc_new w8 (.cells #[.int .u64 (X.t : Int), .int .u32 (X.e : Int), .int .u32 (X.m : Int), .int .u32 (X.f : Int)] 29)); have hcv := seq_string (HSq.out.grown hg8); rw [← HT.out] at hcv; clear hg hg8)
            | (go_at_call 19; have K := kget_as (W := w8.alloc (.cells #[.int .u64 (X.t : Int), .int .u32 (X.e : Int), .int .u32 (X.m : Int), .int .u32 (X.f : Int)] 29)) HBy.out (by rw [HLz.out]; omega) HX.out HE.out; rw [← HT.out] at K; ((with_reducible refine K.mono ?_); clear K; rintro r w9 ⟨rfl, hg⟩); have hg9 := gtrans hg (World.grownBy_alloc w9 (.cells #[.int .u64 (X.t : Int), .int .u32 (X.e : Int), .int .u32 (X.m : Int), .int .u32 (X.f : Int)] 30) none); have HG9 := Lib.hid (gtrans HG8.out hg9); have X9 := Lib.hid ((hg9.block _ (lt_of_block X8.out) (by simp)).trans X8.out); have K9 := Lib.hid (heap_alloc_new w9 (.cells #[.int .u64 (X.t : Int), .int .u32 (X.e : Int), .int .u32 (X.m : Int), .int .u32 (X.f : Int)] 30)); obtain ⟨x0, x1, x2, x3⟩ := mt_cells X9.out; obtain ⟨y0, y1, y2, y3'⟩ := mt_cells K9.out; clear hg hg9 hcv)
            | (go_at_call 20; ((with_reducible refine (HSM.out _).mono ?_); rintro r w10 ⟨rfl, hg⟩); have HG10 := Lib.hid (gtrans HG9.out hg); have X10 := Lib.hid ((hg.block _ (lt_of_block X9.out) (by simp)).trans X9.out); clear hg x0 x1 x2 x3 y0 y1 y2 y3'; obtain ⟨x0, x1, x2, x3⟩ := mt_cells X10.out))
          go_ret
          exact ⟨by simp, HW5.out.trans ((gbelow HG10.out).mono HW5.out.size)⟩

set_option maxRecDepth 30000 in
set_option maxHeartbeats 8000000 in
theorem gets_no (w : World) (M : Mt) (size : Int) (hG : ¬ (mright M = true ∧ 512 ≤ size ∧ size ≤ 4096)) (a2 : Option Addr) (n2 c2 : Nat) (zs : List Int) (a3 : Option Addr) (n3 c3 : Nat) (xs : List Int) (sm : Bool)
    (hn2 : ¬ 20 < n2) (hn23 : ¬ n3 < n2) (hn3 : ¬ 5000 < n3) (h2 : Seq16 w (.slice a2 n2 c2) zs) (h3 : Seq w.heap.size w (.slice a3 n3 c3) xs) (b3 : Byt xs) :
    Calls Try.prog 4 #[.agg (mtC M), .int .i64 size, .slice a2 n2 c2, .slice a3 n3 c3, .bool sm] w fun r w' => r = .returned (.bool true) ∧ Below w.heap.size w w' := by
  have hmc : mtC M = #[.int .u64 (M.t : Int), .int .u32 (M.e : Int), .int .u32 (M.m : Int), .int .u32 (M.f : Int)] := rfl
  have e3 : n3 = xs.length := by obtain ⟨_, _, hv, _⟩ := h3; injection hv
  have H2 := Lib.hid h2
  have H3 := Lib.hid h3
  have B3 := Lib.hid b3
  have E3 := Lib.hid e3
  have d1 : decide ((20 : Int) < (n2 : Int)) = false := by simp; omega
  have d1' : decide (20 < n2) = false := by simp; omega
  have d3 : decide ((n3 : Int) < (n2 : Int)) = false := by simp; omega
  have d3' : decide (n3 < n2) = false := by simp; omega
  have d5 : decide ((5000 : Int) < (n3 : Int)) = false := by simp; omega
  have d5' : decide (5000 < n3) = false := by simp; omega
  have HP := Lib.hid (fun W => mput_no W M size hG)
  rw [hmc] at HP
  obtain ⟨cf, rf, mf, conv, cbuf⟩ := conv_buf B3.out (by have := E3.out; omega)
  rw [← E3.out] at conv cbuf
  have CB := Lib.hid cbuf
  clear h2 h3 b3 e3 hG cbuf
  go_enter Try.func4, Try.ntmps4
  go_wp2_with (first
    | (go_at_call 10; have K := awake7_any (w.alloc (.cells #[.int .u64 (M.t : Int), .int .u32 (M.e : Int), .int .u32 (M.m : Int), .int .u32 (M.f : Int)] 25)); ((with_reducible refine K.mono ?_); clear K; rintro r wA ⟨rfl, hgA⟩); have GA := Lib.hid (gtrans (World.grownBy_alloc _ _ _) hgA); have BX := Lib.hid ((hgA.block w.heap.size (by simp) (by simp)).trans (heap_alloc_new _ _)); obtain ⟨x0, x1, x2, x3⟩ := mt_cells BX.out; clear hgA)
    | (go_at_call 11; have K := of7_any wA M; rw [hmc] at K; ((with_reducible refine K.mono ?_); clear K; rintro r w2 ⟨rfl, hg⟩); have hg2 := gtrans hg (two_grown w2 (.cells #[.int .u64 (M.t : Int), .int .u32 (M.e : Int), .int .u32 (M.m : Int), .int .u32 (M.f : Int)] 29) (.cells #[.int .u64 (M.t : Int), .int .u32 (M.e : Int), .int .u32 (M.m : Int), .int .u32 (M.f : Int)] 30)); have G2 := Lib.hid (gtrans GA.out hg2); have M2 := Lib.hid (two_lit0 w2 (.cells #[.int .u64 (M.t : Int), .int .u32 (M.e : Int), .int .u32 (M.m : Int), .int .u32 (M.f : Int)] 29) (.cells #[.int .u64 (M.t : Int), .int .u32 (M.e : Int), .int .u32 (M.m : Int), .int .u32 (M.f : Int)] 30)); have K2 := Lib.hid (two_lit1 w2 (.cells #[.int .u64 (M.t : Int), .int .u32 (M.e : Int), .int .u32 (M.m : Int), .int .u32 (M.f : Int)] 29) (.cells #[.int .u64 (M.t : Int), .int .u32 (M.e : Int), .int .u32 (M.m : Int), .int .u32 (M.f : Int)] 30)); clear hg hg2 x0 x1 x2 x3)
    | (go_at_call 12; ((with_reducible refine (HP.out ((w2.alloc (.cells #[.int .u64 (M.t : Int), .int .u32 (M.e : Int), .int .u32 (M.m : Int), .int .u32 (M.f : Int)] 29)).alloc (.cells #[.int .u64 (M.t : Int), .int .u32 (M.e : Int), .int .u32 (M.m : Int), .int .u32 (M.f : Int)] 30))).mono ?_); rintro r wq ⟨rfl, hg⟩); have G3 := Lib.hid (gtrans G2.out hg); have hcv := seq_string (H3.out.below (w' := wq) (fun i hi => G3.out.block i hi (by simp))); clear hg))
  have hga : wq.grownBy ((wq.alloc (.cells (rf wq) 5 (mf wq))).drew) none := gtrans (gdrew wq) (World.grownBy_alloc _ _ _)
  have HBF := Lib.hid (CB.out wq ((wq.alloc (.cells (rf wq) 5 (mf wq))).drew) wq.heap.size (heap_alloc_new wq.drew _))
  have HBW := Lib.hid (gbelow (gtrans G3.out hga))
  have HGB := Lib.hid G3.out.size
  clear hga hcv conv
  generalize (wq.alloc (.cells (rf wq) 5 (mf wq))).drew = w3 at *
  generalize wq.heap.size = gb at *
  generalize cf wq = cb at *
  obtain ⟨bs0, hbs0⟩ : ∃ b, b = xs := ⟨_, rfl⟩
  rw [← hbs0] at HBF
  clear hbs0
  go_loopg [16] n2 (fun q i wr => ∃ (k : Nat) (bs : List Int), k + q = n2 ∧ i = .int .i64 (k : Int) ∧ Buf wr gb n3 cb bs ∧ Below w.heap.size w wr)
  case atStart => exact ⟨0, bs0, by omega, rfl, HBF.out, HBW.out⟩
  case round =>
    obtain ⟨k, bs, hkq, rfl, hbf, hbw⟩ := hrel
    have HBF1 := Lib.hid hbf
    have HBW1 := Lib.hid hbw
    clear hbf hbw HBF HBW
    by_cases hlt : k < n2
    · obtain ⟨q, rfl⟩ : ∃ q, gk = q + 1 := ⟨gk - 1, by omega⟩
      have hki : (k : Int) < (n2 : Int) := by omega
      have hk3 : (k : Int) < (n3 : Int) := by omega
      obtain ⟨ba, oa, rfl, hba, A, hA, hA2⟩ := H2.out.at k (by omega)
      obtain ⟨bx, ox, rfl, hbx, hcx⟩ := (show ∃ b o, a3 = some ⟨b, o, none⟩ ∧ b < w.heap.size ∧ w.cell? ⟨b, o + k, none⟩ = some (.int .u8 (xs.getD k 0)) from by
        obtain ⟨ao', c', hv, _, _, _, h4⟩ := H3.out
        have e := E3.out
        obtain ⟨b, o, ha, hb, hc⟩ := h4 (by rintro rfl; simp at e; omega)
        cases hv
        exact ⟨b, o, ha, hb, hc k (by omega)⟩)
      have y3 := B3.out.get k
      have hwA : IntKind.i64.wrap (A : Int) = (A : Int) := IntWalk.i64_in _ (by omega)
      obtain ⟨idx, hidx⟩ : ∃ i : Nat, i = A % n3 := ⟨_, rfl⟩
      have hil : idx < n3 := by rw [hidx]; exact Nat.mod_lt _ (by omega)
      have hrem : (A : Int) % (n3 : Int) = (idx : Int) := by rw [hidx]; rfl
      have htm : (A : Int).tmod (n3 : Int) = (idx : Int) := by rw [hidx]; rfl
      have hii : (idx : Int) < (n3 : Int) := by omega
      have hMi : (0 : Int) < (n3 : Int) := by omega
      have hM0 : ((n3 : Int) == 0) = false := by simp; omega
      have hM1 : ¬ (n3 : Int) = 0 := by omega
      have hMn : ¬ n3 = 0 := by omega
      obtain ⟨q1, f1⟩ := HBF1.out.at idx hil
      have yb := HBF1.out.byt.get idx
      have z1 := (HBW1.out.cell (p := ⟨ba, oa + k, none⟩) hba).trans hA
      have z2 := (HBW1.out.cell (p := ⟨bx, ox + k, none⟩) hbx).trans hcx
      obtain ⟨X1, hX1⟩ : ∃ x, x = xs.getD k 0 := ⟨_, rfl⟩
      obtain ⟨X2, hX2⟩ : ∃ x, x = bs.getD idx 0 := ⟨_, rfl⟩
      rw [← hX1] at z2 y3
      rw [← hX2] at q1 yb
      have hx := xor_byte yb.1 yb.2 y3.1 y3.2
      have HBS := Lib.hid (HBF1.out.set idx hil _ hx.1 hx.2)
      have hgq : w.heap.size ≤ gb := HGB.out
      have HBX := Lib.hid (HBW1.out.setCell (p := ⟨gb, idx, none⟩) hgq (.int .u8 (bits .xor .u8 X2 X1)))
      have z1d : wr.drew.cell? ⟨ba, oa + k, none⟩ = some (.int .u16 (A : Int)) := z1
      have z2d : wr.drew.cell? ⟨bx, ox + k, none⟩ = some (.int .u8 X1) := z2
      have q1d : wr.drew.cell? ⟨gb, idx, none⟩ = some (.int .u8 X2) := q1
      have f1d : wr.drew.frozen? ⟨gb, idx, none⟩ = false := f1
      have HEQ := Lib.hid (show wr.drew.setCell ⟨gb, idx, none⟩ (.int .u8 (bits .xor .u8 X2 X1)) = (wr.setCell ⟨gb, idx, none⟩ (.int .u8 (bits .xor .u8 X2 X1))).drew from rfl)
      clear hA hcx hidx hX1 hX2 z1 z2 q1 f1 hx hba hbx
      go_wp2
      go_still_tail 17, (by kernel_rfl)
      change wpList _ _ _ _ _ wr.drew
      generalize hw2 : wr.drew = w2z at *
      have HW2 := Lib.hid hw2
      clear hw2
      go_wp2
      go_roundg q
      case measure => omega
      case rel => exact ⟨k + 1, _, by omega, by go_num, by rw [HEQ.out]; exact HBS.out.grown (gdrew _), by rw [HEQ.out]; exact HBX.out.trans ((gbelow (gdrew _)).mono HBX.out.size)⟩
    · obtain rfl : k = n2 := by omega
      have hkk : ¬ (k : Int) < (k : Int) := by omega
      cases sm
      · have hsm0 : True := trivial
        have hNl : bs.length = n3 := HBF1.out.len
        have HBy := Lib.hid HBF1.out.byt
        have HSq := Lib.hid HBF1.out.seq
        have hNb : n3 ≤ 140737488355328 := by omega
        obtain ⟨X, hX⟩ : ∃ X, X = mgetM bs := ⟨_, rfl⟩
        obtain ⟨E, hE⟩ : ∃ E, E = mgetE bs := ⟨_, rfl⟩
        obtain ⟨T, hT⟩ : ∃ T, T = strOfNums bs := ⟨_, rfl⟩
        have HX := Lib.hid hX
        have HE := Lib.hid hE
        have HT := Lib.hid hT
        have hxc : mtC X = #[.int .u64 (X.t : Int), .int .u32 (X.e : Int), .int .u32 (X.m : Int), .int .u32 (X.f : Int)] := rfl
        have HSM := Lib.hid (fun W => same7_any W X)
        rw [hxc] at HSM
        have HLz := Lib.hid hNl
        clear hX hT hNl
        by_cases he : E = 0
        · have HPB := Lib.hid (put_back HBy.out (hE.symm.trans he))
          rw [← HX.out, HLz.out] at HPB
          subst he
          clear hE
          have HPut := Lib.hid (fun W => mput_ok W X HPB.out.1.ok HPB.out.1.right n3 HPB.out.1.lo HPB.out.1.hi)
          rw [hxc, ← HPB.out.2] at HPut
          go_wp2_with (first
            | (go_at_call 17; have K := mget_as HSq.out HBy.out HX.out HE.out; ((with_reducible refine K.mono ?_); clear K; rintro r w8 ⟨rfl, hg⟩); have hg8 := gtrans hg (World.grownBy_alloc w8 (.cells #[.int .u64 (X.t : Int), .int .u32 (X.e : Int), .int .u32 (X.m : Int), .int .u32 (X.f : Int)] 29) none); have HG8 := Lib.hid hg8; have X8 := Lib.hid (heap_alloc_new w8 (.cells #[.int .u64 (X.t : Int), .int .u32 (X.e : Int), .int .u32 (X.m : Int), .int .u32 (X.f : Int)] 29)); have hcv := seq_string (HSq.out.grown hg8); rw [← HT.out] at hcv; clear hg hg8)
            | (go_at_call 19; have K := kget_as (W := w8.alloc (.cells #[.int .u64 (X.t : Int), .int .u32 (X.e : Int), .int .u32 (X.m : Int), .int .u32 (X.f : Int)] 29)) HBy.out (by rw [HLz.out]; omega) HX.out HE.out; rw [← HT.out] at K; ((with_reducible refine K.mono ?_); clear K; rintro r w9 ⟨rfl, hg⟩); have hg9 := gtrans hg (World.grownBy_alloc w9 (.cells #[.int .u64 (X.t : Int), .int .u32 (X.e : Int), .int .u32 (X.m : Int), .int .u32 (X.f : Int)] 30) none); have HG9 := Lib.hid (gtrans HG8.out hg9); have X9 := Lib.hid ((hg9.block _ (lt_of_block X8.out) (by simp)).trans X8.out); have K9 := Lib.hid (heap_alloc_new w9 (.cells #[.int .u64 (X.t : Int), .int .u32 (X.e : Int), .int .u32 (X.m : Int), .int .u32 (X.f : Int)] 30)); obtain ⟨x0, x1, x2, x3⟩ := mt_cells X9.out; obtain ⟨y0, y1, y2, y3'⟩ := mt_cells K9.out; clear hg hg9 hcv)
            | (go_at_call 20; ((with_reducible refine (HSM.out _).mono ?_); rintro r w10 ⟨rfl, hg⟩); have HG10 := Lib.hid (gtrans HG9.out hg); have X10 := Lib.hid ((hg.block _ (lt_of_block X9.out) (by simp)).trans X9.out); clear hg x0 x1 x2 x3 y0 y1 y2 y3'; obtain ⟨x0, x1, x2, x3⟩ := mt_cells X10.out)
            | (go_at_call 12; ((with_reducible refine (HPut.out w10).mono ?_); rintro r w11 ⟨a9, c9, rfl, ho, hg⟩); have HG11 := Lib.hid (gtrans HG10.out hg); have cv1 := seq_string (Seq.owned1 HLz.out ho); have cv2 := seq_string (HSq.out.grown HG11.out); rw [← HT.out] at cv1 cv2; clear hg ho))
          go_ret
          exact ⟨by simp, HBW1.out.trans ((gbelow HG11.out).mono HBW1.out.size)⟩
        · have hed : (E != 0) = true := by simpa using he
          clear hE
          go_wp2_with (first
            | (go_at_call 17; have K := mget_as HSq.out HBy.out HX.out HE.out; ((with_reducible refine K.mono ?_); clear K; rintro r w8 ⟨rfl, hg⟩); have hg8 := gtrans hg (World.grownBy_alloc w8 (.cells #[.int .u64 (X.t : Int), .int .u32 (X.e : Int), .int .u32 (X.m : Int), .int .u32 (X.f : Int)] 29) none); have HG8 := Lib.hid hg8; have X8 := Lib.hid (heap_alloc_new w8 (.cells #[.int .u64 (X.t : Int), .int .u32 (X.e : Int), .int .u32 (X.m : Int), .int .u32 (X.f : Int)] 29)); have hcv := seq_string (HSq.out.grown hg8); rw [← HT.out] at hcv; clear hg hg8)
            | (go_at_call 19; have K := kget_as (W := w8.alloc (.cells #[.int .u64 (X.t : Int), .int .u32 (X.e : Int), .int .u32 (X.m : Int), .int .u32 (X.f : Int)] 29)) HBy.out (by rw [HLz.out]; omega) HX.out HE.out; rw [← HT.out] at K; ((with_reducible refine K.mono ?_); clear K; rintro r w9 ⟨rfl, hg⟩); have hg9 := gtrans hg (World.grownBy_alloc w9 (.cells #[.int .u64 (X.t : Int), .int .u32 (X.e : Int), .int .u32 (X.m : Int), .int .u32 (X.f : Int)] 30) none); have HG9 := Lib.hid (gtrans HG8.out hg9); have X9 := Lib.hid ((hg9.block _ (lt_of_block X8.out) (by simp)).trans X8.out); have K9 := Lib.hid (heap_alloc_new w9 (.cells #[.int .u64 (X.t : Int), .int .u32 (X.e : Int), .int .u32 (X.m : Int), .int .u32 (X.f : Int)] 30)); obtain ⟨x0, x1, x2, x3⟩ := mt_cells X9.out; obtain ⟨y0, y1, y2, y3'⟩ := mt_cells K9.out; clear hg hg9 hcv)
            | (go_at_call 20; ((with_reducible refine (HSM.out _).mono ?_); rintro r w10 ⟨rfl, hg⟩); have HG10 := Lib.hid (gtrans HG9.out hg); have X10 := Lib.hid ((hg.block _ (lt_of_block X9.out) (by simp)).trans X9.out); clear hg x0 x1 x2 x3 y0 y1 y2 y3'; obtain ⟨x0, x1, x2, x3⟩ := mt_cells X10.out))
          go_ret
          exact ⟨by simp, HBW1.out.trans ((gbelow HG10.out).mono HBW1.out.size)⟩
      · by_cases h32 : 32 ≤ n3
        · have hsm1 : True := trivial
          have h32i : (32 : Int) ≤ (n3 : Int) := by omega
          have h32d : decide ((32 : Int) ≤ (n3 : Int)) = true := by simpa using h32i
          have KRf := Lib.hid (refit7_any wr gb n3 cb bs HBF1.out h32 (by omega))
          go_wp2_with (go_at_call 18; ((with_reducible refine KRf.out.mono ?_); rintro r w5 ⟨g5, c5, bsT, rfl, hb5, hg5, hw5⟩); have HB5 := Lib.hid hb5; have HW5 := Lib.hid (HBW1.out.trans ((gbelow hw5).mono HBW1.out.size)); clear hb5 hg5 hw5)
          have hNl : bsT.length = n3 := HB5.out.len
          have HBy := Lib.hid HB5.out.byt
          have HSq := Lib.hid HB5.out.seq
          have hNb : n3 ≤ 140737488355328 := by omega
          obtain ⟨X, hX⟩ : ∃ X, X = mgetM bsT := ⟨_, rfl⟩
          obtain ⟨E, hE⟩ : ∃ E, E = mgetE bsT := ⟨_, rfl⟩
          obtain ⟨T, hT⟩ : ∃ T, T = strOfNums bsT := ⟨_, rfl⟩
          have HX := Lib.hid hX
          have HE := Lib.hid hE
          have HT := Lib.hid hT
          have hxc : mtC X = #[.int .u64 (X.t : Int), .int .u32 (X.e : Int), .int .u32 (X.m : Int), .int .u32 (X.f : Int)] := rfl
          have HSM := Lib.hid (fun W => same7_any W X)
          rw [hxc] at HSM
          have HLz := Lib.hid hNl
          clear hX hT hNl
          by_cases he : E = 0
          · have HPB := Lib.hid (put_back HBy.out (hE.symm.trans he))
            rw [← HX.out, HLz.out] at HPB
            subst he
            clear hE
            have HPut := Lib.hid (fun W => mput_ok W X HPB.out.1.ok HPB.out.1.right n3 HPB.out.1.lo HPB.out.1.hi)
            rw [hxc, ← HPB.out.2] at HPut
            go_wp2_with (first
              | (go_at_call 17; have K := mget_as HSq.out HBy.out HX.out HE.out; ((with_reducible refine K.mono ?_); clear K; rintro r w8 ⟨rfl, hg⟩); have hg8 := gtrans hg (World.grownBy_alloc w8 (.cells #[.int .u64 (X.t : Int), .int .u32 (X.e : Int), .int .u32 (X.m : Int), .int .u32 (X.f : Int)] 29) none); have HG8 := Lib.hid hg8; have X8 := Lib.hid (heap_alloc_new w8 (.cells #[.int .u64 (X.t : Int), .int .u32 (X.e : Int), .int .u32 (X.m : Int), .int .u32 (X.f : Int)] 29)); have hcv := seq_string (HSq.out.grown hg8); rw [← HT.out] at hcv; clear hg hg8)
              | (go_at_call 19; have K := kget_as (W := w8.alloc (.cells #[.int .u64 (X.t : Int), .int .u32 (X.e : Int), .int .u32 (X.m : Int), .int .u32 (X.f : Int)] 29)) HBy.out (by rw [HLz.out]; omega) HX.out HE.out; rw [← HT.out] at K; ((with_reducible refine K.mono ?_); clear K; rintro r w9 ⟨rfl, hg⟩); have hg9 := gtrans hg (World.grownBy_alloc w9 (.cells #[.int .u64 (X.t : Int), .int .u32 (X.e : Int), .int .u32 (X.m : Int), .int .u32 (X.f : Int)] 30) none); have HG9 := Lib.hid (gtrans HG8.out hg9); have X9 := Lib.hid ((hg9.block _ (lt_of_block X8.out) (by simp)).trans X8.out); have K9 := Lib.hid (heap_alloc_new w9 (.cells #[.int .u64 (X.t : Int), .int .u32 (X.e : Int), .int .u32 (X.m : Int), .int .u32 (X.f : Int)] 30)); obtain ⟨x0, x1, x2, x3⟩ := mt_cells X9.out; obtain ⟨y0, y1, y2, y3'⟩ := mt_cells K9.out; clear hg hg9 hcv)
              | (go_at_call 20; ((with_reducible refine (HSM.out _).mono ?_); rintro r w10 ⟨rfl, hg⟩); have HG10 := Lib.hid (gtrans HG9.out hg); have X10 := Lib.hid ((hg.block _ (lt_of_block X9.out) (by simp)).trans X9.out); clear hg x0 x1 x2 x3 y0 y1 y2 y3'; obtain ⟨x0, x1, x2, x3⟩ := mt_cells X10.out)
              | (go_at_call 12; ((with_reducible refine (HPut.out w10).mono ?_); rintro r w11 ⟨a9, c9, rfl, ho, hg⟩); have HG11 := Lib.hid (gtrans HG10.out hg); have cv1 := seq_string (Seq.owned1 HLz.out ho); have cv2 := seq_string (HSq.out.grown HG11.out); rw [← HT.out] at cv1 cv2; clear hg ho))
            go_ret
            exact ⟨by simp, HW5.out.trans ((gbelow HG11.out).mono HW5.out.size)⟩
          · have hed : (E != 0) = true := by simpa using he
            clear hE
            go_wp2_with (first
              | (go_at_call 17; have K := mget_as HSq.out HBy.out HX.out HE.out; ((with_reducible refine K.mono ?_); clear K; rintro r w8 ⟨rfl, hg⟩); have hg8 := gtrans hg (World.grownBy_alloc w8 (.cells #[.int .u64 (X.t : Int), .int .u32 (X.e : Int), .int .u32 (X.m : Int), .int .u32 (X.f : Int)] 29) none); have HG8 := Lib.hid hg8; have X8 := Lib.hid (heap_alloc_new w8 (.cells #[.int .u64 (X.t : Int), .int .u32 (X.e : Int), .int .u32 (X.m : Int), .int .u32 (X.f : Int)] 29)); have hcv := seq_string (HSq.out.grown hg8); rw [← HT.out] at hcv; clear hg hg8)
              | (go_at_call 19; have K := kget_as (W := w8.alloc (.cells #[.int .u64 (X.t : Int), .int .u32 (X.e : Int), .int .u32 (X.m : Int), .int .u32 (X.f : Int)] 29)) HBy.out (by rw [HLz.out]; omega) HX.out HE.out; rw [← HT.out] at K; ((with_reducible refine K.mono ?_); clear K; rintro r w9 ⟨rfl, hg⟩); have hg9 := gtrans hg (World.grownBy_alloc w9 (.cells #[.int .u64 (X.t : Int), .int .u32 (X.e : Int), .int .u32 (X.m : Int), .int .u32 (X.f : Int)] 30) none); have HG9 := Lib.hid (gtrans HG8.out hg9); have X9 := Lib.hid ((hg9.block _ (lt_of_block X8.out) (by simp)).trans X8.out); have K9 := Lib.hid (heap_alloc_new w9 (.cells #[.int .u64 (X.t : Int), .int .u32 (X.e : Int), .int .u32 (X.m : Int), .int .u32 (X.f : Int)] 30)); obtain ⟨x0, x1, x2, x3⟩ := mt_cells X9.out; obtain ⟨y0, y1, y2, y3'⟩ := mt_cells K9.out; clear hg hg9 hcv)
              | (go_at_call 20; ((with_reducible refine (HSM.out _).mono ?_); rintro r w10 ⟨rfl, hg⟩); have HG10 := Lib.hid (gtrans HG9.out hg); have X10 := Lib.hid ((hg.block _ (lt_of_block X9.out) (by simp)).trans X9.out); clear hg x0 x1 x2 x3 y0 y1 y2 y3'; obtain ⟨x0, x1, x2, x3⟩ := mt_cells X10.out))
            go_ret
            exact ⟨by simp, HW5.out.trans ((gbelow HG10.out).mono HW5.out.size)⟩
        · have h32i : ¬ (32 : Int) ≤ (n3 : Int) := by omega
          have h32d : decide ((32 : Int) ≤ (n3 : Int)) = false := by simpa using h32i
          have hNl : bs.length = n3 := HBF1.out.len
          have HBy := Lib.hid HBF1.out.byt
          have HSq := Lib.hid HBF1.out.seq
          have hNb : n3 ≤ 140737488355328 := by omega
          obtain ⟨X, hX⟩ : ∃ X, X = mgetM bs := ⟨_, rfl⟩
          obtain ⟨E, hE⟩ : ∃ E, E = mgetE bs := ⟨_, rfl⟩
          obtain ⟨T, hT⟩ : ∃ T, T = strOfNums bs := ⟨_, rfl⟩
          have HX := Lib.hid hX
          have HE := Lib.hid hE
          have HT := Lib.hid hT
          have hxc : mtC X = #[.int .u64 (X.t : Int), .int .u32 (X.e : Int), .int .u32 (X.m : Int), .int .u32 (X.f : Int)] := rfl
          have HSM := Lib.hid (fun W => same7_any W X)
          rw [hxc] at HSM
          have HLz := Lib.hid hNl
          clear hX hT hNl
          by_cases he : E = 0
          · have HPB := Lib.hid (put_back HBy.out (hE.symm.trans he))
            rw [← HX.out, HLz.out] at HPB
            subst he
            clear hE
            have HPut := Lib.hid (fun W => mput_ok W X HPB.out.1.ok HPB.out.1.right n3 HPB.out.1.lo HPB.out.1.hi)
            rw [hxc, ← HPB.out.2] at HPut
            go_wp2_with (first
              | (go_at_call 17; have K := mget_as HSq.out HBy.out HX.out HE.out; ((with_reducible refine K.mono ?_); clear K; rintro r w8 ⟨rfl, hg⟩); have hg8 := gtrans hg (World.grownBy_alloc w8 (.cells #[.int .u64 (X.t : Int), .int .u32 (X.e : Int), .int .u32 (X.m : Int), .int .u32 (X.f : Int)] 29) none); have HG8 := Lib.hid hg8; have X8 := Lib.hid (heap_alloc_new w8 (.cells #[.int .u64 (X.t : Int), .int .u32 (X.e : Int), .int .u32 (X.m : Int), .int .u32 (X.f : Int)] 29)); have hcv := seq_string (HSq.out.grown hg8); rw [← HT.out] at hcv; clear hg hg8)
              | (go_at_call 19; have K := kget_as (W := w8.alloc (.cells #[.int .u64 (X.t : Int), .int .u32 (X.e : Int), .int .u32 (X.m : Int), .int .u32 (X.f : Int)] 29)) HBy.out (by rw [HLz.out]; omega) HX.out HE.out; rw [← HT.out] at K; ((with_reducible refine K.mono ?_); clear K; rintro r w9 ⟨rfl, hg⟩); have hg9 := gtrans hg (World.grownBy_alloc w9 (.cells #[.int .u64 (X.t : Int), .int .u32 (X.e : Int), .int .u32 (X.m : Int), .int .u32 (X.f : Int)] 30) none); have HG9 := Lib.hid (gtrans HG8.out hg9); have X9 := Lib.hid ((hg9.block _ (lt_of_block X8.out) (by simp)).trans X8.out); have K9 := Lib.hid (heap_alloc_new w9 (.cells #[.int .u64 (X.t : Int), .int .u32 (X.e : Int), .int .u32 (X.m : Int), .int .u32 (X.f : Int)] 30)); obtain ⟨x0, x1, x2, x3⟩ := mt_cells X9.out; obtain ⟨y0, y1, y2, y3'⟩ := mt_cells K9.out; clear hg hg9 hcv)
              | (go_at_call 20; ((with_reducible refine (HSM.out _).mono ?_); rintro r w10 ⟨rfl, hg⟩); have HG10 := Lib.hid (gtrans HG9.out hg); have X10 := Lib.hid ((hg.block _ (lt_of_block X9.out) (by simp)).trans X9.out); clear hg x0 x1 x2 x3 y0 y1 y2 y3'; obtain ⟨x0, x1, x2, x3⟩ := mt_cells X10.out)
              | (go_at_call 12; ((with_reducible refine (HPut.out w10).mono ?_); rintro r w11 ⟨a9, c9, rfl, ho, hg⟩); have HG11 := Lib.hid (gtrans HG10.out hg); have cv1 := seq_string (Seq.owned1 HLz.out ho); have cv2 := seq_string (HSq.out.grown HG11.out); rw [← HT.out] at cv1 cv2; clear hg ho))
            go_ret
            exact ⟨by simp, HBW1.out.trans ((gbelow HG11.out).mono HBW1.out.size)⟩
          · have hed : (E != 0) = true := by simpa using he
            clear hE
            go_wp2_with (first
              | (go_at_call 17; have K := mget_as HSq.out HBy.out HX.out HE.out; ((with_reducible refine K.mono ?_); clear K; rintro r w8 ⟨rfl, hg⟩); have hg8 := gtrans hg (World.grownBy_alloc w8 (.cells #[.int .u64 (X.t : Int), .int .u32 (X.e : Int), .int .u32 (X.m : Int), .int .u32 (X.f : Int)] 29) none); have HG8 := Lib.hid hg8; have X8 := Lib.hid (heap_alloc_new w8 (.cells #[.int .u64 (X.t : Int), .int .u32 (X.e : Int), .int .u32 (X.m : Int), .int .u32 (X.f : Int)] 29)); have hcv := seq_string (HSq.out.grown hg8); rw [← HT.out] at hcv; clear hg hg8)
              | (go_at_call 19; have K := kget_as (W := w8.alloc (.cells #[.int .u64 (X.t : Int), .int .u32 (X.e : Int), .int .u32 (X.m : Int), .int .u32 (X.f : Int)] 29)) HBy.out (by rw [HLz.out]; omega) HX.out HE.out; rw [← HT.out] at K; ((with_reducible refine K.mono ?_); clear K; rintro r w9 ⟨rfl, hg⟩); have hg9 := gtrans hg (World.grownBy_alloc w9 (.cells #[.int .u64 (X.t : Int), .int .u32 (X.e : Int), .int .u32 (X.m : Int), .int .u32 (X.f : Int)] 30) none); have HG9 := Lib.hid (gtrans HG8.out hg9); have X9 := Lib.hid ((hg9.block _ (lt_of_block X8.out) (by simp)).trans X8.out); have K9 := Lib.hid (heap_alloc_new w9 (.cells #[.int .u64 (X.t : Int), .int .u32 (X.e : Int), .int .u32 (X.m : Int), .int .u32 (X.f : Int)] 30)); obtain ⟨x0, x1, x2, x3⟩ := mt_cells X9.out; obtain ⟨y0, y1, y2, y3'⟩ := mt_cells K9.out; clear hg hg9 hcv)
              | (go_at_call 20; ((with_reducible refine (HSM.out _).mono ?_); rintro r w10 ⟨rfl, hg⟩); have HG10 := Lib.hid (gtrans HG9.out hg); have X10 := Lib.hid ((hg.block _ (lt_of_block X9.out) (by simp)).trans X9.out); clear hg x0 x1 x2 x3 y0 y1 y2 y3'; obtain ⟨x0, x1, x2, x3⟩ := mt_cells X10.out))
            go_ret
            exact ⟨by simp, HBW1.out.trans ((gbelow HG10.out).mono HBW1.out.size)⟩

theorem gets_any (w : World) (M : Mt) (size : Int) (a2 : Option Addr) (n2 c2 : Nat) (zs : List Int) (a3 : Option Addr) (n3 c3 : Nat) (xs : List Int) (sm : Bool) (hM : MtOk M) (_z0 : -9223372036854775808 ≤ size) (_z1 : size ≤ 9223372036854775807)
    (h2 : Seq16 w (.slice a2 n2 c2) zs) (h3 : Seq w.heap.size w (.slice a3 n3 c3) xs) (b3 : Byt xs) :
    Calls Try.prog 4 #[.agg (mtC M), .int .i64 size, .slice a2 n2 c2, .slice a3 n3 c3, .bool sm] w fun r w' => r = .returned (.bool true) ∧ Below w.heap.size w w' := by
  by_cases h1 : 20 < n2
  · exact gets_a w M size a2 n2 c2 a3 n3 c3 sm h1
  by_cases h4 : n3 < n2
  · exact gets_b w M size a2 n2 c2 a3 n3 c3 sm h1 h4
  by_cases h5 : 5000 < n3
  · exact gets_c w M size a2 n2 c2 a3 n3 c3 sm h1 h4 h5
  rcases gput_or w M hM size with h | ⟨S, rfl, hG⟩
  · exact gets_no w M size h a2 n2 c2 zs a3 n3 c3 xs sm h1 h4 h5 h2 h3 b3
  · exact gets_ok w M S hG a2 n2 c2 zs a3 n3 c3 xs sm h1 h4 h5 h2 h3 b3

open Go.ChangeShapes Go.WideShapes Go.ChangeAt
set_option linter.unusedVariables false
set_option maxRecDepth 100000 in
theorem gets_lifted (os : Os) (started : os.Started) (H : Type) (enc : TypeId × Value → H) :
    ReturnsInHanded {} Try.checked os 4 .any (Rows.metaGetsSpec.pre6 enc Try.prog Try.f4 Rows.metaGetsRow.domain false) (Rows.metaGetsSpec.post enc Try.prog Try.f4 false true false false) := by
  refine returnsInHanded_of_change (C := Try.checked) ownKnob0 started (by kernel_rfl) Try.func4
    (ChangeSpec.witness6 (enc := enc) (C := Try.checked) false ⟨#[], #[.agg #[.int .u64 0, .int .u32 0, .int .u32 0, .int .u32 0], .int .i64 0, .slice none 0 0, .slice none 0 0, .bool false], []⟩ 8 (by kernel_rfl) (by kernel_rfl) (by kernel_rfl) (by kernel_rfl)) ?_
  intro W base args ds gs before hval0 hW hcnd _
  have hval : ∀ (j : Nat) t v, Try.f4.params[j]? = some t → args[j]? = some v → Value.okWide Try.prog W .any base t v := hval0
  have hW' := hW
  obtain ⟨p, q, hA0, hV, rfl, hfz, hnd⟩ := hW
  have hA : DataW.TrodAll enc Try.prog W 0 (fun _ => true) true Try.f4.params.toList args.toList ds p := hA0
  rw [Try.params4] at hA hval
  obtain ⟨v0, vs0, d0, ds0, p0, q0, hargs, rfl, rfl, h0, r0⟩ := trodAll_cons hA
  obtain ⟨v1, vs1, d1, ds1, p1, q1, rfl, rfl, rfl, h1, r1⟩ := trodAll_cons r0
  obtain ⟨v2, vs2, d2, ds2, p2, q2, rfl, rfl, rfl, h2, r2⟩ := trodAll_cons r1
  obtain ⟨v3, vs3, d3, ds3, p3, q3, rfl, rfl, rfl, h3, r3⟩ := trodAll_cons r2
  obtain ⟨v4, vs4, d4, ds4, p4, q4, rfl, rfl, rfl, h4, r4⟩ := trodAll_cons r3
  obtain ⟨rfl, rfl, rfl⟩ := trodAll_nil r4
  obtain rfl : args = #[v0, v1, v2, v3, v4] := by cases args; simp_all
  obtain ⟨rfl, rfl⟩ := trodVars_none hV
  have lt0 : ∀ x ∈ p0, x.block < W.heap.size := by obtain ⟨m, hm⟩ := h0; exact DataW.trod_lt m _ _ _ hm
  obtain ⟨M0, w0, rfl⟩ := open_raw7 (hval 0 25 v0 rfl rfl) h0
  obtain ⟨a1, rfl, rfl, rfl, w1⟩ := open_int Try.underlying3 (hval 1 3 v1 rfl rfl) h1
  have b1 := bounds_i64 w1
  obtain ⟨a2, len2, cap2, rfl⟩ := okWide_slice Try.underlying45 (hval 2 45 v2 rfl rfl)
  have lt2 : ∀ x ∈ p2, x.block < W.heap.size := by obtain ⟨m, hm⟩ := h2; exact DataW.trod_lt m _ _ _ hm
  obtain ⟨z2, w2⟩ := open_u16s h2
  obtain ⟨a3, len3, cap3, rfl⟩ := okWide_slice Try.underlying33 (hval 3 33 v3 rfl rfl)
  have lt3 : ∀ x ∈ p3, x.block < W.heap.size := by obtain ⟨m, hm⟩ := h3; exact DataW.trod_lt m _ _ _ hm
  obtain ⟨z3, w3, y3⟩ := open_bytes h3
  obtain ⟨a4, rfl, rfl, rfl⟩ := open_bool Try.underlying4 (hval 4 4 v4 rfl rfl) h4
  clear hA0 hval0
  refine (gets_any W M0 a1 a2 len2 cap2 z2 a3 len3 cap3 z3 a4 w0 b1.1 b1.2 w2 w3 y3).mono fun e W' ⟨he, bel⟩ => ?_
  subst he
  exact ⟨_, rfl, _, _, _, [], _, [], hW', trodAll_mk1 (shut_bool Try.underlying4 _), (trodAll_cons_mk (Below.trod laidOut0 (by kernel_rfl) (of_decide_eq_true (by kernel_rfl)) h0 bel lt0) (trodAll_cons_mk (shut_int Try.underlying3 w1) (trodAll_cons_mk (Below.trod laidOut0 (by kernel_rfl) (of_decide_eq_true (by kernel_rfl)) h2 bel lt2) (trodAll_cons_mk (Below.trod laidOut0 (by kernel_rfl) (of_decide_eq_true (by kernel_rfl)) h3 bel lt3) (trodAll_cons_mk (shut_bool Try.underlying4 _) trodAll_mk0))))), rfl, bel.frame _, fun h => by cases h⟩

/-- MetaGets, for every input. -/
theorem metaGets_holds : Rows.MetaGetsSaid :=
  OpenClaim.holds_of_wide 4 Try.f4 rfl rfl rfl rfl rfl rfl rfl ⟨rfl, rfl, rfl, rfl, rfl⟩ rfl rfl rfl rfl rfl (by kernel_rfl) Try.func4 (by kernel_rfl)
    (of_decide_eq_true (by kernel_rfl)) (by unfold Func.isWrapper; first | (rw [if_pos (by decide +kernel)]; kernel_rfl) | (rw [if_neg (by decide +kernel)]; exact ⟨rfl, rfl⟩))
    (fun os started H enc _ => gets_lifted os started H enc)
#print axioms metaGets_holds

end Go.Proofs.Ytnggebohefbopaa
