/-
  FreedGets: what Get reads of a page of pairs, also of one with some of its bytes others, is the document's, or refused as it refuses. Proved for every input, no condition.
-/
import Derived.Test.YtpgpilalhbdidaaFrW
import Derived.Test.YtpgpilalhbdidaaFrU
import Derived.Test.YtpgpilalhbdidaaLawB
import Derived.Deep.LoopGhost
import Derived.StillTailTactics
import Derived.ProofKit
import Derived.OpenShut
import Derived.ShutString
import Derived.ChangeOld
namespace Go.Proofs.Ytpgpilalhbdidaa
open Go.RowKit Go.Maps

theorem buf_own {w : World} {base N : Nat} {v : Value} {bs : List Int} (h : OwnB base w v bs) (hb : Byt bs) (hl : bs.length = N) (hn : 0 < N) : ∃ q c, v = .slice (some ⟨q, 0, none⟩) N c ∧ base ≤ q ∧ Buf w q N c bs := by
  subst hl
  rcases h.2 with ⟨_, h0⟩ | ⟨g, cap, cur, hv, hg0, hg, hc, hm, hs, ht⟩
  · omega
  · refine ⟨g, cap, hv, hg0, ⟨_, _, hg, fun j hj => ?_, fun j hj => by simp [World.frozen?, hg]⟩, hb, rfl, hc, hm⟩
    have e := congrArg (fun l => l[j]?) ht
    simp only [List.getElem?_take, List.getElem?_map, Array.getElem?_toList] at e
    rw [if_pos (by omega)] at e
    rw [e, List.getD_eq_getElem?_getD, List.getElem?_eq_getElem hj]; rfl
/-- What Get tells of a buffer. -/
theorem zget_buf {w : World} {q N c : Nat} {bs : List Int} (h : Buf w q N c bs) (hl : N ≤ 140737488355328) :
    Calls Try.prog 26 #[.slice (some ⟨q, 0, none⟩) N c] w fun r w' => FGetR bs w w' r :=
  zget_any w w.heap.size _ N c bs h.seq (Nat.le_refl _) h.byt (by rw [h.len]; exact hl)

set_option maxRecDepth 1000000 in
set_option maxHeartbeats 8000000 in
theorem fgets_walk (w : World) (ao : Option Addr) (n c : Nat) (ps : List Pr) (x size : Int) (a2 : Option Addr) (n2 c2 : Nat) (zs : List Int) (a3 : Option Addr) (n3 c3 : Nat) (xs : List Int) (h : PrSq (fun b => b < w.heap.size) w (.slice ao n c) ps) (x0 : 0 ≤ x) (x1 : x ≤ 4294967295) (z0 : -9223372036854775808 ≤ size) (z1 : size ≤ 9223372036854775807)
    (h2 : Seq16 w (.slice a2 n2 c2) zs) (h3 : Seq w.heap.size w (.slice a3 n3 c3) xs) (b3 : Byt xs) (hn1 : n ≤ 400) (hn2 : n2 ≤ 20) (hn23 : n2 ≤ n3) (hn3 : n3 ≤ 5000) :
    Calls Try.prog 6 #[.slice ao n c, .int .u32 x, .int .i64 size, .slice a2 n2 c2, .slice a3 n3 c3] w fun r w' => r = .returned (.bool true) ∧ Below w.heap.size w w' := by
  have e1 := h.len.1
  have e2 : n2 = zs.length := by obtain ⟨_, _, hv, _⟩ := h2; injection hv
  have e3 : n3 = xs.length := by obtain ⟨_, _, hv, _⟩ := h3; injection hv
  have HN := Lib.hid e1
  have H := Lib.hid h
  have H2 := Lib.hid h2
  have H3 := Lib.hid h3
  have B3 := Lib.hid b3
  have E3 := Lib.hid e3
  have hd0 : decide ((400 : Int) < (n : Int)) = false := by simp; omega
  have hd0' : decide (400 < n) = false := by simp; omega
  have hd1 : decide ((20 : Int) < (n2 : Int)) = false := by simp; omega
  have hd2 : decide (20 < n2) = false := by simp; omega
  have hd3 : decide ((n3 : Int) < (n2 : Int)) = false := by simp; omega
  have hd4 : decide (n3 < n2) = false := by simp; omega
  have hd5 : decide ((5000 : Int) < (n3 : Int)) = false := by simp; omega
  have hd6 : decide (5000 < n3) = false := by simp; omega
  clear h h2 h3 b3 e1 e2 e3
  go_enter Try.func6, Try.ntmps6
  go_wp2_with (first
    | (go_at_call 9; (with_reducible refine (awake10_any w).mono ?_); rintro r wA ⟨rfl, hg⟩; have HGA := Lib.hid hg; have HRA := Lib.hid (H.out.grown hg); clear hg)
    | (go_at_call 17; (with_reducible refine (pairs10_any wA _ ao n c ps HRA.out (by omega)).mono ?_); rintro r wB ⟨va, vc, rfl, ho, hg⟩; rw [← HN.out] at ho ⊢; have HOB := Lib.hid ho.sq; have HGB := Lib.hid (gtrans HGA.out hg); clear ho hg))
  by_cases hr : RightF ps size
  · obtain ⟨S, rfl⟩ : ∃ S : Nat, size = (S : Int) := ⟨size.toNat, by have := hr.1; omega⟩
    have hS5 : 512 ≤ S := by have := hr.1; omega
    have hS9 : S ≤ 4096 := by have := hr.2.1; omega
    have HPL := Lib.hid (show (frB ps x S).length = S from frB_len (by have := room_fits hr.2.2.1; omega))
    have HR := Lib.hid hr
    clear hr
    go_wp2_with (go_at_call 24; (with_reducible refine (zput_ok wB _ va n vc ps x S (S : Int) rfl HOB.out x0 x1 HR.out).mono ?_); rintro r w2 ⟨v, rfl, ho, hg⟩; obtain ⟨gb, cb, rfl, hgb, hbf⟩ := buf_own ho (frB_byt _ _ _) HPL.out (by omega); have HBF := Lib.hid hbf; have HBW := Lib.hid (gbelow (gtrans HGB.out hg)); have HQB := Lib.hid (Nat.le_trans HGB.out.size hgb); clear hbf ho hg hgb)
    obtain ⟨bs0, hbs0⟩ : ∃ b, b = frB ps x S := ⟨_, rfl⟩
    rw [← hbs0] at HBF
    clear hbs0
    go_loopg [14] n2 (fun q i wr => ∃ (k : Nat) (bs : List Int), k + q = n2 ∧ i = .int .i64 (k : Int) ∧ Buf wr gb S cb bs ∧ Below w.heap.size w wr)
    case atStart => exact ⟨0, bs0, by omega, rfl, HBF.out, HBW.out⟩
    case round =>
      obtain ⟨k, bs, hkq, rfl, hbf, hbw⟩ := hrel
      have HBF1 := Lib.hid hbf
      have HBW1 := Lib.hid hbw
      clear hbf hbw HBF HBW
      by_cases hlt : k < n2
      · have hM : 0 < S := by omega
        obtain ⟨q, rfl⟩ : ∃ q, gk = q + 1 := ⟨gk - 1, by omega⟩
        have hki : (k : Int) < (n2 : Int) := by omega
        have hk3 : (k : Int) < (n3 : Int) := by omega
        have hMi : (0 : Int) < (S : Int) := by omega
        have hM0 : ((S : Int) == 0) = false := by simp; omega
        have hM1 : ¬ (S : Int) = 0 := by omega
        have hMn : ¬ S = 0 := by omega
        obtain ⟨ba, oa, rfl, hba, A, hA, hA2⟩ := H2.out.at k (by omega)
        obtain ⟨bx, ox, rfl, hbx, hcx⟩ := (show ∃ b o, a3 = some ⟨b, o, none⟩ ∧ b < w.heap.size ∧ w.cell? ⟨b, o + k, none⟩ = some (.int .u8 (xs.getD k 0)) from by
          obtain ⟨ao', c', hv, _, _, _, h4⟩ := H3.out
          have e := E3.out
          obtain ⟨b, o, ha, hb, hc⟩ := h4 (by rintro rfl; simp at e; omega)
          cases hv
          exact ⟨b, o, ha, hb, hc k (by omega)⟩)
        have y3 := B3.out.get k
        have hwA : IntKind.i64.wrap (A : Int) = (A : Int) := IntWalk.i64_in _ (by omega)
        obtain ⟨idx, hidx⟩ : ∃ i : Nat, i = A % S := ⟨_, rfl⟩
        have hil : idx < S := by rw [hidx]; exact Nat.mod_lt _ (by omega)
        have hrem : (A : Int) % (S : Int) = (idx : Int) := by rw [hidx]; rfl
        have htm : (A : Int).tmod (S : Int) = (idx : Int) := by rw [hidx]; rfl
        have hii : (idx : Int) < (S : Int) := by omega
        obtain ⟨q1, f1⟩ := HBF1.out.at idx hil
        have yb := HBF1.out.byt.get idx
        have z1 := (HBW1.out.cell (p := ⟨ba, oa + k, none⟩) hba).trans hA
        have z2 := (HBW1.out.cell (p := ⟨bx, ox + k, none⟩) hbx).trans hcx
        obtain ⟨X1, hX1⟩ : ∃ x, x = xs.getD k 0 := ⟨_, rfl⟩
        obtain ⟨X2, hX2⟩ : ∃ x, x = bs.getD idx 0 := ⟨_, rfl⟩
        rw [← hX1] at z2 y3
        rw [← hX2] at q1 yb
        have hx := xor_byte yb.1 yb.2 y3.1 y3.2
        have HBS := Lib.hid (HBF1.out.set idx hil _ hx.1 hx.2)
        have hgq : w.heap.size ≤ gb := HQB.out
        have HBX := Lib.hid (HBW1.out.setCell (p := ⟨gb, idx, none⟩) hgq (.int .u8 (bits .xor .u8 X2 X1)))
        have z1d : wr.drew.cell? ⟨ba, oa + k, none⟩ = some (.int .u16 (A : Int)) := z1
        have z2d : wr.drew.cell? ⟨bx, ox + k, none⟩ = some (.int .u8 X1) := z2
        have q1d : wr.drew.cell? ⟨gb, idx, none⟩ = some (.int .u8 X2) := q1
        have f1d : wr.drew.frozen? ⟨gb, idx, none⟩ = false := f1
        have HEQ := Lib.hid (show wr.drew.setCell ⟨gb, idx, none⟩ (.int .u8 (bits .xor .u8 X2 X1)) = (wr.setCell ⟨gb, idx, none⟩ (.int .u8 (bits .xor .u8 X2 X1))).drew from rfl)
        clear hA hcx hidx hX1 hX2 z1 z2 q1 f1 hx hba hbx
        go_wp2
        go_still_tail 17, (by kernel_rfl)
        change wpList _ _ _ _ _ wr.drew
        generalize hw2 : wr.drew = w2 at *
        have HW2 := Lib.hid hw2
        clear hw2
        go_wp2
        go_roundg q
        case measure => omega
        case rel => exact ⟨k + 1, _, by omega, by go_num, by rw [HEQ.out]; exact HBS.out.grown (gdrew _), by rw [HEQ.out]; exact HBX.out.trans ((gbelow (gdrew _)).mono HBX.out.size)⟩
      · obtain rfl : k = n2 := by omega
        have hkk : ¬ (k : Int) < (k : Int) := by omega
        have KG := Lib.hid (zget_buf HBF1.out (by omega))
        have hM9' : bs.length ≤ 140737488355328 := by rw [HBF1.out.len]; omega
        have KQ := Lib.hid (fun w' => vget_any w' bs HBF1.out.byt hM9')
        have HST := Lib.hid (show ∀ w', wr.grownBy w' none → (convert 49 9 (.slice (some ⟨gb, 0, none⟩) S cb)).run Try.prog w' = .ok (.string (strOfNums bs)) w' from fun w' k => seq_string (HBF1.out.grown k).seq)
        obtain ⟨T, hT⟩ : ∃ T, T = strOfNums bs := ⟨_, rfl⟩
        rw [← hT] at KQ HST
        clear hT hM9'
        go_wp2_with fail
        refine KG.out.mono ?_
        clear KG
        rintro r w5 (⟨pv, qs, t, rfl, hla, ho, hg5⟩ | ⟨rfl, hno, hg5⟩)
        · obtain ⟨la, lc, rfl⟩ := ho.shape
          have HO5 := Lib.hid ho.sq
          have HG5 := Lib.hid hg5
          have HLA := Lib.hid hla
          have v5 := HST.out w5 hg5
          clear hg5 hla ho
          go_wp2_with fail
          refine (KQ.out w5).mono ?_
          rintro r w6 (⟨va', vc', qs', t', rfl, hla', ho6, hg6⟩ | ⟨rfl, hno, hg6⟩)
          · obtain ⟨e1, e2⟩ := flaid_uniq HLA.out hla'
            subst e1; subst e2
            have HO6 := Lib.hid ho6.sq
            have HQ6 := Lib.hid (HO5.out.grown hg6)
            have HG6 := Lib.hid (HBW1.out.trans ((gbelow (gtrans HG5.out hg6)).mono HBW1.out.size))
            clear hg6 hla' ho6
            go_wp2_with (go_at_call 12; (with_reducible refine (alike10_any _ _ _ _ _ _ _ _ _ HQ6.out HO6.out).mono ?_); rintro r w7 ⟨rfl, hg⟩; have HG7 := Lib.hid (HG6.out.trans ((gbelow hg).mono HG6.out.size)); clear hg)
            go_ret
            exact ⟨by simp, HG7.out⟩
          · exact absurd HLA.out (hno _ _)
        · have HNO := Lib.hid hno
          have HG5 := Lib.hid hg5
          have v5 := HST.out w5 hg5
          clear hno hg5
          go_wp2_with fail
          refine (KQ.out w5).mono ?_
          rintro r w6 (⟨va', vc', qs', t', rfl, hla', ho6, hg6⟩ | ⟨rfl, hno, hg6⟩)
          · exact absurd hla' (HNO.out _ _)
          · have HO6 := Lib.hid (prsq_nil (fun _ => True) w6)
            have HG6 := Lib.hid (HBW1.out.trans ((gbelow (gtrans HG5.out hg6)).mono HBW1.out.size))
            clear hno hg6
            go_wp2_with (go_at_call 12; (with_reducible refine (alike10_any _ _ _ _ _ _ _ _ _ HO6.out HO6.out).mono ?_); rintro r w7 ⟨rfl, hg⟩; have HG7 := Lib.hid (HG6.out.trans ((gbelow hg).mono HG6.out.size)); clear hg)
            go_ret
            exact ⟨by simp, HG7.out⟩
  · have HR := Lib.hid hr
    obtain ⟨cf, rf, mf, conv, cbuf⟩ := conv_buf B3.out (by have := E3.out; omega)
    rw [← E3.out] at conv cbuf
    have CB := Lib.hid cbuf
    clear hr cbuf
    go_wp2_with (go_at_call 24; (with_reducible refine (zput_no wB _ va n vc ps x size HOB.out HR.out).mono ?_); rintro r wC ⟨rfl, hg⟩; have HGC := Lib.hid (gtrans HGB.out hg); have hcv := seq_string (H3.out.below (w' := wC) (fun i hi => HGC.out.block i hi (by simp))); clear hg)
    have hga : wC.grownBy ((wC.alloc (.cells (rf wC) 5 (mf wC))).drew) none := gtrans (gdrew wC) (World.grownBy_alloc _ _ _)
    have HBF := Lib.hid (CB.out wC ((wC.alloc (.cells (rf wC) 5 (mf wC))).drew) wC.heap.size (heap_alloc_new wC.drew _))
    have HBW := Lib.hid (gbelow (gtrans HGC.out hga))
    have HQB := Lib.hid HGC.out.size
    clear hga hcv conv
    generalize (wC.alloc (.cells (rf wC) 5 (mf wC))).drew = w3 at *
    generalize wC.heap.size = gb at *
    generalize cf wC = cb at *
    obtain ⟨bs0, hbs0⟩ : ∃ b, b = xs := ⟨_, rfl⟩
    rw [← hbs0] at HBF
    clear hbs0
    go_loopg [14] n2 (fun q i wr => ∃ (k : Nat) (bs : List Int), k + q = n2 ∧ i = .int .i64 (k : Int) ∧ Buf wr gb n3 cb bs ∧ Below w.heap.size w wr)
    case atStart => exact ⟨0, bs0, by omega, rfl, HBF.out, HBW.out⟩
    case round =>
      obtain ⟨k, bs, hkq, rfl, hbf, hbw⟩ := hrel
      have HBF1 := Lib.hid hbf
      have HBW1 := Lib.hid hbw
      clear hbf hbw HBF HBW
      by_cases hlt : k < n2
      · have hM : 0 < n3 := by omega
        obtain ⟨q, rfl⟩ : ∃ q, gk = q + 1 := ⟨gk - 1, by omega⟩
        have hki : (k : Int) < (n2 : Int) := by omega
        have hk3 : (k : Int) < (n3 : Int) := by omega
        have hMi : (0 : Int) < (n3 : Int) := by omega
        have hM0 : ((n3 : Int) == 0) = false := by simp; omega
        have hM1 : ¬ (n3 : Int) = 0 := by omega
        have hMn : ¬ n3 = 0 := by omega
        obtain ⟨ba, oa, rfl, hba, A, hA, hA2⟩ := H2.out.at k (by omega)
        obtain ⟨bx, ox, rfl, hbx, hcx⟩ := (show ∃ b o, a3 = some ⟨b, o, none⟩ ∧ b < w.heap.size ∧ w.cell? ⟨b, o + k, none⟩ = some (.int .u8 (xs.getD k 0)) from by
          obtain ⟨ao', c', hv, _, _, _, h4⟩ := H3.out
          have e := E3.out
          obtain ⟨b, o, ha, hb, hc⟩ := h4 (by rintro rfl; simp at e; omega)
          cases hv
          exact ⟨b, o, ha, hb, hc k (by omega)⟩)
        have y3 := B3.out.get k
        have hwA : IntKind.i64.wrap (A : Int) = (A : Int) := IntWalk.i64_in _ (by omega)
        obtain ⟨idx, hidx⟩ : ∃ i : Nat, i = A % n3 := ⟨_, rfl⟩
        have hil : idx < n3 := by rw [hidx]; exact Nat.mod_lt _ (by omega)
        have hrem : (A : Int) % (n3 : Int) = (idx : Int) := by rw [hidx]; rfl
        have htm : (A : Int).tmod (n3 : Int) = (idx : Int) := by rw [hidx]; rfl
        have hii : (idx : Int) < (n3 : Int) := by omega
        obtain ⟨q1, f1⟩ := HBF1.out.at idx hil
        have yb := HBF1.out.byt.get idx
        have z1 := (HBW1.out.cell (p := ⟨ba, oa + k, none⟩) hba).trans hA
        have z2 := (HBW1.out.cell (p := ⟨bx, ox + k, none⟩) hbx).trans hcx
        obtain ⟨X1, hX1⟩ : ∃ x, x = xs.getD k 0 := ⟨_, rfl⟩
        obtain ⟨X2, hX2⟩ : ∃ x, x = bs.getD idx 0 := ⟨_, rfl⟩
        rw [← hX1] at z2 y3
        rw [← hX2] at q1 yb
        have hx := xor_byte yb.1 yb.2 y3.1 y3.2
        have HBS := Lib.hid (HBF1.out.set idx hil _ hx.1 hx.2)
        have hgq : w.heap.size ≤ gb := HQB.out
        have HBX := Lib.hid (HBW1.out.setCell (p := ⟨gb, idx, none⟩) hgq (.int .u8 (bits .xor .u8 X2 X1)))
        have z1d : wr.drew.cell? ⟨ba, oa + k, none⟩ = some (.int .u16 (A : Int)) := z1
        have z2d : wr.drew.cell? ⟨bx, ox + k, none⟩ = some (.int .u8 X1) := z2
        have q1d : wr.drew.cell? ⟨gb, idx, none⟩ = some (.int .u8 X2) := q1
        have f1d : wr.drew.frozen? ⟨gb, idx, none⟩ = false := f1
        have HEQ := Lib.hid (show wr.drew.setCell ⟨gb, idx, none⟩ (.int .u8 (bits .xor .u8 X2 X1)) = (wr.setCell ⟨gb, idx, none⟩ (.int .u8 (bits .xor .u8 X2 X1))).drew from rfl)
        clear hA hcx hidx hX1 hX2 z1 z2 q1 f1 hx hba hbx
        go_wp2
        go_still_tail 17, (by kernel_rfl)
        change wpList _ _ _ _ _ wr.drew
        generalize hw2 : wr.drew = w2 at *
        have HW2 := Lib.hid hw2
        clear hw2
        go_wp2
        go_roundg q
        case measure => omega
        case rel => exact ⟨k + 1, _, by omega, by go_num, by rw [HEQ.out]; exact HBS.out.grown (gdrew _), by rw [HEQ.out]; exact HBX.out.trans ((gbelow (gdrew _)).mono HBX.out.size)⟩
      · obtain rfl : k = n2 := by omega
        have hkk : ¬ (k : Int) < (k : Int) := by omega
        have KG := Lib.hid (zget_buf HBF1.out (by omega))
        have hM9' : bs.length ≤ 140737488355328 := by rw [HBF1.out.len]; omega
        have KQ := Lib.hid (fun w' => vget_any w' bs HBF1.out.byt hM9')
        have HST := Lib.hid (show ∀ w', wr.grownBy w' none → (convert 49 9 (.slice (some ⟨gb, 0, none⟩) n3 cb)).run Try.prog w' = .ok (.string (strOfNums bs)) w' from fun w' k => seq_string (HBF1.out.grown k).seq)
        obtain ⟨T, hT⟩ : ∃ T, T = strOfNums bs := ⟨_, rfl⟩
        rw [← hT] at KQ HST
        clear hT hM9'
        go_wp2_with fail
        refine KG.out.mono ?_
        clear KG
        rintro r w5 (⟨pv, qs, t, rfl, hla, ho, hg5⟩ | ⟨rfl, hno, hg5⟩)
        · obtain ⟨la, lc, rfl⟩ := ho.shape
          have HO5 := Lib.hid ho.sq
          have HG5 := Lib.hid hg5
          have HLA := Lib.hid hla
          have v5 := HST.out w5 hg5
          clear hg5 hla ho
          go_wp2_with fail
          refine (KQ.out w5).mono ?_
          rintro r w6 (⟨va', vc', qs', t', rfl, hla', ho6, hg6⟩ | ⟨rfl, hno, hg6⟩)
          · obtain ⟨e1, e2⟩ := flaid_uniq HLA.out hla'
            subst e1; subst e2
            have HO6 := Lib.hid ho6.sq
            have HQ6 := Lib.hid (HO5.out.grown hg6)
            have HG6 := Lib.hid (HBW1.out.trans ((gbelow (gtrans HG5.out hg6)).mono HBW1.out.size))
            clear hg6 hla' ho6
            go_wp2_with (go_at_call 12; (with_reducible refine (alike10_any _ _ _ _ _ _ _ _ _ HQ6.out HO6.out).mono ?_); rintro r w7 ⟨rfl, hg⟩; have HG7 := Lib.hid (HG6.out.trans ((gbelow hg).mono HG6.out.size)); clear hg)
            go_ret
            exact ⟨by simp, HG7.out⟩
          · exact absurd HLA.out (hno _ _)
        · have HNO := Lib.hid hno
          have HG5 := Lib.hid hg5
          have v5 := HST.out w5 hg5
          clear hno hg5
          go_wp2_with fail
          refine (KQ.out w5).mono ?_
          rintro r w6 (⟨va', vc', qs', t', rfl, hla', ho6, hg6⟩ | ⟨rfl, hno, hg6⟩)
          · exact absurd hla' (HNO.out _ _)
          · have HO6 := Lib.hid (prsq_nil (fun _ => True) w6)
            have HG6 := Lib.hid (HBW1.out.trans ((gbelow (gtrans HG5.out hg6)).mono HBW1.out.size))
            clear hno hg6
            go_wp2_with (go_at_call 12; (with_reducible refine (alike10_any _ _ _ _ _ _ _ _ _ HO6.out HO6.out).mono ?_); rintro r w7 ⟨rfl, hg⟩; have HG7 := Lib.hid (HG6.out.trans ((gbelow hg).mono HG6.out.size)); clear hg)
            go_ret
            exact ⟨by simp, HG7.out⟩

set_option maxRecDepth 100000 in
set_option maxHeartbeats 4000000 in
theorem fgets_any (w : World) (ao : Option Addr) (n c : Nat) (ps : List Pr) (x size : Int) (a2 : Option Addr) (n2 c2 : Nat) (zs : List Int) (a3 : Option Addr) (n3 c3 : Nat) (xs : List Int) (h : PrSq (fun b => b < w.heap.size) w (.slice ao n c) ps) (_hs : ps.length * 16 ≤ 140737488351232) (x0 : 0 ≤ x) (x1 : x ≤ 4294967295) (z0 : -9223372036854775808 ≤ size) (z1 : size ≤ 9223372036854775807)
    (h2 : Seq16 w (.slice a2 n2 c2) zs) (h3 : Seq w.heap.size w (.slice a3 n3 c3) xs) (b3 : Byt xs) (_h4 : xs.length ≤ 140737488355328) :
    Calls Try.prog 6 #[.slice ao n c, .int .u32 x, .int .i64 size, .slice a2 n2 c2, .slice a3 n3 c3] w fun r w' => r = .returned (.bool true) ∧ Below w.heap.size w w' := by
  have base : (n ≤ 400 ∧ n2 ≤ 20 ∧ n2 ≤ n3 ∧ n3 ≤ 5000) ∨ ((400 : Int) < n) ∨ (¬ (400 : Int) < n ∧ (20 : Int) < n2) ∨ (¬ (400 : Int) < n ∧ ¬ (20 : Int) < n2 ∧ (n3 : Int) < n2) ∨ (¬ (400 : Int) < n ∧ ¬ (20 : Int) < n2 ∧ ¬ (n3 : Int) < n2 ∧ (5000 : Int) < n3) := by omega
  rcases base with ⟨k1, k2, k3, k4⟩ | k1 | ⟨k1, k2⟩ | ⟨k1, k2, k3⟩ | ⟨k1, k2, k3, k4⟩
  · exact fgets_walk w ao n c ps x size a2 n2 c2 zs a3 n3 c3 xs h x0 x1 z0 z1 h2 h3 b3 k1 k2 k3 k4
  all_goals
    clear h h2 h3 b3
    go_enter Try.func6, Try.ntmps6
    go_wp2_with (go_at_call 9; (with_reducible refine (awake10_any w).mono ?_); rintro r wA ⟨rfl, hg⟩; have HGA := Lib.hid hg; clear hg)
    go_ret
    exact ⟨rfl, gbelow HGA.out⟩

open Go.ChangeShapes Go.WideShapes Go.ChangeAt
set_option linter.unusedVariables false
set_option maxRecDepth 100000 in
theorem fgets_lifted (os : Os) (started : os.Started) (H : Type) (enc : TypeId × Value → H) :
    ReturnsInHanded {} Try.checked os 6 .any (Rows.freedGetsSpec.pre6 enc Try.prog Try.f6 Rows.freedGetsRow.domain false) (Rows.freedGetsSpec.post enc Try.prog Try.f6 false true false false) := by
  refine returnsInHanded_of_change_sized (C := Try.checked) ownKnob0 started (by kernel_rfl) Try.func6
    (ChangeSpec.witness6 (enc := enc) (C := Try.checked) false ⟨#[], #[.slice none 0 0, .int .u32 0, .int .i64 0, .slice none 0 0, .slice none 0 0], []⟩ 8 (by kernel_rfl) (by kernel_rfl) (by kernel_rfl) (by kernel_rfl)) ?_
  intro W base args ds gs before hval0 hW hcnd hsz0 _
  have hval : ∀ (j : Nat) t v, Try.f6.params[j]? = some t → args[j]? = some v → Value.okWide Try.prog W .any base t v := hval0
  have hW' := hW
  obtain ⟨p, q, hA0, hV, rfl, hfz, hnd⟩ := hW
  have hA : DataW.TrodAll enc Try.prog W 0 (fun _ => true) true Try.f6.params.toList args.toList ds p := hA0
  have hsz : (DataW.weightsEach Try.prog (Try.f6.params.toList ++ Rows.freedGetsSpec.plain.varTypes Try.prog) (ds ++ gs)).all (· ≤ reachBytes) = true := hsz0
  rw [Try.params6] at hA hval hsz
  obtain ⟨v0, vs0, d0, ds0, p0, q0, hargs, rfl, rfl, h0, r0⟩ := trodAll_cons hA
  obtain ⟨v1, vs1, d1, ds1, p1, q1, rfl, rfl, rfl, h1, r1⟩ := trodAll_cons r0
  obtain ⟨v2, vs2, d2, ds2, p2, q2, rfl, rfl, rfl, h2, r2⟩ := trodAll_cons r1
  obtain ⟨v3, vs3, d3, ds3, p3, q3, rfl, rfl, rfl, h3, r3⟩ := trodAll_cons r2
  obtain ⟨v4, vs4, d4, ds4, p4, q4, rfl, rfl, rfl, h4, r4⟩ := trodAll_cons r3
  obtain ⟨rfl, rfl, rfl⟩ := trodAll_nil r4
  obtain rfl : args = #[v0, v1, v2, v3, v4] := by cases args; simp_all
  obtain ⟨rfl, rfl⟩ := trodVars_none hV
  obtain ⟨a0, len0, cap0, rfl⟩ := okWide_slice Try.underlying23 (hval 0 23 v0 rfl rfl)
  have lt0 : ∀ x ∈ p0, x.block < W.heap.size := by obtain ⟨m, hm⟩ := h0; exact DataW.trod_lt m _ _ _ hm
  obtain ⟨z0, w0, s0⟩ := open_pairs h0 hsz (j := 0) rfl rfl
  obtain ⟨a1, rfl, rfl, rfl, w1⟩ := open_int Try.underlying40 (hval 1 40 v1 rfl rfl) h1
  have b1 := bounds_u32 w1
  obtain ⟨a2, rfl, rfl, rfl, w2⟩ := open_int Try.underlying3 (hval 2 3 v2 rfl rfl) h2
  have b2 := bounds_i64 w2
  obtain ⟨a3, len3, cap3, rfl⟩ := okWide_slice Try.underlying57 (hval 3 57 v3 rfl rfl)
  have lt3 : ∀ x ∈ p3, x.block < W.heap.size := by obtain ⟨m, hm⟩ := h3; exact DataW.trod_lt m _ _ _ hm
  obtain ⟨z3, w3⟩ := open_u16s h3
  obtain ⟨a4, len4, cap4, rfl⟩ := okWide_slice Try.underlying49 (hval 4 49 v4 rfl rfl)
  have lt4 : ∀ x ∈ p4, x.block < W.heap.size := by obtain ⟨m, hm⟩ := h4; exact DataW.trod_lt m _ _ _ hm
  obtain ⟨z4, w4, y4, s4⟩ := open_bytes_sz h4 hsz (j := 4) rfl rfl
  clear hA0 hval0
  refine (fgets_any W a0 len0 cap0 z0 a1 a2 a3 len3 cap3 z3 a4 len4 cap4 z4 w0 s0 b1.1 b1.2 b2.1 b2.2 w3 w4 y4 s4).mono fun e W' ⟨he, bel⟩ => ?_
  subst he
  exact ⟨_, rfl, _, _, _, [], _, [], hW', trodAll_mk1 (shut_bool Try.underlying4 _), (trodAll_cons_mk (Below.trod laidOut0 (by kernel_rfl) (of_decide_eq_true (by kernel_rfl)) h0 bel lt0) (trodAll_cons_mk (shut_int Try.underlying40 w1) (trodAll_cons_mk (shut_int Try.underlying3 w2) (trodAll_cons_mk (Below.trod laidOut0 (by kernel_rfl) (of_decide_eq_true (by kernel_rfl)) h3 bel lt3) (trodAll_cons_mk (Below.trod laidOut0 (by kernel_rfl) (of_decide_eq_true (by kernel_rfl)) h4 bel lt4) trodAll_mk0))))), rfl, bel.frame _, fun h => by cases h⟩

/-- FreedGets, for every input. -/
theorem freedGets_holds : Rows.FreedGetsSaid :=
  OpenClaim.holds_of_wide 6 Try.f6 rfl rfl rfl rfl rfl rfl rfl ⟨rfl, rfl, rfl, rfl, rfl⟩ rfl rfl rfl rfl rfl (by kernel_rfl) Try.func6 (by kernel_rfl)
    (of_decide_eq_true (by kernel_rfl)) (by unfold Func.isWrapper; first | (rw [if_pos (by decide +kernel)]; kernel_rfl) | (rw [if_neg (by decide +kernel)]; exact ⟨rfl, rfl⟩))
    (fun os started H enc _ => fgets_lifted os started H enc)
#print axioms freedGets_holds

end Go.Proofs.Ytpgpilalhbdidaa
