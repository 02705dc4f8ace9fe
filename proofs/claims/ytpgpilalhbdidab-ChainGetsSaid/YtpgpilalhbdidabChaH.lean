/-
  Layer 6: the walk of ChainGets. Own work.
-/
import Derived.Test.YtpgpilalhbdidabChaG
import Derived.Test.YtpgpilalhbdidabLawB
import Derived.Deep.LoopGhost
import Derived.Deep.QuietTactic
import Derived.BigQuiet
import Derived.StillTailTactics
namespace Go.Proofs.Ytpgpilalhbdidab
open Go.RowKit

/-- What Get tells of a buffer. -/
theorem cget_buf {w : World} {q N c : Nat} {bs : List Int} (h : Buf w q N c bs) (hl : N ≤ 140737488355328) :
    Calls Try.prog 16 #[.slice (some ⟨q, 0, none⟩) N c] w fun r w' => CGetR bs w w' r :=
  cget_any w w.heap.size _ N c bs h.seq (Nat.le_refl _) h.byt (by rw [h.len]; exact hl)

set_option maxRecDepth 1000000 in
set_option maxHeartbeats 8000000 in
theorem cgets_walk (w : World) (ao : Option Addr) (n c : Nat) (p : List Int) (x size : Int) (a2 : Option Addr) (n2 c2 : Nat) (zs : List Int) (a3 : Option Addr) (n3 c3 : Nat) (xs : List Int) (h : Seq w.heap.size w (.slice ao n c) p) (hb : Byt p) (x0 : 0 ≤ x) (x1 : x ≤ 4294967295) (z0 : -9223372036854775808 ≤ size) (z1 : size ≤ 9223372036854775807)
    (h2 : Seq16 w (.slice a2 n2 c2) zs) (h3 : Seq w.heap.size w (.slice a3 n3 c3) xs) (b3 : Byt xs) (hn1 : n ≤ 5000) (hn2 : n2 ≤ 20) (hn23 : n2 ≤ n3) (hn3 : n3 ≤ 5000) :
    Calls Try.prog 5 #[.slice ao n c, .int .u32 x, .int .i64 size, .slice a2 n2 c2, .slice a3 n3 c3] w fun r w' => r = .returned (.bool true) ∧ Below w.heap.size w w' := by
  have e1 : n = p.length := by obtain ⟨_, _, hv, _⟩ := h; injection hv
  have e2 : n2 = zs.length := by obtain ⟨_, _, hv, _⟩ := h2; injection hv
  have e3 : n3 = xs.length := by obtain ⟨_, _, hv, _⟩ := h3; injection hv
  have HN := Lib.hid e1
  have H := Lib.hid h
  have HB := Lib.hid hb
  have H2 := Lib.hid h2
  have H3 := Lib.hid h3
  have B3 := Lib.hid b3
  have E3 := Lib.hid e3
  have hd0 : decide ((5000 : Int) < (n : Int)) = false := by simp; omega
  have hd0' : decide (5000 < n) = false := by simp; omega
  have hd1 : decide ((20 : Int) < (n2 : Int)) = false := by simp; omega
  have hd2 : decide (20 < n2) = false := by simp; omega
  have hd3 : decide ((n3 : Int) < (n2 : Int)) = false := by simp; omega
  have hd4 : decide (n3 < n2) = false := by simp; omega
  have hd5 : decide ((5000 : Int) < (n3 : Int)) = false := by simp; omega
  have hd6 : decide (5000 < n3) = false := by simp; omega
  have cvn : ∀ w' : World, (convert 22 9 (.slice none 0 0)).run Try.prog w' = .ok (.string { data := #[] }) w' := fun w' => seq_string (seq_nil 0 w')
  clear h hb h2 h3 b3 e1 e2 e3
  go_enter Try.func5, Try.ntmps5
  go_wp2_with (go_at_call 9; refine (awake6_any _).mono ?_; rintro r wA ⟨rfl, hgA⟩; have HGA := Lib.hid hgA; clear hgA)
  by_cases hr : RightC (n : Int) size
  · obtain ⟨S, rfl⟩ : ∃ S : Nat, size = (S : Int) := ⟨size.toNat, by have := hr.1; omega⟩
    have hS5 : 512 ≤ S := by have := hr.1; omega
    have hS9 : S ≤ 4096 := by have := hr.2.1; omega
    have HPL := Lib.hid (chB_len (x := x) (show 8 + p.length ≤ S by have := hr.2.2.2; have := HN.out; omega))
    have HR := Lib.hid hr
    clear hr
    go_wp2_with (go_at_call 14; have Kc := cput_ok wA w.heap.size ao n c p x S (H.out.below (fun i hi => HGA.out.block i hi (by simp))) HGA.out.size x0 x1 HR.out; ((with_reducible refine Kc.mono ?_); clear Kc; rintro r w2 ⟨gb, rfl, hgb, hp, hg2⟩); have hbf : Buf w2 gb S S (chB p x S) := ⟨⟨_, _, hp, (fun j hj => by rw [List.getElem?_toArray, List.getElem?_map, List.getD_eq_getElem?_getD, List.getElem?_eq_getElem (by rw [HPL.out]; exact hj)]; rfl), fun j hj => by simp [World.frozen?, hp]⟩, chB_byt HB.out, HPL.out, Nat.le_refl _, by unfold maxLen; omega⟩; have HBF := Lib.hid hbf; have HBW := Lib.hid (gbelow (gtrans HGA.out hg2)); have HGB := Lib.hid (Nat.le_trans HGA.out.size hgb); clear hbf hp hg2 hgb)
    obtain ⟨bs0, hbs0⟩ : ∃ b, b = chB p x S := ⟨_, rfl⟩
    rw [← hbs0] at HBF
    clear hbs0
    go_loopg [14] n2 (fun q i wr => ∃ (k : Nat) (bs : List Int), k + q = n2 ∧ i = .int .i64 (k : Int) ∧ Buf wr gb S S bs ∧ Below w.heap.size w wr)
    case atStart => exact ⟨0, bs0, by omega, rfl, HBF.out, HBW.out⟩
    case round =>
      obtain ⟨k, bs, hkq, rfl, hbf, hbw⟩ := hrel
      have HBF1 := Lib.hid hbf
      have HBW1 := Lib.hid hbw
      clear hbf hbw HBF HBW
      by_cases hlt : k < n2
      · have hM : 0 < S := by omega
        obtain ⟨q, rfl⟩ : ∃ q, gk = q + 1 := ⟨gk - 1, by omega⟩
        have hki : (k : Int) < (n2 : Int) := by omega
        have hk3 : (k : Int) < (n3 : Int) := by omega
        have hMi : (0 : Int) < (S : Int) := by omega
        have hM0 : ((S : Int) == 0) = false := by simp; omega
        have hM1 : ¬ (S : Int) = 0 := by omega
        have hMn : ¬ S = 0 := by omega
        obtain ⟨ba, oa, rfl, hba, A, hA, hA2⟩ := H2.out.at k (by omega)
        obtain ⟨bx, ox, rfl, hbx, hcx⟩ := (show ∃ b o, a3 = some ⟨b, o, none⟩ ∧ b < w.heap.size ∧ w.cell? ⟨b, o + k, none⟩ = some (.int .u8 (xs.getD k 0)) from by
          obtain ⟨ao', c', hv, _, _, _, h4⟩ := H3.out
          have e := E3.out
          obtain ⟨b, o, ha, hb, hc⟩ := h4 (by rintro rfl; simp at e; omega)
          cases hv
          exact ⟨b, o, ha, hb, hc k (by omega)⟩)
        have y3 := B3.out.get k
        have hwA : IntKind.i64.wrap (A : Int) = (A : Int) := IntWalk.i64_in _ (by omega)
        obtain ⟨idx, hidx⟩ : ∃ i : Nat, i = A % S := ⟨_, rfl⟩
        have hil : idx < S := by rw [hidx]; exact Nat.mod_lt _ (by omega)
        have hrem : (A : Int) % (S : Int) = (idx : Int) := by rw [hidx]; rfl
        have htm : (A : Int).tmod (S : Int) = (idx : Int) := by rw [hidx]; rfl
        have hii : (idx : Int) < (S : Int) := by omega
        obtain ⟨q1, f1⟩ := HBF1.out.at idx hil
        have yb := HBF1.out.byt.get idx
        have z1 := (HBW1.out.cell (p := ⟨ba, oa + k, none⟩) hba).trans hA
        have z2 := (HBW1.out.cell (p := ⟨bx, ox + k, none⟩) hbx).trans hcx
        obtain ⟨X1, hX1⟩ : ∃ x, x = xs.getD k 0 := ⟨_, rfl⟩
        obtain ⟨X2, hX2⟩ : ∃ x, x = bs.getD idx 0 := ⟨_, rfl⟩
        rw [← hX1] at z2 y3
        rw [← hX2] at q1 yb
        have hx := xor_byte yb.1 yb.2 y3.1 y3.2
        have HBS := Lib.hid (HBF1.out.set idx hil _ hx.1 hx.2)
        have hgq : w.heap.size ≤ gb := HGB.out
        have HBX := Lib.hid (HBW1.out.setCell (p := ⟨gb, idx, none⟩) hgq (.int .u8 (bits .xor .u8 X2 X1)))
        have z1d : wr.drew.cell? ⟨ba, oa + k, none⟩ = some (.int .u16 (A : Int)) := z1
        have z2d : wr.drew.cell? ⟨bx, ox + k, none⟩ = some (.int .u8 X1) := z2
        have q1d : wr.drew.cell? ⟨gb, idx, none⟩ = some (.int .u8 X2) := q1
        have f1d : wr.drew.frozen? ⟨gb, idx, none⟩ = false := f1
        have HEQ := Lib.hid (show wr.drew.setCell ⟨gb, idx, none⟩ (.int .u8 (bits .xor .u8 X2 X1)) = (wr.setCell ⟨gb, idx, none⟩ (.int .u8 (bits .xor .u8 X2 X1))).drew from rfl)
        clear hA hcx hidx hX1 hX2 z1 z2 q1 f1 hx hba hbx
        go_wp2
        go_still_tail 17, (by kernel_rfl)
        change wpList _ _ _ _ _ wr.drew
        generalize hw2 : wr.drew = w2 at *
        have HW2 := Lib.hid hw2
        clear hw2
        go_wp2
        go_roundg q
        case measure => omega
        case rel => exact ⟨k + 1, _, by omega, by go_num, by rw [HEQ.out]; exact HBS.out.grown (gdrew _), by rw [HEQ.out]; exact HBX.out.trans ((gbelow (gdrew _)).mono HBX.out.size)⟩
      · obtain rfl : k = n2 := by omega
        have hkk : ¬ (k : Int) < (k : Int) := by omega
        have KG := Lib.hid (cget_buf HBF1.out (by omega))
        have hM9' : bs.length ≤ 140737488355328 := by rw [HBF1.out.len]; omega
        have KQ := Lib.hid (fun w' => gget_any w' bs HBF1.out.byt hM9')
        have HST := Lib.hid (show ∀ w', wr.grownBy w' none → (convert 22 9 (.slice (some ⟨gb, 0, none⟩) S S)).run Try.prog w' = .ok (.string (strOfNums bs)) w' from fun w' k => seq_string (HBF1.out.grown k).seq)
        obtain ⟨T, hT⟩ : ∃ T, T = strOfNums bs := ⟨_, rfl⟩
        rw [← hT] at KQ HST
        clear hT hM9'
        go_wp2_with fail
        refine KG.out.mono ?_
        clear KG
        rintro r w5 (⟨pv, y, t, rfl, hla, ho, hy, hg5⟩ | ⟨rfl, hno, hg5⟩)
        · obtain ⟨la, lc, rfl⟩ := own_shape ho
          have HO5 := Lib.hid ho
          have HG5 := Lib.hid hg5
          have HLA := Lib.hid hla
          have v5 := HST.out w5 hg5
          clear hg5 hla ho hy
          go_wp2_with fail
          refine (KQ.out w5).mono ?_
          rintro r w6 (⟨y', t', rfl, hla', hg6⟩ | ⟨rfl, hno, hg6⟩)
          · obtain ⟨e1, e2⟩ := claid_uniq HLA.out hla'
            subst e1; subst e2
            have v6 := seq_string (Seq.owned (HO5.out.grown hg6))
            have HG6 := Lib.hid (HBW1.out.trans ((gbelow (gtrans HG5.out hg6)).mono HBW1.out.size))
            obtain ⟨U, hU⟩ : ∃ U, U = strOfNums y := ⟨_, rfl⟩
            rw [← hU] at v6 ⊢
            clear hU hg6 hla'
            go_wp2
            go_ret
            exact ⟨by simp, HG6.out⟩
          · exact absurd HLA.out (hno _ _)
        · have HNO := Lib.hid hno
          have HG5 := Lib.hid hg5
          have v5 := HST.out w5 hg5
          clear hno hg5
          go_wp2_with fail
          refine (KQ.out w5).mono ?_
          rintro r w6 (⟨y', t', rfl, hla', hg6⟩ | ⟨rfl, hno, hg6⟩)
          · exact absurd hla' (HNO.out _ _)
          · have HG6 := Lib.hid (HBW1.out.trans ((gbelow (gtrans HG5.out hg6)).mono HBW1.out.size))
            clear hno hg6
            go_wp2
            go_ret
            exact ⟨by simp, HG6.out⟩
  · have HR := Lib.hid hr
    obtain ⟨cf, rf, mf, conv, cbuf⟩ := conv_buf B3.out (by have := E3.out; omega)
    rw [← E3.out] at conv cbuf
    have CB := Lib.hid cbuf
    clear hr cbuf
    go_wp2_with (go_at_call 14; have Kc := cput_arg wA ao n c x size HR.out; ((with_reducible refine Kc.mono ?_); clear Kc; rintro r wq ⟨rfl, rfl⟩); have hcv := seq_string (H3.out.below (w' := wA) (fun i hi => HGA.out.block i hi (by simp))))
    have hga : wA.grownBy ((wA.alloc (.cells (rf wA) 5 (mf wA))).drew) none := gtrans (gdrew wA) (World.grownBy_alloc _ _ _)
    have HBF := Lib.hid (CB.out wA ((wA.alloc (.cells (rf wA) 5 (mf wA))).drew) wA.heap.size (heap_alloc_new wA.drew _))
    have HBW := Lib.hid (gbelow (gtrans HGA.out hga))
    have HGB := Lib.hid HGA.out.size
    clear hga hcv conv
    generalize (wA.alloc (.cells (rf wA) 5 (mf wA))).drew = w3 at *
    generalize wA.heap.size = gb at *
    generalize cf wA = cb at *
    obtain ⟨bs0, hbs0⟩ : ∃ b, b = xs := ⟨_, rfl⟩
    rw [← hbs0] at HBF
    clear hbs0
    go_loopg [14] n2 (fun q i wr => ∃ (k : Nat) (bs : List Int), k + q = n2 ∧ i = .int .i64 (k : Int) ∧ Buf wr gb n3 cb bs ∧ Below w.heap.size w wr)
    case atStart => exact ⟨0, bs0, by omega, rfl, HBF.out, HBW.out⟩
    case round =>
      obtain ⟨k, bs, hkq, rfl, hbf, hbw⟩ := hrel
      have HBF1 := Lib.hid hbf
      have HBW1 := Lib.hid hbw
      clear hbf hbw HBF HBW
      by_cases hlt : k < n2
      · have hM : 0 < n3 := by omega
        obtain ⟨q, rfl⟩ : ∃ q, gk = q + 1 := ⟨gk - 1, by omega⟩
        have hki : (k : Int) < (n2 : Int) := by omega
        have hk3 : (k : Int) < (n3 : Int) := by omega
        have hMi : (0 : Int) < (n3 : Int) := by omega
        have hM0 : ((n3 : Int) == 0) = false := by simp; omega
        have hM1 : ¬ (n3 : Int) = 0 := by omega
        have hMn : ¬ n3 = 0 := by omega
        obtain ⟨ba, oa, rfl, hba, A, hA, hA2⟩ := H2.out.at k (by omega)
        obtain ⟨bx, ox, rfl, hbx, hcx⟩ := (show ∃ b o, a3 = some ⟨b, o, none⟩ ∧ b < w.heap.size ∧ w.cell? ⟨b, o + k, none⟩ = some (.int .u8 (xs.getD k 0)) from by
          obtain ⟨ao', c', hv, _, _, _, h4⟩ := H3.out
          have e := E3.out
          obtain ⟨b, o, ha, hb, hc⟩ := h4 (by rintro rfl; simp at e; omega)
          cases hv
          exact ⟨b, o, ha, hb, hc k (by omega)⟩)
        have y3 := B3.out.get k
        have hwA : IntKind.i64.wrap (A : Int) = (A : Int) := IntWalk.i64_in _ (by omega)
        obtain ⟨idx, hidx⟩ : ∃ i : Nat, i = A % n3 := ⟨_, rfl⟩
        have hil : idx < n3 := by rw [hidx]; exact Nat.mod_lt _ (by omega)
        have hrem : (A : Int) % (n3 : Int) = (idx : Int) := by rw [hidx]; rfl
        have htm : (A : Int).tmod (n3 : Int) = (idx : Int) := by rw [hidx]; rfl
        have hii : (idx : Int) < (n3 : Int) := by omega
        obtain ⟨q1, f1⟩ := HBF1.out.at idx hil
        have yb := HBF1.out.byt.get idx
        have z1 := (HBW1.out.cell (p := ⟨ba, oa + k, none⟩) hba).trans hA
        have z2 := (HBW1.out.cell (p := ⟨bx, ox + k, none⟩) hbx).trans hcx
        obtain ⟨X1, hX1⟩ : ∃ x, x = xs.getD k 0 := ⟨_, rfl⟩
        obtain ⟨X2, hX2⟩ : ∃ x, x = bs.getD idx 0 := ⟨_, rfl⟩
        rw [← hX1] at z2 y3
        rw [← hX2] at q1 yb
        have hx := xor_byte yb.1 yb.2 y3.1 y3.2
        have HBS := Lib.hid (HBF1.out.set idx hil _ hx.1 hx.2)
        have hgq : w.heap.size ≤ gb := HGB.out
        have HBX := Lib.hid (HBW1.out.setCell (p := ⟨gb, idx, none⟩) hgq (.int .u8 (bits .xor .u8 X2 X1)))
        have z1d : wr.drew.cell? ⟨ba, oa + k, none⟩ = some (.int .u16 (A : Int)) := z1
        have z2d : wr.drew.cell? ⟨bx, ox + k, none⟩ = some (.int .u8 X1) := z2
        have q1d : wr.drew.cell? ⟨gb, idx, none⟩ = some (.int .u8 X2) := q1
        have f1d : wr.drew.frozen? ⟨gb, idx, none⟩ = false := f1
        have HEQ := Lib.hid (show wr.drew.setCell ⟨gb, idx, none⟩ (.int .u8 (bits .xor .u8 X2 X1)) = (wr.setCell ⟨gb, idx, none⟩ (.int .u8 (bits .xor .u8 X2 X1))).drew from rfl)
        clear hA hcx hidx hX1 hX2 z1 z2 q1 f1 hx hba hbx
        go_wp2
        go_still_tail 17, (by kernel_rfl)
        change wpList _ _ _ _ _ wr.drew
        generalize hw2 : wr.drew = w2 at *
        have HW2 := Lib.hid hw2
        clear hw2
        go_wp2
        go_roundg q
        case measure => omega
        case rel => exact ⟨k + 1, _, by omega, by go_num, by rw [HEQ.out]; exact HBS.out.grown (gdrew _), by rw [HEQ.out]; exact HBX.out.trans ((gbelow (gdrew _)).mono HBX.out.size)⟩
      · obtain rfl : k = n2 := by omega
        have hkk : ¬ (k : Int) < (k : Int) := by omega
        have KG := Lib.hid (cget_buf HBF1.out (by omega))
        have hM9' : bs.length ≤ 140737488355328 := by rw [HBF1.out.len]; omega
        have KQ := Lib.hid (fun w' => gget_any w' bs HBF1.out.byt hM9')
        have HST := Lib.hid (show ∀ w', wr.grownBy w' none → (convert 22 9 (.slice (some ⟨gb, 0, none⟩) n3 cb)).run Try.prog w' = .ok (.string (strOfNums bs)) w' from fun w' k => seq_string (HBF1.out.grown k).seq)
        obtain ⟨T, hT⟩ : ∃ T, T = strOfNums bs := ⟨_, rfl⟩
        rw [← hT] at KQ HST
        clear hT hM9'
        go_wp2_with fail
        refine KG.out.mono ?_
        clear KG
        rintro r w5 (⟨pv, y, t, rfl, hla, ho, hy, hg5⟩ | ⟨rfl, hno, hg5⟩)
        · obtain ⟨la, lc, rfl⟩ := own_shape ho
          have HO5 := Lib.hid ho
          have HG5 := Lib.hid hg5
          have HLA := Lib.hid hla
          have v5 := HST.out w5 hg5
          clear hg5 hla ho hy
          go_wp2_with fail
          refine (KQ.out w5).mono ?_
          rintro r w6 (⟨y', t', rfl, hla', hg6⟩ | ⟨rfl, hno, hg6⟩)
          · obtain ⟨e1, e2⟩ := claid_uniq HLA.out hla'
            subst e1; subst e2
            have v6 := seq_string (Seq.owned (HO5.out.grown hg6))
            have HG6 := Lib.hid (HBW1.out.trans ((gbelow (gtrans HG5.out hg6)).mono HBW1.out.size))
            obtain ⟨U, hU⟩ : ∃ U, U = strOfNums y := ⟨_, rfl⟩
            rw [← hU] at v6 ⊢
            clear hU hg6 hla'
            go_wp2
            go_ret
            exact ⟨by simp, HG6.out⟩
          · exact absurd HLA.out (hno _ _)
        · have HNO := Lib.hid hno
          have HG5 := Lib.hid hg5
          have v5 := HST.out w5 hg5
          clear hno hg5
          go_wp2_with fail
          refine (KQ.out w5).mono ?_
          rintro r w6 (⟨y', t', rfl, hla', hg6⟩ | ⟨rfl, hno, hg6⟩)
          · exact absurd hla' (HNO.out _ _)
          · have HG6 := Lib.hid (HBW1.out.trans ((gbelow (gtrans HG5.out hg6)).mono HBW1.out.size))
            clear hno hg6
            go_wp2
            go_ret
            exact ⟨by simp, HG6.out⟩

end Go.Proofs.Ytpgpilalhbdidab
