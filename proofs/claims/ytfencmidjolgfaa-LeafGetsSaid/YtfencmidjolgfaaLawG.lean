/-
  Layer 4: the walk of LeafGets. Own work.
-/
import Derived.Test.YtfencmidjolgfaaLawL
import Derived.Test.YtfencmidjolgfaaLawB
import Derived.Deep.LoopGhost
import Derived.Deep.QuietTactic
import Derived.BigQuiet
import Derived.StillTailTactics
namespace Go.Proofs.Ytfencmidjolgfaa
open Go.RowKit

/-- What Get tells of a buffer. -/
theorem get_buf {w : World} {q N c : Nat} {bs : List Int} (h : Buf w q N c bs) (hl : N ≤ 140737488355328) :
    Calls Try.prog 25 #[.slice (some ⟨q, 0, none⟩) N c] w fun r w' => GetR bs w w' r :=
  get_any w w.heap.size _ N c bs h.seq (Nat.le_refl _) h.byt (by rw [h.len]; exact hl)

theorem put_bad {w : World} {B : Nat} {ao : Option Addr} {n c : Nat} {l : List En} {size : Int} (h : Ents B w (.slice ao n c) l) (hB : B ≤ w.heap.size) (hr : ¬ (RightP l size ∧ (fillL leafY l : Int) ≤ size)) :
    Calls Try.prog 17 #[.slice ao n c, .int .i64 size] w fun r w' => ∃ E : Int, r = .returned (.tuple #[.slice none 0 0, .int .i64 E]) ∧ (E = 1 ∨ E = 21) ∧ w.grownBy w' none := by
  by_cases h1 : RightP l size
  · exact (put_full w B ao n c l size h hB h1 (by
      rcases Int.lt_or_le size (fillL leafY l : Int) with h2 | h2
      · exact h2
      · exact absurd ⟨h1, h2⟩ hr)).mono fun r w' ⟨e, hg⟩ => ⟨21, e, .inr rfl, hg⟩
  · exact (put_arg w B ao n c l size h hB h1).mono fun r w' ⟨e, hg⟩ => ⟨1, e, .inl rfl, hg⟩
theorem conv_buf {bs : List Int} (hb : Byt bs) (hl : bs.length ≤ 140737488355328) : ∃ (cf : World → Nat) (rf : World → Array Value) (mf : World → Nat × Nat),
    (∀ W, (convert 9 29 (.string (strOfNums bs))).run Try.prog W = .ok (.slice (some ⟨W.heap.size, 0, none⟩) bs.length (cf W)) (W.drew.alloc (.cells (rf W) 5 (mf W)))) ∧
    ∀ W w q, w.heap[q]? = some (.cells (rf W) 5 (mf W)) → Buf w q bs.length (cf W) bs := by
  have hsz : (strOfNums bs).size = bs.length := strOfNums_size bs
  refine ⟨fun W => grownCap W bs.length 0 5, fun W => bytesRow (strOfNums bs) (grownCap W bs.length 0 5), fun W => ((bytesRow (strOfNums bs) (grownCap W bs.length 0 5)).size, (bytesRow (strOfNums bs) (grownCap W bs.length 0 5)).size + 1), fun W => ?_, fun W w q hq => ?_⟩
  · have := run_bytes_of_string W 9 29 5 (strOfNums bs) Try.underlying9 Try.underlying29 Try.underlying5
    rw [hsz] at this
    exact this
  · have hat : ∀ j, j < bs.length → (bytesRow (strOfNums bs) (grownCap W bs.length 0 5))[j]? = some (.int .u8 (bs.getD j 0)) := fun j hj => by
      have hj2 : j < (strOfNums bs).data.size := by rw [← strOfNums_size bs] at hj; exact hj
      rw [bytesRow_at _ _ _ hj2]
      have := hb (bs[j]) (List.getElem_mem hj)
      simp [strOfNums, List.getD_eq_getElem?_getD, hj]
      omega
    refine ⟨⟨_, _, hq, hat, fun j hj => ?_⟩, hb, rfl, grownCap_ge _ _ _ _, grownCap_le_maxLen _ _ _ _ (by unfold maxLen; omega)⟩
    have hjs := (Array.getElem?_eq_some_iff.1 (hat j hj)).1
    simp [World.frozen?, hq]
    omega

set_option maxRecDepth 1000000 in
set_option maxHeartbeats 8000000 in
theorem gets_walk
    (w : World) (ao : Option Addr) (n c : Nat) (l : List En) (size : Int) (a2 : Option Addr) (n2 c2 : Nat) (zs : List Int) (a3 : Option Addr) (n3 c3 : Nat) (xs : List Int) (h : Raws w (.slice ao n c) l) (h0 : -9223372036854775808 ≤ size) (h9 : size ≤ 9223372036854775807)
    (h2 : Seq16 w (.slice a2 n2 c2) zs) (h3 : Seq w.heap.size w (.slice a3 n3 c3) xs) (b3 : Byt xs) (hl3 : xs.length ≤ 140737488355328) (hf : FewP l) (hn2 : n2 ≤ 20) (hn23 : n2 ≤ n3) :
    Calls Try.prog 4 #[.slice ao n c, .int .i64 size, .slice a2 n2 c2, .slice a3 n3 c3] w fun r w' => r = .returned (.bool true) ∧ Below w.heap.size w w' := by
  have e2 : n2 = zs.length := by obtain ⟨_, _, hv, _⟩ := h2; injection hv
  have e3 : n3 = xs.length := by obtain ⟨_, _, hv, _⟩ := h3; injection hv
  have hn3 : n3 ≤ 140737488355328 := by omega
  have H := Lib.hid h
  have HF := Lib.hid hf
  have H2 := Lib.hid h2
  have H3 := Lib.hid h3
  have B3 := Lib.hid b3
  have E3 := Lib.hid e3
  have hd1 : decide ((20 : Int) < (n2 : Int)) = false := by simp; omega
  have hd2 : decide (20 < n2) = false := by simp; omega
  have hd3 : decide ((n3 : Int) < (n2 : Int)) = false := by simp; omega
  have hd4 : decide (n3 < n2) = false := by simp; omega
  clear h hf h2 h3 b3 e2 e3
  go_enter Try.func4, Try.ntmps4
  go_wp2_with (first
    | (go_at_call 14; refine (awake4_any _).mono ?_; rintro r wA ⟨rfl, hgA⟩; have HGA := Lib.hid hgA; clear hgA)
    | (go_at_call 15; refine (few_yes H.out (gbelow HGA.out) HF.out).mono ?_; rintro r w1 ⟨rfl, rfl⟩)
    | (go_at_call 16; refine (ents_s H.out (gbelow HGA.out) HF.out).mono ?_; rintro r w1 ⟨la, m, lc, rv, X, rfl, hm, hm30, hfi, hen, hrr, hg1⟩; obtain ⟨ra, rc, rfl⟩ := hrr.shape; have HM := Lib.hid hm; have HFI := Lib.hid hfi; have HEN := Lib.hid hen; have HG1 := Lib.hid (gtrans HGA.out hg1); clear hm hfi hen hrr hg1))
  by_cases hr : RightP X size ∧ (fillL leafY X : Int) ≤ size
  · obtain ⟨hr, hfl⟩ := hr
    obtain ⟨S, rfl⟩ : ∃ S : Nat, size = (S : Int) := ⟨size.toNat, by have := hr.1; omega⟩
    have hS9 : S ≤ 4096 := by have := hr.2.1; omega
    have HR := Lib.hid hr
    have HLE := Lib.hid (show fillL leafY X ≤ S by omega)
    have HOK := Lib.hid (fun x hx => (HFI.out.ok x hx).1)
    clear hr hfl
    go_wp2_with (go_at_call 17; have Kc := put_ok w1 w1.heap.size la m lc X S HEN.out (Nat.le_refl _) HR.out HLE.out; refine Kc.mono ?_; clear Kc; rintro r w2 ⟨gb, rfl, hgb, hp, hg2⟩; have hbf : Buf w2 gb S S (pageB leafY X S) := ⟨⟨_, _, hp, (fun j hj => by rw [List.getElem?_toArray, List.getElem?_map, List.getD_eq_getElem?_getD, List.getElem?_eq_getElem (by rw [pageB_len (Y := leafY) HLE.out]; exact hj)]; rfl), fun j hj => by simp [World.frozen?, hp]⟩, pageB_byt HOK.out S, pageB_len (Y := leafY) HLE.out, Nat.le_refl _, by unfold maxLen; omega⟩; have HBF := Lib.hid hbf; have HBW := Lib.hid (gbelow (gtrans HG1.out hg2)); have HGB := Lib.hid (Nat.le_trans HG1.out.size hgb); clear hbf hp hg2 hgb)
    obtain ⟨bs0, hbs0⟩ : ∃ b, b = pageB leafY X S := ⟨_, rfl⟩
    rw [← hbs0] at HBF
    have HBS0 := Lib.hid hbs0
    clear hbs0
    have hS5 : 512 ≤ S := by have := HR.out.1; omega
    go_loopg [15] n2 (fun q i wr => ∃ (k : Nat) (bs : List Int), k + q = n2 ∧ i = .int .i64 (k : Int) ∧ Buf wr gb S S bs ∧ Hid (k = 0 → bs = bs0) ∧ Below w.heap.size w wr)
    case atStart => exact ⟨0, bs0, by omega, rfl, HBF.out, Lib.hid (fun _ => rfl), HBW.out⟩
    case round =>
      obtain ⟨k, bs, hkq, rfl, hbf, HK0, hbw⟩ := hrel
      have HBF1 := Lib.hid hbf
      have HBW1 := Lib.hid hbw
      clear hbf hbw HBF HBW
      by_cases hlt : k < n2
      · by_cases hM : 0 < S
        · obtain ⟨q, rfl⟩ : ∃ q, gk = q + 1 := ⟨gk - 1, by omega⟩
          have hki : (k : Int) < (n2 : Int) := by omega
          have hk3 : (k : Int) < (n3 : Int) := by omega
          have hMi : (0 : Int) < (S : Int) := by omega
          have hM0 : ((S : Int) == 0) = false := by simp; omega
          have hM1 : ¬ (S : Int) = 0 := by omega
          have hMn : ¬ S = 0 := by omega
          obtain ⟨ba, oa, rfl, hba, A, hA, hA2⟩ := H2.out.at k (by omega)
          obtain ⟨bx, ox, rfl, hbx, hcx⟩ := (show ∃ b o, a3 = some ⟨b, o, none⟩ ∧ b < w.heap.size ∧ w.cell? ⟨b, o + k, none⟩ = some (.int .u8 (xs.getD k 0)) from by
            obtain ⟨ao', c', hv, _, _, _, h4⟩ := H3.out
            have e := E3.out
            obtain ⟨b, o, ha, hb, hc⟩ := h4 (by rintro rfl; simp at e; omega)
            cases hv
            exact ⟨b, o, ha, hb, hc k (by omega)⟩)
          have y3 := B3.out.get k
          have hwA : IntKind.i64.wrap (A : Int) = (A : Int) := IntWalk.i64_in _ (by omega)
          obtain ⟨idx, hidx⟩ : ∃ i : Nat, i = A % S := ⟨_, rfl⟩
          have hil : idx < S := by rw [hidx]; exact Nat.mod_lt _ (by omega)
          have hrem : (A : Int) % (S : Int) = (idx : Int) := by rw [hidx]; rfl
          have htm : (A : Int).tmod (S : Int) = (idx : Int) := by rw [hidx]; rfl
          have hii : (idx : Int) < (S : Int) := by omega
          obtain ⟨q1, f1⟩ := HBF1.out.at idx hil
          have yb := HBF1.out.byt.get idx
          have z1 := (HBW1.out.cell (p := ⟨ba, oa + k, none⟩) hba).trans hA
          have z2 := (HBW1.out.cell (p := ⟨bx, ox + k, none⟩) hbx).trans hcx
          obtain ⟨X1, hX1⟩ : ∃ x, x = xs.getD k 0 := ⟨_, rfl⟩
          obtain ⟨X2, hX2⟩ : ∃ x, x = bs.getD idx 0 := ⟨_, rfl⟩
          rw [← hX1] at z2 y3
          rw [← hX2] at q1 yb
          have hx := xor_byte yb.1 yb.2 y3.1 y3.2
          have HBS := Lib.hid (HBF1.out.set idx hil _ hx.1 hx.2)
          have hgq : w.heap.size ≤ gb := HGB.out
          have HBX := Lib.hid (HBW1.out.setCell (p := ⟨gb, idx, none⟩) hgq (.int .u8 (bits .xor .u8 X2 X1)))
          have z1d : wr.drew.cell? ⟨ba, oa + k, none⟩ = some (.int .u16 (A : Int)) := z1
          have z2d : wr.drew.cell? ⟨bx, ox + k, none⟩ = some (.int .u8 X1) := z2
          have q1d : wr.drew.cell? ⟨gb, idx, none⟩ = some (.int .u8 X2) := q1
          have f1d : wr.drew.frozen? ⟨gb, idx, none⟩ = false := f1
          have HEQ := Lib.hid (show wr.drew.setCell ⟨gb, idx, none⟩ (.int .u8 (bits .xor .u8 X2 X1)) = (wr.setCell ⟨gb, idx, none⟩ (.int .u8 (bits .xor .u8 X2 X1))).drew from rfl)
          clear hA hcx hidx hX1 hX2 z1 z2 q1 f1 hx hba hbx
          go_wp2
          go_still_tail 17, (by kernel_rfl)
          change wpList _ _ _ _ _ wr.drew
          generalize hw2 : wr.drew = w2 at *
          have HW2 := Lib.hid hw2
          clear hw2
          go_wp2
          go_roundg q
          case measure => omega
          case rel => exact ⟨k + 1, _, by omega, by go_num, by rw [HEQ.out]; exact HBS.out.grown (gdrew _), Lib.hid (fun e => by omega), by rw [HEQ.out]; exact HBX.out.trans ((gbelow (gdrew _)).mono HBX.out.size)⟩
        · exfalso
          omega
      · obtain rfl : k = n2 := by omega
        have hkk : ¬ (k : Int) < (k : Int) := by omega
        have hN := HBF1.out.len
        have KG := Lib.hid (get_buf HBF1.out (by omega))
        go_wp2_with fail
        refine KG.out.mono ?_
        clear KG
        rintro r w5 (⟨lv, es, rfl, hla, hr5, heo, hel, hg5⟩ | ⟨rfl, hno, hg5⟩)
        · obtain ⟨ya, yc, rfl⟩ := own_shape heo.row
          have HE5 := Lib.hid (heo.ents (by omega))
          have hM4 : S ≤ 4096 := by have := hr5.2.1; omega
          have HR5 := Lib.hid (show RightP (xsOf es) ((S : Nat) : Int) by rw [← hN]; exact hr5)
          have HL5 := Lib.hid (show fillL leafY (xsOf es) ≤ S by rw [← hN]; exact hla.fill)
          have HPG := Lib.hid (show pageB leafY (xsOf es) S = bs by rw [← hN]; exact hla.page.symm)
          have hfl : ((fillL leafY (xsOf es) : Nat) : Int) ≤ ((S : Nat) : Int) := by have := HL5.out; omega
          have HBF5 := Lib.hid (HBF1.out.grown hg5)
          have HBW5 := Lib.hid (HBW1.out.trans ((gbelow hg5).mono HBW1.out.size))
          obtain ⟨F, hF⟩ : ∃ F, F = fillL leafY (xsOf es) := ⟨_, rfl⟩
          rw [← hF] at hfl
          have HFF := Lib.hid hF
          clear hla hr5 heo hg5 hF HBF1 HBW1
          go_wp2_with (first
            | (go_at_call 17; have Kc := put_ok w5 w5.heap.size ya es.length yc (xsOf es) S HE5.out (Nat.le_refl _) HR5.out HL5.out; refine Kc.mono ?_; clear Kc; rintro r w6 ⟨g2, rfl, hg2b, hp, hg6⟩; have hq1 := seq_string (seq_page (S := S) hp (pageB_len (Y := leafY) HL5.out) (by unfold maxLen; omega)); rw [HPG.out] at hq1; have hq2 := seq_string (HBF5.out.grown hg6).seq; have HE6 := Lib.hid (HE5.out.grown hg6 (Nat.le_refl _)); have HW56 := Lib.hid hg6.size; have HBW6 := Lib.hid (HBW5.out.trans ((gbelow hg6).mono HBW5.out.size)); clear hp hg6 hg2b)
            | (go_at_call 19; refine (right_yes HE6.out HW56.out HR5.out).mono ?_; rintro r w7 ⟨rfl, hg7⟩; have HE7 := Lib.hid (HE6.out.grown hg7 HW56.out); have HW57 := Lib.hid (Nat.le_trans HW56.out hg7.size); have HBW7 := Lib.hid (HBW6.out.trans ((gbelow hg7).mono HBW6.out.size)); clear hg7)
            | (go_at_call 21; have Kc := fill_any w7 w5.heap.size ya es.length yc (xsOf es) HE7.out HW57.out; rw [← HFF.out] at Kc; refine Kc.mono ?_; clear Kc; rintro r w8 ⟨rfl, hg8⟩; have HBW8 := Lib.hid (HBW7.out.trans ((gbelow hg8).mono HBW7.out.size)); clear hg8))
          go_ret
          exact ⟨by first | (simp [hfl]; done) | (simp; omega), HBW8.out⟩
        · have HBW5 := Lib.hid (HBW1.out.trans ((gbelow hg5).mono HBW1.out.size))
          have hpos : 0 < k := by
            rcases Nat.eq_zero_or_pos k with e | e
            · exfalso
              have hb := HK0.out e
              have hla := laid_page HOK.out HR.out HLE.out
              rw [hb, HBS0.out] at hno
              refine hno X hla ?_
              rw [pageB_len (Y := leafY) HLE.out]
              exact HR.out
            · exact e
          have hpi : decide ((0 : Int) < (k : Int)) = true := by simp; omega
          have hpn : decide (0 < k) = true := by simp; omega
          clear hno hg5 HBF1 HBW1
          go_wp2
          go_ret
          exact ⟨rfl, HBW5.out⟩
  · have HBAD := Lib.hid hr
    have HL3 := Lib.hid hl3
    obtain ⟨cf, rf, mf, conv, cbuf⟩ := conv_buf B3.out hl3
    have CB := Lib.hid cbuf
    clear hr cbuf hl3
    go_wp2_with (go_at_call 17; have Kc := put_bad HEN.out (Nat.le_refl _) HBAD.out; refine Kc.mono ?_; clear Kc; rintro r w2 ⟨E, rfl, hE, hg2⟩; have hE1 : (E != 0) = true := (by rcases hE with rfl | rfl <;> rfl); have hE2 : (E == 0) = false := (by rcases hE with rfl | rfl <;> rfl); have HG2 := Lib.hid (gtrans HG1.out hg2); have hcv := seq_string (H3.out.below (w' := w2) (fun i hi => HG2.out.block i hi (by simp))); clear hE hg2)
    have hga : w2.grownBy ((w2.alloc (.cells (rf w2) 5 (mf w2))).drew) none := gtrans (gdrew w2) (World.grownBy_alloc _ _ _)
    have HBF := Lib.hid (CB.out w2 ((w2.alloc (.cells (rf w2) 5 (mf w2))).drew) w2.heap.size (heap_alloc_new w2.drew _))
    have HBW := Lib.hid (gbelow (gtrans HG2.out hga))
    have HGB := Lib.hid HG2.out.size
    obtain ⟨M, hM⟩ : ∃ M, M = xs.length := ⟨_, rfl⟩
    have hM9 : M ≤ 140737488355328 := by rw [hM]; exact HL3.out
    rw [← hM] at HBF ⊢
    have HMX := Lib.hid hM
    clear hM hga hcv conv
    generalize (w2.alloc (.cells (rf w2) 5 (mf w2))).drew = w3 at *
    generalize w2.heap.size = gb at *
    generalize cf w2 = cb at *
    obtain ⟨bs0, hbs0⟩ : ∃ b, b = xs := ⟨_, rfl⟩
    rw [← hbs0] at HBF
    clear hbs0
    go_loopg [15] n2 (fun q i wr => ∃ (k : Nat) (bs : List Int), k + q = n2 ∧ i = .int .i64 (k : Int) ∧ Buf wr gb M cb bs ∧ Hid (k = 0 → bs = bs0) ∧ Below w.heap.size w wr)
    case atStart => exact ⟨0, bs0, by omega, rfl, HBF.out, Lib.hid (fun _ => rfl), HBW.out⟩
    case round =>
      obtain ⟨k, bs, hkq, rfl, hbf, HK0, hbw⟩ := hrel
      have HBF1 := Lib.hid hbf
      have HBW1 := Lib.hid hbw
      clear hbf hbw HBF HBW
      by_cases hlt : k < n2
      · by_cases hM : 0 < M
        · obtain ⟨q, rfl⟩ : ∃ q, gk = q + 1 := ⟨gk - 1, by omega⟩
          have hki : (k : Int) < (n2 : Int) := by omega
          have hk3 : (k : Int) < (n3 : Int) := by omega
          have hMi : (0 : Int) < (M : Int) := by omega
          have hM0 : ((M : Int) == 0) = false := by simp; omega
          have hM1 : ¬ (M : Int) = 0 := by omega
          have hMn : ¬ M = 0 := by omega
          obtain ⟨ba, oa, rfl, hba, A, hA, hA2⟩ := H2.out.at k (by omega)
          obtain ⟨bx, ox, rfl, hbx, hcx⟩ := (show ∃ b o, a3 = some ⟨b, o, none⟩ ∧ b < w.heap.size ∧ w.cell? ⟨b, o + k, none⟩ = some (.int .u8 (xs.getD k 0)) from by
            obtain ⟨ao', c', hv, _, _, _, h4⟩ := H3.out
            have e := E3.out
            obtain ⟨b, o, ha, hb, hc⟩ := h4 (by rintro rfl; simp at e; omega)
            cases hv
            exact ⟨b, o, ha, hb, hc k (by omega)⟩)
          have y3 := B3.out.get k
          have hwA : IntKind.i64.wrap (A : Int) = (A : Int) := IntWalk.i64_in _ (by omega)
          obtain ⟨idx, hidx⟩ : ∃ i : Nat, i = A % M := ⟨_, rfl⟩
          have hil : idx < M := by rw [hidx]; exact Nat.mod_lt _ (by omega)
          have hrem : (A : Int) % (M : Int) = (idx : Int) := by rw [hidx]; rfl
          have htm : (A : Int).tmod (M : Int) = (idx : Int) := by rw [hidx]; rfl
          have hii : (idx : Int) < (M : Int) := by omega
          obtain ⟨q1, f1⟩ := HBF1.out.at idx hil
          have yb := HBF1.out.byt.get idx
          have z1 := (HBW1.out.cell (p := ⟨ba, oa + k, none⟩) hba).trans hA
          have z2 := (HBW1.out.cell (p := ⟨bx, ox + k, none⟩) hbx).trans hcx
          obtain ⟨X1, hX1⟩ : ∃ x, x = xs.getD k 0 := ⟨_, rfl⟩
          obtain ⟨X2, hX2⟩ : ∃ x, x = bs.getD idx 0 := ⟨_, rfl⟩
          rw [← hX1] at z2 y3
          rw [← hX2] at q1 yb
          have hx := xor_byte yb.1 yb.2 y3.1 y3.2
          have HBS := Lib.hid (HBF1.out.set idx hil _ hx.1 hx.2)
          have hgq : w.heap.size ≤ gb := HGB.out
          have HBX := Lib.hid (HBW1.out.setCell (p := ⟨gb, idx, none⟩) hgq (.int .u8 (bits .xor .u8 X2 X1)))
          have z1d : wr.drew.cell? ⟨ba, oa + k, none⟩ = some (.int .u16 (A : Int)) := z1
          have z2d : wr.drew.cell? ⟨bx, ox + k, none⟩ = some (.int .u8 X1) := z2
          have q1d : wr.drew.cell? ⟨gb, idx, none⟩ = some (.int .u8 X2) := q1
          have f1d : wr.drew.frozen? ⟨gb, idx, none⟩ = false := f1
          have HEQ := Lib.hid (show wr.drew.setCell ⟨gb, idx, none⟩ (.int .u8 (bits .xor .u8 X2 X1)) = (wr.setCell ⟨gb, idx, none⟩ (.int .u8 (bits .xor .u8 X2 X1))).drew from rfl)
          clear hA hcx hidx hX1 hX2 z1 z2 q1 f1 hx hba hbx
          go_wp2
          go_still_tail 17, (by kernel_rfl)
          change wpList _ _ _ _ _ wr.drew
          generalize hw2 : wr.drew = w2 at *
          have HW2 := Lib.hid hw2
          clear hw2
          go_wp2
          go_roundg q
          case measure => omega
          case rel => exact ⟨k + 1, _, by omega, by go_num, by rw [HEQ.out]; exact HBS.out.grown (gdrew _), Lib.hid (fun e => by omega), by rw [HEQ.out]; exact HBX.out.trans ((gbelow (gdrew _)).mono HBX.out.size)⟩
        · obtain rfl : M = 0 := by omega
          have hN := HBF1.out.len
          have KG := Lib.hid (get_buf HBF1.out (by omega))
          go_wp2_with fail
          refine KG.out.mono ?_
          clear KG
          rintro r w5 (⟨lv, es, rfl, hla, hr5, heo, hel, hg5⟩ | ⟨rfl, hno, hg5⟩)
          · obtain ⟨ya, yc, rfl⟩ := own_shape heo.row
            have HE5 := Lib.hid (heo.ents (by omega))
            have hM4 : 0 ≤ 4096 := by have := hr5.2.1; omega
            have HR5 := Lib.hid (show RightP (xsOf es) ((0 : Nat) : Int) by rw [← hN]; exact hr5)
            have HL5 := Lib.hid (show fillL leafY (xsOf es) ≤ 0 by rw [← hN]; exact hla.fill)
            have HPG := Lib.hid (show pageB leafY (xsOf es) 0 = bs by rw [← hN]; exact hla.page.symm)
            have hfl : ((fillL leafY (xsOf es) : Nat) : Int) ≤ ((0 : Nat) : Int) := by have := HL5.out; omega
            have HBF5 := Lib.hid (HBF1.out.grown hg5)
            have HBW5 := Lib.hid (HBW1.out.trans ((gbelow hg5).mono HBW1.out.size))
            obtain ⟨F, hF⟩ : ∃ F, F = fillL leafY (xsOf es) := ⟨_, rfl⟩
            rw [← hF] at hfl
            have HFF := Lib.hid hF
            clear hla hr5 heo hg5 hF HBF1 HBW1
            go_wp2_with (first
              | (go_at_call 17; have Kc := put_ok w5 w5.heap.size ya es.length yc (xsOf es) 0 HE5.out (Nat.le_refl _) HR5.out HL5.out; refine Kc.mono ?_; clear Kc; rintro r w6 ⟨g2, rfl, hg2b, hp, hg6⟩; have hq1 := seq_string (seq_page (S := 0) hp (pageB_len (Y := leafY) HL5.out) (by unfold maxLen; omega)); rw [HPG.out] at hq1; have hq2 := seq_string (HBF5.out.grown hg6).seq; have HE6 := Lib.hid (HE5.out.grown hg6 (Nat.le_refl _)); have HW56 := Lib.hid hg6.size; have HBW6 := Lib.hid (HBW5.out.trans ((gbelow hg6).mono HBW5.out.size)); clear hp hg6 hg2b)
              | (go_at_call 19; refine (right_yes HE6.out HW56.out HR5.out).mono ?_; rintro r w7 ⟨rfl, hg7⟩; have HE7 := Lib.hid (HE6.out.grown hg7 HW56.out); have HW57 := Lib.hid (Nat.le_trans HW56.out hg7.size); have HBW7 := Lib.hid (HBW6.out.trans ((gbelow hg7).mono HBW6.out.size)); clear hg7)
              | (go_at_call 21; have Kc := fill_any w7 w5.heap.size ya es.length yc (xsOf es) HE7.out HW57.out; rw [← HFF.out] at Kc; refine Kc.mono ?_; clear Kc; rintro r w8 ⟨rfl, hg8⟩; have HBW8 := Lib.hid (HBW7.out.trans ((gbelow hg8).mono HBW7.out.size)); clear hg8))
            go_ret
            exact ⟨by first | (simp [hfl]; done) | (simp; omega), HBW8.out⟩
          · have HBW5 := Lib.hid (HBW1.out.trans ((gbelow hg5).mono HBW1.out.size))
            clear hno hg5 HBF1 HBW1
            go_wp2
            go_ret
            exact ⟨rfl, HBW5.out⟩
      · obtain rfl : k = n2 := by omega
        have hkk : ¬ (k : Int) < (k : Int) := by omega
        have hN := HBF1.out.len
        have KG := Lib.hid (get_buf HBF1.out (by omega))
        go_wp2_with fail
        refine KG.out.mono ?_
        clear KG
        rintro r w5 (⟨lv, es, rfl, hla, hr5, heo, hel, hg5⟩ | ⟨rfl, hno, hg5⟩)
        · obtain ⟨ya, yc, rfl⟩ := own_shape heo.row
          have HE5 := Lib.hid (heo.ents (by omega))
          have hM4 : M ≤ 4096 := by have := hr5.2.1; omega
          have HR5 := Lib.hid (show RightP (xsOf es) ((M : Nat) : Int) by rw [← hN]; exact hr5)
          have HL5 := Lib.hid (show fillL leafY (xsOf es) ≤ M by rw [← hN]; exact hla.fill)
          have HPG := Lib.hid (show pageB leafY (xsOf es) M = bs by rw [← hN]; exact hla.page.symm)
          have hfl : ((fillL leafY (xsOf es) : Nat) : Int) ≤ ((M : Nat) : Int) := by have := HL5.out; omega
          have HBF5 := Lib.hid (HBF1.out.grown hg5)
          have HBW5 := Lib.hid (HBW1.out.trans ((gbelow hg5).mono HBW1.out.size))
          obtain ⟨F, hF⟩ : ∃ F, F = fillL leafY (xsOf es) := ⟨_, rfl⟩
          rw [← hF] at hfl
          have HFF := Lib.hid hF
          clear hla hr5 heo hg5 hF HBF1 HBW1
          go_wp2_with (first
            | (go_at_call 17; have Kc := put_ok w5 w5.heap.size ya es.length yc (xsOf es) M HE5.out (Nat.le_refl _) HR5.out HL5.out; refine Kc.mono ?_; clear Kc; rintro r w6 ⟨g2, rfl, hg2b, hp, hg6⟩; have hq1 := seq_string (seq_page (S := M) hp (pageB_len (Y := leafY) HL5.out) (by unfold maxLen; omega)); rw [HPG.out] at hq1; have hq2 := seq_string (HBF5.out.grown hg6).seq; have HE6 := Lib.hid (HE5.out.grown hg6 (Nat.le_refl _)); have HW56 := Lib.hid hg6.size; have HBW6 := Lib.hid (HBW5.out.trans ((gbelow hg6).mono HBW5.out.size)); clear hp hg6 hg2b)
            | (go_at_call 19; refine (right_yes HE6.out HW56.out HR5.out).mono ?_; rintro r w7 ⟨rfl, hg7⟩; have HE7 := Lib.hid (HE6.out.grown hg7 HW56.out); have HW57 := Lib.hid (Nat.le_trans HW56.out hg7.size); have HBW7 := Lib.hid (HBW6.out.trans ((gbelow hg7).mono HBW6.out.size)); clear hg7)
            | (go_at_call 21; have Kc := fill_any w7 w5.heap.size ya es.length yc (xsOf es) HE7.out HW57.out; rw [← HFF.out] at Kc; refine Kc.mono ?_; clear Kc; rintro r w8 ⟨rfl, hg8⟩; have HBW8 := Lib.hid (HBW7.out.trans ((gbelow hg8).mono HBW7.out.size)); clear hg8))
          go_ret
          exact ⟨by first | (simp [hfl]; done) | (simp; omega), HBW8.out⟩
        · have HBW5 := Lib.hid (HBW1.out.trans ((gbelow hg5).mono HBW1.out.size))
          clear hno hg5 HBF1 HBW1
          go_wp2
          go_ret
          exact ⟨rfl, HBW5.out⟩

end Go.Proofs.Ytfencmidjolgfaa
