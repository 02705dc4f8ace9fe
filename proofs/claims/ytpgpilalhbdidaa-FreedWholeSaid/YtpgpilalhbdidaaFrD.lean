/-
  Layer 10: the contract of freed's Put. Own work.
-/
import Derived.Test.YtpgpilalhbdidaaFrC
import Derived.Test.YtpgpilalhbdidaaOctQ
import Derived.Test.YtpgpilalhbdidaaLayO
import Derived.OwnWalk
namespace Go.Proofs.Ytpgpilalhbdidaa
open Go.RowKit

theorem fw_keeps {g q : Nat} {w w' : World} {o : Obj} (h : Fw g w w') (hq : w.heap[q]? = some o) (hg : q ≠ g) (hr : rowAt w g ≠ some q) : w'.heap[q]? = some o ∧ rowAt w' g ≠ some q :=
  ⟨(h.block q (lt_of_block hq) hg hr).1.trans hq, (h.block q (lt_of_block hq) hg hr).2⟩
theorem HW.row {w0 w : World} {g : Nat} {hd : List Int} (h : HW w0 g hd w) (o : Obj) : rowAt (w.alloc o) g ≠ some w.heap.size := by
  obtain ⟨v, hown, hv⟩ := h.wr
  have h2 : (w.alloc o).heap[g]? = some (.cells #[v] 114 (0, 0)) := (Below.heap_alloc w o g (lt_of_block hv)).trans hv
  rw [rowAt_of h2]
  intro e
  have := (hown.lt _ e).2
  omega
theorem HW.grown' {w0 w w' : World} {g : Nat} {hd : List Int} (h : HW w0 g hd w) (k : w.grownBy w' none) : HW w0 g hd w' := ⟨h.wr.kept k, h.bel.trans ((gbelow k).mono h.bel.size), h.g0⟩
/-- A number more, beside a block that is kept. -/
theorem HW.numq {w0 w : World} {g : Nat} {hd : List Int} (h : HW w0 g hd w) (X : Int) (n : Nat) (m : Int) (hm : m = (n : Int)) (h0 : 0 ≤ X) (h1 : X ≤ 18446744073709551615) (hn1 : 1 ≤ n) (hn8 : n ≤ 8) (hl : hd.length ≤ 1000000) (q : Nat) (o : Obj) (hq : w.heap[q]? = some o) (hqg : q ≠ g) (hr : rowAt w g ≠ some q) :
    Calls Try.prog 42 #[.pointer (some ⟨g, 0, none⟩), .int .u64 X, .int .i64 m] w fun r w' => r = .returned (.tuple #[]) ∧ HW w0 g (hd ++ numB X n n) w' ∧ w'.heap[q]? = some o ∧ rowAt w' g ≠ some q := by
  subst hm
  refine (wnum_in w g n X hd h.wr h0 h1 hn1 hn8 (by omega)).mono fun r w' ⟨e, hw, hf⟩ => ?_
  obtain ⟨k1, k2⟩ := fw_keeps hf hq hqg hr
  exact ⟨e, ⟨hw, h.bel.trans ((hf.below h.wr).mono h.g0), h.g0⟩, k1, k2⟩
theorem HW.raw {w0 w : World} {g B : Nat} {hd xs : List Int} {v : Value} (h : HW w0 g hd w) (hs : Seq B w v xs) (hl : hd.length + xs.length ≤ 1000000) :
    Calls Try.prog 43 #[.pointer (some ⟨g, 0, none⟩), v] w fun r w' => r = .returned (.tuple #[]) ∧ HW w0 g (hd ++ xs) w' :=
  (wraw_any w g B hd xs v h.wr hs (by omega)).mono fun r w' ⟨e, hw, hf⟩ => ⟨e, hw, h.bel.trans ((hf.below h.wr).mono h.g0), h.g0⟩

/-- What Put tells of pairs that may not be put. -/
def PutNo (w w' : World) (r : Ending) : Prop := r = .returned (.tuple #[.slice none 0 0, .int .i64 1]) ∧ w.grownBy w' none
/-- What it tells of others. -/
def PutYes (w : World) (b : List Int) (w' : World) (r : Ending) : Prop := ∃ v, r = .returned (.tuple #[v, .int .i64 0]) ∧ OwnB w.heap.size w' v b ∧ w.grownBy w' none

set_option maxHeartbeats 1000000 in
theorem zput_no (w : World) (R : Nat → Prop) (ao : Option Addr) (n c : Nat) (ps : List Pr) (x S : Int) (hs : PrSq R w (.slice ao n c) ps) (hr : ¬ RightF ps S) :
    Calls Try.prog 24 #[.slice ao n c, .int .u32 x, .int .i64 S] w fun r w' => PutNo w w' r := by
  have hn := hs.len.1
  by_cases h1 : 512 ≤ S ∧ S ≤ 4096
  · have hb := room_bd h1.1 h1.2
    obtain ⟨M, hM⟩ : ∃ M, M = roomI S := ⟨_, rfl⟩
    by_cases h2 : (n : Int) ≤ M
    · have h3 : ¬ M < (n : Int) := by omega
      have HF := Lib.hid (riseB_no.2 (fun h => hr ⟨h1.1, h1.2, by rw [← hn, ← hM]; exact h2, h⟩))
      rw [← hM] at hb
      have HM := Lib.hid hM
      have HS := Lib.hid hs
      obtain ⟨h1, h2'⟩ := h1
      clear hr hs hn hM
      go_enter Try.func24, Try.ntmps24
      go_wp2_with (first
        | (go_at_call 31; refine (lsize_yes _ _ h1 h2').mono ?_; rintro r w1 ⟨rfl, rfl⟩)
        | (go_at_call 33; refine (zroom_in _ _ h1 h2').mono ?_; rintro r w1 ⟨rfl, rfl⟩; rw [← HM.out])
        | (go_at_call 40; refine (rise_any _ R ao n c ps HS.out).mono ?_; rw [HF.out]; rintro r w1 ⟨rfl, hg⟩; have HG := Lib.hid hg; clear hg))
      go_ret2
      exact ⟨rfl, HG.out⟩
    · have h3 : M < (n : Int) := by omega
      rw [← hM] at hb
      have HM := Lib.hid hM
      obtain ⟨h1, h2'⟩ := h1
      clear hr hs hn hM
      go_enter Try.func24, Try.ntmps24
      go_wp2_with (first
        | (go_at_call 31; refine (lsize_yes _ _ h1 h2').mono ?_; rintro r w1 ⟨rfl, rfl⟩)
        | (go_at_call 33; refine (zroom_in _ _ h1 h2').mono ?_; rintro r w1 ⟨rfl, rfl⟩; rw [← HM.out]))
      go_ret2
      exact ⟨rfl, grefl _ _⟩
  · clear hr hs
    go_enter Try.func24, Try.ntmps24
    go_wp2_with (go_at_call 31; refine (lsize_no _ _ h1).mono ?_; rintro r w1 ⟨rfl, rfl⟩)
    go_ret2
    exact ⟨rfl, grefl _ _⟩

set_option maxRecDepth 30000 in
set_option maxHeartbeats 4000000 in
theorem zput_ok (w : World) (R : Nat → Prop) (ao : Option Addr) (n c : Nat) (ps : List Pr) (x : Int) (S : Nat) (Si : Int) (hSi : Si = (S : Int)) (hs : PrSq R w (.slice ao n c) ps) (hx0 : 0 ≤ x) (hx1 : x ≤ 4294967295) (hr : RightF ps (S : Int)) :
    Calls Try.prog 24 #[.slice ao n c, .int .u32 x, .int .i64 Si] w fun r w' => PutYes w (frB ps x S) w' r := by
  obtain ⟨i0, hi, hz0, hz1, hz2⟩ := info_parts infoU8
  subst hSi
  have hn := hs.len.1
  have HF := Lib.hid (riseB_iff.2 hr.2.2.2)
  have hfit := room_fits hr.2.2.1
  obtain ⟨h1, h2, h3, _⟩ := hr
  have hb := room_bd h1 h2
  obtain ⟨M, hM⟩ : ∃ M, M = roomI (S : Int) := ⟨_, rfl⟩
  rw [← hM] at hb h3
  rw [← hn] at h3 hfit
  have HM := Lib.hid hM
  have HS := Lib.hid hs.low
  have HS0 := Lib.hid hs
  have HN := Lib.hid hn
  have h3' : ¬ M < (n : Int) := by omega
  have hn9 : n ≤ 340 := by omega
  have hS9 : S ≤ 4096 := by omega
  have hnf : 8 + 12 * n ≤ S := by omega
  have hw1 : IntKind.i64.wrap ((n : Int) * 12) = (n : Int) * 12 := IntWalk.i64_in _ (by omega)
  obtain ⟨m, hm⟩ : ∃ m, m = S - 8 - 12 * n := ⟨_, rfl⟩
  have hmi : (S : Int) - 8 - (n : Int) * 12 = (m : Int) := by omega
  have hm9 : m ≤ 4096 := by omega
  have HMM := Lib.hid hm
  have HMI := Lib.hid hmi
  clear hs hn hM hm h3 hmi
  go_enter Try.func24, Try.ntmps24
  go_wp2_with (first
    | (go_at_call 31; refine (lsize_yes _ _ h1 h2).mono ?_; rintro r w1 ⟨rfl, rfl⟩)
    | (go_at_call 33; refine (zroom_in _ _ h1 h2).mono ?_; rintro r w1 ⟨rfl, rfl⟩; rw [← HM.out])
    | (go_at_call 40; refine (rise_any _ R ao n c ps HS0.out).mono ?_; rw [HF.out]; rintro r w1 ⟨rfl, hg⟩; have HG := Lib.hid hg; clear hg)
    | (go_at_call 41; have K := wlinked_any w1 4 n (n : Int) rfl x (by decide) (by decide) (by omega) hx0 hx1; ((with_reducible refine K.mono ?_); clear K; rintro r w2 ⟨g, rfl, hh⟩); have HP := Lib.hid (show HW w g (hdK 4 n x) w2 from ⟨hh.wr, (gbelow HG.out).trans (hh.bel.mono HG.out.size), Nat.le_trans HG.out.size hh.g0⟩); clear hh))
  go_loopw [32] (fun i wr => ∃ k : Nat, k ≤ n ∧ i = .int .i64 (k : Int) ∧ HW w g (hdK 4 n x ++ prsB (ps.take k)) wr) (fun i _ => n - (intOf i).toNat)
  case atStart => exact ⟨0, Nat.zero_le _, rfl, by simpa [prsB] using HP.out⟩
  case round =>
    obtain ⟨k, hk, rfl, hh⟩ := hrel
    have HH := Lib.hid hh
    clear hh
    by_cases hlt : k < n
    · have hki : (k : Int) < (n : Int) := by omega
      have hkl : k < ps.length := by rw [← HN.out]; exact hlt
      obtain ⟨p, hp⟩ : ∃ p, ps[k]? = some p := ⟨ps[k], List.getElem?_eq_getElem hkl⟩
      have hok := HS.out.ok p (List.mem_of_getElem? hp)
      obtain ⟨b, o, rfl, _, c0, c1⟩ := (HS.out.kept (fun b hb _ => HH.out.bel.block b hb)).at k p hp
      have HT := Lib.hid (show hdK 4 n x ++ prsB (ps.take (k + 1)) = ((hdK 4 n x ++ prsB (ps.take k)) ++ numB (p.1 : Int) 8 8) ++ numB (p.2 : Int) 4 4 by
        rw [take_snoc hp, prsB_snoc, List.append_assoc, List.append_assoc]; simp [prB])
      have hlen : (hdK 4 n x ++ prsB (ps.take k)).length ≤ 5000 := by rw [List.length_append, hdK_len, prsB_len, List.length_take]; omega
      generalize hdK 4 n x ++ prsB (ps.take k) = L at HH HT hlen
      obtain ⟨a1, a2⟩ := p
      simp only at c0 c1 HT hok
      have ho1 : (a1 : Int) ≤ 18446744073709551615 := by have := hok.1; simp only at this; omega
      have ho2 : (a2 : Int) ≤ 4294967295 := by have := hok.2; simp only at this; omega
      have hw64 : IntKind.u64.wrap (a2 : Int) = (a2 : Int) := IntWalk.u64_in _ (by omega)
      have HA := Lib.hid (HH.out.grown' (World.grownBy_alloc wr (.cells #[.int .u64 (a1 : Int), .int .u32 (a2 : Int)] 65) none))
      have HQ := Lib.hid (heap_alloc_new wr (.cells #[.int .u64 (a1 : Int), .int .u32 (a2 : Int)] 65))
      have HRW := Lib.hid (HH.out.row (.cells #[.int .u64 (a1 : Int), .int .u32 (a2 : Int)] 65))
      have hgs : wr.heap.size ≠ g := by have := HH.out.wr.lt; omega
      clear hok hp
      go_wp2_with (first
        | (go_at_call 42; have K := HA.out.numq (a1 : Int) 8 8 rfl (by omega) ho1 (by omega) (by omega) (by omega) wr.heap.size _ HQ.out hgs HRW.out; ((with_reducible refine K.mono ?_); clear K; rintro r w3 ⟨rfl, hh, hq, hr⟩); have HP1 := Lib.hid hh; have HQ1 := Lib.hid hq; have HR1 := Lib.hid hr; have d1 := (cells2 hq).2.1; clear hh hq hr)
        | (go_at_call 42; have K := HP1.out.numq (a2 : Int) 4 4 rfl (by omega) (by omega) (by omega) (by omega) (by rw [List.length_append, numB_len]; omega) wr.heap.size _ HQ1.out hgs HR1.out; ((with_reducible refine K.mono ?_); clear K; rintro r w4 ⟨rfl, hh, hq, hr⟩); have HP2 := Lib.hid hh; clear hh hq hr))
      go_roundw
      case rel => exact ⟨k + 1, by omega, by go_num, by rw [HT.out]; exact HP2.out⟩
      case measure => simp [intOf]; omega
    · have hki : ¬ (k : Int) < (n : Int) := by omega
      have HT := Lib.hid (show prsB (ps.take k) = prsB ps by rw [show k = ps.length by rw [← HN.out]; omega, List.take_length])
      rw [HT.out] at HH
      have hlen : (hdK 4 n x ++ prsB ps).length = 8 + 12 * n := by rw [List.length_append, hdK_len, prsB_len, HN.out]
      have HLN := Lib.hid hlen
      have HFR := Lib.hid (show (hdK 4 n x ++ prsB ps) ++ List.replicate m 0 = frB ps x S by rw [frB, HN.out, HMM.out, HN.out, List.append_assoc])
      have HFL := Lib.hid (show ((hdK 4 n x ++ prsB ps) ++ List.replicate m (0 : Int)).length = S by rw [List.length_append, HLN.out, List.length_replicate, HMM.out]; omega)
      clear hlen
      generalize hdK 4 n x ++ prsB ps = L at HH HFR HLN HFL
      have hmi := HMI.out
      go_wp2_with (first
        | (at_make; refine wpList_make_full _ rfl _ _ 49 rfl wr.heap.size 5 i0 (.int .u8 0) 1 Try.underlying49 hi hz0 hz1 .i64 .i64 _ _ m rfl rfl ?c1 ?c2 ?c3 ?c4 (Nat.le_refl _) ?_; (case c1 => rfl); (case c2 => rfl); (case c3 => rw [hz2]; omega); (case c4 => unfold maxLen; omega); intro wM hown hgM; have HO := Lib.hid (seq_made hown); have HHM := Lib.hid (HH.out.grown' hgM); clear hown hgM)
        | (go_at_call 43; have K := HHM.out.raw HO.out (by rw [HLN.out, List.length_replicate]; omega); ((with_reducible refine K.mono ?_); clear K; rintro r w5 ⟨rfl, hh⟩); have HP5 := Lib.hid hh; clear hh)
        | (go_at_call 44; have K := out_len (n := S) HP5.out.wr HFL.out (by omega); ((with_reducible refine K.mono ?_); clear K; rintro r w6 ⟨ac, cc, rfl, ho, hg6⟩); have HO6 := Lib.hid ho; have HG6 := Lib.hid hg6; clear ho hg6))
      go_ret2
      refine ⟨_, rfl, ?_, gof (HP5.out.bel.trans ((gbelow HG6.out).mono HP5.out.bel.size)) none⟩
      have h := HO6.out
      rw [HFR.out] at h
      unfold OwnB
      rw [← HFR.out, HFL.out, HFR.out]
      exact own_base h HP5.out.bel.size

end Go.Proofs.Ytpgpilalhbdidaa
