/-
  Layer 10: the contract of freed's Put. Own work.
-/
import Derived.Test.YtildjdhoeilcfaaGreatPgrAP
import Derived.Test.YtildjdhoeilcfaaGreatPgrAJ
import Derived.OwnWalk
import Derived.Test.YtildjdhoeilcfaaGreatPgrAF

namespace Go.Proofs.YtildjdhoeilcfaaGreat
open Go.RowKit

theorem fw_keeps {g q : Nat} {w w' : World} {o : Obj} (h : Fw g w w') (hq : w.heap[q]? = some o) (hg : q ≠ g) (hr : rowAt w g ≠ some q) : w'.heap[q]? = some o ∧ rowAt w' g ≠ some q :=
  ⟨(h.block q (lt_of_block hq) hg hr).1.trans hq, (h.block q (lt_of_block hq) hg hr).2⟩
theorem HW.row {w0 w : World} {g : Nat} {hd : List Int} (h : HW w0 g hd w) (o : Obj) : rowAt (w.alloc o) g ≠ some w.heap.size := by
  obtain ⟨v, hown, hv⟩ := h.wr
  have h2 : (w.alloc o).heap[g]? = some (.cells #[v] 202 (0, 0)) := (Below.heap_alloc w o g (lt_of_block hv)).trans hv
  rw [rowAt_of h2]
  intro e
  have := (hown.lt _ e).2
  omega
theorem HW.grown' {w0 w w' : World} {g : Nat} {hd : List Int} (h : HW w0 g hd w) (k : w.grownBy w' none) : HW w0 g hd w' := ⟨h.wr.kept k, h.bel.trans ((gbelow k).mono h.bel.size), h.g0⟩
/-- A number more, beside a block that is kept. -/
theorem HW.numq {w0 w : World} {g : Nat} {hd : List Int} (h : HW w0 g hd w) (X : Int) (n : Nat) (m : Int) (hm : m = (n : Int)) (h0 : 0 ≤ X) (h1 : X ≤ 18446744073709551615) (hn1 : 1 ≤ n) (hn8 : n ≤ 8) (hl : hd.length ≤ 1000000) (q : Nat) (o : Obj) (hq : w.heap[q]? = some o) (hqg : q ≠ g) (hr : rowAt w g ≠ some q) :
    Calls Tryz.prog 69 #[.pointer (some ⟨g, 0, none⟩), .int .u64 X, .int .i64 m] w fun r w' => r = .returned (.tuple #[]) ∧ HW w0 g (hd ++ numB X n n) w' ∧ w'.heap[q]? = some o ∧ rowAt w' g ≠ some q := by
  subst hm
  refine (wnum_in w g n X hd h.wr h0 h1 hn1 hn8 (by omega)).mono fun r w' ⟨e, hw, hf⟩ => ?_
  obtain ⟨k1, k2⟩ := fw_keeps hf hq hqg hr
  exact ⟨e, ⟨hw, h.bel.trans ((hf.below h.wr).mono h.g0), h.g0⟩, k1, k2⟩
theorem HW.raw {w0 w : World} {g B : Nat} {hd xs : List Int} {v : Value} (h : HW w0 g hd w) (hs : Seq B w v xs) (hl : hd.length + xs.length ≤ 1000000) :
    Calls Tryz.prog 68 #[.pointer (some ⟨g, 0, none⟩), v] w fun r w' => r = .returned (.tuple #[]) ∧ HW w0 g (hd ++ xs) w' :=
  (wraw_any w g B hd xs v h.wr hs (by omega)).mono fun r w' ⟨e, hw, hf⟩ => ⟨e, hw, h.bel.trans ((hf.below h.wr).mono h.g0), h.g0⟩

/-- What Put tells of pairs that may not be put. -/
def PutNo (w w' : World) (r : Ending) : Prop := r = .returned (.tuple #[.slice none 0 0, .int .i64 1]) ∧ w.grownBy w' none
/-- What it tells of others. -/
def PutYes (w : World) (b : List Int) (w' : World) (r : Ending) : Prop := ∃ v, r = .returned (.tuple #[v, .int .i64 0]) ∧ OwnB w.heap.size w' v b ∧ w.grownBy w' none

set_option maxHeartbeats 1000000 in
theorem zput_no (w : World) (R : Nat → Prop) (ao : Option Addr) (n c : Nat) (ps : List Pr) (x S : Int) (hs : PrSq R w (.slice ao n c) ps) (hr : ¬ RightF ps S) :
    Calls Tryz.prog 192 #[.slice ao n c, .int .u32 x, .int .i64 S] w fun r w' => PutNo w w' r := by
  have hn := hs.len.1
  by_cases h1 : 512 ≤ S ∧ S ≤ 4096
  · have hb := room_bd h1.1 h1.2
    obtain ⟨M, hM⟩ : ∃ M, M = roomI S := ⟨_, rfl⟩
    by_cases h2 : (n : Int) ≤ M
    · have h3 : ¬ M < (n : Int) := by omega
      have HF := Lib.hid (riseB_no.2 (fun h => hr ⟨h1.1, h1.2, by rw [← hn, ← hM]; exact h2, h⟩))
      rw [← hM] at hb
      have HM := Lib.hid hM
      have HS := Lib.hid hs
      obtain ⟨h1, h2'⟩ := h1
      clear hr hs hn hM
      go_enter Tryz.func192, Tryz.ntmps192
      go_wp2_with (first
        | (go_at_call 65; refine (lsize_yes _ _ h1 h2').mono ?_; rintro r w1 ⟨rfl, rfl⟩)
        | (go_at_call 136; refine (zroom_in _ _ h1 h2').mono ?_; rintro r w1 ⟨rfl, rfl⟩; rw [← HM.out])
        | (go_at_call 138; refine (rise_any _ R ao n c ps HS.out).mono ?_; rw [HF.out]; rintro r w1 ⟨rfl, hg⟩; have HG := Lib.hid hg; clear hg))
      go_ret2
      exact ⟨rfl, HG.out⟩
    · have h3 : M < (n : Int) := by omega
      rw [← hM] at hb
      have HM := Lib.hid hM
      obtain ⟨h1, h2'⟩ := h1
      clear hr hs hn hM
      go_enter Tryz.func192, Tryz.ntmps192
      go_wp2_with (first
        | (go_at_call 65; refine (lsize_yes _ _ h1 h2').mono ?_; rintro r w1 ⟨rfl, rfl⟩)
        | (go_at_call 136; refine (zroom_in _ _ h1 h2').mono ?_; rintro r w1 ⟨rfl, rfl⟩; rw [← HM.out]))
      go_ret2
      exact ⟨rfl, grefl _ _⟩
  · clear hr hs
    go_enter Tryz.func192, Tryz.ntmps192
    go_wp2_with (go_at_call 65; refine (lsize_no _ _ h1).mono ?_; rintro r w1 ⟨rfl, rfl⟩)
    go_ret2
    exact ⟨rfl, grefl _ _⟩

set_option maxRecDepth 30000 in
set_option maxHeartbeats 4000000 in
theorem zput_ok (w : World) (R : Nat → Prop) (ao : Option Addr) (n c : Nat) (ps : List Pr) (x : Int) (S : Nat) (Si : Int) (hSi : Si = (S : Int)) (hs : PrSq R w (.slice ao n c) ps) (hx0 : 0 ≤ x) (hx1 : x ≤ 4294967295) (hr : RightF ps (S : Int)) :
    Calls Tryz.prog 192 #[.slice ao n c, .int .u32 x, .int .i64 Si] w fun r w' => PutYes w (frB ps x S) w' r := by
  obtain ⟨i0, hi, hz0, hz1, hz2⟩ := info_parts infoU8
  subst hSi
  have hn := hs.len.1
  have HF := Lib.hid (riseB_iff.2 hr.2.2.2)
  have hfit := room_fits hr.2.2.1
  obtain ⟨h1, h2, h3, _⟩ := hr
  have hb := room_bd h1 h2
  obtain ⟨M, hM⟩ : ∃ M, M = roomI (S : Int) := ⟨_, rfl⟩
  rw [← hM] at hb h3
  rw [← hn] at h3 hfit
  have HM := Lib.hid hM
  have HS := Lib.hid hs.low
  have HS0 := Lib.hid hs
  have HN := Lib.hid hn
  have h3' : ¬ M < (n : Int) := by omega
  have hn9 : n ≤ 340 := by omega
  have hS9 : S ≤ 4096 := by omega
  have hnf : 8 + 12 * n ≤ S := by omega
  have hw1 : IntKind.i64.wrap ((n : Int) * 12) = (n : Int) * 12 := IntWalk.i64_in _ (by omega)
  obtain ⟨m, hm⟩ : ∃ m, m = S - 8 - 12 * n := ⟨_, rfl⟩
  have hmi : (S : Int) - 8 - (n : Int) * 12 = (m : Int) := by omega
  have hm9 : m ≤ 4096 := by omega
  have HMM := Lib.hid hm
  have HMI := Lib.hid hmi
  clear hs hn hM hm h3 hmi
  go_enter Tryz.func192, Tryz.ntmps192
  go_wp2_with (first
    | (go_at_call 65; refine (lsize_yes _ _ h1 h2).mono ?_; rintro r w1 ⟨rfl, rfl⟩)
    | (go_at_call 136; refine (zroom_in _ _ h1 h2).mono ?_; rintro r w1 ⟨rfl, rfl⟩; rw [← HM.out])
    | (go_at_call 138; refine (rise_any _ R ao n c ps HS0.out).mono ?_; rw [HF.out]; rintro r w1 ⟨rfl, hg⟩; have HG := Lib.hid hg; clear hg)
    | (go_at_call 210; have K := wlinked_any w1 4 n (n : Int) rfl x (by decide) (by decide) (by omega) hx0 hx1; ((with_reducible refine K.mono ?_); clear K; rintro r w2 ⟨g, rfl, hh⟩); have HP := Lib.hid (show HW w g (hdK 4 n x) w2 from ⟨hh.wr, (gbelow HG.out).trans (hh.bel.mono HG.out.size), Nat.le_trans HG.out.size hh.g0⟩); clear hh))
  go_loopw [32] (fun i wr => ∃ k : Nat, k ≤ n ∧ i = .int .i64 (k : Int) ∧ HW w g (hdK 4 n x ++ prsB (ps.take k)) wr) (fun i _ => n - (intOf i).toNat)
  case atStart => exact ⟨0, Nat.zero_le _, rfl, by simpa [prsB] using HP.out⟩
  case round =>
    obtain ⟨k, hk, rfl, hh⟩ := hrel
    have HH := Lib.hid hh
    clear hh
    by_cases hlt : k < n
    · have hki : (k : Int) < (n : Int) := by omega
      have hkl : k < ps.length := by rw [← HN.out]; exact hlt
      obtain ⟨p, hp⟩ : ∃ p, ps[k]? = some p := ⟨ps[k], List.getElem?_eq_getElem hkl⟩
      have hok := HS.out.ok p (List.mem_of_getElem? hp)
      obtain ⟨b, o, rfl, _, c0, c1⟩ := (HS.out.kept (fun b hb _ => HH.out.bel.block b hb)).at k p hp
      have HT := Lib.hid (show hdK 4 n x ++ prsB (ps.take (k + 1)) = ((hdK 4 n x ++ prsB (ps.take k)) ++ numB (p.1 : Int) 8 8) ++ numB (p.2 : Int) 4 4 by
        rw [take_snoc hp, prsB_snoc, List.append_assoc, List.append_assoc]; simp [prB])
      have hlen : (hdK 4 n x ++ prsB (ps.take k)).length ≤ 5000 := by rw [List.length_append, hdK_len, prsB_len, List.length_take]; omega
      generalize hdK 4 n x ++ prsB (ps.take k) = L at HH HT hlen
      obtain ⟨a1, a2⟩ := p
      simp only at c0 c1 HT hok
      have ho1 : (a1 : Int) ≤ 18446744073709551615 := by have := hok.1; simp only at this; omega
      have ho2 : (a2 : Int) ≤ 4294967295 := by have := hok.2; simp only at this; omega
      have hw64 : IntKind.u64.wrap (a2 : Int) = (a2 : Int) := IntWalk.u64_in _ (by omega)
      have HA := Lib.hid (HH.out.grown' (World.grownBy_alloc wr (.cells #[.int .u64 (a1 : Int), .int .u32 (a2 : Int)] 266) none))
      have HQ := Lib.hid (heap_alloc_new wr (.cells #[.int .u64 (a1 : Int), .int .u32 (a2 : Int)] 266))
      have HRW := Lib.hid (HH.out.row (.cells #[.int .u64 (a1 : Int), .int .u32 (a2 : Int)] 266))
      have hgs : wr.heap.size ≠ g := by have := HH.out.wr.lt; omega
      clear hok hp
      go_wp2_with (first
        | (go_at_call 69; have K := HA.out.numq (a1 : Int) 8 8 rfl (by omega) ho1 (by omega) (by omega) (by omega) wr.heap.size _ HQ.out hgs HRW.out; ((with_reducible refine K.mono ?_); clear K; rintro r w3 ⟨rfl, hh, hq, hr⟩); have HP1 := Lib.hid hh; have HQ1 := Lib.hid hq; have HR1 := Lib.hid hr; have d1 := (cells2 hq).2.1; clear hh hq hr)
        | (go_at_call 69; have K := HP1.out.numq (a2 : Int) 4 4 rfl (by omega) (by omega) (by omega) (by omega) (by rw [List.length_append, numB_len]; omega) wr.heap.size _ HQ1.out hgs HR1.out; ((with_reducible refine K.mono ?_); clear K; rintro r w4 ⟨rfl, hh, hq, hr⟩); have HP2 := Lib.hid hh; clear hh hq hr))
      go_roundw
      case rel => exact ⟨k + 1, by omega, by go_num, by rw [HT.out]; exact HP2.out⟩
      case measure => simp [intOf]; omega
    · have hki : ¬ (k : Int) < (n : Int) := by omega
      have HT := Lib.hid (show prsB (ps.take k) = prsB ps by rw [show k = ps.length by rw [← HN.out]; omega, List.take_length])
      rw [HT.out] at HH
      have hlen : (hdK 4 n x ++ prsB ps).length = 8 + 12 * n := by rw [List.length_append, hdK_len, prsB_len, HN.out]
      have HLN := Lib.hid hlen
      have HFR := Lib.hid (show (hdK 4 n x ++ prsB ps) ++ List.replicate m 0 = frB ps x S by rw [frB, HN.out, HMM.out, HN.out, List.append_assoc])
      have HFL := Lib.hid (show ((hdK 4 n x ++ prsB ps) ++ List.replicate m (0 : Int)).length = S by rw [List.length_append, HLN.out, List.length_replicate, HMM.out]; omega)
      clear hlen
      generalize hdK 4 n x ++ prsB ps = L at HH HFR HLN HFL
      have hmi := HMI.out
      go_wp2_with (first
        | (at_make; refine wpList_make_full _ rfl _ _ 32 rfl wr.heap.size 5 i0 (.int .u8 0) 1 Tryz.underlying32 hi hz0 hz1 .i64 .i64 _ _ m rfl rfl ?c1 ?c2 ?c3 ?c4 (Nat.le_refl _) ?_; (case c1 => rfl); (case c2 => rfl); (case c3 => rw [hz2]; omega); (case c4 => unfold maxLen; omega); intro wM hown hgM; have HO := Lib.hid (seq_made hown); have HHM := Lib.hid (HH.out.grown' hgM); clear hown hgM)
        | (go_at_call 68; have K := HHM.out.raw HO.out (by rw [HLN.out, List.length_replicate]; omega); ((with_reducible refine K.mono ?_); clear K; rintro r w5 ⟨rfl, hh⟩); have HP5 := Lib.hid hh; clear hh)
        | (go_at_call 71; have K := out_len (n := S) HP5.out.wr HFL.out (by omega); ((with_reducible refine K.mono ?_); clear K; rintro r w6 ⟨ac, cc, rfl, ho, hg6⟩); have HO6 := Lib.hid ho; have HG6 := Lib.hid hg6; clear ho hg6))
      go_ret2
      refine ⟨_, rfl, ?_, gof (HP5.out.bel.trans ((gbelow HG6.out).mono HP5.out.bel.size)) none⟩
      have h := HO6.out
      rw [HFR.out] at h
      unfold OwnB
      rw [← HFR.out, HFL.out, HFR.out]
      exact own_base h HP5.out.bel.size

end Go.Proofs.YtildjdhoeilcfaaGreat

namespace Go.Proofs.YtildjdhoeilcfaaGreat
open Go.RowKit

set_option maxHeartbeats 400000 in
theorem left_any (w : World) (g : Nat) (bs : List Int) (e : Int) (h : RdAt w g bs e) :
    Calls Tryz.prog 140 #[.pointer (some ⟨g, 0, none⟩)] w fun r w' => r = .returned (.int .i64 bs.length) ∧ w = w' := by
  obtain ⟨v, ⟨ao, c, rfl, _⟩, hv⟩ := h
  have h1 := two_cell0 hv
  clear hv
  go_enter Tryz.func140, Tryz.ntmps140
  go_wp2
  go_ret
  exact ⟨rfl, rfl⟩
set_option maxHeartbeats 400000 in
theorem left_nil (w : World) :
    Calls Tryz.prog 140 #[.pointer none] w fun r w' => r = .returned (.int .i64 0) ∧ w = w' := by
  go_enter Tryz.func140, Tryz.ntmps140
  go_wp2
  go_ret
  exact ⟨rfl, rfl⟩
set_option maxHeartbeats 400000 in
theorem end_any (w : World) (g : Nat) (bs : List Int) (e : Int) (h : RdAt w g bs e) :
    Calls Tryz.prog 237 #[.pointer (some ⟨g, 0, none⟩)] w fun r w' => r = .returned (.int .i64 (endOf bs e)) ∧ w = w' := by
  have H := Lib.hid h
  clear h
  by_cases he : e = 0
  · subst he
    by_cases hl : bs.length = 0
    · have hx : endOf bs 0 = 0 := by simp [endOf, hl]
      have HL := Lib.hid hl
      rw [hx]
      clear hx hl
      go_enter Tryz.func237, Tryz.ntmps237
      go_wp2_with (first | (go_at_call 226; refine (err_any _ _ _ _ H.out).mono ?_; rintro r w1 ⟨rfl, rfl⟩) | (go_at_call 140; refine (left_any _ _ _ _ H.out).mono ?_; rintro r w1 ⟨rfl, rfl⟩; rw [HL.out]))
      go_ret
      exact ⟨rfl, rfl⟩
    · have hx : endOf bs 0 = 12 := by simp [endOf, hl]
      rw [hx]
      have hp : 0 < bs.length := by omega
      clear hx hl
      go_enter Tryz.func237, Tryz.ntmps237
      go_wp2_with (first | (go_at_call 226; refine (err_any _ _ _ _ H.out).mono ?_; rintro r w1 ⟨rfl, rfl⟩) | (go_at_call 140; refine (left_any _ _ _ _ H.out).mono ?_; rintro r w1 ⟨rfl, rfl⟩))
      go_ret
      exact ⟨rfl, rfl⟩
  · have hx : endOf bs e = e := by simp [endOf, he]
    rw [hx]
    clear hx
    go_enter Tryz.func237, Tryz.ntmps237
    go_wp2_with (first | (go_at_call 226; refine (err_any _ _ _ _ H.out).mono ?_; rintro r w1 ⟨rfl, rfl⟩) | (go_at_call 140; refine (left_any _ _ _ _ H.out).mono ?_; rintro r w1 ⟨rfl, rfl⟩))
    go_ret
    exact ⟨rfl, rfl⟩

set_option maxHeartbeats 400000 in
theorem end_nil (w : World) :
    Calls Tryz.prog 237 #[.pointer none] w fun r w' => r = .returned (.int .i64 1) ∧ w = w' := by
  go_enter Tryz.func237, Tryz.ntmps237
  go_wp2
  go_ret
  exact ⟨rfl, rfl⟩

end Go.Proofs.YtildjdhoeilcfaaGreat

namespace Go.Proofs.YtildjdhoeilcfaaGreat
open Go.RowKit

theorem RS.row {g base s n : Nat} {t : TypeId} {v : Value} {xs : List Value} {w0 w w' : World} {bs : List Int} {e : Int} (h : RS g w0 w bs e) (hr : w.ownsRow base t s v n xs) (hb : g < base) (k : w.grownBy w' v.ownBlock) : RS g w0 w' bs e :=
  ⟨h.rd.kept (fun i hi => k.block i (by have := h.rd.lt; omega) (fun e => by have := (hr.lt i e.symm).1; omega)), h.byt, h.len, h.g0, h.bel.grown k h.bel.size (fun j e => by have := (hr.lt j e).1; have := h.g0; omega)⟩
theorem POwn.rd {t : TypeId} {base g : Nat} {w w' : World} {v : Value} {ps : List Pr} {bs : List Int} {e : Int} (h : POwn t base w v ps) (k : w.grownBy w' (some g)) (hr : RdAt w g bs e) (ht : 304 ≠ t := by decide) : POwn t base w' v ps := by
  obtain ⟨cs, hcs⟩ := hr.tag
  exact h.far k hcs ht

set_option maxRecDepth 30000 in
set_option maxHeartbeats 4000000 in
theorem readPairs_any (w0 w : World) (g : Nat) (ps : List Pr) (r : List Int) (ni : Int) (n : Nat) (hni : ni = (n : Int)) (hn : ps.length = n) (hn9 : n ≤ 65535) (hok : ∀ p ∈ ps, PrOk p) (h : RS g w0 w (prsB ps ++ r) 0) :
    Calls Tryz.prog 137 #[.pointer (some ⟨g, 0, none⟩), .int .i64 ni] w fun e w' => ∃ ao c, e = .returned (.slice ao n c) ∧ POwn 266 w.heap.size w' (.slice ao n c) ps ∧ RS g w0 w' r 0 := by
  obtain ⟨i0, hi, hz0, hz1, hz2⟩ := info_parts infoPair
  subst hni
  have HN := Lib.hid hn
  have HOK := Lib.hid hok
  have H := Lib.hid h
  have hgw := h.rd.lt
  clear hn hok h
  go_enter Tryz.func137, Tryz.ntmps137
  go_wp2
  go_loopw [5, 9] (fun l i wr => ∃ k : Nat, k ≤ n ∧ i = .int .i64 (k : Int) ∧ POwn 266 w.heap.size wr l (ps.take k) ∧ RS g w0 wr (prsB (ps.drop k) ++ r) 0 ∧ w.heap.size ≤ wr.heap.size) (fun _ i _ => n - (intOf i).toNat)
  case atStart => exact ⟨0, Nat.zero_le _, rfl, POwn.nil _ _ _, by simpa using H.out, Nat.le_refl _⟩
  case round =>
    obtain ⟨k, hk, rfl, ho, hr, hz⟩ := hrel
    have HO := Lib.hid ho
    have HR := Lib.hid hr
    clear ho hr
    by_cases hlt : k < n
    · have hki : (k : Int) < (n : Int) := by omega
      have hkl : k < ps.length := by rw [HN.out]; exact hlt
      obtain ⟨p, hp⟩ : ∃ p, ps[k]? = some p := ⟨ps[k], List.getElem?_eq_getElem hkl⟩
      have HPO := Lib.hid (HOK.out p (List.mem_of_getElem? hp))
      have HT := Lib.hid (take_snoc hp)
      have HTL := Lib.hid (show (ps.take k).length = k by rw [List.length_take]; omega)
      have HD := Lib.hid (show prsB (ps.drop k) ++ r = numB (p.1 : Int) 8 8 ++ (numB (p.2 : Int) 4 4 ++ (prsB (ps.drop (k + 1)) ++ r)) by
        rw [List.drop_eq_getElem_cons hkl, prsB_cons]
        rw [List.getElem?_eq_getElem hkl] at hp
        cases hp
        simp [prB])
      have HB1 := Lib.hid (be8 HPO.out.1)
      have HB2 := Lib.hid (be4n HPO.out.2)
      obtain ⟨a1, a2⟩ := p
      simp only at HD HB1 HB2
      have ho2 : (a2 : Int) ≤ 4294967295 := by have := HPO.out.2; simp only at this; omega
      have hw32 : IntKind.u32.wrap (a2 : Int) = (a2 : Int) := by rw [show IntKind.u32.wrap (a2 : Int) = (a2 : Int) % 4294967296 from rfl]; omega
      rw [HD.out] at HR
      have X1 := Lib.hid (show nx (numB (a1 : Int) 8 8 ++ (numB (a2 : Int) 4 4 ++ (prsB (ps.drop (k + 1)) ++ r))) 0 8 true = (numB (a2 : Int) 4 4 ++ (prsB (ps.drop (k + 1)) ++ r), 0, numB (a1 : Int) 8 8) from nx_app (by rw [numB_len]; rfl))
      have X2 := Lib.hid (show nx (numB (a2 : Int) 4 4 ++ (prsB (ps.drop (k + 1)) ++ r)) 0 4 true = (prsB (ps.drop (k + 1)) ++ r, 0, numB (a2 : Int) 4 4) from nx_app (by rw [numB_len]; rfl))
      obtain ⟨la, lc, rfl⟩ := HO.out.shape
      rw [HTL.out] at HO ⊢
      clear hp
      go_wp2_with (first
        | (go_at_call 184; have Kc := HR.out.num 8 (by decide) (by decide) X1.out; rw [HB1.out] at Kc; ((with_reducible refine Kc.mono ?_); clear Kc; rintro e w2 ⟨rfl, hs, hg⟩); have HR2 := Lib.hid hs; have HO2 := Lib.hid (HO.out.rd hg HR.out.rd); have hz2' := Nat.le_trans hz hg.size; clear hs hg)
        | (go_at_call 184; have Kc := HR2.out.num 4 (by decide) (by decide) X2.out; rw [HB2.out] at Kc; ((with_reducible refine Kc.mono ?_); clear Kc; rintro e w3 ⟨rfl, hs, hg⟩); have HR3 := Lib.hid hs; have HO3 := Lib.hid (HO2.out.rd hg HR2.out.rd); have hz3' := Nat.le_trans hz2' hg.size; clear hs hg)
        | (at_builtin; refine wpList_append_own _ rfl _ _ 117 rfl w.heap.size 266 i0 (.agg #[.int .u64 0, .int .u32 0]) 2 16 Tryz.underlying117 hi hz0 hz1 hz2 rfl (by decide) (.slice la k lc) k ((ps.take k).flatMap prc) rfl (by have h := (HO3.out.grown (World.grownBy_alloc w3 (.cells #[.int .u64 (a1 : Int), .int .u32 (a2 : Int)] 266) none)).1; rw [HTL.out] at h; exact h) ⟨w3.heap.size, 0, none⟩ 1 1 (prc (a1, a2)) rfl rfl (lit_pair w3 (a1, a2) 266) (one_pair (a1, a2)) (by unfold maxLen; omega) (by omega) (by simp; omega) ?_; intro v' w4 hown hgrow _; have HW4 := Lib.hid hown; have HG4 := Lib.hid hgrow; clear hown hgrow))
      have HA := HO3.out.grown (World.grownBy_alloc w3 (.cells #[.int .u64 (a1 : Int), .int .u32 (a2 : Int)] 266) none)
      have h1 := HA.push HPO.out HTL.out.symm HW4.out
      have h2 := (HR3.out.far (World.grownBy_alloc w3 (.cells #[.int .u64 (a1 : Int), .int .u32 (a2 : Int)] 266) none)).row HA.1 hgw HG4.out
      have HF1 := Lib.hid h1
      have HF2 := Lib.hid h2
      have hz4 : w.heap.size ≤ w4.heap.size := by have := HG4.out.size; simp at this; omega
      clear HA h1 h2
      go_roundw
      case rel => exact ⟨k + 1, by omega, by go_num, by rw [HT.out]; exact HF1.out, HF2.out, hz4⟩
      case measure => simp [intOf]; omega
    · have hki : ¬ (k : Int) < (n : Int) := by omega
      have e : k = ps.length := by rw [HN.out]; omega
      have HO2 := Lib.hid (show POwn 266 w.heap.size wr u5 ps by have h := HO.out; rw [e, List.take_length] at h; exact h)
      have HR2 := Lib.hid (show RS g w0 wr r 0 by have h := HR.out; rw [e, List.drop_length] at h; exact h)
      clear e
      obtain ⟨la, lc, rfl⟩ := HO2.out.shape
      rw [HN.out] at HO2
      rw [HN.out]
      go_wp2
      go_ret
      exact ⟨_, _, rfl, HO2.out, HR2.out⟩

/-- What Get tells. -/
def FGetR (b : List Int) (w w' : World) (r : Ending) : Prop :=
  (∃ (pv : Value) (ps : List Pr) (x : Int), r = .returned (.tuple #[pv, .int .u32 x, .int .i64 0]) ∧ FLaid b ps x ∧ POwn 266 w.heap.size w' pv ps ∧ w.grownBy w' none) ∨
  (r = .returned (.tuple #[.slice none 0 0, .int .u32 0, .int .i64 11]) ∧ (∀ ps x, ¬ FLaid b ps x) ∧ w.grownBy w' none)

set_option maxRecDepth 30000 in
set_option maxHeartbeats 4000000 in
theorem zget_any (w : World) (B : Nat) (ao : Option Addr) (n c0 : Nat) (b : List Int) (h : Seq B w (.slice ao n c0) b) (hB : B ≤ w.heap.size) (hb : Byt b) (hl : b.length ≤ 140737488355328) :
    Calls Tryz.prog 98 #[.slice ao n c0] w fun r w' => FGetR b w w' r := by
  have hnl : n = b.length := by obtain ⟨_, _, hv, _⟩ := h; injection hv
  have hn9 : n ≤ 140737488355328 := by omega
  have H := Lib.hid h
  have HB := Lib.hid hb
  have HL := Lib.hid hl
  by_cases hq : ∃ (C : Nat) (y : Int) (r : List Int), C ≤ 65535 ∧ 0 ≤ y ∧ y ≤ 4294967295 ∧ b = hdK 4 C y ++ r
  · obtain ⟨C, y, r, hCl, hy0, hy1, he⟩ := hq
    have hbl : b.length = 8 + r.length := by rw [he, List.length_append, hdK_len]
    have HE := Lib.hid he
    by_cases hsz : 512 ≤ (n : Int) ∧ (n : Int) ≤ 4096
    · obtain ⟨hs1, hs2⟩ := hsz
      have hrb := room_bd hs1 hs2
      obtain ⟨M, hM⟩ : ∃ M, M = roomI (n : Int) := ⟨_, rfl⟩
      rw [← hM] at hrb
      have HM := Lib.hid hM
      by_cases hCM : (C : Int) ≤ M
      · have hCM' : ¬ M < (C : Int) := by omega
        have hfit := room_fits (show (C : Int) ≤ roomI (n : Int) by rw [← hM]; exact hCM)
        have hrb' : Byt r := fun v hv => hb v (by rw [he]; exact List.mem_append_right _ hv)
        obtain ⟨ps, hpl, hok, hrz⟩ := prs_of C hrb' (by omega)
        have hzl : (r.drop (12 * C)).length = b.length - 8 - 12 * C := by rw [List.length_drop]; omega
        obtain ⟨z, hz⟩ : ∃ z, z = r.drop (12 * C) := ⟨_, rfl⟩
        rw [← hz] at hrz hzl
        have HU := Lib.hid (fun (qs : List Pr) (x : Int) (hL : FLaid b qs x) => (show qs = ps ∧ allZ z = true by
          obtain ⟨g1, _, g3⟩ := flaid_at hCl hy0 hy1 he hL
          rw [hrz] at g3
          obtain ⟨g4, g5⟩ := List.append_inj g3 (by rw [prsB_len, prsB_len, g1, hpl])
          exact ⟨(prsB_inj (by rw [g1, hpl]) hok hL.ok g4).symm, by rw [g5]; exact rep_allZ _⟩))
        have HOKL := Lib.hid (fun (hri : Rise ps) (haz : allZ z = true) => (show FLaid b ps y from
          ⟨by
            have hz2 := allZ_rep _ haz
            rw [hzl] at hz2
            rw [frB, hpl, ← hz2, ← hrz]; exact he, ⟨by rw [← hnl]; exact hs1, by rw [← hnl]; exact hs2, by rw [hpl, ← hnl, ← hM]; exact hCM, hri⟩, hok, hy0, hy1⟩))
        have HRZ := Lib.hid hrz
        have HPL := Lib.hid hpl
        have HOK := Lib.hid hok
        have hZ9 : z.length ≤ 140737488355328 := by omega
        obtain ⟨Z, hZ⟩ : ∃ Z, Z = z.length := ⟨_, rfl⟩
        rw [← hZ] at hZ9
        have X6 := Lib.hid (show nx z 0 (Z : Int) true = ([], 0, z) by rw [hZ, nx_at (Nat.le_refl _)]; simp)
        have HZ := Lib.hid hZ
        have hZ4 : decide ((0 : Int) ≤ (Z : Int)) = true := by simp
        clear hnl h hb hl he hbl hM hfit hrb' hpl hok hrz hzl hz hZ
        by_cases hri : Rise ps
        · have HRI := Lib.hid (riseB_iff.2 hri)
          have HLL := Lib.hid (HOKL.out hri)
          clear hri HOKL
          by_cases haz : allZ z = true
          · have HAZ := Lib.hid haz
            have HD := Lib.hid (HLL.out haz)
            clear haz HLL HU
            go_enter Tryz.func98, Tryz.ntmps98
            go_wp2_with (first
              | (go_at_call 135; have Kc := rlinked_yes (kind := 4) (C := C) (x := y) (r := r) H.out hB HB.out HL.out (by decide) (by decide) hCl hy0 hy1 HE.out; ((with_reducible refine Kc.mono ?_); clear Kc; rintro e w4 ⟨g, rfl, hs⟩); have HR4 := Lib.hid hs; clear hs)
              | (go_at_call 65; refine (lsize_yes _ _ hs1 hs2).mono ?_; rintro e wq ⟨rfl, rfl⟩)
              | (go_at_call 136; refine (zroom_in _ _ hs1 hs2).mono ?_; rintro e wq ⟨rfl, rfl⟩; rw [← HM.out])
              | (go_at_call 137; have Kc := readPairs_any w w4 g ps z (C : Int) C rfl HPL.out hCl HOK.out (by have h := HR4.out; rw [HRZ.out] at h; exact h); ((with_reducible refine Kc.mono ?_); clear Kc; rintro e w5 ⟨al, cl, rfl, ho, hs⟩); have HR5 := Lib.hid hs; have HO5 := Lib.hid (ho.mono (show w.heap.size ≤ w4.heap.size from HR4.out.bel.size)); clear hs ho)
              | (go_at_call 138; have Kc := rise_any w5 _ al C cl ps (by have h := HO5.out.sq; exact h); rw [HRI.out] at Kc; ((with_reducible refine Kc.mono ?_); clear Kc; rintro e w6 ⟨rfl, hg⟩); have HR6 := Lib.hid (HR5.out.far hg); have HO6 := Lib.hid (HO5.out.grown hg); clear hg)
              | (go_at_call 140; have Kc := left_any w6 g z 0 HR6.out.rd; rw [← HZ.out] at Kc; ((with_reducible refine Kc.mono ?_); clear Kc; rintro e wq ⟨rfl, rfl⟩))
              | (go_at_call 139; have Kc := HR6.out.raw _ _ hZ4 X6.out; rw [← HZ.out] at Kc; ((with_reducible refine Kc.mono ?_); clear Kc; rintro e w7 ⟨ag, cg, rfl, ho, hs, hg⟩); have HR7 := Lib.hid hs; have HS7 := Lib.hid (Seq.owned (show w7.ownsRow w6.heap.size 5 1 (.slice ag z.length cg) z.length (z.map (Value.int .u8)) by rw [← HZ.out]; exact ho)); have HO7 := Lib.hid (HO6.out.rd hg HR6.out.rd); clear hs hg ho)
              | (go_at_call 96; have Kc := noughts_any w7 w7.heap.size ag Z cg z (by have h := HS7.out; rw [← HZ.out] at h; exact h); rw [HAZ.out] at Kc; ((with_reducible refine Kc.mono ?_); clear Kc; rintro e wq ⟨rfl, rfl⟩)))
            go_ret3
            exact .inl ⟨_, ps, y, rfl, HD.out, HO7.out, HR7.out.gr⟩
          · have hzf : allZ z = false := by simpa using haz
            have HAZ := Lib.hid hzf
            have HD := Lib.hid (show ∀ qs x, ¬ FLaid b qs x from fun qs x hL => haz (HU.out qs x hL).2)
            clear haz HLL HU hzf
            go_enter Tryz.func98, Tryz.ntmps98
            go_wp2_with (first
              | (go_at_call 135; have Kc := rlinked_yes (kind := 4) (C := C) (x := y) (r := r) H.out hB HB.out HL.out (by decide) (by decide) hCl hy0 hy1 HE.out; ((with_reducible refine Kc.mono ?_); clear Kc; rintro e w4 ⟨g, rfl, hs⟩); have HR4 := Lib.hid hs; clear hs)
              | (go_at_call 65; refine (lsize_yes _ _ hs1 hs2).mono ?_; rintro e wq ⟨rfl, rfl⟩)
              | (go_at_call 136; refine (zroom_in _ _ hs1 hs2).mono ?_; rintro e wq ⟨rfl, rfl⟩; rw [← HM.out])
              | (go_at_call 137; have Kc := readPairs_any w w4 g ps z (C : Int) C rfl HPL.out hCl HOK.out (by have h := HR4.out; rw [HRZ.out] at h; exact h); ((with_reducible refine Kc.mono ?_); clear Kc; rintro e w5 ⟨al, cl, rfl, ho, hs⟩); have HR5 := Lib.hid hs; have HO5 := Lib.hid (ho.mono (show w.heap.size ≤ w4.heap.size from HR4.out.bel.size)); clear hs ho)
              | (go_at_call 138; have Kc := rise_any w5 _ al C cl ps (by have h := HO5.out.sq; exact h); rw [HRI.out] at Kc; ((with_reducible refine Kc.mono ?_); clear Kc; rintro e w6 ⟨rfl, hg⟩); have HR6 := Lib.hid (HR5.out.far hg); have HO6 := Lib.hid (HO5.out.grown hg); clear hg)
              | (go_at_call 140; have Kc := left_any w6 g z 0 HR6.out.rd; rw [← HZ.out] at Kc; ((with_reducible refine Kc.mono ?_); clear Kc; rintro e wq ⟨rfl, rfl⟩))
              | (go_at_call 139; have Kc := HR6.out.raw _ _ hZ4 X6.out; rw [← HZ.out] at Kc; ((with_reducible refine Kc.mono ?_); clear Kc; rintro e w7 ⟨ag, cg, rfl, ho, hs, hg⟩); have HR7 := Lib.hid hs; have HS7 := Lib.hid (Seq.owned (show w7.ownsRow w6.heap.size 5 1 (.slice ag z.length cg) z.length (z.map (Value.int .u8)) by rw [← HZ.out]; exact ho)); have HO7 := Lib.hid (HO6.out.rd hg HR6.out.rd); clear hs hg ho)
              | (go_at_call 96; have Kc := noughts_any w7 w7.heap.size ag Z cg z (by have h := HS7.out; rw [← HZ.out] at h; exact h); rw [HAZ.out] at Kc; ((with_reducible refine Kc.mono ?_); clear Kc; rintro e wq ⟨rfl, rfl⟩)))
            go_ret3
            exact .inr ⟨rfl, HD.out, HR7.out.gr⟩
        · have HRI := Lib.hid (riseB_no.2 hri)
          have HD := Lib.hid (show ∀ qs x, ¬ FLaid b qs x from fun qs x hL => hri (by rw [← (HU.out qs x hL).1]; exact hL.right.2.2.2))
          clear hri HOKL HU
          go_enter Tryz.func98, Tryz.ntmps98
          go_wp2_with (first
            | (go_at_call 135; have Kc := rlinked_yes (kind := 4) (C := C) (x := y) (r := r) H.out hB HB.out HL.out (by decide) (by decide) hCl hy0 hy1 HE.out; ((with_reducible refine Kc.mono ?_); clear Kc; rintro e w4 ⟨g, rfl, hs⟩); have HR4 := Lib.hid hs; clear hs)
            | (go_at_call 65; refine (lsize_yes _ _ hs1 hs2).mono ?_; rintro e wq ⟨rfl, rfl⟩)
            | (go_at_call 136; refine (zroom_in _ _ hs1 hs2).mono ?_; rintro e wq ⟨rfl, rfl⟩; rw [← HM.out])
            | (go_at_call 137; have Kc := readPairs_any w w4 g ps z (C : Int) C rfl HPL.out hCl HOK.out (by have h := HR4.out; rw [HRZ.out] at h; exact h); ((with_reducible refine Kc.mono ?_); clear Kc; rintro e w5 ⟨al, cl, rfl, ho, hs⟩); have HR5 := Lib.hid hs; have HO5 := Lib.hid (ho.mono (show w.heap.size ≤ w4.heap.size from HR4.out.bel.size)); clear hs ho)
            | (go_at_call 138; have Kc := rise_any w5 _ al C cl ps (by have h := HO5.out.sq; exact h); rw [HRI.out] at Kc; ((with_reducible refine Kc.mono ?_); clear Kc; rintro e w6 ⟨rfl, hg⟩); have HR6 := Lib.hid (HR5.out.far hg); have HO6 := Lib.hid (HO5.out.grown hg); clear hg))
          go_ret3
          exact .inr ⟨rfl, HD.out, HR6.out.gr⟩
      · have hCM' : M < (C : Int) := by omega
        have HD := Lib.hid (show ∀ qs x, ¬ FLaid b qs x from fun qs x hL => hCM (by
          obtain ⟨g1, _, _⟩ := flaid_at hCl hy0 hy1 he hL
          have := hL.right.2.2.1
          rw [g1, ← hnl, ← hM] at this
          exact this))
        clear hnl h hb hl he hbl hM hCM
        go_enter Tryz.func98, Tryz.ntmps98
        go_wp2_with (first
          | (go_at_call 135; have Kc := rlinked_yes (kind := 4) (C := C) (x := y) (r := r) H.out hB HB.out HL.out (by decide) (by decide) hCl hy0 hy1 HE.out; ((with_reducible refine Kc.mono ?_); clear Kc; rintro e w4 ⟨g, rfl, hs⟩); have HR4 := Lib.hid hs; clear hs)
          | (go_at_call 65; refine (lsize_yes _ _ hs1 hs2).mono ?_; rintro e wq ⟨rfl, rfl⟩)
          | (go_at_call 136; refine (zroom_in _ _ hs1 hs2).mono ?_; rintro e wq ⟨rfl, rfl⟩; rw [← HM.out]))
        go_ret3
        exact .inr ⟨rfl, HD.out, HR4.out.gr⟩
    · have HD := Lib.hid (show ∀ qs x, ¬ FLaid b qs x from fun qs x hL => hsz (by rw [hnl]; exact ⟨hL.right.1, hL.right.2.1⟩))
      clear hnl h hb hl he hbl
      go_enter Tryz.func98, Tryz.ntmps98
      go_wp2_with (first
        | (go_at_call 135; have Kc := rlinked_yes (kind := 4) (C := C) (x := y) (r := r) H.out hB HB.out HL.out (by decide) (by decide) hCl hy0 hy1 HE.out; ((with_reducible refine Kc.mono ?_); clear Kc; rintro e w4 ⟨g, rfl, hs⟩); have HR4 := Lib.hid hs; clear hs)
        | (go_at_call 65; refine (lsize_no _ _ hsz).mono ?_; rintro e wq ⟨rfl, rfl⟩))
      go_ret3
      exact .inr ⟨rfl, HD.out, HR4.out.gr⟩
  · have HD := Lib.hid (show ∀ qs x, ¬ FLaid b qs x from fun qs x hL => hq ⟨qs.length, x, _, (flaid_few hL).1, hL.x0, hL.x1, hL.page⟩)
    have HH := Lib.hid (show ∀ (C : Nat) (x : Int) (r : List Int), C ≤ 65535 → 0 ≤ x → x ≤ 4294967295 → b ≠ hdK 4 C x ++ r from fun C x r h1 h2 h3 h4 => hq ⟨C, x, r, h1, h2, h3, h4⟩)
    clear hnl h hb hl hq
    go_enter Tryz.func98, Tryz.ntmps98
    go_wp2_with (go_at_call 135; have Kc := rlinked_no (kind := 4) H.out hB HB.out HL.out (by decide) (by decide) HH.out; ((with_reducible refine Kc.mono ?_); clear Kc; rintro e w4 ⟨rfl, hs⟩); have HR4 := Lib.hid hs; clear hs)
    go_ret3
    exact .inr ⟨rfl, HD.out, HR4.out⟩

/-- A page is got as it was put. -/
theorem zget_back {w : World} {B : Nat} {ao : Option Addr} {n c0 : Nat} {b : List Int} {ps : List Pr} {x : Int} (h : Seq B w (.slice ao n c0) b) (hB : B ≤ w.heap.size) (hb : Byt b) (hL : FLaid b ps x) :
    Calls Tryz.prog 98 #[.slice ao n c0] w fun r w' => ∃ ao c, r = .returned (.tuple #[.slice ao ps.length c, .int .u32 x, .int .i64 0]) ∧ POwn 266 w.heap.size w' (.slice ao ps.length c) ps ∧ w.grownBy w' none := by
  refine (zget_any w B ao n c0 b h hB hb (by have := hL.right.2.1; omega)).mono ?_
  rintro r w' (⟨pv, qs, y, e, hq, ho, hg⟩ | ⟨_, hno, _⟩)
  · obtain ⟨e1, e2⟩ := flaid_uniq hL hq
    subst e1; subst e2
    obtain ⟨a, c, rfl⟩ := ho.shape
    exact ⟨a, c, e, ho, hg⟩
  · exact absurd hL (hno ps x)

end Go.Proofs.YtildjdhoeilcfaaGreat
