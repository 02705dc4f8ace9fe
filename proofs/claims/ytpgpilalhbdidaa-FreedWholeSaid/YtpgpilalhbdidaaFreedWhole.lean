/-
  FreedWhole: right records, laid out over pages, put, read back and gathered, are the same records. Proved for every input, no condition.
-/
import Derived.Test.YtpgpilalhbdidaaFrW
import Derived.Test.YtpgpilalhbdidaaFrK
import Derived.Test.YtpgpilalhbdidaaFpE
import Derived.Test.YtpgpilalhbdidaaFpJ
import Derived.ProofKit
import Derived.OpenShut
import Derived.ShutString
import Derived.ChangeOld
namespace Go.Proofs.Ytpgpilalhbdidaa
open Go.RowKit Go.Maps

theorem run_append_none10 {P : Program} {w : World} (base : Nat) (t ty e : TypeId) (i : TypeInfo) (size : Nat) (ht : P.underlying t = some (.slice e)) (hi : P.info? e = some i)
    (v : Value) (n c : Nat) (xs : List Value) (hown : w.ownsRow base e size v n xs) : (Builtin.append_ #[t, t] ty #[v, .slice none 0 c]).run P w = .ok v w := by
  rcases hown.2 with ⟨rfl, rfl⟩ | ⟨g, cap, cur, rfl, _, _, hnc, _⟩
  · simp [Builtin.append_, run_underlying ht, sizeOf, typeInfo, hi, Builtin.lenOf, Builtin.firstCells]
  · simp [Builtin.append_, run_underlying ht, sizeOf, typeInfo, hi, Builtin.lenOf, Builtin.firstCells, hnc, storeCells]
/-- append onto a row of the call's own, out of a slice that may be nil. -/
theorem wpList_append_any10 {P : Program} (w : World) {ops : Array Oper} {rest : List Oper} {o : Oper} {a : Act} {Q : Exit → Act → World → Prop} (hgd : o.guard = none) (s x : Operand) (t : TypeId)
    (ho : o.op = .call { callee := .builtin .append, args := #[s, x], argTypes := #[t, t] })
    (base : Nat) (e : TypeId) (i : TypeInfo) (z : Value) (size bytes : Nat) (ht : P.underlying t = some (.slice e)) (hi : P.info? e = some i) (hz : i.zero = some z)
    (hsize : i.size = size) (hby : i.bytes = bytes) (hzs : z.cells.size = size) (hsz : 0 < size)
    (v : Value) (n : Nat) (xs : List Value) (hs : a.eval s = v) (hown : w.ownsRow base e size v n xs)
    (sa : Option Addr) (m c : Nat) (news : List Value) (hx : a.eval x = .slice sa m c) (hl : news.length = m * size) (hsa : sa = none → m = 0) (hnews : ∀ ad, sa = some ad → ∀ j u, news[j]? = some u → w.cell? (ad.add j) = some u) (h1 : ∀ u ∈ news, u.oneCell' = true)
    (h63 : n + m ≤ maxLen) (hbytes : (n + m) * bytes ≤ 140737488355328) (hbase : base ≤ w.heap.size)
    (h : ∀ v' w', w'.ownsRow base e size v' (n + m) (xs ++ news) → w.grownBy w' v.ownBlock → wpList P ops Q rest (a.put o.dst v') w') : wpList P ops Q (o :: rest) a w := by
  cases sa with
  | none =>
    obtain rfl := hsa rfl
    have hn : news = [] := List.eq_nil_of_length_eq_zero (by simpa using hl)
    subst hn
    refine wpList_plain hgd fun K hK => ?_
    have hrun := run_append_none10 (P := P) (w := w) base t o.type e i size ht hi v n c xs hown
    unfold Oper.wp
    simp [execOp, ho, resolve, invoke, builtin, hs, hx, hrun, Result.andThen]
    exact hK _ _ (h v w (by simpa using hown) (grefl _ _))
  | some ad => exact wpList_append_own2 w hgd s x t ho base e i z size bytes ht hi hz hsize hby hzs hsz v n xs hs hown ad m c news hx hl (hnews ad rfl) h1 h63 hbytes hbase fun v' w' h2 h3 _ => h v' w' h2 h3

theorem POwn.src {t : TypeId} {base n c : Nat} {w : World} {sa : Option Addr} {ps : List Pr} (h : POwn t base w (.slice sa n c) ps) : (sa = none → n = 0) ∧ ∀ ad, sa = some ad → ∀ j u, (ps.flatMap prc)[j]? = some u → w.cell? (ad.add j) = some u := by
  have hq := h.psq
  have hn := hq.len.1
  rcases h.1.2 with ⟨e, h0⟩ | ⟨g, cap, cur, e, _⟩
  · injection e with e1 e2 e3
    exact ⟨fun _ => by omega, fun ad e => by rw [e1] at e; cases e⟩
  · injection e with e1 e2 e3
    subst e1
    exact ⟨(fun e => by cases e), fun ad e => by cases e; exact hq.news⟩
theorem few_flat10 {rs : List Rc} (h : few8 rs = true) : (flatR rs).length ≤ 300 ∧ rs.length ≤ 10 := by
  obtain ⟨h1, h2⟩ := few8_iff.1 h
  exact ⟨Nat.le_trans (flatR_len rs h1) (by omega), h2⟩
theorem right_last10 (w : World) (R : Nat → Prop) (ao : Option Addr) (n c : Nat) (l : List Rc) (hs : RSq R w (.slice ao n c) l) (b : Bool) (hb : right l 4294967295 = b) :
    Calls Try.prog 21 #[.slice ao n c, .int .u32 4294967295] w fun r w' => r = .returned (.bool b) ∧ w.grownBy w' none := by
  subst hb
  exact right_any w R ao n c l 4294967295 hs (by decide)
theorem many_all {L M : Nat} {S : Int} (hM : (M : Int) = roomI S) (h1 : 512 ≤ S) (h2 : S ≤ 4096) : ∃ q : Nat, (q : Int) = manyF (L : Int) S ∧ q ≤ L ∧ L ≤ q * M := by
  have hb := room_bd h1 h2
  rcases Nat.eq_zero_or_pos L with e | e
  · subst e
    exact ⟨0, by rw [manyF, if_neg (by omega)]; rfl, Nat.le_refl _, Nat.zero_le _⟩
  · refine ⟨(L - 1) / M + 1, ?_, ?_, ?_⟩
    · rw [manyF, if_pos ⟨by omega, h1, h2⟩, ← hM, show (L : Int) - 1 = ((L - 1 : Nat) : Int) by omega, ← Int.natCast_ediv]; rfl
    · have := Nat.div_le_self (L - 1) M; omega
    · have := Nat.lt_mul_div_succ (L - 1) (show 0 < M by omega)
      rw [Nat.mul_comm] at this
      omega
theorem partF_rise {ps : List Pr} (h : ps.Pairwise lexP) (M k : Nat) : Rise (partF ps M k) := rise_pair (h.sublist ((List.take_sublist _ _).trans (List.drop_sublist _ _)))
theorem partF_ok {ps : List Pr} (h : ∀ p ∈ ps, PrOk p) (M k : Nat) : ∀ p ∈ partF ps M k, PrOk p := fun p hp => h p (List.mem_of_mem_drop (List.mem_of_mem_take hp))
theorem rsq_flat {R : Nat → Prop} {w : World} {ao : Option Addr} {n c : Nat} {rs : List Rc} (h : RSq R w (.slice ao n c) rs) : ∀ p ∈ flatR rs, PrOk p := flatR_ok fun r hr => by
  obtain ⟨j, hj, e⟩ := List.getElem_of_mem hr
  obtain ⟨_, _, _, _, _, h2, _, _, _, hp⟩ := h.at j r (by rw [List.getElem?_eq_getElem hj, e])
  exact ⟨h2, fun p hp' => hp.u32 p hp'⟩

set_option maxRecDepth 100000 in
set_option maxHeartbeats 8000000 in
theorem fwhole_any (W : World) (ao : Option Addr) (n c : Nat) (rs : List Rc) (x S : Int) (h : RSq (fun b => b < W.heap.size) W (.slice ao n c) rs) (hsm : Small8 rs) (hx0 : 0 ≤ x) (hx1 : x ≤ 255) (_hS0 : -9223372036854775808 ≤ S) (_hS1 : S ≤ 9223372036854775807) :
    Calls Try.prog 7 #[.slice ao n c, .int .u8 x, .int .i64 S] W fun r w' => r = .returned (.bool true) ∧ Below W.heap.size W w' := by
  obtain ⟨i0, hi, hz0, hz1, hz2⟩ := info_parts infoPair
  have HS := Lib.hid h
  have HSM := Lib.hid hsm
  have HOKA := Lib.hid (rsq_flat h)
  clear h hsm
  obtain ⟨f, hf⟩ : ∃ f, few8 rs = f := ⟨_, rfl⟩
  have HFW := Lib.hid hf
  clear hf
  obtain ⟨g, hg⟩ : ∃ g, right rs 4294967295 = g := ⟨_, rfl⟩
  have HRT := Lib.hid hg
  clear hg
  obtain ⟨Rn, hRn⟩ : ∃ Rn, Rn = rs.length := ⟨_, rfl⟩
  have HRN := Lib.hid hRn
  clear hRn
  by_cases hmain : f = true ∧ (512 ≤ S ∧ S ≤ 4096) ∧ g = true
  · obtain ⟨rfl, ⟨h1, h2⟩, rfl⟩ := hmain
    obtain ⟨hfl, hrl⟩ := few_flat10 HFW.out
    have HFL := Lib.hid hfl
    have hok := right_iff.1 HRT.out
    have HGF := Lib.hid (gather_flat hok)
    have HPW := Lib.hid (flatR_rise hok)
    obtain ⟨ps, hps⟩ : ∃ ps, ps = flatR rs := ⟨_, rfl⟩
    rw [← hps] at hfl HFL HGF HPW HOKA
    have HPS := Lib.hid hps
    rw [← HRN.out] at hrl
    obtain ⟨L, hL⟩ : ∃ L, L = ps.length := ⟨_, rfl⟩
    have HL := Lib.hid hL
    rw [← hL] at hfl
    obtain ⟨s, rfl⟩ : ∃ s : Nat, S = (s : Int) := ⟨S.toNat, by omega⟩
    have hs9 : s ≤ 4096 := by omega
    have hs5 : 512 ≤ s := by omega
    obtain ⟨M, hM⟩ : ∃ M : Nat, (M : Int) = roomI (s : Int) := ⟨(roomI (s : Int)).toNat, by have := room_bd h1 h2; omega⟩
    have HM := Lib.hid hM
    obtain ⟨q0, hq0, hqL, hqM⟩ := many_all (L := L) hM h1 h2
    have HQ := Lib.hid hq0
    obtain ⟨y, rfl⟩ : ∃ y : Nat, x = (y : Int) := ⟨x.toNat, by omega⟩
    have hy4 : (y : Int).tmod 4 = ((y % 4 : Nat) : Int) := rfl
    obtain ⟨z, hz⟩ : ∃ z, z = y % 4 := ⟨_, rfl⟩
    rw [← hz] at hy4
    have hz3 : z ≤ 3 := by omega
    have hwz : IntKind.u8.wrap (z : Int) = (z : Int) := by rw [show IntKind.u8.wrap (z : Int) = (z : Int) % 256 from rfl]; omega
    obtain ⟨m, hm⟩ : ∃ m, m = q0 + z := ⟨_, rfl⟩
    have hmi : (q0 : Int) + (z : Int) = (m : Int) := by omega
    have hm9 : m ≤ 303 := by omega
    have HMM := Lib.hid (show L ≤ m * M by rw [hm, Nat.add_mul]; omega)
    have HQM := Lib.hid (show (q0 : Int) ≤ (m : Int) by omega)
    have a1 : ¬ (s : Int) < 512 := by omega
    have a2 : ¬ (4096 : Int) < (s : Int) := by omega
    clear hok hps hL hM hq0 hqM hz hm
    go_enter Try.func7, Try.ntmps7
    go_wp2_with (first
      | (go_at_call 9; (with_reducible refine (awake10_any W).mono ?_); rintro r w1 ⟨rfl, hg⟩; have HG1 := Lib.hid hg; have HR1 := Lib.hid (HS.out.grown hg); clear hg)
      | (go_at_call 10; (with_reducible refine (few8_any w1 _ ao n c rs HR1.out).mono ?_); rw [HFW.out]; rintro r wq ⟨rfl, rfl⟩)
      | (go_at_call 11; (with_reducible refine (records8_any w1 ao n c rs (HR1.out.imp (fun b _ hb => hb)) HSM.out).mono ?_); rintro r w2 ⟨ov, rv, es, es2, rfl, ho, he, hv, he2, hg⟩; have hro := ho.rsq; rw [he] at hro; obtain ⟨oa, oc, rfl⟩ := hro.shape; have hrv := hv.rsq; rw [he2] at hrv; obtain ⟨ra, rc, rfl⟩ := hrv.shape; rw [← HRN.out] at hro hrv; rw [← HRN.out]; have HO2 := Lib.hid hro; have HV2 := Lib.hid hrv; have HG2 := Lib.hid (gtrans HG1.out hg); clear ho he hv he2 hg hro hrv)
      | (go_at_call 21; (with_reducible refine (right_last10 w2 _ oa Rn oc rs HO2.out _ HRT.out).mono ?_); rintro r w3 ⟨rfl, hg⟩; have G3 := Lib.hid hg; clear hg)
      | (go_at_call 13; (with_reducible refine (flat_any w3 _ oa Rn oc rs (HO2.out.grown G3.out) (by omega) (by rw [← HPS.out]; have := HFL.out; omega)).mono ?_); rw [← HPS.out]; rintro r w4 ⟨v4, rfl, ho, hg⟩; obtain ⟨fa, fc, rfl⟩ := own_shape ho; have HF4 := Lib.hid (show POwn 65 w3.heap.size w4 (.slice fa ps.length fc) ps from ⟨ho, HOKA.out⟩).sq; rw [← HL.out] at HF4 ⊢; have G4 := Lib.hid (gtrans G3.out hg); clear ho hg)
      | (go_at_call 19; (with_reducible refine (zmany_any _ (L : Int) (s : Int) (by omega)).mono ?_); rw [← HQ.out]; rintro r wq ⟨rfl, rfl⟩)
      | (go_at_call 22; (with_reducible refine (spread_ok w4 _ fa L fc ps (m : Int) (s : Int) m M rfl HM.out HF4.out (by have := HFL.out; omega) h1 h2 (by omega) (by rw [← HQ.out]; exact HQM.out)).mono ?_); rintro r w5 ⟨v, vals, q, rfl, ho, hg⟩; obtain rfl := ho.val; have HO5 := Lib.hid ho; have G5 := Lib.hid (gtrans G4.out hg); clear ho hg))
    go_loopw [15, 16] (fun v i wr => ∃ (k TL : Nat) (va : Option Addr) (vc : Nat), k ≤ m ∧ i = .int .i64 (k : Int) ∧ v = .slice va TL vc ∧ TL ≤ 300 ∧ Hid (TL = (ps.take (k * M)).length ∧ POwn 65 w5.heap.size wr (.slice va TL vc) (ps.take (k * M)) ∧ w5.grownBy wr none)) (fun _ i _ => m - (intOf i).toNat)
    case atStart => exact ⟨0, 0, none, 0, Nat.zero_le _, rfl, rfl, by omega, Lib.hid ⟨by simp, by rw [Nat.zero_mul, List.take_zero]; exact POwn.nil _ _ _, grefl _ _⟩⟩
    case round =>
      obtain ⟨k, TL, va, vc, hk, rfl, rfl, hTL3, HI⟩ := hrel
      by_cases hkm : k < m
      · have hki : (k : Int) < (m : Int) := by omega
        have hk0 : (0 : Int) ≤ (k : Int) := by omega
        have ho := HO5.out.grown HI.out.2.2
        obtain ⟨u, hu, hpu⟩ := ho.each k hkm
        obtain ⟨ua, uc, rfl⟩ := hpu.shape
        have c0 := World.ownsRow.cells ho.row (g := q) rfl k _ hu
        rw [Addr.add_lit] at c0
        obtain ⟨E, hE⟩ : ∃ E, E = (partF ps M k).length := ⟨_, rfl⟩
        have hEM : E ≤ M := by rw [hE, partF, List.length_take]; omega
        have HTK := Lib.hid (show ps.take ((k + 1) * M) = ps.take (k * M) ++ partF ps M k by rw [Nat.succ_mul, List.take_add]; rfl)
        have hTE : TL + E ≤ 300 := by
          have e1 := congrArg List.length HTK.out
          rw [List.length_append, ← hE, ← HI.out.1, List.length_take] at e1
          have := HL.out
          omega
        have HR := Lib.hid (show RightF (partF ps M k) (s : Int) from ⟨h1, h2, by rw [← hE, ← HM.out]; omega, partF_rise HPW.out _ _⟩)
        have HOKP := Lib.hid (partF_ok HOKA.out M k)
        have HPL := Lib.hid (show (frB (partF ps M k) ((k : Int) + 1) s).length = s from frB_len (by have := room_fits HR.out.2.2.1; omega))
        rw [← hE] at hpu c0
        have HE := Lib.hid hE
        have HU := Lib.hid hpu
        have hu1 : IntKind.u32.wrap ((k : Int) + 1) = (k : Int) + 1 := by rw [show IntKind.u32.wrap ((k : Int) + 1) = ((k : Int) + 1) % 4294967296 from rfl]; omega
        have HK0 := Lib.hid (show (0 : Int) ≤ (k : Int) + 1 by omega)
        have HK1 := Lib.hid (show (k : Int) + 1 ≤ 4294967295 by omega)
        clear hu hpu hE ho
        simp only [Nat.zero_add] at c0
        go_wp2_with (first
          | (go_at_call 24; (with_reducible refine (zput_ok wr _ ua E uc (partF ps M k) ((k : Int) + 1) s (s : Int) rfl HU.out HK0.out HK1.out HR.out).mono ?_); rintro r w6 ⟨v, rfl, ho, hg⟩; have ho' := ho; unfold OwnB at ho'; rw [HPL.out] at ho'; obtain ⟨b6, c6, rfl, _⟩ := own_at ho' (by omega); have HO6 := Lib.hid ho; have G6 := Lib.hid hg; clear ho ho' hg)
          | (go_at_call 26; (with_reducible refine (zget_back (w := w6) HO6.out.seq (Nat.le_refl _) (frB_byt _ _ _) (frB_laid HR.out HOKP.out HK0.out HK1.out)).mono ?_); rintro r w7 ⟨a7, c7, rfl, ho, hg⟩; rw [← HE.out] at ho ⊢; have HO7 := Lib.hid ho; have G7 := Lib.hid (gtrans G6.out hg); have HV7 := Lib.hid (HI.out.2.1.grown G7.out); clear ho hg)
          | (at_builtin; refine wpList_append_any10 _ rfl _ _ 31 rfl w5.heap.size 65 i0 (.agg #[.int .u64 0, .int .u32 0]) 2 16 Try.underlying31 hi hz0 hz1 hz2 rfl (by decide) (.slice va TL vc) TL ((ps.take (k * M)).flatMap prc) rfl (by have h := HV7.out.1; rw [← HI.out.1] at h; exact h) a7 E c7 ((partF ps M k).flatMap prc) rfl (by rw [prc_len, ← HE.out]) HO7.out.src.1 HO7.out.src.2 (prc_one _) (by unfold maxLen; omega) (by omega) (by have := (gtrans HI.out.2.2 G7.out).size; exact this) ?_; intro v' w8 hown hgrow; have HW8 := Lib.hid hown; have HG8 := Lib.hid hgrow; clear hown hgrow))
        have HGF8 := Lib.hid (grow_own (gtrans HI.out.2.2 G7.out) HV7.out.1 HG8.out (Nat.le_refl _))
        have hlen : TL + E = (ps.take ((k + 1) * M)).length := by rw [HTK.out, List.length_append, ← HI.out.1, ← HE.out]
        have HPU := Lib.hid (show POwn 65 w5.heap.size w8 v' (ps.take ((k + 1) * M)) from ⟨by rw [← hlen, HTK.out, List.flatMap_append]; exact HW8.out, fun p hp => HOKA.out p (List.mem_of_mem_take hp)⟩)
        obtain ⟨a8, c8, rfl⟩ := HPU.out.shape
        have HLN := Lib.hid hlen
        rw [← hlen] at HPU ⊢
        go_roundw
        case rel => exact ⟨k + 1, TL + E, a8, c8, by omega, by go_num, rfl, hTE, Lib.hid ⟨HLN.out, HPU.out, HGF8.out⟩⟩
        case measure => simp [intOf]; omega
      · obtain rfl : k = m := by omega
        have hki : ¬ (k : Int) < (k : Int) := by omega
        have htk : ps.take (k * M) = ps := List.take_of_length_le (by rw [← HL.out]; exact HMM.out)
        rw [htk] at HI
        have HQ9 := Lib.hid HI.out.2.1.sq
        have G9 := Lib.hid (gtrans G5.out HI.out.2.2)
        clear htk
        go_wp2_with (first
          | (go_at_call 16; (with_reducible refine (gather_any wr _ va TL vc ps HQ9.out (by omega)).mono ?_); rintro r w12 ⟨v7, e7, rfl, ho, he, hg⟩; rw [HGF.out] at he; have hro := ho.rsq; rw [he] at hro; obtain ⟨za, zc, rfl⟩ := hro.shape; rw [← HRN.out] at hro ⊢; have HA12 := Lib.hid hro; have G12 := Lib.hid (gtrans G9.out hg); have HV12 := Lib.hid (HV2.out.grown G12.out); clear ho he hg hro)
          | (go_at_call 15; (with_reducible refine (same8_any _ _ _ _ _ _ _ _ _ HA12.out HV12.out).mono ?_); rintro r w13 ⟨rfl, hg⟩; have G13 := Lib.hid (gtrans G12.out hg); clear hg))
        go_ret
        exact ⟨rfl, gbelow (gtrans HG2.out G13.out)⟩
  · have hcs : f = false ∨ (f = true ∧ S < 512) ∨ (f = true ∧ ¬ S < 512 ∧ 4096 < S) ∨ (f = true ∧ ¬ S < 512 ∧ ¬ 4096 < S ∧ g = false) := by
      cases f <;> cases g <;> simp at hmain ⊢ <;> omega
    clear hmain
    rcases hcs with rfl | ⟨rfl, a1⟩ | ⟨rfl, a1, a2⟩ | ⟨rfl, a1, a2, rfl⟩
    all_goals
      go_enter Try.func7, Try.ntmps7
      go_wp2_with (first
        | (go_at_call 9; (with_reducible refine (awake10_any W).mono ?_); rintro r w1 ⟨rfl, hg⟩; have HG1 := Lib.hid hg; have HR1 := Lib.hid (HS.out.grown hg); clear hg)
        | (go_at_call 10; (with_reducible refine (few8_any w1 _ ao n c rs HR1.out).mono ?_); rw [HFW.out]; rintro r wq ⟨rfl, rfl⟩)
        | (go_at_call 11; (with_reducible refine (records8_any w1 ao n c rs (HR1.out.imp (fun b _ hb => hb)) HSM.out).mono ?_); rintro r w2 ⟨ov, rv, es, es2, rfl, ho, he, hv, he2, hg⟩; have hro := ho.rsq; rw [he] at hro; obtain ⟨oa, oc, rfl⟩ := hro.shape; rw [← HRN.out] at hro; rw [← HRN.out]; have HO2 := Lib.hid hro; have HG2 := Lib.hid (gtrans HG1.out hg); clear ho he hv he2 hg hro)
        | (go_at_call 21; (with_reducible refine (right_last10 w2 _ oa Rn oc rs HO2.out _ HRT.out).mono ?_); rintro r w3 ⟨rfl, hg⟩; have HG3 := Lib.hid (gtrans HG2.out hg); clear hg))
      go_ret
      first | exact ⟨rfl, gbelow HG3.out⟩ | exact ⟨rfl, gbelow HG2.out⟩

open Go.ChangeShapes Go.WideShapes Go.ChangeAt
set_option linter.unusedVariables false
set_option maxRecDepth 100000 in
theorem fwhole_lifted (os : Os) (started : os.Started) (H : Type) (enc : TypeId × Value → H) :
    ReturnsInHanded {} Try.checked os 7 .any (Rows.freedWholeSpec.pre6 enc Try.prog Try.f7 Rows.freedWholeRow.domain false) (Rows.freedWholeSpec.post enc Try.prog Try.f7 false true false false) := by
  refine returnsInHanded_of_change_sized (C := Try.checked) ownKnob0 started (by kernel_rfl) Try.func7
    (ChangeSpec.witness6 (enc := enc) (C := Try.checked) false ⟨#[], #[.slice none 0 0, .int .u8 0, .int .i64 0], []⟩ 8 (by kernel_rfl) (by kernel_rfl) (by kernel_rfl) (by kernel_rfl)) ?_
  intro W base args ds gs before hval0 hW hcnd hsz0 _
  have hval : ∀ (j : Nat) t v, Try.f7.params[j]? = some t → args[j]? = some v → Value.okWide Try.prog W .any base t v := hval0
  have hW' := hW
  obtain ⟨p, q, hA0, hV, rfl, hfz, hnd⟩ := hW
  have hA : DataW.TrodAll enc Try.prog W 0 (fun _ => true) true Try.f7.params.toList args.toList ds p := hA0
  have hsz : (DataW.weightsEach Try.prog (Try.f7.params.toList ++ Rows.freedWholeSpec.plain.varTypes Try.prog) (ds ++ gs)).all (· ≤ reachBytes) = true := hsz0
  rw [Try.params7] at hA hval hsz
  obtain ⟨v0, vs0, d0, ds0, p0, q0, hargs, rfl, rfl, h0, r0⟩ := trodAll_cons hA
  obtain ⟨v1, vs1, d1, ds1, p1, q1, rfl, rfl, rfl, h1, r1⟩ := trodAll_cons r0
  obtain ⟨v2, vs2, d2, ds2, p2, q2, rfl, rfl, rfl, h2, r2⟩ := trodAll_cons r1
  obtain ⟨rfl, rfl, rfl⟩ := trodAll_nil r2
  obtain rfl : args = #[v0, v1, v2] := by cases args; simp_all
  obtain ⟨rfl, rfl⟩ := trodVars_none hV
  obtain ⟨a0, len0, cap0, rfl⟩ := okWide_slice Try.underlying22 (hval 0 22 v0 rfl rfl)
  have lt0 : ∀ x ∈ p0, x.block < W.heap.size := by obtain ⟨m, hm⟩ := h0; exact DataW.trod_lt m _ _ _ hm
  obtain ⟨z0, w0, s0⟩ := open_raws8 h0 hsz (j := 0) rfl rfl
  obtain ⟨a1, rfl, rfl, rfl, w1⟩ := open_int Try.underlying5 (hval 1 5 v1 rfl rfl) h1
  have b1 := bounds_u8 w1
  obtain ⟨a2, rfl, rfl, rfl, w2⟩ := open_int Try.underlying3 (hval 2 3 v2 rfl rfl) h2
  have b2 := bounds_i64 w2
  clear hA0 hval0
  refine (fwhole_any W a0 len0 cap0 z0 a1 a2 w0 s0 b1.1 b1.2 b2.1 b2.2).mono fun e W' ⟨he, bel⟩ => ?_
  subst he
  exact ⟨_, rfl, _, _, _, [], _, [], hW', trodAll_mk1 (shut_bool Try.underlying4 _), (trodAll_cons_mk (Below.trod laidOut0 (by kernel_rfl) (of_decide_eq_true (by kernel_rfl)) h0 bel lt0) (trodAll_cons_mk (shut_int Try.underlying5 w1) (trodAll_cons_mk (shut_int Try.underlying3 w2) trodAll_mk0))), rfl, bel.frame _, fun h => by cases h⟩

/-- FreedWhole, for every input. -/
theorem freedWhole_holds : Rows.FreedWholeSaid :=
  OpenClaim.holds_of_wide 7 Try.f7 rfl rfl rfl rfl rfl rfl rfl ⟨rfl, rfl, rfl, rfl, rfl⟩ rfl rfl rfl rfl rfl (by kernel_rfl) Try.func7 (by kernel_rfl)
    (of_decide_eq_true (by kernel_rfl)) (by unfold Func.isWrapper; first | (rw [if_pos (by decide +kernel)]; kernel_rfl) | (rw [if_neg (by decide +kernel)]; exact ⟨rfl, rfl⟩))
    (fun os started H enc _ => fwhole_lifted os started H enc)
#print axioms freedWhole_holds

end Go.Proofs.Ytpgpilalhbdidaa
