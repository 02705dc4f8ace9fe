/-
  OctetBack holds: for any numbers, any bytes and any size the law returns true, and its arguments read as they did. No condition beyond the row's own. Own work; the frame is the guide's.
-/
import Derived.Test.YtmphogmiobpkkaaOctY
import Derived.Test.YtmphogmiobpkkaaOctZ
namespace Go.Proofs.Ytmphogmiobpkkaa
open Go.RowKit

/-- A slice of numbers of 64 bits that came in. -/
def SeqU (w : World) (v : Value) (zs : List Int) : Prop :=
  ∃ ao c, v = .slice ao zs.length c ∧ (zs ≠ [] → ∃ b o, ao = some ⟨b, o, none⟩ ∧ b < w.heap.size ∧ ∀ j, j < zs.length → w.cell? ⟨b, o + j, none⟩ = some (.int .u64 (zs.getD j 0)))

theorem rbytes_len {w : World} {g m : Nat} {bs b1 out : List Int} {e e1 most : Int} (h : RdAt w g bs e) (hx : bx bs e most = (b1, e1, out)) (hm : out.length = m) (hb : Byt bs) (hl : bs.length ≤ 140737488355328) (hm0 : -9223372036854775808 ≤ most) (hm1 : most ≤ 9223372036854775807) :
    Calls Try.prog 21 #[.pointer (some ⟨g, 0, none⟩), .int .i64 most] w fun r w' => ∃ ao c, r = .returned (.slice ao m c) ∧
      w'.ownsRow w.heap.size 5 1 (.slice ao m c) m (out.map (Value.int .u8)) ∧ RdAt w' g b1 e1 ∧ w.grownBy w' (some g) := by
  subst hm
  exact rbytes_at h hx hb hl hm0 hm1
theorem num_val {w : World} {g : Nat} {bs b1 out : List Int} {e e1 n y : Int} (h : RdAt w g bs e) (hx : nx bs e n (decide (1 ≤ n) && decide (n ≤ 8)) = (b1, e1, out)) (hy : beVal out = y) (hb : Byt bs) (hl : bs.length ≤ 140737488355328) :
    Calls Try.prog 20 #[.pointer (some ⟨g, 0, none⟩), .int .i64 n] w fun r w' => r = .returned (.int .u64 y) ∧ RdAt w' g b1 e1 ∧ w.grownBy w' (some g) := by
  subst hy
  exact num_at h hx hb hl
theorem seq_own1 {base n : Nat} {w : World} {v : Value} {bs : List Int} (h : w.ownsRow base 5 1 v n (bs.map (Value.int .u8))) : Seq w.heap.size w v bs := by
  have hn : n = bs.length := by have := h.1; simp at this; omega
  subst hn
  exact Seq.owned h

theorem mask (X n : Nat) (hX : X < 18446744073709551616) (h : n < 8) : ((X % 256 ^ n : Nat) : Int) = bits BinOp.and IntKind.u64 (X : Int) (IntKind.u64.wrap (IntKind.u64.wrap (2 ^ (8 * n)) - 1)) := by
  have h1 : (2 : Nat) ^ (8 * n) ≤ 2 ^ 56 := Nat.pow_le_pow_right (by omega) (by omega)
  have h0 : 0 < (2 : Nat) ^ (8 * n) := Nat.pow_pos (by omega)
  have e : (2 : Int) ^ (8 * n) = ((2 ^ (8 * n) : Nat) : Int) := by rw [Int.natCast_pow]; rfl
  have e2 : (256 : Nat) ^ n = 2 ^ (8 * n) := by rw [Nat.pow_mul]
  rw [e, e2]
  have hm := Nat.and_two_pow_sub_one_eq_mod X (8 * n)
  generalize (2 : Nat) ^ (8 * n) = P at *
  have hP : P ≤ 72057594037927936 := h1
  rw [IntWalk.u64_in (P : Int) (by omega), show (P : Int) - 1 = ((P - 1 : Nat) : Int) by omega, IntWalk.u64_in ((P - 1 : Nat) : Int) (by omega), u64_and_nat _ _ hX (by omega), hm]
theorem mask8 (X n : Nat) (hX : X < 18446744073709551616) (h : ¬ n < 8) (h8 : n ≤ 8) : ((X % 256 ^ n : Nat) : Int) = (X : Int) := by
  obtain rfl : n = 8 := by omega
  have e : (256 : Nat) ^ 8 = 18446744073709551616 := by decide
  rw [e, Nat.mod_eq_of_lt hX]

set_option maxHeartbeats 4000000 in
theorem back_any (w : World) (a1 a2 : Option Addr) (n1 n2 c1 c2 : Nat) (l bs : List Int) (m : Int) (h1 : SeqU w (.slice a1 n1 c1) l) (hu : ∀ x ∈ l, 0 ≤ x ∧ x ≤ 18446744073709551615)
    (h2 : Seq w.heap.size w (.slice a2 n2 c2) bs) (hby : Byt bs) (hm0 : 0 ≤ m) (hm1 : m ≤ 255) :
    Calls Try.prog 4 #[.slice a1 n1 c1, .slice a2 n2 c2, .int .u8 m] w fun r w' => r = .returned (.bool true) ∧ Below w.heap.size w w' := by
  have hl1 : n1 = l.length := by obtain ⟨_, _, hv, _⟩ := h1; injection hv
  have hl2 : n2 = bs.length := by obtain ⟨_, _, hv, _⟩ := h2; injection hv
  have HL1 := Lib.hid hl1
  have HL2 := Lib.hid hl2
  clear hl1 hl2
  by_cases hb1 : 40 < n1
  · clear h1 h2 hu hby
    go_enter Try.func4, Try.ntmps4
    go_wp2_with (go_at_call 8; refine (awake_any _).mono ?_; rintro r wA ⟨rfl, hgA⟩)
    go_ret
    exact ⟨rfl, gbelow hgA⟩
  · by_cases hb2 : 300 < n2
    · clear h1 h2 hu hby
      go_enter Try.func4, Try.ntmps4
      go_wp2_with (go_at_call 8; refine (awake_any _).mono ?_; rintro r wA ⟨rfl, hgA⟩)
      go_ret
      exact ⟨rfl, gbelow hgA⟩
    · obtain ⟨n, hn⟩ : ∃ n : Nat, m % 8 + 1 = n := ⟨(m % 8 + 1).toNat, by omega⟩
      have hn1 : 1 ≤ n := by omega
      have hn8 : n ≤ 8 := by omega
      have HB300 := Lib.hid (show bs.length ≤ 300 by rw [← HL2.out]; omega)
      have HH1 := Lib.hid h1
      have H2 := Lib.hid h2
      have HU := Lib.hid hu
      have HBY := Lib.hid hby
      have HEL := Lib.hid (fun k => encB_len bs n HB300.out hn8 (l.take k) (fun x hx => by have := hu x (List.mem_of_mem_take hx); omega))
      clear h1 h2 hu hby
      go_enter Try.func4, Try.ntmps4
      go_wp2_with (first
        | (go_at_call 8; refine (awake_any _).mono ?_; rintro r wA ⟨rfl, hgA⟩; have HbA := Lib.hid (gbelow hgA); have hzA := hgA.size)
        | (go_at_call 9; refine (newW_any _).mono ?_; rintro r w1 ⟨rfl, hw1, hg1⟩; have HbB := Lib.hid (HbA.out.trans ((gbelow hg1).mono hzA))))
      clear hgA hg1
      have HW1 := Lib.hid hw1
      clear hw1
      go_loopw [10] (fun i wr => ∃ k : Nat, k ≤ n1 ∧ i = .int .i64 k ∧ WrAt wr wA.heap.size (encB bs n (l.take k)) ∧ Below w.heap.size w wr) (fun i _ => n1 - (intOf i).toNat)
      case atStart => exact ⟨0, Nat.zero_le _, rfl, by simpa [encB] using HW1.out, HbB.out⟩
      case round =>
        obtain ⟨k, hk, rfl, hwr, hbl⟩ := hrel
        have HBR := Lib.hid hbl
        by_cases hlt : k < n1
        · have hkl : k < l.length := by rw [← HL1.out]; exact hlt
          obtain ⟨ao, c, hv, hcs⟩ := HH1.out
          obtain ⟨b, o, rfl, hbB, hcell⟩ := hcs (by rintro rfl; simp at hkl)
          injection hv with hv1 hv2 hv3
          subst hv1
          have hX := hcell k hkl
          have hXb := HU.out _ (getD_mem hkl)
          have HET := Lib.hid (encB_take bs n l k hkl)
          have HLE := Lib.hid (show (encB bs n (l.take k)).length ≤ 13120 by have := HEL.out k; simp at this; omega)
          generalize l.getD k 0 = X at *
          generalize encB bs n (l.take k) = E at *
          have cR := (hbl.cell (p := ⟨b, o + k, none⟩) hbB).trans hX
          clear hcell hcs hv2 hv3 hbl
          have HC := Lib.hid hX
          clear hX
          have HVL := Lib.hid (vlen_le X.toNat (by omega))
          go_wp2_with (first
            | (go_at_call 12; have K := wvar_any wr _ X _ hwr hXb.1 hXb.2 (by have := HLE.out; omega); ((with_reducible refine K.mono ?_); clear K; rintro r w2 ⟨rfl, hw2, hf2⟩; have HB2 := Lib.hid (HBR.out.trans ((hf2.below hwr).mono hzA)); have cR2 := (HB2.out.cell (p := ⟨b, o + k, none⟩) hbB).trans HC.out; clear hf2))
            | (go_at_call 10; have K := wnum_in w2 _ n X _ hw2 hXb.1 hXb.2 hn1 hn8 (by have := HLE.out; have := HVL.out; rw [List.length_append, varB_len]; omega); ((with_reducible refine K.mono ?_); clear K; rintro r w3 ⟨rfl, hw3, hf3⟩; have HB3 := Lib.hid (HB2.out.trans ((hf3.below hw2).mono hzA)); clear hf3))
            | (go_at_call 14; have K := wbytes_any w3 _ w.heap.size _ bs _ hw3 (fun w' hf => H2.out.below (HB3.out.trans ((hf.below hw3).mono hzA)).block) (by have := HLE.out; have := HVL.out; have := HB300.out; rw [List.length_append, List.length_append, varB_len, numB_len]; omega); ((with_reducible refine K.mono ?_); clear K; rintro r w4 ⟨rfl, hw4, hf4⟩; have HB4 := Lib.hid (HB3.out.trans ((hf4.below hw3).mono hzA)); clear hf4)))
          go_roundw
          case rel => exact ⟨k + 1, by omega, by go_num, by rw [HET.out, eB]; simpa using hw4, HB4.out⟩
          case measure => simp [intOf]; omega
        · obtain rfl : k = n1 := by omega
          obtain ⟨T, hT⟩ : ∃ T, (encB bs n l).length = T := ⟨_, rfl⟩
          have hTb : T ≤ 13120 := by
            have := HEL.out k
            rw [HL1.out, List.take_length] at this
            have := HL1.out
            omega
          have HT := Lib.hid hT
          rw [HL1.out, List.take_length] at hwr
          have HWR := Lib.hid hwr
          have HEB := Lib.hid (encB_byt bs n HBY.out)
          clear hT hwr hbl
          go_wp2_with (first
            | (go_at_call 17; have K := out_len (n := T) HWR.out HT.out (by omega); ((with_reducible refine K.mono ?_); clear K; rintro r w5 ⟨ao, c, rfl, _, hs5, hg5⟩; have HB5 := Lib.hid (HBR.out.trans ((gbelow hg5).mono (by have := HBR.out.size; omega)))))
            | (go_at_call 18; have K := newR_any w5 _ _ (encB bs n l) hs5 (Nat.le_refl _) (by have := HT.out; omega); ((with_reducible refine K.mono ?_); clear K hs5; rintro r w6 ⟨gr, rfl, hgr, hr6, hg6⟩; have HB6 := Lib.hid (HB5.out.trans ((gbelow hg6).mono (by have := HB5.out.size; omega))))))
          have HGR := Lib.hid (show w.heap.size ≤ gr by have := HB5.out.size; omega)
          have HR6 := Lib.hid hr6
          clear hr6 hg5 hg6 hgr
          go_loopw [12] (fun i wq => ∃ j : Nat, j ≤ k ∧ i = .int .i64 j ∧ RdAt wq gr (encB bs n (l.drop j)) 0 ∧ Below w.heap.size w wq) (fun i _ => k - (intOf i).toNat)
          case atStart => exact ⟨0, Nat.zero_le _, rfl, by simpa using HR6.out, HB6.out⟩
          case round =>
            obtain ⟨j, hj, rfl, hrd, hbq⟩ := hrel
            have HBQ := Lib.hid hbq
            by_cases hjk : j < k
            · have hjl : j < l.length := by rw [← HL1.out]; exact hjk
              obtain ⟨ao', c', hv, hcs⟩ := HH1.out
              obtain ⟨b, o, rfl, hbB, hcell⟩ := hcs (by rintro rfl; simp at hjl)
              injection hv with hv1 hv2 hv3
              subst hv1
              have hX := hcell j hjl
              have hXb := HU.out _ (getD_mem hjl)
              have HED := encB_drop bs n l j hjl
              have HLD := Lib.hid (show (encB bs n (l.drop (j + 1))).length ≤ 13120 by
                have := encB_len bs n HB300.out hn8 (l.drop (j + 1)) (fun x hx => by have := HU.out x (List.mem_of_mem_drop hx); omega)
                rw [List.length_drop] at this
                have := HL1.out
                omega)
              have HBD := Lib.hid (HEB.out (l.drop (j + 1)))
              obtain ⟨R, hR⟩ : ∃ R, R = encB bs n (l.drop (j + 1)) := ⟨_, rfl⟩
              rw [← hR] at HED HLD HBD
              have HRR := Lib.hid hR
              generalize l.getD j 0 = X at *
              rw [HED, eB] at hrd
              obtain ⟨XN, rfl⟩ := Int.eq_ofNat_of_zero_le hXb.1
              have HXN := Lib.hid (show XN < 18446744073709551616 by omega)
              rw [Int.toNat_natCast, List.append_assoc, List.append_assoc, List.append_assoc] at hrd
              have HRD := Lib.hid hrd
              have HC := Lib.hid hX
              have HBN := Lib.hid (show Byt (numB (XN : Int) n n ++ (varB bs.length ++ (bs ++ R))) from Byt.app (numB_byt _ _ _) (Byt.app (varB_byt _) (Byt.app HBY.out HBD.out)))
              have HBN2 := Lib.hid (show Byt (varB bs.length ++ (bs ++ R)) from Byt.app (varB_byt _) (Byt.app HBY.out HBD.out))
              have HBL := Lib.hid (show (varB XN ++ (numB (XN : Int) n n ++ (varB bs.length ++ (bs ++ R)))).length ≤ 20000 by
                have := HLD.out; have := vlen_le XN (by have := HXN.out; omega); have := vlen_le bs.length (by have := HB300.out; omega); have := HB300.out
                simp only [List.length_append, varB_len, numB_len]; omega)
              clear hR HED hrd hX hcell hcs hv2 hv3 hbq
              obtain ⟨S, hS⟩ : ∃ S, S = strOfNums bs := ⟨_, rfl⟩
              have ES := Lib.hid hS
              obtain ⟨Y, hY⟩ : ∃ Y : Int, ((XN % 256 ^ n : Nat) : Int) = Y := ⟨_, rfl⟩
              have EY := Lib.hid hY
              clear hS hY
              go_wp2_with (first
                | (go_at_call 19; have K := rvar_at HRD.out (vx_varB XN HXN.out _) (Byt.app (varB_byt _) HBN.out) (by have := HBL.out; omega); ((with_reducible refine K.mono ?_); clear K; rintro r w7 ⟨rfl, hr7, hg7⟩))
                | (go_at_call 20; have K := num_val hr7 (nx_app (numB (XN : Int) n n) _ (n : Int) _ (by rw [numB_len]) (by simp; omega)) ((be_num XN n).trans EY.out) HBN.out (by have := HBL.out; rw [List.length_append] at this; omega); ((with_reducible refine K.mono ?_); clear K; rintro r w8 ⟨rfl, hr8, hg8⟩; clear hr7))
                | (go_at_call 21; have K := rbytes_len (m := n2) hr8 (bx_app bs R 300 (by have := HB300.out; omega) (by have := HB300.out; omega)) HL2.out.symm HBN2.out (by have := HBL.out; rw [List.length_append, List.length_append] at this; omega) (by omega) (by omega); ((with_reducible refine K.mono ?_); clear K; rintro r w9 ⟨az, cz, rfl, ho9, hr9, hg9⟩; have hB9 := (((HBQ.out.grown hg7 (by have := HBQ.out.size; omega) (by intro i e; injection e with e; have := HGR.out; omega)).grown hg8 (by have := HBQ.out.size; have := hg7.size; omega) (by intro i e; injection e with e; have := HGR.out; omega)).grown hg9 (by have := HBQ.out.size; have := hg7.size; have := hg8.size; omega) (by intro i e; injection e with e; have := HGR.out; omega)); have HB9 := Lib.hid hB9; have cR9 := (hB9.cell (p := ⟨b, o + j, none⟩) hbB).trans HC.out; have cZ := seq_string (seq_own1 ho9); have cB := seq_string (H2.out.below hB9.block); rw [← ES.out] at cZ cB; clear hr8 hB9 ho9 hg7 hg8 hg9)))
              all_goals first
                | (go_roundw
                   case rel => exact ⟨j + 1, by omega, by go_num, by rw [← HRR.out]; exact hr9, HB9.out⟩
                   case measure => simp [intOf]; omega)
                | (exfalso
                   by_cases h8 : n < 8
                   · have hq := mask XN n HXN.out h8
                     rw [EY.out] at hq
                     first | (exact absurd hq (by assumption)) | omega
                   · have hq := mask8 XN n HXN.out h8 hn8
                     rw [EY.out] at hq
                     first | (exact absurd hq (by assumption)) | omega)
            · obtain rfl : j = k := by omega
              have HRE := Lib.hid (show RdAt wr gr [] 0 by
                rw [HL1.out, List.drop_length] at hrd
                simpa [encB] using hrd)
              clear hrd
              go_wp2_with (go_at_call 22; have K := end_any wr gr [] 0 HRE.out; ((with_reducible refine K.mono ?_); clear K; rintro r wz ⟨rfl, rfl⟩; rw [show endOf [] 0 = 0 from rfl]))
              go_ret
              exact ⟨rfl, HBQ.out⟩

open Go.ChangeShapes Go.WideShapes Go.ChangeAt

/-- A slice of numbers of 64 bits that came in: what it reads as. -/
theorem open_u64s {H : Type} {enc : TypeId × Value → H} {W : World} {d : DataW H} {p : List MemPlace} {a : Option Addr} {len cap : Nat}
    (h : ∃ fuel, DataW.trod enc Try.prog W 0 (fun _ => true) true fuel 38 [.slice a len cap] = some (d, p)) :
    ∃ zs, SeqU W (.slice a len cap) zs ∧ ∀ x ∈ zs, 0 ≤ x ∧ x ≤ 18446744073709551615 := by
  obtain ⟨fuel, hf⟩ := h
  rcases open_ints Try.underlying38 Try.underlying26 (by kernel_rfl) hf with ⟨hcs, _⟩ | ⟨x, l, c, zs, hcs, _, hl, hm, hz, _, hcell, hwz⟩
  · simp at hcs
    obtain ⟨rfl, rfl, rfl⟩ := hcs
    exact ⟨[], ⟨none, 0, rfl, fun h => absurd rfl h⟩, fun x hx => by simp at hx⟩
  · simp at hcs
    obtain ⟨rfl, rfl, rfl⟩ := hcs
    have hz' : zs.length = cap := by simpa using hz
    have hlen : (zs.take len).length = len := by simp; omega
    refine ⟨zs.take len, ⟨some x, cap, by rw [hlen], fun hne => ?_⟩, fun y hy => bounds_u64 (hwz y (List.mem_of_mem_take hy))⟩
    have hpos : 0 < len := by
      rcases Nat.eq_zero_or_pos len with h | h
      · subst h; simp at hne
      · exact h
    obtain ⟨b, off, hx, hc⟩ := ints_at hcell (by omega)
    subst hx
    refine ⟨b, off, rfl, ?_, fun j hj => ?_⟩
    · have := World.block_lt_of_cell? _ _ (hc 0 (by omega)); simpa using this
    · rw [hc j (by omega)]
      simp [show j < len by omega]

set_option linter.unusedVariables false
set_option maxRecDepth 100000 in
theorem back_lifted (os : Os) (started : os.Started) (H : Type) (enc : TypeId × Value → H) :
    ReturnsInHanded {} Try.checked os 4 .any (Rows.octetBackSpec.pre6 enc Try.prog Try.f4 Rows.octetBackRow.domain false) (Rows.octetBackSpec.post enc Try.prog Try.f4 false true false false) := by
  refine returnsInHanded_of_change (C := Try.checked) ownKnob0 started (by kernel_rfl) Try.func4
    (ChangeSpec.witness6 (enc := enc) (C := Try.checked) false ⟨#[], #[.slice none 0 0, .slice none 0 0, .int .u8 0], []⟩ 8 (by kernel_rfl) (by kernel_rfl) (by kernel_rfl) (by kernel_rfl)) ?_
  intro W base args ds gs before hval0 hW hcnd _
  have hval : ∀ (j : Nat) t v, Try.f4.params[j]? = some t → args[j]? = some v → Value.okWide Try.prog W .any base t v := hval0
  have hW' := hW
  obtain ⟨p, q, hA0, hV, rfl, hfz, hnd⟩ := hW
  have hA : DataW.TrodAll enc Try.prog W 0 (fun _ => true) true Try.f4.params.toList args.toList ds p := hA0
  rw [Try.params4] at hA hval
  obtain ⟨v0, vs0, d0, ds0, p0, q0, hargs, rfl, rfl, h0, r0⟩ := trodAll_cons hA
  obtain ⟨v1, vs1, d1, ds1, p1, q1, rfl, rfl, rfl, h1, r1⟩ := trodAll_cons r0
  obtain ⟨v2, vs2, d2, ds2, p2, q2, rfl, rfl, rfl, h2, r2⟩ := trodAll_cons r1
  obtain ⟨rfl, rfl, rfl⟩ := trodAll_nil r2
  obtain rfl : args = #[v0, v1, v2] := by cases args; simp_all
  obtain ⟨rfl, rfl⟩ := trodVars_none hV
  obtain ⟨a0, len0, cap0, rfl⟩ := okWide_slice Try.underlying38 (hval 0 38 v0 rfl rfl)
  have lt0 : ∀ x ∈ p0, x.block < W.heap.size := by obtain ⟨m, hm⟩ := h0; exact DataW.trod_lt m _ _ _ hm
  obtain ⟨z0, w0, u0⟩ := open_u64s h0
  obtain ⟨a1, len1, cap1, rfl⟩ := okWide_slice Try.underlying27 (hval 1 27 v1 rfl rfl)
  have lt1 : ∀ x ∈ p1, x.block < W.heap.size := by obtain ⟨m, hm⟩ := h1; exact DataW.trod_lt m _ _ _ hm
  obtain ⟨z1, w1, u1⟩ := open_bytes h1
  obtain ⟨a2, rfl, rfl, rfl, w2⟩ := open_int Try.underlying5 (hval 2 5 v2 rfl rfl) h2
  clear hA0 hval0
  have b2 := bounds_u8 w2
  refine (back_any W a0 a1 len0 len1 cap0 cap1 z0 z1 a2 w0 u0 w1 u1 b2.1 b2.2).mono fun e W' ⟨he, bel⟩ => ?_
  subst he
  exact ⟨_, rfl, _, _, _, [], _, [], hW', trodAll_mk1 (shut_bool Try.underlying4 _), (trodAll_cons_mk (Below.trod laidOut0 (by kernel_rfl) (of_decide_eq_true (by kernel_rfl)) h0 bel lt0) (trodAll_cons_mk (Below.trod laidOut0 (by kernel_rfl) (of_decide_eq_true (by kernel_rfl)) h1 bel lt1) (trodAll_cons_mk (shut_int Try.underlying5 w2) trodAll_mk0))), rfl, bel.frame _, fun h => by cases h⟩

/-- OctetBack, for every input. -/
theorem octetBack_holds : Rows.OctetBackSaid :=
  OpenClaim.holds_of_wide 4 Try.f4 rfl rfl rfl rfl rfl rfl rfl ⟨rfl, rfl, rfl, rfl, rfl⟩ rfl rfl rfl rfl rfl (by kernel_rfl) Try.func4 (by kernel_rfl)
    (of_decide_eq_true (by kernel_rfl)) (by unfold Func.isWrapper; first | (rw [if_pos (by decide +kernel)]; kernel_rfl) | (rw [if_neg (by decide +kernel)]; exact ⟨rfl, rfl⟩))
    (fun os started H enc _ => back_lifted os started H enc)
#print axioms octetBack_holds

end Go.Proofs.Ytmphogmiobpkkaa
