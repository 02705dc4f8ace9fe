/-
  CrcBurst holds: for any row of bytes, any place and any 32 bits the law returns true, and its arguments read as they did. No condition beyond the row's own. Own work; the frame is the guide's.
-/
import Derived.Test.YtjcaeadeogdppaaCrcC
import Derived.Test.YtjcaeadeogdppaaCrcP
import Derived.Deep.RegionHeld3
import Derived.OwnWalk
namespace Go.Proofs.Ytjcaeadeogdppaa
open Go.RowKit

theorem infoU8 : (Try.prog.info? 5).map (fun i => (i.zero, i.size, i.bytes)) = some (some (.int .u8 0), 1, 1) := by kernel_rfl

theorem pow8I (p : Nat) : (2 : Int) ^ (p % 8) % 256 = ((2 ^ (p % 8) : Nat) : Int) := by
  have h : ((2 ^ (p % 8) : Nat) : Int) = (2 : Int) ^ (p % 8) := Int.natCast_pow 2 (p % 8)
  have hp := pow_lt8 p
  rw [← h]
  generalize (2 : Nat) ^ (p % 8) = x at hp
  omega
/-- What the call owns reads as bytes, its length said. -/
theorem Seq.owned1 {base n : Nat} {w : World} {v : Value} {bs : List Int} (hl : bs.length = n) (h : w.ownsRow base 5 1 v n (bs.map (Value.int .u8))) : Seq w.heap.size w v bs := by
  subst hl
  exact Seq.owned h

set_option maxHeartbeats 2000000 in
theorem burst_any (w : World) (ao : Option Addr) (n c : Nat) (bs : List Int) (t : Int) (B : Nat) (hs : Seq w.heap.size w (.slice ao n c) bs) (hb : Byt bs) (ht0 : 0 ≤ t) (ht1 : t ≤ 65535) (hB : B < 4294967296) :
    Calls Try.prog 4 #[.slice ao n c, .int .u16 t, .int .u32 (B : Int)] w fun r w' => r = .returned (.bool true) ∧ Below w.heap.size w w' := by
  have hn : n = bs.length := by obtain ⟨_, _, hv, _⟩ := hs; injection hv
  have HL := Lib.hid hn
  by_cases hb0 : n < 4
  · clear hs hn
    go_enter Try.func4, Try.ntmps4
    go_wp2_with (go_at_call 8; refine (awake_any _).mono ?_; rintro r wA ⟨rfl, hgA⟩)
    go_ret
    exact ⟨rfl, gbelow hgA⟩
  by_cases hb1 : 300 < n
  · clear hs hn
    have hb0i : ¬ (n : Int) < 4 := by omega
    go_enter Try.func4, Try.ntmps4
    go_wp2_with (go_at_call 8; refine (awake_any _).mono ?_; rintro r wA ⟨rfl, hgA⟩)
    go_ret
    exact ⟨rfl, gbelow hgA⟩
  · have hb0i : ¬ (n : Int) < 4 := by omega
    have hb1i : ¬ (300 : Int) < (n : Int) := by omega
    obtain ⟨b, o, ha, hbw, hcell⟩ : ∃ b o, ao = some ⟨b, o, none⟩ ∧ b < w.heap.size ∧ ∀ j, j < bs.length → w.cell? ⟨b, o + j, none⟩ = some (.int .u8 (bs.getD j 0)) := by
      obtain ⟨ao', c', hv, h1, h2, h3, h4⟩ := hs
      cases hv
      exact h4 (fun e => by have := congrArg List.length e; simp only [List.length_nil] at this; omega)
    obtain ⟨i0, hi, hz0, hz1, hz2⟩ := info_parts infoU8
    obtain ⟨K, hK⟩ : ∃ K : Nat, t % (8 * (n : Int) - 31) = K := ⟨(t % (8 * (n : Int) - 31)).toNat, by have := Int.emod_nonneg t (show 8 * (n : Int) - 31 ≠ 0 by omega); omega⟩
    have hKn : K + 32 ≤ 8 * n := by have := Int.emod_lt_of_pos t (show 0 < 8 * (n : Int) - 31 by omega); omega
    have HS := Lib.hid hs
    have HB := Lib.hid hb
    have HC := Lib.hid hcell
    have HCr := Lib.hid (crc_burst bs hb K B (by rw [← hn]; exact hKn) hB)
    clear hs hb hcell hn
    subst ha
    go_enter Try.func4, Try.ntmps4
    go_wp2_with (first
      | (go_at_call 8; refine (awake_any _).mono ?_; rintro r wA ⟨rfl, hgA⟩; have HS1 := Lib.hid (HS.out.grown hgA); have hsA := hgA.size)
      | (at_builtin; refine wpList_append_own _ rfl _ _ 22 rfl wA.heap.size 5 i0 (.int .u8 0) 1 1 Try.underlying22 hi hz0 hz1 hz2 rfl (by decide) _ _ _ rfl (World.ownsRow_nil wA wA.heap.size _ _) ⟨b, o, none⟩ n c (bs.map (Value.int .u8)) rfl (by simp [← HL.out]) ?c1 bcell1 ?c3 ?c4 ?c5 ?_))
    case c1 =>
      intro j u hu
      have hj : j < bs.length := by have := (List.getElem?_eq_some_iff.1 hu).1; simpa using this
      have := HC.out j hj
      simp [List.getElem?_eq_getElem hj] at hu this
      rw [Addr.add_lit, ← hu]
      exact hgA.cell this (by simp)
    case c3 => unfold maxLen; omega
    case c4 => omega
    case c5 => exact Nat.le_refl _
    intro v' w1 hown hg1 _
    have hown : w1.ownsRow wA.heap.size 5 1 v' n (bs.map (Value.int .u8)) := by simpa only [Nat.zero_add, List.nil_append] using hown
    obtain ⟨g, cap, rfl, hgb, hglt⟩ : ∃ g cap, v' = .slice (some ⟨g, 0, none⟩) n cap ∧ wA.heap.size ≤ g ∧ g < w1.heap.size := by
      rcases hown.2 with ⟨_, h0⟩ | ⟨g, cap, cur, hv, hb, hg, _⟩
      · omega
      · exact ⟨g, cap, hv, hb, lt_of_block hg⟩
    have HS2 := Lib.hid (HS1.out.grown hg1)
    have HgB := Lib.hid (gtrans hgA hg1)
    clear hgA hg1
    have HO := Lib.hid hown
    clear hown
    have HW := Lib.hid (gbelow HgB.out)
    have HgA2 := Lib.hid (show w.heap.size ≤ g from Nat.le_trans hsA hgb)
    go_wp2
    rw [hK]
    clear hK
    go_loopg [10] 32 (fun gk i wr => ∃ k : Nat, k + gk = 32 ∧ i = .int .i64 k ∧ wr.ownsRow wA.heap.size 5 1 (.slice (some ⟨g, 0, none⟩) n cap) n ((burstN bs K B k).map (Value.int .u8)) ∧ Below w.heap.size w wr)
    case atStart => exact ⟨0, rfl, rfl, HO.out, HW.out⟩
    case round =>
      obtain ⟨k, hk, rfl, hown, hbel⟩ := hrel
      have HR := Lib.hid hown
      have HBel := Lib.hid hbel
      clear hown hbel
      by_cases hlt : k < 32
      · obtain ⟨f, rfl⟩ : ∃ f, gk = f + 1 := ⟨gk - 1, by omega⟩
        have hki : (k : Int) < 32 := by omega
        have hq : (B : Int) / 2 ^ k = ((B / 2 ^ k : Nat) : Int) := by simp
        have hq2 : B / 2 ^ k < 4294967296 := Nat.lt_of_le_of_lt (Nat.div_le_self _ _) hB
        have hand : bits .and .u32 ((B : Int) / 2 ^ k) 1 = ((B / 2 ^ k % 2 : Nat) : Int) := by
          rw [hq, ← Nat.and_one_is_mod]
          exact u32_and_nat (B / 2 ^ k) 1 hq2 (by decide)
        clear hq hq2
        by_cases hbit : B / 2 ^ k % 2 = 1
        · rw [hbit] at hand
          have hand1 : bits .and .u32 ((B : Int) / 2 ^ k) 1 = 1 := hand
          clear hand
          have HS1 := Lib.hid (show burstN bs K B (k + 1) = turn (burstN bs K B k) (K + k) by simp only [burstN]; rw [if_pos hbit])
          have HY := Lib.hid (burst_byt HB.out K B k)
          have HLn := Lib.hid ((burst_len bs K B k).trans HL.out.symm)
          clear hbit
          generalize burstN bs K B k = cs at HR HS1 HY HLn
          have hidx : (K + k) / 8 < n := by omega
          have hgetb := getB HY.out ((K + k) / 8)
          have hcellJ := HR.out.cellAt ((K + k) / 8) (by omega)
          have hfrz := HR.out.frozenAt ((K + k) / 8)
          obtain ⟨z, hz⟩ : ∃ z : Nat, cs.getD ((K + k) / 8) 0 = (z : Int) := ⟨(cs.getD ((K + k) / 8) 0).toNat, by omega⟩
          have hjl : (K + k) / 8 < cs.length := by rw [HLn.out]; exact hidx
          have hz' : cs[(K + k) / 8]? = some (z : Int) := by
            rw [List.getElem?_eq_getElem hjl]
            simp [List.getElem?_eq_getElem hjl] at hz
            rw [hz]
          rw [List.getElem?_map, hz'] at hcellJ
          simp only [Option.map_some] at hcellJ
          rw [hz] at hgetb
          have HZ := Lib.hid hz
          clear hz hz' hjl
          have HXr := Lib.hid (show bits .xor .u8 (z : Int) ((2 : Int) ^ ((K + k) % 8) % 256) = ((z ^^^ 2 ^ ((K + k) % 8) : Nat) : Int) by
            rw [pow8I]
            exact u8_xor_nat z _ (by omega) (pow_lt8 (K + k)))
          have HSt := Lib.hid (HR.out.stored ((K + k) / 8) (.int .u8 ((z ^^^ 2 ^ ((K + k) % 8) : Nat) : Int)))
          go_wp2
          rw [HXr.out]
          go_roundg f
          case measure => omega
          case rel =>
            refine ⟨k + 1, by omega, by go_num, ?_, HBel.out.grown HSt.out.2 HBel.out.size (fun j e => by injection e with e; rw [← e]; exact HgA2.out)⟩
            have h1 := HSt.out.1
            rw [HS1.out]
            have e : (turn cs (K + k)).map (Value.int .u8) = (cs.map (Value.int .u8)).set ((K + k) / 8) (.int .u8 ((z ^^^ 2 ^ ((K + k) % 8) : Nat) : Int)) := by
              unfold turn
              rw [HZ.out, Int.toNat_natCast, List.map_set]
            rw [e]
            exact h1
        · have h0 : B / 2 ^ k % 2 = 0 := by omega
          rw [h0] at hand
          have hand1 : bits .and .u32 ((B : Int) / 2 ^ k) 1 = 0 := hand
          clear hand h0
          have HS1 := Lib.hid (show burstN bs K B (k + 1) = burstN bs K B k by simp only [burstN]; rw [if_neg hbit])
          clear hbit
          go_wp2
          go_roundg f
          case measure => omega
          case rel => exact ⟨k + 1, by omega, by go_num, by rw [HS1.out]; exact HR.out, HBel.out⟩
      · obtain rfl : k = 32 := by omega
        have HC1 := Lib.hid (Seq.owned1 ((burst_len bs K B 32).trans HL.out.symm) HR.out)
        have HB1 := Lib.hid (show Byt (burstN bs K B 32) from burst_byt HB.out K B 32)
        have HSb := Lib.hid ((HS.out.below HBel.out.block).mono HBel.out.size)
        obtain ⟨x, hx⟩ : ∃ x, x = crcN bs := ⟨_, rfl⟩
        obtain ⟨y, hy⟩ : ∃ y, y = crcN (burstN bs K B 32) := ⟨_, rfl⟩
        have hend : (((y : Int) == (x : Int)) == ((B : Int) == 0)) = true := by
          have h := HCr.out
          rw [← hx, ← hy] at h
          by_cases h0 : B = 0
          · have := h.2 h0; subst this; simp [h0]
          · have h1 : ¬ y = x := fun e => h0 (h.1 e)
            have e1 : ((y : Int) == (x : Int)) = false := by simpa using (by omega : ¬ (y : Int) = x)
            have e2 : ((B : Int) == 0) = false := by simpa using (by omega : ¬ (B : Int) = 0)
            rw [e1, e2]; rfl
        have HX := Lib.hid hx
        have HY := Lib.hid hy
        clear hx hy
        go_wp2_with (first
          | (go_at_call 10; have K1 := of1 (w := wr) (t := 22) (q := wr.heap.size) rfl HC1.out HB1.out; rw [← HY.out] at K1; ((with_reducible refine K1.mono ?_); clear K1; rintro r wC ⟨rfl, hgC⟩; have HSc := Lib.hid (HSb.out.grown hgC)))
          | (go_at_call 10; have K1 := of1 (w := wC) (t := 22) (q := wC.heap.size) rfl HSc.out HB.out; rw [← HX.out] at K1; ((with_reducible refine K1.mono ?_); clear K1; rintro r wD ⟨rfl, hgD⟩)))
        go_ret
        exact ⟨rfl, (HBel.out.grown hgC HBel.out.size (by simp)).grown hgD (by have := HBel.out.size; have := hgC.size; omega) (by simp)⟩

open Go.ChangeShapes Go.WideShapes Go.ChangeAt
set_option linter.unusedVariables false
set_option maxRecDepth 100000 in
theorem burst_lifted (os : Os) (started : os.Started) (H : Type) (enc : TypeId × Value → H) :
    ReturnsInHanded {} Try.checked os 4 .any (Rows.crcBurstSpec.pre6 enc Try.prog Try.f4 Rows.crcBurstRow.domain false) (Rows.crcBurstSpec.post enc Try.prog Try.f4 false true false false) := by
  refine returnsInHanded_of_change (C := Try.checked) ownKnob0 started (by kernel_rfl) Try.func4
    (ChangeSpec.witness6 (enc := enc) (C := Try.checked) false ⟨#[], #[.slice none 0 0, .int .u16 0, .int .u32 0], []⟩ 8 (by kernel_rfl) (by kernel_rfl) (by kernel_rfl) (by kernel_rfl)) ?_
  intro W base args ds gs before hval0 hW hcnd _
  have hval : ∀ (j : Nat) t v, Try.f4.params[j]? = some t → args[j]? = some v → Value.okWide Try.prog W .any base t v := hval0
  have hW' := hW
  obtain ⟨p, q, hA0, hV, rfl, hfz, hnd⟩ := hW
  have hA : DataW.TrodAll enc Try.prog W 0 (fun _ => true) true Try.f4.params.toList args.toList ds p := hA0
  rw [Try.params4] at hA hval
  obtain ⟨v0, vs0, d0, ds0, p0, q0, hargs, rfl, rfl, h0, r0⟩ := trodAll_cons hA
  obtain ⟨v1, vs1, d1, ds1, p1, q1, rfl, rfl, rfl, h1, r1⟩ := trodAll_cons r0
  obtain ⟨v2, vs2, d2, ds2, p2, q2, rfl, rfl, rfl, h2, r2⟩ := trodAll_cons r1
  obtain ⟨rfl, rfl, rfl⟩ := trodAll_nil r2
  obtain rfl : args = #[v0, v1, v2] := by cases args; simp_all
  obtain ⟨rfl, rfl⟩ := trodVars_none hV
  obtain ⟨a0, len0, cap0, rfl⟩ := okWide_slice Try.underlying22 (hval 0 22 v0 rfl rfl)
  have lt0 : ∀ x ∈ p0, x.block < W.heap.size := by obtain ⟨m, hm⟩ := h0; exact DataW.trod_lt m _ _ _ hm
  obtain ⟨z0, w0, y0⟩ := open_bytes h0
  obtain ⟨a1, rfl, rfl, rfl, w1⟩ := open_int Try.underlying23 (hval 1 23 v1 rfl rfl) h1
  obtain ⟨a2, rfl, rfl, rfl, w2⟩ := open_int Try.underlying25 (hval 2 25 v2 rfl rfl) h2
  clear hA0 hval0
  have b2 := bounds_u32 w2
  obtain ⟨B, hB⟩ := Int.eq_ofNat_of_zero_le b2.1
  have b1 := bounds_u16 w1
  subst hB
  refine (burst_any W a0 len0 cap0 z0 a1 B w0 y0 b1.1 b1.2 (by omega)).mono fun e W' ⟨he, bel⟩ => ?_
  subst he
  exact ⟨_, rfl, _, _, _, [], _, [], hW', trodAll_mk1 (shut_bool Try.underlying4 _), (trodAll_cons_mk (Below.trod laidOut0 (by kernel_rfl) (of_decide_eq_true (by kernel_rfl)) h0 bel lt0) (trodAll_cons_mk (shut_int Try.underlying23 w1) (trodAll_cons_mk (shut_int Try.underlying25 w2) trodAll_mk0))), rfl, bel.frame _, fun h => by cases h⟩

/-- CrcBurst, for every input. -/
theorem crcBurst_holds : Rows.CrcBurstSaid :=
  OpenClaim.holds_of_wide 4 Try.f4 rfl rfl rfl rfl rfl rfl rfl ⟨rfl, rfl, rfl, rfl, rfl⟩ rfl rfl rfl rfl rfl (by kernel_rfl) Try.func4 (by kernel_rfl)
    (of_decide_eq_true (by kernel_rfl)) (by unfold Func.isWrapper; first | (rw [if_pos (by decide +kernel)]; kernel_rfl) | (rw [if_neg (by decide +kernel)]; exact ⟨rfl, rfl⟩))
    (fun os started H enc _ => burst_lifted os started H enc)
#print axioms crcBurst_holds

end Go.Proofs.Ytjcaeadeogdppaa
