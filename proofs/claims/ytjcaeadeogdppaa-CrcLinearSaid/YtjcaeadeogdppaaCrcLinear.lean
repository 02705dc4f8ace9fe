/-
  CrcLinear holds: for any three rows of bytes the law returns true, and its arguments read as they did. No condition beyond the row's own. Own work; the frame is the guide's.
-/
import Derived.Test.YtjcaeadeogdppaaCrcC
import Derived.Test.YtjcaeadeogdppaaCrcN
import Derived.Test.YtjcaeadeogdppaaCrcX
import Derived.OwnWalk
namespace Go.Proofs.Ytjcaeadeogdppaa
open Go.RowKit

theorem infoU8 : (Try.prog.info? 5).map (fun i => (i.zero, i.size, i.bytes)) = some (some (.int .u8 0), 1, 1) := by kernel_rfl

/-- The first k of n bytes made: the three rows' bytes, xor one another. -/
def xrow (xs ys zs : List Int) (n k : Nat) : List Int := (List.range n).map fun j => if j < k then (((xs.getD j 0).toNat ^^^ (ys.getD j 0).toNat ^^^ (zs.getD j 0).toNat : Nat) : Int) else 0
theorem xrow_len (xs ys zs : List Int) (n k : Nat) : (xrow xs ys zs n k).length = n := by simp [xrow]
theorem xrow_zero (xs ys zs : List Int) (n : Nat) : xrow xs ys zs n 0 = List.replicate n 0 := by
  apply List.ext_getElem?
  intro j
  simp only [xrow, List.getElem?_map, List.getElem?_replicate]
  by_cases h : j < n <;> simp [h]
theorem xrow_set (xs ys zs : List Int) (n k : Nat) (hk : k < n) : (xrow xs ys zs n k).set k (((xs.getD k 0).toNat ^^^ (ys.getD k 0).toNat ^^^ (zs.getD k 0).toNat : Nat) : Int) = xrow xs ys zs n (k + 1) := by
  apply List.ext_getElem?
  intro j
  rw [List.getElem?_set]
  by_cases hj : j < n
  · by_cases e : k = j
    · subst e; simp [xrow, hk]
    · have : (j < k + 1) = (j < k) := by apply propext; omega
      simp [xrow, hj, e, this]
  · have h0 : ∀ k, (xrow xs ys zs n k)[j]? = none := fun k => List.getElem?_eq_none (by rw [xrow_len]; omega)
    have : ¬ k = j := by omega
    simp [h0, this]
theorem xrow_full (xs ys zs : List Int) (n : Nat) (h1 : n ≤ xs.length) (h2 : n ≤ ys.length) (h3 : n ≤ zs.length) : xrow xs ys zs n n = xor2 (xor2 (xs.take n) (ys.take n)) (zs.take n) := by
  apply List.ext_getElem?
  intro j
  by_cases hj : j < n
  · have a1 : j < xs.length := by omega
    have a2 : j < ys.length := by omega
    have a3 : j < zs.length := by omega
    simp [xrow, xor2, hj, List.getElem?_zipWith, List.getElem?_eq_getElem a1, List.getElem?_eq_getElem a2, List.getElem?_eq_getElem a3]
  · rw [List.getElem?_eq_none (by rw [xrow_len]; omega), List.getElem?_eq_none (by simp [xor2]; omega)]

def Lit1 (w : World) (v x : Value) : Prop := ∃ q, v = .slice (some ⟨q, 0, none⟩) 1 1 ∧ w.heap[q]? = some (.cells #[x] 22 (0, 0))
theorem Lit1.kept {w w' : World} {v x : Value} (h : Lit1 w v x) (k : w.grownBy w' none) : Lit1 w' v x := by
  obtain ⟨q, hv, hq⟩ := h
  exact ⟨q, hv, (k.block q (lt_of_block hq) (by simp)).trans hq⟩
/-- What each operation of the last statement leaves. -/
def FL (g n na nb nc ca cb cc : Nat) (aa ab ac : Option Addr) (xd xa xb xc : Nat) (i : Nat) (v : Value) (w : World) : Prop := match i with
  | 0 => v = .slice (some ⟨g, 0, none⟩) n n
  | 1 => Lit1 w v (.slice (some ⟨g, 0, none⟩) n n)
  | 2 => v = .int .u32 (xd : Int)
  | 3 => v = .slice aa na ca
  | 4 => v = .int .i64 (n : Int)
  | 5 => v = .slice aa n ca
  | 6 => Lit1 w v (.slice aa n ca)
  | 7 => v = .int .u32 (xa : Int)
  | 8 => v = .slice ab nb cb
  | 9 => v = .int .i64 (n : Int)
  | 10 => v = .slice ab n cb
  | 11 => Lit1 w v (.slice ab n cb)
  | 12 => v = .int .u32 (xb : Int)
  | 13 => v = .int .u32 ((xa ^^^ xb : Nat) : Int)
  | 14 => v = .slice ac nc cc
  | 15 => v = .int .i64 (n : Int)
  | 16 => v = .slice ac n cc
  | 17 => Lit1 w v (.slice ac n cc)
  | 18 => v = .int .u32 (xc : Int)
  | 19 => v = .int .u32 ((xa ^^^ xb ^^^ xc : Nat) : Int)
  | 20 => v = .bool true
  | 21 => v = .bool true
  | _ => True
theorem FL_mono (g n na nb nc ca cb cc : Nat) (aa ab ac : Option Addr) (xd xa xb xc : Nat) : ∀ i v w1 w2, FL g n na nb nc ca cb cc aa ab ac xd xa xb xc i v w1 → w1.grownBy w2 none → FL g n na nb nc ca cb cc aa ab ac xd xa xb xc i v w2 := by
  intro i v w1 w2 h k
  match i, h with
  | 0, h => exact h
  | 1, h => exact h.kept k
  | 2, h => exact h
  | 3, h => exact h
  | 4, h => exact h
  | 5, h => exact h
  | 6, h => exact h.kept k
  | 7, h => exact h
  | 8, h => exact h
  | 9, h => exact h
  | 10, h => exact h
  | 11, h => exact h.kept k
  | 12, h => exact h
  | 13, h => exact h
  | 14, h => exact h
  | 15, h => exact h
  | 16, h => exact h
  | 17, h => exact h.kept k
  | 18, h => exact h
  | 19, h => exact h
  | 20, h => exact h
  | 21, h => exact h
  | _ + 22, _ => exact trivial

theorem Seq.cellAt {B : Nat} {w : World} {a : Option Addr} {n c : Nat} {bs : List Int} (h : Seq B w (.slice a n c) bs) (k : Nat) (hk : k < bs.length) : ∃ b o, a = some ⟨b, o, none⟩ ∧ w.cell? ⟨b, o + k, none⟩ = some (.int .u8 (bs.getD k 0)) := by
  obtain ⟨ao, c', hv, h1, h2, h3, h4⟩ := h
  cases hv
  obtain ⟨b, o, ha, _, hc⟩ := h4 (fun e => by have := congrArg List.length e; simp only [List.length_nil] at this; omega)
  exact ⟨b, o, ha, hc k hk⟩
theorem Seq.owned1 {base n : Nat} {w : World} {v : Value} {bs : List Int} (hl : bs.length = n) (h : w.ownsRow base 5 1 v n (bs.map (Value.int .u8))) : Seq w.heap.size w v bs := by
  subst hl
  exact Seq.owned h

set_option maxHeartbeats 2000000 in
theorem linear_any (w : World) (aa ab ac : Option Addr) (na nb nc ca cb cc : Nat) (xs ys zs : List Int) (ha : Seq w.heap.size w (.slice aa na ca) xs) (hb : Seq w.heap.size w (.slice ab nb cb) ys) (hc : Seq w.heap.size w (.slice ac nc cc) zs) (ya : Byt xs) (yb : Byt ys) (yc : Byt zs) :
    Calls Try.prog 5 #[.slice aa na ca, .slice ab nb cb, .slice ac nc cc] w fun r w' => r = .returned (.bool true) ∧ Below w.heap.size w w' := by
  have la : na = xs.length ∧ na ≤ ca ∧ ca ≤ maxLen := by obtain ⟨_, _, hv, h1, h2, _⟩ := ha; cases hv; exact ⟨rfl, h1, h2⟩
  have lb : nb = ys.length ∧ nb ≤ cb ∧ cb ≤ maxLen := by obtain ⟨_, _, hv, h1, h2, _⟩ := hb; cases hv; exact ⟨rfl, h1, h2⟩
  have lc : nc = zs.length ∧ nc ≤ cc ∧ cc ≤ maxLen := by obtain ⟨_, _, hv, h1, h2, _⟩ := hc; cases hv; exact ⟨rfl, h1, h2⟩
  obtain ⟨n, hn⟩ : ∃ n, n = min na (min nb nc) := ⟨_, rfl⟩
  have n1 : n ≤ na := by omega
  have n2 : n ≤ nb := by omega
  have n3 : n ≤ nc := by omega
  obtain ⟨m2, hm2⟩ : ∃ m, m = min na nb := ⟨_, rfl⟩
  have hin : (if nb < na then (nb : Int) else (na : Int)) = (m2 : Int) := by subst hm2; split <;> omega
  have hin2 : (if (nb : Int) < (na : Int) then (nb : Int) else (na : Int)) = (m2 : Int) := by subst hm2; split <;> omega
  have hout : (if nc < m2 then (nc : Int) else (m2 : Int)) = (n : Int) := by subst hm2 hn; split <;> omega
  have hout2 : (if (nc : Int) < (m2 : Int) then (nc : Int) else (m2 : Int)) = (n : Int) := by subst hm2 hn; split <;> omega
  have LA := Lib.hid la
  have LB := Lib.hid lb
  have LC := Lib.hid lc
  have HA := Lib.hid ha
  have HB := Lib.hid hb
  have HC := Lib.hid hc
  have YA := Lib.hid ya
  have YB := Lib.hid yb
  have YC := Lib.hid yc
  clear la lb lc ha hb hc ya yb yc hn hm2
  obtain ⟨i0, hi, hz0, hz1, hz2⟩ := info_parts infoU8
  by_cases hb1 : 300 < n
  · have hb1i : (300 : Int) < (n : Int) := by omega
    go_enter Try.func5, Try.ntmps5
    go_wp2_with (go_at_call 8; refine (awake_any _).mono ?_; rintro r wA ⟨rfl, hgA⟩)
    go_ret
    exact ⟨rfl, gbelow hgA⟩
  · have hb1i : ¬ (300 : Int) < (n : Int) := by omega
    go_enter Try.func5, Try.ntmps5
    go_wp2_with (first
      | (go_at_call 8; refine (awake_any _).mono ?_; rintro r wA ⟨rfl, hgA⟩; have hsA := hgA.size)
      | (at_make; refine wpList_make_full _ rfl _ _ 22 rfl wA.heap.size 5 i0 (.int .u8 0) 1 Try.underlying22 hi hz0 hz1 .i64 .i64 _ _ n rfl rfl ?c1 ?c2 ?c3 ?c4 (Nat.le_refl _) ?_; (case c1 => rfl); (case c2 => rfl); (case c3 => rw [hz2]; omega); (case c4 => unfold maxLen; omega); intro wM hown hgM; have HO := Lib.hid hown; have HgM := Lib.hid (gtrans hgA hgM); clear hown hgM))
    clear hin hin2 hout hout2
    have HO2 : Hid (wM.ownsRow wA.heap.size 5 1 (.slice (some ⟨wA.heap.size, 0, none⟩) n n) n ((xrow xs ys zs n 0).map (Value.int .u8))) := by
      have h := HO.out
      rw [Nat.mul_one, show (Value.int .u8 0).cells = #[Value.int .u8 0] from rfl, toList_madeCells_one] at h
      rw [xrow_zero, List.map_replicate]
      exact h
    have HW := Lib.hid (gbelow HgM.out)
    clear HO HgM
    generalize wA.heap.size = g at HO2 hsA ⊢
    go_loopg [10] n (fun gk i wr => ∃ k : Nat, k + gk = n ∧ i = .int .i64 k ∧ wr.ownsRow g 5 1 (.slice (some ⟨g, 0, none⟩) n n) n ((xrow xs ys zs n k).map (Value.int .u8)) ∧ Below w.heap.size w wr)
    case atStart => exact ⟨0, by omega, rfl, HO2.out, HW.out⟩
    case round =>
      obtain ⟨k, hk, rfl, hown, hbel⟩ := hrel
      have HR := Lib.hid hown
      have HBel := Lib.hid hbel
      clear hown hbel HO2 HW
      by_cases hlt : k < n
      · obtain ⟨f, rfl⟩ : ∃ f, gk = f + 1 := ⟨gk - 1, by omega⟩
        have hki : (k : Int) < (n : Int) := by omega
        have hk1 : k < na := by omega
        have hk2 : k < nb := by omega
        have hk3 : k < nc := by omega
        have HX := Lib.hid (xrow_set xs ys zs n k hlt)
        obtain ⟨ba, oa, rfl, ca1⟩ := (HA.out.below HBel.out.block).cellAt k (by have := LA.out.1; omega)
        obtain ⟨bb, ob, rfl, cb1⟩ := (HB.out.below HBel.out.block).cellAt k (by have := LB.out.1; omega)
        obtain ⟨bc, oc, rfl, cc1⟩ := (HC.out.below HBel.out.block).cellAt k (by have := LC.out.1; omega)
        have hp := Byt.get YA.out k
        have hq := Byt.get YB.out k
        have hr := Byt.get YC.out k
        obtain ⟨p, hpe⟩ : ∃ p : Nat, xs.getD k 0 = (p : Int) := ⟨(xs.getD k 0).toNat, by omega⟩
        obtain ⟨q, hqe⟩ : ∃ q : Nat, ys.getD k 0 = (q : Int) := ⟨(ys.getD k 0).toNat, by omega⟩
        obtain ⟨r, hre⟩ : ∃ r : Nat, zs.getD k 0 = (r : Int) := ⟨(zs.getD k 0).toNat, by omega⟩
        have HXe := Lib.hid (show (xrow xs ys zs n k).set k ((p ^^^ q ^^^ r : Nat) : Int) = xrow xs ys zs n (k + 1) by rw [← HX.out, hpe, hqe, hre]; simp only [Int.toNat_natCast])
        rw [hpe] at ca1 hp
        rw [hqe] at cb1 hq
        rw [hre] at cc1 hr
        clear hpe hqe hre HX
        have hx1 : bits .xor .u8 (p : Int) (q : Int) = ((p ^^^ q : Nat) : Int) := u8_xor_nat p q (by omega) (by omega)
        have hx2 : bits .xor .u8 ((p ^^^ q : Nat) : Int) (r : Int) = ((p ^^^ q ^^^ r : Nat) : Int) := u8_xor_nat _ r (Nat.xor_lt_two_pow (n := 8) (by omega) (by omega)) (by omega)
        have HSt := Lib.hid (HR.out.stored k (.int .u8 ((p ^^^ q ^^^ r : Nat) : Int)))
        have hfrz := HR.out.frozenAt k
        obtain ⟨y0, hcellg⟩ : ∃ y, wr.cell? ⟨g, k, none⟩ = some y := by
          have h := HR.out.cellAt k (by omega)
          have hl : k < ((xrow xs ys zs n k).map (Value.int .u8)).length := by rw [List.length_map, xrow_len]; exact hlt
          rw [List.getElem?_eq_getElem hl] at h
          exact ⟨_, h⟩
        go_wp2
        go_region
        go_wp2
        go_roundg f
        case measure => omega
        case rel =>
          refine ⟨k + 1, by omega, by go_num, ?_, (HBel.out.grown HSt.out.2 HBel.out.size (fun j e => by injection e with e; rw [← e]; exact hsA)).drew⟩
          have h1 := HSt.out.1
          rw [← List.map_set, HXe.out] at h1
          exact h1
      · obtain rfl : n = k := by omega
        have hca : n ≤ ca := by have := LA.out.2.1; omega
        have hcb : n ≤ cb := by have := LB.out.2.1; omega
        have hcc : n ≤ cc := by have := LC.out.2.1; omega
        have SD := Lib.hid (Seq.owned1 (xrow_len xs ys zs n n) HR.out)
        have SA := Lib.hid (((HA.out.below HBel.out.block).mono HBel.out.size).pre n (by have := LA.out.1; omega))
        have SB := Lib.hid (((HB.out.below HBel.out.block).mono HBel.out.size).pre n (by have := LB.out.1; omega))
        have SC := Lib.hid (((HC.out.below HBel.out.block).mono HBel.out.size).pre n (by have := LC.out.1; omega))
        have TA := Lib.hid (Byt.take YA.out n)
        have TB := Lib.hid (Byt.take YB.out n)
        have TC := Lib.hid (Byt.take YC.out n)
        have HF := Lib.hid (xrow_full xs ys zs n (by have := LA.out.1; omega) (by have := LB.out.1; omega) (by have := LC.out.1; omega))
        have YD : Hid (Byt (xrow xs ys zs n n)) := Lib.hid (by rw [HF.out]; exact xor2_byt _ _ (xor2_byt _ _ TA.out TB.out) TC.out)
        have hxa := crcN_lt TA.out
        have hxb := crcN_lt TB.out
        have hxc := crcN_lt TC.out
        have HE := Lib.hid (show crcN (xrow xs ys zs n n) = crcN (xs.take n) ^^^ crcN (ys.take n) ^^^ crcN (zs.take n) by
          rw [HF.out]
          exact crc_xor3 _ _ _ TA.out TB.out TC.out (by simp; have := LA.out.1; have := LB.out.1; omega) (by simp; have := LB.out.1; have := LC.out.1; omega))
        go_wp2_with fail
        rename_i KK hKK
        refine wp_region_steps (FL g n na nb nc ca cb cc aa ab ac (crcN (xrow xs ys zs n n)) (crcN (xs.take n)) (crcN (ys.take n)) (crcN (zs.take n))) (by kernel_rfl) (by kernel_rfl) (by kernel_rfl) (FL_mono _ _ _ _ _ _ _ _ _ _ _ _ _ _ _) ?_ ?_
        · exact ⟨
          fun a' w' hr hg hd => ⟨rfl, step_val (ex_move a'.eval _ (.tmp 9) rfl w') (hr 9 (by kernel_rfl)) (grefl _ _)⟩,
          fun a' w' hr hg hd => ⟨rfl, step_val (ex_build1 a'.eval _ (.tmp 47) _ _ _ rfl (hd ⟨0, .data⟩ (by simp) rfl _ 47 rfl rfl) w') ⟨_, rfl, heap_alloc_new _ _⟩ (World.grownBy_alloc _ _ _)⟩,
          fun a' w' hr hg hd => by
          obtain ⟨q, hv, hq⟩ : Lit1 w' (a'.eval (.tmp 48)) _ := (hd ⟨1, .data⟩ (by simp) rfl _ 48 rfl rfl)
          exact ⟨rfl, step_call ((ex_call1 a'.eval _ (.tmp 48) _ rfl rfl w').trans (by rw [hv])) (ofb1 hq (SD.out.grown hg) YD.out) (fun e w'' ⟨he, hg2⟩ => ⟨_, he, rfl, hg2⟩)⟩,
          fun a' w' hr hg hd => ⟨rfl, step_val (ex_move a'.eval _ (.tmp 0) rfl w') (hr 0 (by kernel_rfl)) (grefl _ _)⟩,
          fun a' w' hr hg hd => ⟨rfl, step_val (ex_move a'.eval _ (.tmp 8) rfl w') (hr 8 (by kernel_rfl)) (grefl _ _)⟩,
          fun a' w' hr hg hd => ⟨rfl, step_val (ex_pre a'.eval _ (.tmp 50) (.tmp 51) _ _ _ n rfl (hd ⟨3, .data⟩ (by simp) rfl _ 50 rfl rfl) (hd ⟨4, .data⟩ (by simp) rfl _ 51 rfl rfl) hca w') rfl (grefl _ _)⟩,
          fun a' w' hr hg hd => ⟨rfl, step_val (ex_build1 a'.eval _ (.tmp 52) _ _ _ rfl (hd ⟨5, .data⟩ (by simp) rfl _ 52 rfl rfl) w') ⟨_, rfl, heap_alloc_new _ _⟩ (World.grownBy_alloc _ _ _)⟩,
          fun a' w' hr hg hd => by
          obtain ⟨q, hv, hq⟩ : Lit1 w' (a'.eval (.tmp 53)) _ := (hd ⟨6, .data⟩ (by simp) rfl _ 53 rfl rfl)
          exact ⟨rfl, step_call ((ex_call1 a'.eval _ (.tmp 53) _ rfl rfl w').trans (by rw [hv])) (ofb1 hq (SA.out.grown hg) TA.out) (fun e w'' ⟨he, hg2⟩ => ⟨_, he, rfl, hg2⟩)⟩,
          fun a' w' hr hg hd => ⟨rfl, step_val (ex_move a'.eval _ (.tmp 1) rfl w') (hr 1 (by kernel_rfl)) (grefl _ _)⟩,
          fun a' w' hr hg hd => ⟨rfl, step_val (ex_move a'.eval _ (.tmp 8) rfl w') (hr 8 (by kernel_rfl)) (grefl _ _)⟩,
          fun a' w' hr hg hd => ⟨rfl, step_val (ex_pre a'.eval _ (.tmp 55) (.tmp 56) _ _ _ n rfl (hd ⟨8, .data⟩ (by simp) rfl _ 55 rfl rfl) (hd ⟨9, .data⟩ (by simp) rfl _ 56 rfl rfl) hcb w') rfl (grefl _ _)⟩,
          fun a' w' hr hg hd => ⟨rfl, step_val (ex_build1 a'.eval _ (.tmp 57) _ _ _ rfl (hd ⟨10, .data⟩ (by simp) rfl _ 57 rfl rfl) w') ⟨_, rfl, heap_alloc_new _ _⟩ (World.grownBy_alloc _ _ _)⟩,
          fun a' w' hr hg hd => by
          obtain ⟨q, hv, hq⟩ : Lit1 w' (a'.eval (.tmp 58)) _ := (hd ⟨11, .data⟩ (by simp) rfl _ 58 rfl rfl)
          exact ⟨rfl, step_call ((ex_call1 a'.eval _ (.tmp 58) _ rfl rfl w').trans (by rw [hv])) (ofb1 hq (SB.out.grown hg) TB.out) (fun e w'' ⟨he, hg2⟩ => ⟨_, he, rfl, hg2⟩)⟩,
          fun a' w' hr hg hd => ⟨rfl, step_val (ex_xor a'.eval _ (.tmp 54) (.tmp 59) _ _ _ rfl (hd ⟨7, .data⟩ (by simp) rfl _ 54 rfl rfl) (hd ⟨12, .data⟩ (by simp) rfl _ 59 rfl rfl) hxa hxb w') rfl (grefl _ _)⟩,
          fun a' w' hr hg hd => ⟨rfl, step_val (ex_move a'.eval _ (.tmp 2) rfl w') (hr 2 (by kernel_rfl)) (grefl _ _)⟩,
          fun a' w' hr hg hd => ⟨rfl, step_val (ex_move a'.eval _ (.tmp 8) rfl w') (hr 8 (by kernel_rfl)) (grefl _ _)⟩,
          fun a' w' hr hg hd => ⟨rfl, step_val (ex_pre a'.eval _ (.tmp 61) (.tmp 62) _ _ _ n rfl (hd ⟨14, .data⟩ (by simp) rfl _ 61 rfl rfl) (hd ⟨15, .data⟩ (by simp) rfl _ 62 rfl rfl) hcc w') rfl (grefl _ _)⟩,
          fun a' w' hr hg hd => ⟨rfl, step_val (ex_build1 a'.eval _ (.tmp 63) _ _ _ rfl (hd ⟨16, .data⟩ (by simp) rfl _ 63 rfl rfl) w') ⟨_, rfl, heap_alloc_new _ _⟩ (World.grownBy_alloc _ _ _)⟩,
          fun a' w' hr hg hd => by
          obtain ⟨q, hv, hq⟩ : Lit1 w' (a'.eval (.tmp 64)) _ := (hd ⟨17, .data⟩ (by simp) rfl _ 64 rfl rfl)
          exact ⟨rfl, step_call ((ex_call1 a'.eval _ (.tmp 64) _ rfl rfl w').trans (by rw [hv])) (ofb1 hq (SC.out.grown hg) TC.out) (fun e w'' ⟨he, hg2⟩ => ⟨_, he, rfl, hg2⟩)⟩,
          fun a' w' hr hg hd => ⟨rfl, step_val (ex_xor a'.eval _ (.tmp 60) (.tmp 65) _ _ _ rfl (hd ⟨13, .data⟩ (by simp) rfl _ 60 rfl rfl) (hd ⟨18, .data⟩ (by simp) rfl _ 65 rfl rfl) (Nat.xor_lt_two_pow (n := 32) hxa hxb) hxc w') rfl (grefl _ _)⟩,
          fun a' w' hr hg hd => ⟨rfl, step_val (ex_eql a'.eval _ (.tmp 49) (.tmp 66) _ _ rfl (hd ⟨2, .data⟩ (by simp) rfl _ 49 rfl rfl) (((hd ⟨19, .data⟩ (by simp) rfl _ 66 rfl rfl) : FL g n na nb nc ca cb cc aa ab ac (crcN (xrow xs ys zs n n)) (crcN (xs.take n)) (crcN (ys.take n)) (crcN (zs.take n)) 19 _ w').trans (by rw [← HE.out])) w') rfl (grefl _ _)⟩,
          fun a' w' hr hg hd => ⟨rfl, step_val (ex_assign a'.eval _ (.tmp 67) rfl w') (hd ⟨20, .data⟩ (by simp) rfl _ 67 rfl rfl) (grefl _ _)⟩,
          trivial⟩
        · intro a' w' hr hsz hdf hg hall
          have h6 : a'.tmps.getD 6 undef = .bool true := hall 21 (by decide) _ 6 rfl rfl
          apply hKK
          refine wp_ret ?_
          exact bodyPost_ret (results_tmp rfl _ _ _) hdf ⟨by rw [h6], HBel.out.grown hg HBel.out.size (by simp)⟩

open Go.ChangeShapes Go.WideShapes Go.ChangeAt
set_option linter.unusedVariables false
set_option maxRecDepth 100000 in
theorem linear_lifted (os : Os) (started : os.Started) (H : Type) (enc : TypeId × Value → H) :
    ReturnsInHanded {} Try.checked os 5 .any (Rows.crcLinearSpec.pre6 enc Try.prog Try.f5 Rows.crcLinearRow.domain false) (Rows.crcLinearSpec.post enc Try.prog Try.f5 false true false false) := by
  refine returnsInHanded_of_change (C := Try.checked) ownKnob0 started (by kernel_rfl) Try.func5
    (ChangeSpec.witness6 (enc := enc) (C := Try.checked) false ⟨#[], #[.slice none 0 0, .slice none 0 0, .slice none 0 0], []⟩ 8 (by kernel_rfl) (by kernel_rfl) (by kernel_rfl) (by kernel_rfl)) ?_
  intro W base args ds gs before hval0 hW hcnd _
  have hval : ∀ (j : Nat) t v, Try.f5.params[j]? = some t → args[j]? = some v → Value.okWide Try.prog W .any base t v := hval0
  have hW' := hW
  obtain ⟨p, q, hA0, hV, rfl, hfz, hnd⟩ := hW
  have hA : DataW.TrodAll enc Try.prog W 0 (fun _ => true) true Try.f5.params.toList args.toList ds p := hA0
  rw [Try.params5] at hA hval
  obtain ⟨v0, vs0, d0, ds0, p0, q0, hargs, rfl, rfl, h0, r0⟩ := trodAll_cons hA
  obtain ⟨v1, vs1, d1, ds1, p1, q1, rfl, rfl, rfl, h1, r1⟩ := trodAll_cons r0
  obtain ⟨v2, vs2, d2, ds2, p2, q2, rfl, rfl, rfl, h2, r2⟩ := trodAll_cons r1
  obtain ⟨rfl, rfl, rfl⟩ := trodAll_nil r2
  obtain rfl : args = #[v0, v1, v2] := by cases args; simp_all
  obtain ⟨rfl, rfl⟩ := trodVars_none hV
  obtain ⟨a0, len0, cap0, rfl⟩ := okWide_slice Try.underlying22 (hval 0 22 v0 rfl rfl)
  have lt0 : ∀ x ∈ p0, x.block < W.heap.size := by obtain ⟨m, hm⟩ := h0; exact DataW.trod_lt m _ _ _ hm
  obtain ⟨z0, w0, y0⟩ := open_bytes h0
  obtain ⟨a1, len1, cap1, rfl⟩ := okWide_slice Try.underlying22 (hval 1 22 v1 rfl rfl)
  have lt1 : ∀ x ∈ p1, x.block < W.heap.size := by obtain ⟨m, hm⟩ := h1; exact DataW.trod_lt m _ _ _ hm
  obtain ⟨z1, w1, y1⟩ := open_bytes h1
  obtain ⟨a2, len2, cap2, rfl⟩ := okWide_slice Try.underlying22 (hval 2 22 v2 rfl rfl)
  have lt2 : ∀ x ∈ p2, x.block < W.heap.size := by obtain ⟨m, hm⟩ := h2; exact DataW.trod_lt m _ _ _ hm
  obtain ⟨z2, w2, y2⟩ := open_bytes h2
  clear hA0 hval0
  refine (linear_any W a0 a1 a2 len0 len1 len2 cap0 cap1 cap2 z0 z1 z2 w0 w1 w2 y0 y1 y2).mono fun e W' ⟨he, bel⟩ => ?_
  subst he
  exact ⟨_, rfl, _, _, _, [], _, [], hW', trodAll_mk1 (shut_bool Try.underlying4 _), (trodAll_cons_mk (Below.trod laidOut0 (by kernel_rfl) (of_decide_eq_true (by kernel_rfl)) h0 bel lt0) (trodAll_cons_mk (Below.trod laidOut0 (by kernel_rfl) (of_decide_eq_true (by kernel_rfl)) h1 bel lt1) (trodAll_cons_mk (Below.trod laidOut0 (by kernel_rfl) (of_decide_eq_true (by kernel_rfl)) h2 bel lt2) trodAll_mk0))), rfl, bel.frame _, fun h => by cases h⟩

/-- CrcLinear, for every input. -/
theorem crcLinear_holds : Rows.CrcLinearSaid :=
  OpenClaim.holds_of_wide 5 Try.f5 rfl rfl rfl rfl rfl rfl rfl ⟨rfl, rfl, rfl, rfl, rfl⟩ rfl rfl rfl rfl rfl (by kernel_rfl) Try.func5 (by kernel_rfl)
    (of_decide_eq_true (by kernel_rfl)) (by unfold Func.isWrapper; first | (rw [if_pos (by decide +kernel)]; kernel_rfl) | (rw [if_neg (by decide +kernel)]; exact ⟨rfl, rfl⟩))
    (fun os started H enc _ => linear_lifted os started H enc)
#print axioms crcLinear_holds

end Go.Proofs.Ytjcaeadeogdppaa
