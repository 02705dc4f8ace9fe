/-
  Layer 3: the contract of torn. Own work.
-/
import Derived.Test.YtnodclijlhoobaaDskP
import Derived.Laws.CopyRow
import Derived.Laws.CopyOwn
import Derived.Deep.RegionLaw
import Derived.Laws.BitsAllLaws
namespace Go.Proofs.Ytnodclijlhoobaa
open Go.RowKit

/-- A byte's bit. -/
def bitB (x k : Nat) : Bool := x / 2 ^ k % 2 == 1
/-- An old page, but for those of its first k sectors that are picked. -/
def tornB (old bs : List Int) (x k : Nat) : List Int := (List.range old.length).map fun j => if j / 128 < k ∧ bitB x (j / 128 % 8) = true then bs.getD j 0 else old.getD j 0
theorem tornB_len (old bs : List Int) (x k : Nat) : (tornB old bs x k).length = old.length := by simp [tornB]
theorem tornB_zero (old bs : List Int) (x : Nat) : tornB old bs x 0 = old := by
  apply List.ext_getElem?
  intro j
  by_cases h : j < old.length
  · simp [tornB, h, List.getD_eq_getElem?_getD]
  · rw [List.getElem?_eq_none (by rw [tornB_len]; omega), List.getElem?_eq_none (by omega)]
theorem tornB_get (old bs : List Int) (x k j : Nat) (h : j < old.length) : (tornB old bs x k)[j]? = some (if j / 128 < k ∧ bitB x (j / 128 % 8) = true then bs.getD j 0 else old.getD j 0) := by
  simp [tornB, h]
theorem tornB_no (old bs : List Int) (x k : Nat) (h : bitB x (k % 8) = false) : tornB old bs x (k + 1) = tornB old bs x k := by
  apply List.ext_getElem?
  intro j
  by_cases hj : j < old.length
  · rw [tornB_get _ _ _ _ _ hj, tornB_get _ _ _ _ _ hj]
    by_cases e : j / 128 = k
    · subst e
      rw [if_neg (by rw [h]; simp), if_neg (by rw [h]; simp)]
    · have : (j / 128 < k + 1) = (j / 128 < k) := by apply propext; omega
      simp only [this]
  · rw [List.getElem?_eq_none (by rw [tornB_len]; omega), List.getElem?_eq_none (by rw [tornB_len]; omega)]
theorem tornB_yes (old bs : List Int) (x k : Nat) (h : bitB x (k % 8) = true) (hl : bs.length = old.length) (hk : k * 128 + 128 ≤ old.length) :
    tornB old bs x (k + 1) = (tornB old bs x k).take (k * 128) ++ (bs.drop (k * 128)).take 128 ++ (tornB old bs x k).drop (k * 128 + 128) := by
  have hcl : ((bs.drop (k * 128)).take 128).length = 128 := by simp; omega
  have htl : ((tornB old bs x k).take (k * 128)).length = k * 128 := by rw [List.length_take, tornB_len]; omega
  apply List.ext_getElem?
  intro j
  by_cases hj : j < old.length
  · rw [tornB_get _ _ _ _ _ hj]
    by_cases h1 : j < k * 128
    · rw [List.append_assoc, List.getElem?_append_left (by omega), List.getElem?_take, if_pos h1, tornB_get _ _ _ _ _ hj]
      have : (j / 128 < k + 1) = (j / 128 < k) := by apply propext; omega
      simp only [this]
    · by_cases h2 : j < k * 128 + 128
      · have e : j / 128 = k := by omega
        rw [e, if_pos ⟨by omega, h⟩, List.getElem?_append_left (by rw [List.length_append]; omega), List.getElem?_append_right (by omega), htl, List.getElem?_take, if_pos (by omega), List.getElem?_drop,
          show k * 128 + (j - k * 128) = j by omega, List.getElem?_eq_getElem (by omega)]
        simp [List.getD_eq_getElem?_getD, List.getElem?_eq_getElem (show j < bs.length by omega)]
      · rw [List.getElem?_append_right (by rw [List.length_append]; omega), List.length_append, htl, hcl, List.getElem?_drop, show k * 128 + 128 + (j - (k * 128 + 128)) = j by omega, tornB_get _ _ _ _ _ hj]
        have : (j / 128 < k + 1) = (j / 128 < k) := by apply propext; omega
        simp only [this]
  · rw [List.getElem?_eq_none (by rw [tornB_len]; omega), List.getElem?_eq_none (by rw [List.length_append, List.length_append, List.length_drop, tornB_len]; omega)]

theorem bitFact (x r : Nat) (hx : x < 256) : (bits BinOp.and IntKind.u8 ((x : Int) / 2 ^ r) 1 == 1) = bitB x r := by
  have e : (x : Int) / 2 ^ r = ((x / 2 ^ r : Nat) : Int) := by simp
  have hlt : x / 2 ^ r < 256 := Nat.lt_of_le_of_lt (Nat.div_le_self _ _) hx
  rw [e, show (1 : Int) = ((1 : Nat) : Int) from rfl, u8_and_nat _ 1 hlt (by decide), Nat.and_one_is_mod]
  unfold bitB
  rw [Bool.eq_iff_iff]
  simp
  omega

theorem splice_take (L CS : List Value) (p n : Nat) (hp : p + 128 ≤ n) (hn : n ≤ L.length) (hc : CS.length = 128) : (L.take p ++ CS ++ L.drop (p + 128)).take n = (L.take n).take p ++ CS ++ (L.take n).drop (p + 128) := by
  have h1 : (L.take p ++ CS).length = p + 128 := by rw [List.length_append, List.length_take, hc]; omega
  rw [List.take_append, h1, List.take_of_length_le (by omega), List.take_take, Nat.min_eq_left (by omega), List.drop_take]

/-- A copy whose run is known, as one step of a region that draws. -/
theorem step_copy_at {P : Program} {ops : Array Oper} {o : Oper} {a : Act} {w w2 : World} {K : Act → World → Prop} {Q : Exit → Act → World → Prop} {E : Prop} (hgd : o.guard = none) (d s : Operand) (dT sT : TypeId)
    (ho : o.op = .call { callee := .builtin .copy, args := #[d, s], argTypes := #[dT, sT] }) (x y : Value) (n : Nat) (hd : a.eval d = x) (hs : a.eval s = y)
    (hrun : ∀ ty, (Builtin.copy_ #[dT, sT] ty #[x, y]).run P w = .ok (goInt n) w2) (h : K (a.put o.dst (goInt n)) w2) :
    if Region.wanted o (yielded ops a.tmps) = true then Oper.wp P o a w K Q else E := by
  have hw : Region.wanted o (yielded ops a.tmps) = true := by simp [Region.wanted, hgd]
  rw [if_pos hw]
  unfold Oper.wp
  simp [execOp, ho, resolve, invoke, builtin, hd, hs, hrun, Result.andThen]
  exact h

set_option maxHeartbeats 2000000 in
theorem torn_any (B : Nat) (w : World) (oa ba : Option Addr) (n oc bc x : Nat) (old bs : List Int) (ho : Own8 B w n (.slice oa n oc) old) (hb : Own8 B w n (.slice ba n bc) bs) (hn : n ≤ 4096) (hn2 : n % 128 = 0) (hx : x < 256) :
    Calls Try.prog 58 #[.slice oa n oc, .slice ba n bc, .int .u8 (x : Int)] w fun r w' => ∃ ao c, r = .returned (.slice ao n c) ∧ Own8 w.heap.size w' n (.slice ao n c) (tornB old bs x (n / 128)) ∧ w.grownBy w' none := by
  have HO := Lib.hid ho
  have HB := Lib.hid hb
  have hol := ho.len
  have HL := Lib.hid hol
  obtain ⟨q, hq⟩ : ∃ q, n = q * 128 := ⟨n / 128, by omega⟩
  have hqi : (n : Int) / 128 = (q : Int) := by omega
  have HQ := Lib.hid hq
  clear ho hb hol hq
  go_enter Try.func58, Try.ntmps58
  go_wp2_with (first
    | (go_at_call 50; have K := clone_any w _ _ _ HO.out.seq (Nat.le_refl _) (by have := HL.out; omega); rw [HL.out] at K; ((with_reducible refine K.mono ?_); clear K; rintro e w2 ⟨ga, gc, rfl, hown, hg2⟩; have HV := Lib.hid hown; have HG := Lib.hid hg2; clear hown hg2)))
  go_loopg [15] q (fun g t wr => ∃ k : Nat, k + g = q ∧ t = .int .i64 (k : Int) ∧ Own8 w.heap.size wr n (.slice ga n gc) (tornB old bs x k) ∧ w.grownBy wr none)
  case atStart => exact ⟨0, by omega, rfl, by rw [tornB_zero]; exact HV.out, HG.out⟩
  case round =>
    obtain ⟨k, hk, rfl, hv, hg⟩ := hrel
    have HVk := Lib.hid hv
    have HGk := Lib.hid hg
    clear hv hg HV HG
    by_cases hlt : k < q
    · obtain ⟨g, rfl⟩ : ∃ g, gk = g + 1 := ⟨gk - 1, by omega⟩
      have hki : (k : Int) < (q : Int) := by omega
      obtain ⟨r, hr⟩ : ∃ r, r = k % 8 := ⟨_, rfl⟩
      have hri : (k : Int) % 8 = (r : Int) := by omega
      have hr8 : r < 8 := by omega
      have HBt := Lib.hid (show r = k % 8 from hr)
      clear hr
      have hpn : k * 128 + 128 ≤ n := by have := HQ.out; omega
      by_cases hbit : bitB x r = true
      · have hb1 : (bits BinOp.and IntKind.u8 ((x : Int) / 2 ^ r) 1 == 1) = true := by rw [bitFact x r hx]; exact hbit
        have HT := Lib.hid (tornB_yes old bs x k (by rw [← HBt.out]; exact hbit) (by rw [HL.out]; exact HB.out.len) (by rw [HL.out]; exact hpn))
        obtain ⟨gb, gcap, cur, hsl, hwb, hheap, hc1, hc2, hc3, hc4⟩ : ∃ g cap cur, Value.slice ga n gc = .slice (some ⟨g, 0, none⟩) n cap ∧ w.heap.size ≤ g ∧ wr.heap[g]? = some (.cells cur 5 (0, 0)) ∧ n ≤ cap ∧ cap ≤ maxLen ∧ cur.size = cap * 1 ∧ cur.toList.take (n * 1) = (tornB old bs x k).map (Value.int .u8) := by
          rcases HVk.out.2 with ⟨_, h0⟩ | h
          · omega
          · exact h
        simp only [Value.slice.injEq, true_and] at hsl
        obtain ⟨rfl, rfl⟩ := hsl
        obtain ⟨bb, bcp, hbl, hb2, hb3⟩ : ∃ g cap, Value.slice ba n bc = .slice (some ⟨g, 0, none⟩) n cap ∧ n ≤ cap ∧ cap ≤ maxLen := by
          rcases HB.out.2 with ⟨_, h0⟩ | ⟨g, cap, cur, h1, h2, h3, h4, h5, h6⟩
          · omega
          · exact ⟨g, cap, h1, h4, h5⟩
        simp only [Value.slice.injEq, true_and] at hbl
        obtain ⟨rfl, rfl⟩ := hbl
        have HCs := Lib.hid (show (((bs.drop (k * 128)).take 128).map (Value.int .u8)).length = 128 by
          rw [List.length_map, List.length_take, List.length_drop, HB.out.len]; omega)
        have HCells : Hid (∀ j v, (((bs.drop (k * 128)).take 128).map (Value.int .u8))[j]? = some v → wr.cell? ((⟨bb, k * 128, none⟩ : Addr).add j) = some v) := Lib.hid (by
          intro j v hj
          obtain ⟨hj1, hj2⟩ := List.getElem?_eq_some_iff.1 hj
          have hj128 : j < 128 := by have := HCs.out; omega
          obtain ⟨b', o', hab, hcell⟩ := (HB.out.seq.below (fun i hi => HGk.out.block i hi (by simp))).cellAt (k * 128 + j) (by have := HB.out.len; omega)
          cases hab
          rw [Addr.add_lit]
          rw [Nat.zero_add] at hcell
          rw [hcell, ← hj2]
          have hlt2 : k * 128 + j < bs.length := by have := HB.out.len; omega
          simp [List.getD_eq_getElem?_getD, List.getElem?_eq_getElem hlt2])
        have HCu : Hid (wr.heap[gb]? = some (.cells cur.toList.toArray 5 (0, 0))) := Lib.hid (by simpa using hheap)
        have HFit := Lib.hid (show k * 128 + (((bs.drop (k * 128)).take 128).map (Value.int .u8)).length ≤ cur.toList.length by rw [HCs.out]; simp; omega)
        have HMin := Lib.hid (show Nat.min (n - k * 128) 128 = 128 by exact Nat.min_eq_right (by omega))
        have HBel := Lib.hid (gbelow HGk.out)
        have HWb := Lib.hid hwb
        have HC4 := Lib.hid hc4
        have HC3 := Lib.hid hc3
        obtain ⟨p, hp⟩ : ∃ p, p = k * 128 := ⟨_, rfl⟩
        obtain ⟨p2, hp2⟩ : ∃ p, p = k * 128 + 128 := ⟨_, rfl⟩
        have hkp : (k : Int) * 128 = (p : Int) := by omega
        have hsum : IntKind.i64.wrap ((p : Int) + 128) = (p2 : Int) := (IntWalk.i64_in _ (by omega)).trans (by omega)
        have hd1 : p2 - p = 128 := by omega
        have g1 : p2 ≤ gc := by omega
        have g2 : p ≤ p2 := by omega
        have g3 : p ≤ n := by omega
        have g4 : (p : Int) ≤ (p2 : Int) := by omega
        have g5 : (p2 : Int) ≤ (gc : Int) := by omega
        have g6 : (p : Int) ≤ (n : Int) := by omega
        have hne1 : ¬ gc = p := by omega
        have hne2 : ¬ bc = p := by omega
        rw [← hp] at HCs HCells HFit HMin HT
        have HP := Lib.hid hp
        clear hc3 hc4 hheap hwb hp hp2
        have HCSe := Lib.hid (show ∃ CS, CS = ((bs.drop p).take 128).map (Value.int .u8) from ⟨_, rfl⟩)
        have HO1 : Hid (∀ v ∈ ((bs.drop p).take 128).map (Value.int .u8), v.oneCell' = true) := Lib.hid bcell1
        have hcp : Hid (∀ ty, (Builtin.copy_ #[22, 22] ty #[.slice (some ⟨gb, p, none⟩) 128 (gc - p), .slice (some ⟨bb, p, none⟩) (n - p) (bc - p)]).run Try.prog wr.drew = .ok (goInt ((128 : Nat) : Int)) (wr.drew.setRow gb (cur.toList.take p ++ ((bs.drop p).take 128).map (Value.int .u8) ++ cur.toList.drop (p + 128)).toArray)) := Lib.hid (fun ty => by
          have h := run_copy_row (P := Try.prog) wr.drew 22 22 ty 5 gb p 128 (gc - p) ⟨bb, p, none⟩ (n - p) (bc - p) cur 5 (((bs.drop p).take 128).map (Value.int .u8)) Try.underlying22 (by kernel_rfl) (show wr.heap[gb]? = _ by simpa using HCu.out) (HCs.out.trans HMin.out.symm)
            (fun j v hj => HCells.out j v hj) (by have := HFit.out; simpa using this) HO1.out
          rw [HCs.out] at h
          exact h)
        have HBl := Lib.hid (below_setRow HBel.out HWb.out ((cur.toList.take p ++ ((bs.drop p).take 128).map (Value.int .u8) ++ cur.toList.drop (p + 128)).toArray))
        have hh : Hid ((wr.setRow gb (cur.toList.take p ++ ((bs.drop p).take 128).map (Value.int .u8) ++ cur.toList.drop (p + 128)).toArray).heap[gb]? = some (.cells (cur.toList.take p ++ ((bs.drop p).take 128).map (Value.int .u8) ++ cur.toList.drop (p + 128)).toArray 5 (0, 0))) := Lib.hid (setRow_heap wr gb _ _ 5 _ HCu.out)
        obtain ⟨row, hrow⟩ : ∃ row, row = (cur.toList.take p ++ ((bs.drop p).take 128).map (Value.int .u8) ++ cur.toList.drop (p + 128)).toArray := ⟨_, rfl⟩
        rw [← hrow] at hcp HBl hh
        have HRow := Lib.hid hrow
        clear hrow
        go_wp2
        go_region_law (refine step_copy_at rfl (.tmp 30) (.tmp 33) 22 22 rfl (.slice (some ⟨gb, p, none⟩) 128 (gc - p)) (.slice (some ⟨bb, p, none⟩) (n - p) (bc - p)) 128 (by simp [go_sem]) (by simp [go_sem]) hcp.out ?_)
        all_goals
          go_wp2
          go_roundg g
          case measure => omega
          case rel =>
            refine ⟨k + 1, by omega, by go_num, ?_, ⟨HBl.out.os, HBl.out.tape, HBl.out.output, HBl.out.size, fun i hi _ => HBl.out.block i hi⟩⟩
            refine ⟨by rw [List.length_map, tornB_len, HL.out, Nat.mul_one], .inr ⟨gb, gc, _, rfl, HWb.out, hh.out, by omega, by omega, ?_, ?_⟩⟩
            · have h1 := HCs.out
              have h2 := HFit.out
              have h3 := HC3.out
              rw [HRow.out]
              simp only [List.size_toArray, List.length_append, List.length_take, List.length_drop] at h1 h2 ⊢
              rw [h1] at h2 ⊢
              simp only [Array.length_toList] at h2 ⊢
              omega
            · have h4 := HC4.out
              rw [Nat.mul_one] at h4 ⊢
              have hcl : n ≤ cur.toList.length := by have := HC3.out; simp; omega
              rw [HT.out, List.map_append, List.map_append, List.map_take, List.map_drop, ← h4, HRow.out, List.toList_toArray]
              exact splice_take cur.toList _ p n (by have := HP.out; omega) hcl HCs.out
      · have hb0 : bitB x r = false := by simpa using hbit
        have hb1 : (bits BinOp.and IntKind.u8 ((x : Int) / 2 ^ r) 1 == 1) = false := by rw [bitFact x r hx]; exact hb0
        have HT := Lib.hid (tornB_no old bs x k (by rw [← HBt.out]; exact hb0))
        clear hbit hb0
        go_wp2
        go_roundg g
        case measure => omega
        case rel => exact ⟨k + 1, by omega, by go_num, by rw [HT.out]; exact HVk.out, HGk.out⟩
    · obtain rfl : k = q := by omega
      have HK := Lib.hid (show n / 128 = k by have := HQ.out; omega)
      go_wp2
      go_ret
      exact ⟨ga, gc, rfl, by rw [HK.out]; exact HVk.out, HGk.out⟩

end Go.Proofs.Ytnodclijlhoobaa
