/-
  Layer 4: four entries whose cells are the most, or a bit less, in plain lists. Own work.
-/
import Derived.Test.YtfencmidjolgfaaLefT
namespace Go.Proofs.Ytfencmidjolgfaa
open Go.RowKit

/-- The i-th of four entries: its key of kl bytes, its value of n noughts. -/
def fourX (i kl n : Nat) : En := ⟨(i : Int) :: List.replicate (kl - 1) 0, List.replicate n 0, 0, 0⟩
theorem fourX_ok {i kl n : Nat} (hi : i < 4) (h1 : 1 ≤ kl) (h2 : kl ≤ 96) (hn : n ≤ 4096) : EnOk (fourX i kl n) := by
  refine ⟨fun x hx => ?_, rep_byt n, by simp [fourX]; omega, by simp [fourX]; omega, by simp [fourX], by simp [fourX], by simp [fourX], by simp [fourX]⟩
  rcases List.mem_cons.1 hx with rfl | hx
  · omega
  · rw [List.eq_of_mem_replicate hx]; omega
theorem fourX_key (i kl n : Nat) (h1 : 1 ≤ kl) : (fourX i kl n).key.length = kl := by simp [fourX]; omega
theorem fourX_val (i kl n : Nat) : (fourX i kl n).val.length = n := by simp [fourX]
theorem fourX_cl (i kl n : Nat) (h1 : 1 ≤ kl) : cl (fourX i kl n) = 4 + kl + n := by
  have h : ¬ 0 < (fourX i kl n).first := by simp [fourX]
  rw [cl_here h, fourX_key _ _ _ h1, fourX_val]
theorem fourX_one {i kl n : Nat} {m : Int} (h1 : 1 ≤ kl) (h2 : kl ≤ 96) (hm : (4 + kl + n : Nat) ≤ m) : OkOne m (fourX i kl n) := by
  refine ⟨by rw [fourX_key _ _ _ h1]; exact h1, by rw [fourX_key _ _ _ h1]; exact h2, by simp [rvB, fourX], by rw [fourX_cl _ _ _ h1]; exact hm⟩
theorem fourX_lt {i j kl kl' n n' : Nat} (h : i < j) : cmpL (fourX i kl n).key (fourX j kl' n').key < 0 := by
  simp only [fourX, cmpL]
  rw [if_pos (by omega)]
  decide

/-- The first k of four. -/
def fours (kl n : Nat → Nat) (k : Nat) : List En := (List.range k).map fun i => fourX i (kl i) (n i)
theorem fours_snoc (kl n : Nat → Nat) (k : Nat) : fours kl n (k + 1) = fours kl n k ++ [fourX k (kl k) (n k)] := by simp [fours, List.range_succ]
theorem fours_len (kl n : Nat → Nat) (k : Nat) : (fours kl n k).length = k := by simp [fours]
theorem fours_get {kl n : Nat → Nat} {k i : Nat} (h : i < k) : (fours kl n k)[i]? = some (fourX i (kl i) (n i)) := by simp [fours, h]
theorem fours_right {kl n : Nat → Nat} {S : Int} (hS1 : 512 ≤ S) (hS2 : S ≤ 4096) (hk : ∀ i, i < 4 → 1 ≤ kl i ∧ kl i ≤ 96 ∧ ((4 + kl i + n i : Nat) : Int) ≤ mostI S) : RightP (fours kl n 4) S := by
  refine ⟨hS1, hS2, fun j x hj hx => ?_⟩
  rw [fours_len] at hj
  rw [fours_get hj] at hx
  cases hx
  refine ⟨fourX_one (hk j hj).1 (hk j hj).2.1 (hk j hj).2.2, fun i y hi hy => ?_⟩
  rw [fours_get (show i < 4 by omega)] at hy
  cases hy
  exact fourX_lt (by omega)
theorem fours_fill {kl n : Nat → Nat} {S : Nat} (hS1 : 512 ≤ S) (hk : ∀ i, i < 4 → 1 ≤ kl i ∧ ((4 + kl i + n i : Nat) : Int) ≤ mostI (S : Int)) : fillL leafY (fours kl n 4) ≤ S := by
  unfold fillL fillK
  rw [fours_len]
  have c0 : cs leafY (fours kl n 4) 1 = _ := lcs_snoc (fours_get (kl := kl) (n := n) (k := 4) (i := 0) (by decide))
  have c1 : cs leafY (fours kl n 4) 2 = _ := lcs_snoc (fours_get (kl := kl) (n := n) (k := 4) (i := 1) (by decide))
  have c2 : cs leafY (fours kl n 4) 3 = _ := lcs_snoc (fours_get (kl := kl) (n := n) (k := 4) (i := 2) (by decide))
  have c3 : cs leafY (fours kl n 4) 4 = _ := lcs_snoc (fours_get (kl := kl) (n := n) (k := 4) (i := 3) (by decide))
  have k0 := hk 0 (by decide)
  have k1 := hk 1 (by decide)
  have k2 := hk 2 (by decide)
  have k3 := hk 3 (by decide)
  rw [fourX_cl _ _ _ k0.1] at c0
  rw [fourX_cl _ _ _ k1.1] at c1
  rw [fourX_cl _ _ _ k2.1] at c2
  rw [fourX_cl _ _ _ k3.1] at c3
  have z : cs leafY (fours kl n 4) 0 = 0 := rfl
  unfold mostI at *
  omega
/-- With one cell above the most they aren't right. -/
theorem fours_wrong {kl n : Nat → Nat} {S : Int} (h : mostI S < ((4 + kl 1 + n 1 : Nat) : Int)) (h1 : 1 ≤ kl 1) : ¬ RightP (fours kl n 4) S := by
  intro hr
  have := (hr.2.2 1 _ (by rw [fours_len]; decide) (fours_get (by decide))).1.2.2.2
  rw [fourX_cl _ _ _ h1] at this
  omega

theorem rep_getD (n i : Nat) : (List.replicate n (0 : Int)).getD i 0 = 0 := by
  rw [List.getD_eq_getElem?_getD, List.getElem?_replicate]; split <;> rfl
theorem made_cell {w : World} {q m : Nat} (h : w.heap[q]? = some (.cells ((List.replicate m (0 : Int)).map (Value.int .u8)).toArray 5 (0, 0))) (hm : 0 < m) : w.cell? ⟨q, 0, none⟩ = some (.int .u8 0) ∧ w.frozen? ⟨q, 0, none⟩ = false := by
  have h1 := page_cell_at h 0 (by simpa using hm)
  rw [rep_getD] at h1
  exact ⟨h1, by simp [World.frozen?, h]⟩
theorem own_heap {base q n : Nat} {w : World} {bs : List Int} (h : w.heap[q]? = some (.cells (bs.map (Value.int .u8)).toArray 5 (0, 0))) (hq : base ≤ q) (hn : bs.length = n) (hm : n ≤ maxLen) : OwnB base w (.slice (some ⟨q, 0, none⟩) n n) bs := by
  refine ⟨by simp, .inr ⟨q, n, _, by rw [hn], hq, h, by omega, hm, by simp [hn], by rw [Nat.mul_one, List.toList_toArray, List.take_of_length_le (by simp)]⟩⟩

theorem key_set (k kl : Nat) (h : 1 ≤ kl) : ((List.replicate kl (0 : Int)).map (Value.int .u8)).toArray.setIfInBounds 0 (.int .u8 (k : Int)) = (((k : Int) :: List.replicate (kl - 1) 0).map (Value.int .u8)).toArray := by
  obtain ⟨m, rfl⟩ : ∃ m, kl = m + 1 := ⟨kl - 1, by omega⟩
  simp [List.replicate_succ]
theorem most_eq (w : World) (S M : Nat) (h : (M : Int) = mostI (S : Int)) (hS : (S : Int) ≤ 9223372036854775807 := by omega) : Calls Try.prog 29 #[.int .i64 (S : Int)] w fun r w' => r = .returned (.int .i64 (M : Int)) ∧ w = w' := by
  rw [h]; exact most_any _ w (by omega) hS
theorem gdrewN (w : World) (n : Nat) : w.grownBy (w.drewN n) none := ⟨rfl, rfl, rfl, Nat.le_refl _, fun _ _ _ => rfl⟩
theorem lit4c (w : World) (k v : Value) (x : En) : ∀ j u, (ecl (k, v, x))[j]? = some u → (w.alloc (.cells (ecs k v x.long x.first) 43)).cell? ((⟨w.heap.size, 0, none⟩ : Addr).add j) = some u := by
  intro j u hj
  rw [Addr.add_lit, Nat.zero_add, World.cell?_alloc_mark]
  simpa [ecl] using hj
/-- An append onto a row of the call's own: only new blocks have turned. -/
theorem grow_row {w a b : World} {e : TypeId} {size n : Nat} {v : Value} {xs : List Value} (h : w.grownBy a none) (hr : a.ownsRow w.heap.size e size v n xs) (k : a.grownBy b v.ownBlock) : w.grownBy b none :=
  gof ((gbelow h).grown k h.size fun q e => (hr.lt q e).1) none
/-- Writes to a block that was not there yet leave the entries. -/
theorem EOwns.sep {base r : Nat} {w w' : World} {lv : Value} {es : List (Value × Value × En)} (h : EOwns base w lv es) (k : w.grownBy w' (some r)) (hr : w.heap.size ≤ r) : EOwns base w' lv es :=
  h.grown ⟨k.os, k.tape, k.output, k.size, fun i hi _ => k.block i hi (by intro e; injection e with e; omega)⟩

theorem flat_set : ∀ (es : List (Value × Value × En)) (i : Nat) (y : Value × Value × En) (v' : Value) (x' : En), es[i]? = some y → x'.long = y.2.2.long → x'.first = y.2.2.first → (es.set i (y.1, v', x')).flatMap ecl = (es.flatMap ecl).set (i * 4 + 1) v'
  | [], i, y, v', x', h, _, _ => by simp at h
  | z :: es, 0, y, v', x', h, h1, h2 => by
    have : z = y := by simpa using h
    subst this
    show ecl (z.1, v', x') ++ es.flatMap ecl = (ecl z ++ es.flatMap ecl).set 1 v'
    simp [ecl, h1, h2]
  | z :: es, i + 1, y, v', x', h, h1, h2 => by
    have ih := flat_set es i y v' x' (by simpa using h) h1 h2
    rw [show (i + 1) * 4 + 1 = i * 4 + 1 + 4 by omega]
    show ecl z ++ (es.set i _).flatMap ecl = (ecl z ++ es.flatMap ecl).set _ v'
    rw [ih]
    rfl
/-- An entry's value is another one now. -/
theorem EOwns.setv {base lb n lc : Nat} {w : World} {es : List (Value × Value × En)} (h : EOwns base w (.slice (some ⟨lb, 0, none⟩) n lc) es) (hn : n = es.length) {i : Nat} {y : Value × Value × En} (hy : es[i]? = some y) {v' : Value} {x' : En} (hk : x'.key = y.2.2.key) (hl : x'.long = y.2.2.long) (hf : x'.first = y.2.2.first) (hv : OwnB base w v' x'.val) (hok : EnOk x') :
    EOwns base (w.setCell ⟨lb, i * 4 + 1, none⟩ v') (.slice (some ⟨lb, 0, none⟩) n lc) (es.set i (y.1, v', x')) := by
  have hil : i < es.length := (List.getElem?_eq_some_iff.1 hy).1
  have hfl := flat4_len es
  obtain ⟨cs, hcs⟩ : ∃ cs, w.heap[lb]? = some (.cells cs 43 (0, 0)) := by
    rcases h.row.2 with ⟨hv, _⟩ | ⟨q, cap, cur, hv, _, hq, _⟩
    · cases hv
    · cases hv; exact ⟨_, hq⟩
  refine ⟨?_, fun z hz => ?_⟩
  · rw [flat_set es i y v' x' hy hl hf, List.length_set]
    subst hn
    exact (World.ownsRow.stored h.row (i * 4 + 1) v').1
  · rcases List.mem_or_eq_of_mem_set hz with hz | rfl
    · obtain ⟨h1, h2, h3⟩ := h.each z hz
      exact ⟨own_set h1 hcs (by decide) _ _, own_set h2 hcs (by decide) _ _, h3⟩
    · obtain ⟨h1, h2, h3⟩ := h.each y (List.mem_of_getElem? hy)
      exact ⟨by show OwnB _ _ y.1 x'.key; rw [hk]; exact own_set h1 hcs (by decide) _ _, own_set hv hcs (by decide) _ _, hok⟩

theorem not_right {l : List En} {S : Int} {x : En} (hx : l[1]? = some x) (h : mostI S < (cl x : Int)) : ¬ RightP l S := by
  intro hr
  have := (hr.2.2 1 x (List.getElem?_eq_some_iff.1 hx).1 hx).1.2.2.2
  omega
theorem gnewB {a b c : World} {r : Nat} (h : a.grownBy b none) (k : b.grownBy c (some r)) (hr : a.heap.size ≤ r) : a.grownBy c none := gnew h k hr
theorem make_run (W : World) (P : Nat) (hP : P ≤ 1021) : (Instr.makeSlice 29 (.int .i64 (P : Int)) (.int .i64 (P : Int))).run Try.prog W = .ok (.slice (some ⟨W.heap.size, 0, none⟩) P P) (W.alloc (.cells ((List.replicate P (0 : Int)).map (Value.int .u8)).toArray 5)) := by
  obtain ⟨i0, hi, hz0, hz1, hz2⟩ := info_parts infoU8
  have h := run_make (P := Try.prog) (w := W) 29 5 i0 (.int .u8 0) Try.underlying29 hi hz0 .i64 .i64 (P : Int) (P : Int) (by omega) (by omega) (by rw [hz2]; omega) (by omega)
  rw [h, hz1]
  have e : madeCells (Value.int .u8 0).cells ((P : Int).toNat * 1) = ((List.replicate P (0 : Int)).map (Value.int .u8)).toArray := by
    apply Array.toList_inj.1
    rw [Nat.mul_one, show (Value.int .u8 0).cells = #[Value.int .u8 0] from rfl, toList_madeCells_one]
    simp
  rw [e]
  rfl

set_option maxRecDepth 100000 in
set_option maxHeartbeats 8000000 in
theorem four_any (w : World) (size : Int) (a1 a2 : Option Addr) (n1 c1 n2 c2 : Nat) (ks ls : List Int) (h0 : -9223372036854775808 ≤ size) (h9 : size ≤ 9223372036854775807) (h1 : Seq w.heap.size w (.slice a1 n1 c1) ks) (h2 : Seq w.heap.size w (.slice a2 n2 c2) ls) (b1 : Byt ks) (b2 : Byt ls) :
    Calls Try.prog 6 #[.int .i64 size, .slice a1 n1 c1, .slice a2 n2 c2] w fun r w' => r = .returned (.bool true) ∧ Below w.heap.size w w' := by
  have e1 : n1 = ks.length := by obtain ⟨_, _, hv, _⟩ := h1; injection hv
  have e2 : n2 = ls.length := by obtain ⟨_, _, hv, _⟩ := h2; injection hv
  by_cases hc : 512 ≤ size ∧ size ≤ 4096 ∧ 4 ≤ n1 ∧ 4 ≤ n2
  · obtain ⟨hs1, hs2, hn1, hn2⟩ := hc
    obtain ⟨S, rfl⟩ : ∃ S : Nat, size = (S : Int) := ⟨size.toNat, by omega⟩
    obtain ⟨i0, hi, hz0, hz1, hz2⟩ := info_parts infoU8
    obtain ⟨j0, hj, hw0, hw1, hw2⟩ := info_parts infoEntry
    have hd1 : decide ((S : Int) < 512) = false := by simp; omega
    have hd2 : decide (4096 < (S : Int)) = false := by simp; omega
    have hd3 : decide ((n1 : Int) < 4) = false := by simp; omega
    have hd4 : decide ((n2 : Int) < 4) = false := by simp; omega
    have hd5 : decide (n1 < 4) = false := by simp; omega
    have hd6 : decide (n2 < 4) = false := by simp; omega
    obtain ⟨KL, hKL⟩ : ∃ f : Nat → Nat, f = fun i => (ks.getD i 0).toNat % 96 + 1 := ⟨_, rfl⟩
    obtain ⟨LS, hLS⟩ : ∃ f : Nat → Nat, f = fun i => (ls.getD i 0).toNat % 9 := ⟨_, rfl⟩
    obtain ⟨M, hM⟩ : ∃ M : Nat, (M : Int) = mostI (S : Int) := ⟨(mostI (S : Int)).toNat, by unfold mostI; omega⟩
    have hMb : 125 ≤ M ∧ M ≤ 1021 := by unfold mostI at hM; omega
    obtain ⟨hM1, hM2⟩ := hMb
    have HM := Lib.hid hM
    have HKL := Lib.hid hKL
    have HLS := Lib.hid hLS
    have E1 := Lib.hid e1
    have E2 := Lib.hid e2
    have H1 := Lib.hid h1
    have H2 := Lib.hid h2
    have B1 := Lib.hid b1
    have B2 := Lib.hid b2
    clear e1 e2 h1 h2 b1 b2 hKL hLS hM
    go_enter Try.func6, Try.ntmps6
    go_wp2_with (go_at_call 14; refine (awake4_any _).mono ?_; rintro r wA ⟨rfl, hgA⟩; have HGA := Lib.hid hgA; clear hgA)
    go_loopg [8, 9] 4 (fun q v e wr => ∃ (k : Nat) (es : List (Value × Value × En)), k + q = 4 ∧ e = .int .i64 (k : Int) ∧ Hid (xsOf es = fours KL (fun i => M - 4 - KL i - LS i) k) ∧ EOwns w.heap.size wr v es ∧ w.grownBy wr none)
    case atStart => exact ⟨0, [], by omega, rfl, Lib.hid rfl, EOwns.nil _ _, HGA.out⟩
    case round =>
      obtain ⟨k, es, hkq, rfl, HX, heo, hg⟩ := hrel
      obtain ⟨la, lc, rfl⟩ := own_shape heo.row
      have HEO := Lib.hid heo
      have HG := Lib.hid hg
      have hel : es.length = k := by have := congrArg List.length HX.out; rw [List.length_map, fours_len] at this; exact this
      have HEL := Lib.hid hel
      clear heo hg hel
      by_cases hlt : k < 4
      · obtain ⟨q, rfl⟩ : ∃ q, gk = q + 1 := ⟨gk - 1, by omega⟩
        obtain ⟨ba, oa, hva, hca⟩ := (H1.out.below (fun i hi => HG.out.block i hi (by simp))).cellAt k (by have := E1.out; omega)
        obtain ⟨bb, ob, hvb, hcb⟩ := (H2.out.below (fun i hi => HG.out.block i hi (by simp))).cellAt k (by have := E2.out; omega)
        subst hva
        subst hvb
        have y1 := B1.out.get k
        have y2 := B2.out.get k
        obtain ⟨x1, hx1⟩ : ∃ x : Nat, (x : Int) = ks.getD k 0 := ⟨(ks.getD k 0).toNat, by omega⟩
        obtain ⟨x2, hx2⟩ : ∃ x : Nat, (x : Int) = ls.getD k 0 := ⟨(ls.getD k 0).toNat, by omega⟩
        rw [← hx1] at hca y1
        rw [← hx2] at hcb y2
        obtain ⟨kl, hkl⟩ : ∃ a : Nat, a = x1 % 96 + 1 := ⟨_, rfl⟩
        obtain ⟨lx, hlx⟩ : ∃ a : Nat, a = x2 % 9 := ⟨_, rfl⟩
        have HKk := Lib.hid (show KL k = kl by rw [HKL.out, hkl]; show (ks.getD k 0).toNat % 96 + 1 = _; rw [← hx1]; simp)
        have HLk := Lib.hid (show LS k = lx by rw [HLS.out, hlx]; show (ls.getD k 0).toNat % 9 = _; rw [← hx2]; simp)
        have hki : (k : Int) < 4 := by omega
        have hkn1 : (k : Int) < (n1 : Int) := by omega
        have hkn2 : (k : Int) < (n2 : Int) := by omega
        have hkl2 : 1 ≤ kl ∧ kl ≤ 96 := by omega
        have hlx2 : lx ≤ 8 := by omega
        have hr1 : (x1 : Int) % 96 + 1 = (kl : Int) := by omega
        have HHr := Lib.hid (show (x2 : Int) % 9 = (lx : Int) by omega)
        clear hx1 hx2 hkl hlx
        go_wp2_with (at_make; refine wpList_make_full _ rfl _ _ 29 rfl wr.heap.size 5 i0 (.int .u8 0) 1 Try.underlying29 hi hz0 hz1 .i64 .i64 _ _ kl rfl rfl ?c1 ?c2 ?c3 ?c4 (Nat.le_refl _) ?_; (case c1 => rfl); (case c2 => rfl); (case c3 => rw [hz2]; omega); (case c4 => unfold maxLen; omega); intro wM hown hgM; have hh := made_heap hown; obtain ⟨hk0, hf0⟩ := made_cell hh (by omega); have HH := Lib.hid hh; have HGM := Lib.hid hgM; clear hown hgM hh)
        have hq := set_in (i := 0) (.int .u8 (k : Int)) HH.out
        rw [key_set k kl hkl2.1] at hq
        have hbb : bb < wr.heap.size := by have := World.block_lt_of_cell? _ _ hcb; simpa using this
        have hcb2 : (wM.setCell ⟨wr.heap.size, 0, none⟩ (.int .u8 (k : Int))).cell? ⟨bb, ob + k, none⟩ = some (.int .u8 (x2 : Int)) := (World.cell?_of_block (w := wr) ((Below.heap_setCell _ _ _ _ (by show bb ≠ wr.heap.size; omega)).trans (HGM.out.block bb hbb (by simp)))).trans hcb
        have HG2 := Lib.hid (gnew HG.out (gtrans (gwide HGM.out) (gset wM ⟨wr.heap.size, 0, none⟩ (.int .u8 (k : Int)))) HG.out.size)
        have HEO2 := Lib.hid (HEO.out.sep (gtrans (gwide HGM.out) (gset wM ⟨wr.heap.size, 0, none⟩ (.int .u8 (k : Int)))) (Nat.le_refl _))
        have HQ := Lib.hid hq
        have HWR := Lib.hid HG.out.size
        generalize wM.setCell ⟨wr.heap.size, 0, none⟩ (.int .u8 (k : Int)) = w2 at *
        generalize wr.heap.size = q0 at *
        obtain ⟨N, hN⟩ : ∃ N : Nat, N = M - 4 - kl - lx := ⟨_, rfl⟩
        have HNN := Lib.hid hN
        have s1 : IntKind.i64.wrap ((M : Int) - 4) = (M : Int) - 4 := IntWalk.i64_in _ (by omega)
        have s2 : IntKind.i64.wrap ((M : Int) - 4 - (kl : Int)) = (M : Int) - 4 - (kl : Int) := IntWalk.i64_in _ (by omega)
        have s4 : IntKind.i64.wrap ((M : Int) - 4 - (kl : Int) - (lx : Int)) = (N : Int) := (IntWalk.i64_in _ (by omega)).trans (by omega)
        have hNp : ¬ ((N : Int) < 0) := by omega
        have hN2 : N ≤ 1021 := by omega
        clear hN hca hcb hk0 hf0 hq hbb HH
        have s3 := HHr.out
        go_quiet ((go_at_call 29; exact quiet_now (most_eq _ _ _ HM.out)))
        have HG3 := Lib.hid (gtrans HG2.out (gdrewN w2 nq))
        have HEO3 := Lib.hid (HEO2.out.grown (gdrewN w2 nq))
        have HQ3 : Hid ((w2.drewN nq).heap[q0]? = some (.cells (((k : Int) :: List.replicate (kl - 1) 0).map (Value.int .u8)).toArray 5 (0, 0))) := Lib.hid HQ.out
        have HKL2 := Lib.hid (show ((k : Int) :: List.replicate (kl - 1) 0).length = kl by simp; omega)
        clear s1 s2 s3 s4 HG2 HEO2 HQ hcb2
        generalize w2.drewN nq = w3 at *
        go_wp2_with (first
          | (at_make; refine wpList_make_full _ rfl _ _ 29 rfl w3.heap.size 5 i0 (.int .u8 0) 1 Try.underlying29 hi hz0 hz1 .i64 .i64 _ _ N rfl rfl ?d1 ?d2 ?d3 ?d4 (Nat.le_refl _) ?_; (case d1 => rfl); (case d2 => rfl); (case d3 => rw [hz2]; omega); (case d4 => unfold maxLen; omega); intro wN hown hgN; have HV := Lib.hid (made_heap hown); have HQ4 := Lib.hid ((hgN.block _ (lt_of_block HQ3.out) (by simp)).trans HQ3.out); have HGN := Lib.hid (gtrans HG3.out hgN); have HEO4 := Lib.hid (HEO3.out.grown hgN); clear hown hgN)
          | (at_builtin; refine wpList_append_own2 _ rfl _ _ 25 rfl w.heap.size 43 j0 (.agg #[.slice none 0 0, .slice none 0 0, .int .i64 0, .int .u32 0]) 4 64 Try.underlying25 hj hw0 hw1 hw2 rfl (by decide) (.slice la es.length lc) es.length (es.flatMap ecl) rfl (HEO4.out.grown (World.grownBy_alloc wN (.cells (ecs (.slice (some ⟨q0, 0, none⟩) kl kl) (.slice (some ⟨w3.heap.size, 0, none⟩) N N) 0 0) 43) none)).row ⟨wN.heap.size, 0, none⟩ 1 1 (ecl (.slice (some ⟨q0, 0, none⟩) kl kl, .slice (some ⟨w3.heap.size, 0, none⟩) N N, fourX k kl N)) rfl rfl (lit4c wN _ _ (fourX k kl N)) (one4 _ _ _ _ _ _ _) (by have := HEL.out; unfold maxLen; omega) (by have := HEL.out; omega) (by have := HGN.out.size; simp; omega) ?_; intro v' w5 hown' hgrow _; have hga := World.grownBy_alloc wN (.cells (ecs (.slice (some ⟨q0, 0, none⟩) kl kl) (.slice (some ⟨w3.heap.size, 0, none⟩) N N) 0 0) 43) none; have hK := own_heap (base := w.heap.size) (n := kl) HQ4.out HWR.out (HKL2.out) (by unfold maxLen; omega); have hV := own_heap (base := w.heap.size) (n := N) HV.out HG3.out.size (by simp) (by unfold maxLen; omega); have HEO5 := Lib.hid (EOwns.push (y := (.slice (some ⟨q0, 0, none⟩) kl kl, .slice (some ⟨w3.heap.size, 0, none⟩) N N, fourX k kl N)) (HEO4.out.grown hga) (hK.grown hga) (hV.grown hga) (fourX_ok hlt hkl2.1 hkl2.2 (by omega)) hown' hgrow); have HG5 := Lib.hid (grow_row (gtrans HGN.out hga) (HEO4.out.grown hga).row hgrow); clear hown' hgrow hga hK hV))
        go_roundg q
        case measure => omega
        case rel => exact ⟨k + 1, es ++ [(.slice (some ⟨q0, 0, none⟩) kl kl, .slice (some ⟨w3.heap.size, 0, none⟩) N N, fourX k kl N)], by omega, by go_num, Lib.hid (by rw [fours_snoc, ← HX.out, HKk.out, HLk.out, ← HNN.out]; simp), HEO5.out, HG5.out⟩
      · obtain rfl : k = 4 := by omega
        have h4 := HEL.out
        have HRt := Lib.hid (show ∀ i, i < 4 → 1 ≤ KL i ∧ KL i ≤ 96 ∧ ((4 + KL i + (M - 4 - KL i - LS i) : Nat) : Int) ≤ mostI (S : Int) from fun i _ => by
          have hk1 : KL i ≤ 96 ∧ 1 ≤ KL i := by rw [HKL.out]; show (ks.getD i 0).toNat % 96 + 1 ≤ 96 ∧ 1 ≤ (ks.getD i 0).toNat % 96 + 1; omega
          have hl1 : LS i ≤ 8 := by rw [HLS.out]; show (ls.getD i 0).toNat % 9 ≤ 8; omega
          rw [← HM.out]; omega)
        have HEn := Lib.hid (HEO.out.ents (by omega))
        rw [HX.out] at HEn
        have HR := Lib.hid (fours_right hs1 hs2 HRt.out)
        have HF := Lib.hid (fours_fill (by omega) (fun i hi => ⟨(HRt.out i hi).1, (HRt.out i hi).2.2⟩))
        rw [h4] at HEO HEn ⊢
        clear h4
        go_wp2_with (go_at_call 17; refine (put_ok wr wr.heap.size la 4 lc _ S HEn.out (Nat.le_refl _) HR.out HF.out).mono ?_; rintro r wP ⟨gb, rfl, hgb, hp, hg⟩; have HGP := Lib.hid hg; clear hgb hp hg)
        have HEP := Lib.hid (HEO.out.grown HGP.out)
        have hlen4 : es.length = 4 := HEL.out
        have HLB := Lib.hid (show ∀ q, la = some ⟨q, 0, none⟩ → w.heap.size ≤ q from fun q hq => (HEP.out.row.lt q (by rw [hq]; rfl)).1)
        obtain ⟨y, hy⟩ : ∃ y, es[1]? = some y := ⟨_, List.getElem?_eq_getElem (by omega)⟩
        have hyx : y.2.2 = fourX 1 (KL 1) (M - 4 - KL 1 - LS 1) := by
          have h1 : (xsOf es)[1]? = some y.2.2 := by rw [List.getElem?_map, hy]; rfl
          rw [HX.out, fours_get (by decide)] at h1
          exact (Option.some.inj h1).symm
        obtain ⟨o1, o2, o3⟩ := HEP.out.each y (List.mem_of_getElem? hy)
        obtain ⟨c0, c1, _, _⟩ := flat4 es 1 y hy
        obtain ⟨lb, hlb, hlt, hff, hcc⟩ : ∃ lb, la = some ⟨lb, 0, none⟩ ∧ lb < wP.heap.size ∧ (∀ j, wP.frozen? ⟨lb, j, none⟩ = false) ∧ (∀ (j : Nat) (u : Value), (es.flatMap ecl)[j]? = some u → wP.cell? ⟨lb, j, none⟩ = some u) := by
          have hr := HEP.out.row
          rcases hr.2 with ⟨hv, h0⟩ | ⟨q, cap, cur, hv, _, hq, _⟩
          · injection hv with _ e2; cases e2
          · injection hv with e1 e2 e3
            refine ⟨q, e1, lt_of_block hq, fun j => by simp [World.frozen?, hq], fun j u hu => ?_⟩
            have := hr.cells (g := q) (by rw [e1]; rfl) j u hu
            rwa [Addr.add_lit, Nat.zero_add] at this
        subst hlb
        have z4 := hcc 4 _ c0
        have z5 := hcc 5 _ c1
        have f5 := hff 5
        obtain ⟨K1, hK1⟩ : ∃ K1, K1 = KL 1 := ⟨_, rfl⟩
        have hkb := HRt.out 1 (by decide)
        have hkl : y.2.2.key.length = K1 := by rw [hyx, fourX_key _ _ _ hkb.1, hK1]
        obtain ⟨ak, ck, hak⟩ := own_shape o1
        rw [hkl] at hak
        obtain ⟨av, cv, hav⟩ := own_shape o2
        rw [hak] at z4
        rw [hav] at z5
        obtain ⟨P, hP⟩ : ∃ P : Nat, P = M - 3 - K1 := ⟨_, rfl⟩
        have hkb1 : 1 ≤ K1 ∧ K1 ≤ 96 := by rw [hK1]; exact ⟨hkb.1, hkb.2.1⟩
        have s1 : IntKind.i64.wrap ((M : Int) - 3) = (M : Int) - 3 := IntWalk.i64_in _ (by omega)
        have s2 : IntKind.i64.wrap ((M : Int) - 3 - (K1 : Int)) = (P : Int) := (IntWalk.i64_in _ (by omega)).trans (by omega)
        have hPb : P ≤ 1021 := by omega
        obtain ⟨Z, hZ⟩ : ∃ Z, Z = ((List.replicate P (0 : Int)).map (Value.int .u8)).toArray := ⟨_, rfl⟩
        have hmk : ∀ W : World, (Instr.makeSlice 29 (.int .i64 (P : Int)) (.int .i64 (P : Int))).run Try.prog W = .ok (.slice (some ⟨W.heap.size, 0, none⟩) P P) (W.alloc (.cells Z 5)) := fun W => by
          rw [hZ]; exact make_run W P hPb
        have HP := Lib.hid hP
        have HZ := Lib.hid hZ
        have HY := Lib.hid hy
        have HYX := Lib.hid hyx
        have HK1 := Lib.hid hK1
        have HPW := Lib.hid (show M < 4 + K1 + P by omega)
        clear hyx o1 o2 o3 c0 c1 hcc hff hkb hkl hak hav hP hZ hK1 HEn HR HF HEO HRt hy
        go_region_law ((go_simp; go_at_call 29; refine (most_eq _ _ _ HM.out).mono ?_; rintro r wz ⟨rfl, rfl⟩))
        all_goals
          have hga := World.grownBy_alloc wP (.cells Z 5) none
          have hnew := heap_alloc_new wP (.cells Z 5)
          have hov : OwnB w.heap.size (wP.alloc (.cells Z 5)) (.slice (some ⟨wP.heap.size, 0, none⟩) P P) (fourX 1 (KL 1) P).val := own_heap (n := P) (bs := List.replicate P 0) (by rw [hnew, HZ.out]) (gtrans HG.out HGP.out).size (by simp) (by unfold maxLen; omega)
          have hkr := HK1.out
          have he6 := EOwns.setv (HEP.out.grown hga) HEL.out.symm (i := 1) (y := y) HY.out (v' := .slice (some ⟨wP.heap.size, 0, none⟩) P P) (x' := fourX 1 (KL 1) P) (by rw [HYX.out]; rfl) (by rw [HYX.out]; rfl) (by rw [HYX.out]; rfl) hov (fourX_ok (by decide) (by omega) (by omega) (by omega))
          rw [show 1 * 4 + 1 = 5 from rfl, World.setCell_alloc_past _ _ _ _ (by exact hlt)] at he6
          have hl6 : (es.set 1 (y.1, .slice (some ⟨wP.heap.size, 0, none⟩) P P, fourX 1 (KL 1) P)).length = 4 := by rw [List.length_set]; exact HEL.out
          have HE6 := Lib.hid ((he6.grown (gdrew _)).ents (by omega))
          have HW6 := Lib.hid (not_right (S := (S : Int)) (l := xsOf (es.set 1 (y.1, .slice (some ⟨wP.heap.size, 0, none⟩) P P, fourX 1 (KL 1) P))) (x := fourX 1 (KL 1) P) (by rw [List.getElem?_map, List.getElem?_set_self (by omega)]; rfl) (by rw [fourX_cl _ _ _ (by omega), ← HM.out, ← hkr]; have := HPW.out; omega))
          have HG6 := Lib.hid (gtrans (gnewB (gtrans HG.out HGP.out) (gset wP ⟨lb, 5, none⟩ (.slice (some ⟨wP.heap.size, 0, none⟩) P P)) (HLB.out lb rfl)) (gtrans (World.grownBy_alloc (wP.setCell ⟨lb, 5, none⟩ (.slice (some ⟨wP.heap.size, 0, none⟩) P P)) (.cells Z 5) none) (gdrew _)))
          clear hga hnew hov he6 hl6
          generalize ((wP.setCell ⟨lb, 5, none⟩ (.slice (some ⟨wP.heap.size, 0, none⟩) P P)).alloc (.cells Z 5)).drew = w6 at *
          go_wp2_with (go_at_call 17; have Kc := put_arg w6 w6.heap.size (some ⟨lb, 0, none⟩) 4 lc _ (S : Int) HE6.out (Nat.le_refl _) HW6.out; ((with_reducible refine Kc.mono ?_); clear Kc; rintro r w7 ⟨rfl, hg7⟩); have HG7 := Lib.hid hg7; clear hg7)
          go_ret
          exact ⟨rfl, gbelow (gtrans HG6.out HG7.out)⟩
  · have HC := Lib.hid hc
    clear hc
    have hor : size < 512 ∨ (512 ≤ size ∧ 4096 < size) ∨ (512 ≤ size ∧ size ≤ 4096 ∧ n1 < 4) ∨ (512 ≤ size ∧ size ≤ 4096 ∧ 4 ≤ n1 ∧ n2 < 4) := by have := HC.out; omega
    rcases hor with h | ⟨h, k⟩ | ⟨h, k, l⟩ | ⟨h, k, l, m⟩
    all_goals
      go_enter Try.func6, Try.ntmps6
      go_wp2_with (go_at_call 14; refine (awake4_any _).mono ?_; rintro r wA ⟨rfl, hgA⟩)
      go_ret
      exact ⟨rfl, gbelow hgA⟩

end Go.Proofs.Ytfencmidjolgfaa
