/-
  Layer 3: the contracts of the reference's Fail, New, set, Look, bit. Own work.
-/
import Derived.Test.YtnodclijlhoobaaDskA
import Derived.Deep.LoopGhost
namespace Go.Proofs.Ytnodclijlhoobaa
open Go.RowKit

theorem results_D1 {fn : Func} {p : Tmp} (h : fn.results = #[.cell p 32]) (tmps : Array Value) (W : World) (q : Nat) (cs : Array Value) (hp : tmps.getD p undef = .pointer (some ⟨q, 0, none⟩))
    (hq : W.heap[q]? = some (.cells cs 32 (0, 0))) (hs : cs.size = 6) : (results fn tmps).run Try.prog W = .ok (.agg cs) W :=
  results_cell_row h tmps W q 32 cs (0, 0) _ hp hq Try.underlying32 rfl (by rw [hs]; kernel_rfl)

set_option maxHeartbeats 1000000 in
theorem rfail_any (w : World) (s l : Nat) (ga : Option Addr) (gn gc : Nat) (la : Option Addr) (ln lc : Nat) (f : Int) (c : Nat) (n : Int) :
    Calls Try.prog 23 #[.agg (dcs s l ga gn gc la ln lc f c), .int .i64 n] w fun r w' => r = .returned (.agg (dcs s l ga gn gc la ln lc (if n < 0 then -1 else n) c)) ∧ w.grownBy w' none := by
  by_cases h : n < 0
  · rw [if_pos h]
    go_enter Try.func23, Try.ntmps23
    go_wp2
    exact bodyPost_ret (results_D1 rfl _ _ (w.heap.size + 1) _ rfl (two_lit1 _ _ _) rfl) rfl ⟨rfl, two_grown _ _ _⟩
  · rw [if_neg h]
    go_enter Try.func23, Try.ntmps23
    go_wp2
    exact bodyPost_ret (results_D1 rfl _ _ (w.heap.size + 1) _ rfl (two_lit1 _ _ _) rfl) rfl ⟨rfl, two_grown _ _ _⟩

/-- May there be a disk of such pages, so many at most? -/
def mayD (s l : Int) : Prop := 512 ≤ s ∧ s ≤ 4096 ∧ s % 128 = 0 ∧ 1 ≤ l ∧ l ≤ 65536
instance (s l : Int) : Decidable (mayD s l) := by unfold mayD; exact inferInstance

set_option maxHeartbeats 2000000 in
theorem rnew_good (w : World) (s l : Nat) (h : mayD s l) :
    Calls Try.prog 51 #[.int .i64 (s : Int), .int .i64 (l : Int)] w fun r w' => r = .returned (.tuple #[.agg (dcs s l none 0 0 none 0 0 (-1) 0), .int .i64 0]) ∧ w.grownBy w' none := by
  obtain ⟨h1, h2, h3, h4, h5⟩ := h
  have e1 : ¬ (s : Int) < 512 := by omega
  have e2 : ¬ (4096 : Int) < s := by omega
  have e4 : ¬ (l : Int) < 1 := by omega
  have e5 : ¬ (65536 : Int) < l := by omega
  go_enter Try.func51, Try.ntmps51
  go_wp2
  exact bodyPost_ret (results_D rfl _ _ w.heap.size _ _ rfl rfl (heap_alloc_new _ _) rfl) rfl ⟨rfl, World.grownBy_alloc _ _ _⟩
set_option maxHeartbeats 2000000 in
theorem rnew_bad (w : World) (s l : Int) (h : ¬ mayD s l) :
    Calls Try.prog 51 #[.int .i64 s, .int .i64 l] w fun r w' => r = .returned (.tuple #[.agg (dcs 0 0 none 0 0 none 0 0 0 0), .int .i64 1]) ∧ w.grownBy w' none := by
  have hw : w.grownBy (w.alloc (.cells (dcs 0 0 none 0 0 none 0 0 0 0) 32)) none := World.grownBy_alloc _ _ _
  by_cases c1 : s < 512
  · go_enter Try.func51, Try.ntmps51
    go_wp2
    exact bodyPost_ret (results_D rfl _ _ w.heap.size _ _ rfl rfl (heap_alloc_new _ _) rfl) rfl ⟨rfl, World.grownBy_alloc _ _ _⟩
  by_cases c2 : 4096 < s
  · go_enter Try.func51, Try.ntmps51
    go_wp2
    exact bodyPost_ret (results_D rfl _ _ w.heap.size _ _ rfl rfl (heap_alloc_new _ _) rfl) rfl ⟨rfl, World.grownBy_alloc _ _ _⟩
  have hs0 : 0 ≤ s := by omega
  by_cases c3 : s % 128 = 0
  · by_cases c4 : l < 1
    · go_enter Try.func51, Try.ntmps51
      go_wp2
      exact bodyPost_ret (results_D rfl _ _ w.heap.size _ _ rfl rfl (heap_alloc_new _ _) rfl) rfl ⟨rfl, World.grownBy_alloc _ _ _⟩
    · have c5 : 65536 < l := by
        unfold mayD at h
        by_cases h5 : 65536 < l
        · exact h5
        · exact absurd ⟨by omega, by omega, c3, by omega, by omega⟩ h
      go_enter Try.func51, Try.ntmps51
      go_wp2
      exact bodyPost_ret (results_D rfl _ _ w.heap.size _ _ rfl rfl (heap_alloc_new _ _) rfl) rfl ⟨rfl, World.grownBy_alloc _ _ _⟩
  · have c3' : (s % 128 == 0) = false := by simpa using c3
    go_enter Try.func51, Try.ntmps51
    go_wp2
    exact bodyPost_ret (results_D rfl _ _ w.heap.size _ _ rfl rfl (heap_alloc_new _ _) rfl) rfl ⟨rfl, World.grownBy_alloc _ _ _⟩

/-- A byte's bit. -/
def bitV (x k : Nat) : Bool := x / 2 ^ k % 2 == 1
set_option maxHeartbeats 1000000 in
theorem rbit_any (w : World) (x k : Nat) (hx : x < 256) (hk : k ≤ 1000) :
    Calls Try.prog 59 #[.int .u8 (x : Int), .int .i64 (k : Int)] w fun r w' => r = .returned (.bool (bitV x k)) ∧ w = w' := by
  go_enter Try.func59, Try.ntmps59
  go_wp2
  go_loopg [0, 5] k (fun g y i wr => ∃ j : Nat, j + g = k ∧ i = .int .i64 j ∧ y = .int .u8 ((x / 2 ^ j : Nat) : Int) ∧ wr = w)
  case atStart => exact ⟨0, by omega, rfl, by simp, rfl⟩
  case round =>
    obtain ⟨j, hj, rfl, rfl, rfl⟩ := hrel
    by_cases hlt : j < k
    · obtain ⟨g, rfl⟩ : ∃ g, gk = g + 1 := ⟨gk - 1, by omega⟩
      have hji : (j : Int) < (k : Int) := by omega
      have HE := Lib.hid (show x / 2 ^ (j + 1) = x / 2 ^ j / 2 by rw [Nat.pow_succ, Nat.div_div_eq_div_mul])
      have hy : x / 2 ^ j < 256 := Nat.lt_of_le_of_lt (Nat.div_le_self _ _) hx
      generalize x / 2 ^ j = y at HE hy ⊢
      go_wp2
      go_roundg g
      case measure => omega
      case rel => exact ⟨j + 1, by omega, by go_num, by rw [HE.out]; go_num, rfl⟩
    · obtain rfl : j = k := by omega
      have HB := Lib.hid (show bitV x j = (x / 2 ^ j % 2 == 1) from rfl)
      have hy : x / 2 ^ j < 256 := Nat.lt_of_le_of_lt (Nat.div_le_self _ _) hx
      generalize x / 2 ^ j = y at HB hy ⊢
      go_wp2
      go_ret
      refine ⟨?_, rfl⟩
      rw [HB.out]
      have e : (((y : Int) % 2 == 1) : Bool) = (y % 2 == 1) := by
        rw [Bool.eq_iff_iff]; simp; omega
      show Ending.returned (.bool ((y : Int) % 2 == 1)) = _
      rw [e]

theorem infoStr : (Try.prog.info? 9).map (fun i => (i.zero, i.size, i.bytes)) = some (some (.string ByteArray.empty), 1, 16) := by kernel_rfl
theorem scell1 {l : List ByteArray} : ∀ u ∈ l.map Value.string, u.oneCell' = true := by
  intro u hu; simp only [List.mem_map] at hu; obtain ⟨x, _, rfl⟩ := hu; rfl
/-- What the call owns is a Row. -/
theorem Row.owned {base n sz : Nat} {t : TypeId} {w : World} {v : Value} {xs : List Value} (h : w.ownsRow base t sz v n xs) (hsz : 0 < sz) (htt : t = 9 ∨ t = 117 := by decide) : Row w.heap.size w v n xs := by
  have hl := h.1
  have h' := h
  rcases h.2 with ⟨rfl, hn⟩ | ⟨g, cap, cur, rfl, hb, hg, hc, hm, hs, ht⟩
  · exact ⟨none, 0, by rw [hn], by omega, by decide, fun hne => absurd (List.eq_nil_of_length_eq_zero (by rw [hl, hn]; simp)) hne⟩
  · refine ⟨some ⟨g, 0, none⟩, cap, rfl, hc, hm, fun _ => ⟨g, 0, rfl, lt_of_block hg, fun j hj => ?_, cur, t, _, hg, htt⟩⟩
    rw [Nat.zero_add, h'.cellAt j (by omega)]

set_option maxHeartbeats 1000000 in
theorem rset_any (w : World) (v : Value) (l : List ByteArray) (i : Nat) (s : ByteArray) (h : Row w.heap.size w v l.length (l.map Value.string)) (hi : i < l.length) (hl : l.length ≤ 100000) :
    Calls Try.prog 57 #[v, .int .i64 (i : Int), .string s] w fun r w' => ∃ ao c, r = .returned (.slice ao l.length c) ∧ Row w'.heap.size w' (.slice ao l.length c) l.length ((l.set i s).map Value.string) ∧ w.grownBy w' none ∧ (∀ b o, ao = some ⟨b, o, none⟩ → w.heap.size ≤ b) := by
  obtain ⟨ao, c, rfl, h1, h2, h4⟩ := h
  obtain ⟨b, o, rfl, hb, hc, -⟩ := h4 (fun e => by have := congrArg List.length e; simp only [List.length_map, List.length_nil] at this; omega)
  obtain ⟨i0, hi0, hz0, hz1, hz2⟩ := info_parts infoStr
  obtain ⟨n, hn⟩ : ∃ n, n = l.length := ⟨_, rfl⟩
  have HC := Lib.hid hc
  have HN := Lib.hid hn
  rw [← hn] at h1 hi hl ⊢
  clear hc h4 hn
  go_enter Try.func57, Try.ntmps57
  go_wp2_with (at_builtin; refine wpList_append_own _ rfl _ _ 29 rfl w.heap.size 9 i0 (.string ByteArray.empty) 1 16 Try.underlying29 hi0 hz0 hz1 hz2 rfl (by decide) _ _ _ rfl (World.ownsRow_nil w w.heap.size _ _) ⟨b, o, none⟩ n c (l.map Value.string) rfl (by simp [← HN.out]) ?c1 scell1 ?c3 ?c4 ?c5 ?_)
  case c1 =>
    intro j u hu
    have hj := (List.getElem?_eq_some_iff.1 hu).1
    rw [Addr.add_lit, ← hu]
    exact HC.out j hj
  case c3 => unfold maxLen; omega
  case c4 => omega
  case c5 => exact Nat.le_refl _
  intro v' w1 hown hg1 _
  have hown : w1.ownsRow w.heap.size 9 1 v' n (l.map Value.string) := by simpa only [Nat.zero_add, List.nil_append] using hown
  obtain ⟨g, cap, rfl, hgb, hglt⟩ : ∃ g cap, v' = .slice (some ⟨g, 0, none⟩) n cap ∧ w.heap.size ≤ g ∧ g < w1.heap.size := by
    rcases hown.2 with ⟨_, h0⟩ | ⟨g, cap, cur, hv, hb, hg, _⟩
    · omega
    · exact ⟨g, cap, hv, hb, lt_of_block hg⟩
  have hii : (i : Int) < (n : Int) := by omega
  have hfrz := hown.frozenAt i
  have hcell := hown.cellAt i (by omega)
  have hil : i < (l.map Value.string).length := by rw [List.length_map, ← HN.out]; exact hi
  rw [List.getElem?_eq_getElem hil] at hcell
  generalize (l.map Value.string)[i] = y0 at hcell
  have HSt := Lib.hid (hown.stored i (.string s))
  have HG := Lib.hid hg1
  clear hown hg1 hil
  go_wp2
  go_ret
  refine ⟨_, _, rfl, ?_, ?_, ?_⟩
  · have := Row.owned HSt.out.1 (by decide)
    rw [List.map_set]
    exact this
  · exact gnew HG.out HSt.out.2 hgb
  · intro b o e
    injection e with e
    injection e with e1 e2
    omega

end Go.Proofs.Ytnodclijlhoobaa
