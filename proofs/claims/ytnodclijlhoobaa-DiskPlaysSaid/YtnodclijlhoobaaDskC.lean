/-
  Layer 3: the contracts of the reference's Look and Read. Own work.
-/
import Derived.Test.YtnodclijlhoobaaDskB
import Derived.Deep.RegionHeld3
namespace Go.Proofs.Ytnodclijlhoobaa
open Go.RowKit

theorem lcells_len (l : List (Nat × ByteArray)) : (lcells l).length = 2 * l.length := by
  induction l with
  | nil => rfl
  | cons x l ih => simp only [lcells, List.flatMap_cons, List.length_append, List.length_cons, List.length_nil] at ih ⊢; omega
theorem lcells_get : ∀ (l : List (Nat × ByteArray)) (k : Nat) (x : Nat × ByteArray), l[k]? = some x → (lcells l)[2 * k]? = some (.int .i64 (x.1 : Int)) ∧ (lcells l)[2 * k + 1]? = some (.string x.2)
  | [], k, x, h => by simp at h
  | y :: l, 0, x, h => by
    simp only [List.getElem?_cons_zero, Option.some.injEq] at h
    subst h
    exact ⟨rfl, rfl⟩
  | y :: l, k + 1, x, h => by
    simp only [List.getElem?_cons_succ] at h
    obtain ⟨h1, h2⟩ := lcells_get l k x h
    exact ⟨by rw [show 2 * (k + 1) = 2 * k + 1 + 1 by omega]; exact h1, by rw [show 2 * (k + 1) + 1 = 2 * k + 1 + 1 + 1 by omega]; exact h2⟩

/-- What was written to i last, of the first k loose writes. -/
def lastL (loose : List (Nat × ByteArray)) (i : Nat) : Nat → Option ByteArray
  | 0 => none
  | k + 1 => match loose[k]? with
    | some x => if x.1 = i then some x.2 else lastL loose i k
    | none => lastL loose i k
def lookD (good : List ByteArray) (loose : List (Nat × ByteArray)) (i : Nat) : ByteArray := (lastL loose i loose.length).getD (good.getD i ByteArray.empty)

theorem Row.at {B : Nat} {w : World} {a : Option Addr} {n m c : Nat} {xs : List Value} (h : Row B w (.slice a n c) m xs) (hne : xs ≠ []) : ∃ b o, a = some ⟨b, o, none⟩ ∧ b < B ∧ ∀ j, j < xs.length → w.cell? ⟨b, o + j, none⟩ = xs[j]? := by
  obtain ⟨ao, c', hv, _, _, h4⟩ := h
  cases hv
  obtain ⟨b, o, h1, h2, h3, _⟩ := h4 hne
  exact ⟨b, o, h1, h2, h3⟩

set_option maxHeartbeats 2000000 in
theorem rlook_any (w : World) (s l : Nat) (ga : Option Addr) (gn gc : Nat) (la : Option Addr) (ln lc : Nat) (f : Int) (c : Nat) (good : List ByteArray) (loose : List (Nat × ByteArray)) (i : Nat)
    (hg : Row w.heap.size w (.slice ga gn gc) good.length (good.map Value.string)) (hl : Row w.heap.size w (.slice la ln lc) loose.length (lcells loose)) (hi : i < good.length) (hn : loose.length ≤ 100000) :
    Calls Try.prog 55 #[.agg (dcs s l ga gn gc la ln lc f c), .int .i64 (i : Int)] w fun r w' => r = .returned (.string (lookD good loose i)) ∧ w.alloc (.cells (dcs s l ga gn gc la ln lc f c) 32) = w' := by
  have hgn : gn = good.length ∧ gn ≤ gc ∧ gc ≤ maxLen := by obtain ⟨_, _, hv, h1, h2, _⟩ := hg; cases hv; exact ⟨rfl, h1, h2⟩
  have hln : ln = loose.length := by obtain ⟨_, _, hv, _⟩ := hl; cases hv; rfl
  obtain ⟨gb, go, rfl, hgb, hgc⟩ := hg.at (fun e => by have := congrArg List.length e; simp only [List.length_map, List.length_nil] at this; omega)
  have hgi : w.cell? ⟨gb, go + i, none⟩ = some (.string (good.getD i ByteArray.empty)) := by
    rw [hgc i (by simpa using hi)]; simp [List.getElem?_eq_getElem hi]
  have HL := Lib.hid hl
  have HLn := Lib.hid hln
  have hii : (i : Int) < (gn : Int) := by omega
  have hn1 : ln ≤ 100000 := by omega
  clear hg hl hgc
  have hgg := hgn.2.1
  have HGn := Lib.hid hgn
  clear hgn
  have HK := Lib.hid (show lookD good loose i = (lastL loose i ln).getD (good.getD i ByteArray.empty) by rw [hln]; rfl)
  have HKn := Lib.hid (Nat.le_of_eq hln)
  rw [HK.out]
  generalize good.getD i ByteArray.empty = dflt at hgi HK ⊢
  obtain ⟨res, hres⟩ : ∃ r, r = (lastL loose i ln).getD dflt := ⟨_, rfl⟩
  have HR := Lib.hid hres
  rw [← hres]
  clear hres HK hln hi
  go_enter Try.func55, Try.ntmps55
  go_wp2
  go_loopg [5] ln (fun g v wr => v = .int .i64 ((g : Int) - 1) ∧ g ≤ ln ∧ res = (lastL loose i g).getD dflt ∧ wr = w.alloc (.cells (dcs s l (some ⟨gb, go, none⟩) gn gc la ln lc f c) 32))
  case atStart => exact ⟨rfl, Nat.le_refl _, HR.out, rfl⟩
  case round =>
    obtain ⟨rfl, hgl, hrs, rfl⟩ := hrel
    have HRs := Lib.hid hrs
    clear hrs
    by_cases hz : gk = 0
    · subst hz
      have HF := Lib.hid (show res = dflt from HRs.out)
      go_wp2
      go_ret
      exact ⟨by rw [HF.out]; rfl, rfl⟩
    · obtain ⟨k, rfl⟩ : ∃ k, gk = k + 1 := ⟨gk - 1, by omega⟩
      obtain ⟨x, hx⟩ : ∃ x, loose[k]? = some x := ⟨_, List.getElem?_eq_getElem (by have := HLn.out; omega)⟩
      obtain ⟨lb, lo, rfl, hlb, hlc⟩ := HL.out.at (fun e => by have := congrArg List.length e; rw [lcells_len, List.length_nil] at this; have := HLn.out; omega)
      obtain ⟨hx1, hx2⟩ := lcells_get loose k x hx
      have hc1 := hlc (2 * k) (by rw [lcells_len]; have := HLn.out; omega)
      have hc2 := hlc (2 * k + 1) (by rw [lcells_len]; have := HLn.out; omega)
      rw [hx1, Nat.mul_comm 2 k] at hc1
      rw [hx2, Nat.mul_comm 2 k, ← Nat.add_assoc] at hc2
      clear hlc hx1 hx2
      have HX := Lib.hid hx
      clear hx
      obtain ⟨x1, x2⟩ := x
      have hki : ((k + 1 : Nat) : Int) - 1 = (k : Int) := by omega
      rw [hki]
      have hkl : (k : Int) < (ln : Int) := by omega
      by_cases hxi : x1 = i
      · subst hxi
        have HF := Lib.hid (show res = x2 by rw [HRs.out]; simp only [lastL, HX.out, if_true, Option.getD_some])
        go_wp2
        go_ret
        exact ⟨by rw [HF.out]; rfl, rfl⟩
      · have HF := Lib.hid (show res = (lastL loose i k).getD dflt by rw [HRs.out]; simp only [lastL, HX.out]; rw [if_neg hxi])
        have hne : ¬ (x1 : Int) = (i : Int) := by omega
        clear hxi
        go_wp2
        go_roundg k
        case measure => omega
        case rel => exact ⟨by go_num, by omega, HF.out, rfl⟩

theorem results_DSE {fn : Func} {p u v : Tmp} (h : fn.results = #[.cell p 32, .tmp u, .tmp v]) (tmps : Array Value) (W : World) (q : Nat) (cs : Array Value) (x e : Value) (hp : tmps.getD p undef = .pointer (some ⟨q, 0, none⟩)) (hx : tmps.getD u undef = x) (he : tmps.getD v undef = e)
    (hq : W.heap[q]? = some (.cells cs 32 (0, 0))) (hs : cs.size = 6) : (results fn tmps).run Try.prog W = .ok (.tuple #[.agg cs, x, e]) W := by
  have hld := run_loadVar_row (P := Try.prog) W q 32 32 cs (0, 0) _ hq Try.underlying32 rfl (by rw [hs]; kernel_rfl)
  have hp' : tmps[p]?.getD undef = .pointer (some ⟨q, 0, none⟩) := by simpa using hp
  have hx' : tmps[u]?.getD undef = x := by simpa using hx
  have he' : tmps[v]?.getD undef = e := by simpa using he
  simp [results, h, hp', hx', he', asAddr, hld]

set_option maxHeartbeats 1000000 in
theorem rread_out (w : World) (s l : Nat) (ga : Option Addr) (gn gc : Nat) (la : Option Addr) (ln lc : Nat) (f : Int) (c : Nat) (i : Int) (h : i < 0 ∨ (gn : Int) ≤ i) :
    Calls Try.prog 17 #[.agg (dcs s l ga gn gc la ln lc f c), .int .i64 i] w fun r w' => r = .returned (.tuple #[.agg (dcs s l ga gn gc la ln lc f c), .string ByteArray.empty, .int .i64 15]) ∧ w.grownBy w' none := by
  by_cases h0 : i < 0
  · go_enter Try.func17, Try.ntmps17
    go_wp2
    exact bodyPost_ret (results_DSE rfl _ _ (w.heap.size + 1) _ _ _ rfl rfl rfl (two_lit1 _ _ _) rfl) rfl ⟨rfl, two_grown _ _ _⟩
  · have h1 : (gn : Int) ≤ i := by omega
    go_enter Try.func17, Try.ntmps17
    go_wp2
    exact bodyPost_ret (results_DSE rfl _ _ (w.heap.size + 1) _ _ _ rfl rfl rfl (two_lit1 _ _ _) rfl) rfl ⟨rfl, two_grown _ _ _⟩

theorem keep_alloc {w : World} {i : Nat} {x : Obj} (h : w.heap[i]? = some x) (o : Obj) : (w.alloc o).heap[i]? = some x := (Below.heap_alloc w o i (lt_of_block h)).trans h
theorem keep_drew {w : World} {i : Nat} {x : Obj} (h : w.heap[i]? = some x) : w.drew.heap[i]? = some x := h
theorem four_grown (w : World) (a b c d : Obj) : w.grownBy ((((w.alloc a).alloc b).alloc c).alloc d) none := gtrans (two_grown _ _ _) (two_grown _ _ _)

set_option maxHeartbeats 2000000 in
theorem rread_fail (w : World) (s l : Nat) (ga : Option Addr) (gn gc : Nat) (la : Option Addr) (ln lc : Nat) (c : Nat) (i : Nat) (hi : i < gn) (hc : c < 9223372036854775807) :
    Calls Try.prog 17 #[.agg (dcs s l ga gn gc la ln lc 0 c), .int .i64 (i : Int)] w fun r w' => r = .returned (.tuple #[.agg (dcs s l ga gn gc la ln lc (-1) (c + 1)), .string ByteArray.empty, .int .i64 20]) ∧ w.grownBy w' none := by
  have h1 : (i : Int) < (gn : Int) := by omega
  go_enter Try.func17, Try.ntmps17
  go_wp2_with (go_at_call 54; refine (rcount_err _ s l ga gn gc la ln lc c hc).mono ?_; rintro r w1 ⟨rfl, rfl⟩)
  exact bodyPost_ret (results_DSE rfl _ _ (w.heap.size + 1) _ _ _ rfl rfl rfl (keep_alloc (keep_alloc (two_lit1 _ _ _) _) _) rfl) rfl ⟨rfl, four_grown _ _ _ _ _⟩

set_option maxHeartbeats 2000000 in
theorem rread_ok (w : World) (s l : Nat) (ga : Option Addr) (gn gc : Nat) (la : Option Addr) (ln lc : Nat) (f : Int) (c : Nat) (good : List ByteArray) (loose : List (Nat × ByteArray)) (i : Nat)
    (hg : Row w.heap.size w (.slice ga gn gc) good.length (good.map Value.string)) (hl : Row w.heap.size w (.slice la ln lc) loose.length (lcells loose)) (hi : i < good.length) (hn : loose.length ≤ 100000)
    (hf : -9223372036854775808 ≤ f) (hf2 : f ≤ 9223372036854775807) (hc : c < 9223372036854775807) (h0 : f ≠ 0) :
    Calls Try.prog 17 #[.agg (dcs s l ga gn gc la ln lc f c), .int .i64 (i : Int)] w fun r w' => r = .returned (.tuple #[.agg (dcs s l ga gn gc la ln lc (fnext f) (c + 1)), .string (lookD good loose i), .int .i64 0]) ∧ w.grownBy w' none := by
  have hgn : gn = good.length := by obtain ⟨_, _, hv, _⟩ := hg; cases hv; rfl
  have h1 : (i : Int) < (gn : Int) := by omega
  have HG := Lib.hid hg
  have HL := Lib.hid hl
  obtain ⟨f', hf'⟩ : ∃ x, x = fnext f := ⟨_, rfl⟩
  have HF := Lib.hid hf'
  rw [← hf']
  clear hg hl hgn hf'
  go_enter Try.func17, Try.ntmps17
  go_wp2_with (go_at_call 54; refine (rcount_ok _ s l ga gn gc la ln lc f c hf hf2 hc h0).mono ?_; rintro r w1 ⟨rfl, rfl⟩; rw [← HF.out])
  go_region_with (first
    | (go_at_call 55; refine (rlook_any _ s l ga gn gc la ln lc f' (c + 1) good loose i (HG.out.grown (gtrans (four_grown w _ _ _ _) (gdrew _))) (HL.out.grown (gtrans (four_grown w _ _ _ _) (gdrew _))) hi hn).mono ?_; rintro r w1 ⟨rfl, rfl⟩))
  all_goals go_wp2
  all_goals exact bodyPost_ret (results_DSE rfl _ _ (w.heap.size + 1) _ _ _ rfl rfl rfl (keep_drew (keep_alloc (keep_alloc (keep_alloc (two_lit1 _ _ _) _) _) _)) rfl) rfl ⟨rfl, gtrans (four_grown _ _ _ _ _) (gtrans (World.grownBy_alloc _ _ _) (gdrew _))⟩

end Go.Proofs.Ytnodclijlhoobaa
