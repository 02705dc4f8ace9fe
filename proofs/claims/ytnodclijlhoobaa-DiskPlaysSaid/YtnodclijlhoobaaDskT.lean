/-
  Layer 3: what a disk's calls keep (plain), and a small block of the caller's own beside the disk. Own work.
-/
import Derived.Test.YtnodclijlhoobaaDskS
namespace Go.Proofs.Ytnodclijlhoobaa
open Go.RowKit

/-- A disk that is as it should be; c bounds its calls and its loose writes. -/
structure Wel (M : SM) (c : Nat) : Prop where
  a1 : -9223372036854775808 ≤ M.ahead
  a2 : M.ahead ≤ 9223372036854775807
  cl : M.calls ≤ c
  s1 : 512 ≤ M.size
  s2 : M.size ≤ 4096
  s3 : M.size % 128 = 0
  l : M.limit ≤ 65536
  p : M.pg.length ≤ M.limit
  lo : M.loose.length ≤ c
  lin : ∀ x ∈ M.loose, x.1 < M.pg.length
theorem Wel.mono {M : SM} {c c' : Nat} (h : Wel M c) (k : c ≤ c') : Wel M c' := ⟨h.a1, h.a2, Nat.le_trans h.cl k, h.s1, h.s2, h.s3, h.l, h.p, Nat.le_trans h.lo k, h.lin⟩
theorem Wel.fine {M : SM} {c : Nat} (h : Wel M c) (hc : c ≤ 100000) : Fine M := ⟨h.a1, h.a2, by have := h.cl; omega⟩
theorem cA_bound {f : Bool} {a : Int} (h1 : -9223372036854775808 ≤ a) (h2 : a ≤ 9223372036854775807) : -9223372036854775808 ≤ cA f a ∧ cA f a ≤ 9223372036854775807 := by
  unfold cA
  by_cases h : 0 < a <;> cases f <;> simp [h] <;> omega
theorem Wel.cnt {M : SM} {c : Nat} (h : Wel M c) : Wel (cntM M) (c + 1) :=
  ⟨(cA_bound h.a1 h.a2).1, (cA_bound h.a1 h.a2).2, Nat.add_le_add_right h.cl 1, h.s1, h.s2, h.s3, h.l, h.p, Nat.le_succ_of_le h.lo, h.lin⟩
theorem Wel.wr {M : SM} {c i : Nat} {bs : List Int} (h : Wel M c) (hi : i < M.pg.length) : Wel (wrM M i bs) (c + 1) := by
  refine ⟨(cA_bound h.a1 h.a2).1, (cA_bound h.a1 h.a2).2, Nat.add_le_add_right h.cl 1, h.s1, h.s2, h.s3, h.l, ?_, ?_, ?_⟩
  · simpa [wrM, cntM] using h.p
  · simpa [wrM] using h.lo
  · intro x hx
    simp only [wrM, List.mem_append, List.mem_singleton] at hx
    simp only [wrM, List.length_set]
    rcases hx with hx | rfl
    · exact h.lin x hx
    · exact hi
theorem Wel.sync {M : SM} {c : Nat} (h : Wel M c) : Wel (syncM M) (c + 1) :=
  ⟨(cA_bound h.a1 h.a2).1, (cA_bound h.a1 h.a2).2, Nat.add_le_add_right h.cl 1, h.s1, h.s2, h.s3, h.l, by simpa [syncM, syncP_len, cntM] using h.p, Nat.zero_le _, fun x hx => by simp [syncM] at hx⟩
theorem Wel.crash {M : SM} {c : Nat} (ks : List Int) (h : Wel M c) : Wel (crashM M ks) c :=
  ⟨(by decide : (-9223372036854775808 : Int) ≤ -1), (by decide : (-1 : Int) ≤ 9223372036854775807), h.cl, h.s1, h.s2, h.s3, h.l, by simpa [crashM, crashP_len] using h.p, Nat.zero_le _, fun x hx => by simp [crashM] at hx⟩
theorem Wel.grow {M : SM} {c k : Nat} {o : Bool} (h : Wel M c) (hk : M.pg.length + k ≤ M.limit) : Wel (growM (cntM M) k o) (c + 1) :=
  ⟨(cA_bound h.a1 h.a2).1, (cA_bound h.a1 h.a2).2, Nat.add_le_add_right h.cl 1, h.s1, h.s2, h.s3, h.l, by simpa [growM, cntM] using hk, Nat.le_succ_of_le h.lo, fun x hx => by
    have := h.lin x hx
    simp only [growM, cntM, List.length_append]
    omega⟩
theorem Wel.fail {M : SM} {c : Nat} (h : Wel M c) (n : Int) (h1 : -9223372036854775808 ≤ n) (h2 : n ≤ 9223372036854775807) : Wel { M with fails := decide (0 ≤ n), ahead := n } c :=
  ⟨h1, h2, h.cl, h.s1, h.s2, h.s3, h.l, h.p, h.lo, h.lin⟩
theorem wel_new {s l : Nat} (h : May s l) : Wel { size := s, limit := l, pg := [], loose := [], fails := false, ahead := 0, calls := 0, once := false } 0 := by
  obtain ⟨h1, h2, h3, h4, h5⟩ := h
  exact ⟨(by decide : (-9223372036854775808 : Int) ≤ 0), (by decide : (0 : Int) ≤ 9223372036854775807), Nat.le_refl _, (by show 512 ≤ s; omega), (by show s ≤ 4096; omega), (by show s % 128 = 0; omega), (by show l ≤ 65536; omega), Nat.zero_le _, Nat.le_refl _, fun x hx => by simp at hx⟩

theorem cE_calm {M : SM} (h : M.fails = false) : cE M.fails M.ahead = 0 := by simp [cE, h]
theorem cnt_calm {M : SM} (h : M.fails = false) : (cntM M).fails = false := by simp [cntM, cF, h]

/-- What a page has, as it was written last. -/
theorem lastM_wr (M : SM) (i p : Nat) (bs : List Int) (hi : i < M.pg.length) : lastM (wrM M i bs) p = if p = i then bs else lastM M p := by
  simp only [lastM, wrM, List.getD_eq_getElem?_getD, List.getElem?_set]
  by_cases h : p = i
  · subst h; simp [hi]
  · rw [if_neg (by omega), if_neg h]
theorem syncP_last : ∀ (l : List (Nat × List Int)) (pg : List (List Int × List Int)) (p : Nat), ((syncP pg l).getD p ([], [])).2 = (pg.getD p ([], [])).2
  | [], _, _ => rfl
  | x :: l, pg, p => by
    rw [syncP, syncP_last l]
    simp only [List.getD_eq_getElem?_getD, List.getElem?_set]
    by_cases h : x.1 = p
    · subst h
      by_cases h2 : x.1 < pg.length
      · simp [h2]
      · simp [h2]
    · rw [if_neg h]
theorem lastM_sync (M : SM) (p : Nat) : lastM (syncM M) p = lastM M p := syncP_last _ _ _
theorem fullB_one (n : Nat) (v : Int) : fullB n [v] n = List.replicate n v := by
  apply List.ext_getElem?
  intro j
  simp only [fullB, List.getElem?_map, List.getElem?_replicate]
  by_cases h : j < n
  · simp [h, Nat.mod_one]
  · simp [h]

/-- A small block of bytes is none of the disk's. -/
theorem own_small {w w' : World} {base n x : Nat} {v : Value} {xs : List Value} {cs : Array Value} {f : Nat × Nat} (h : w.ownsRow base 5 1 v n xs) (hx : w.heap[x]? = some (.cells cs 5 f)) (hs : cs.size < n) (hg : w.grownBy w' (some x)) : w'.ownsRow base 5 1 v n xs := by
  refine h.kept hg ?_
  rcases h.2 with ⟨rfl, _⟩ | ⟨g, cap, cur, rfl, _, hgg, hc, _, hcs, _⟩
  · exact .inl rfl
  · refine .inr fun e => ?_
    simp only [Value.ownBlock, Option.some.injEq] at e
    subst e
    rw [hgg] at hx
    injection hx with hx
    injection hx with e1 _ _
    rw [e1] at hcs
    omega
theorem DskAt.small {B d x : Nat} {w w' : World} {M : SM} {cs : Array Value} {f : Nat × Nat} (h : DskAt B w d M) (hx : w.heap[x]? = some (.cells cs 5 f)) (hs : cs.size < M.size) (hg : w.grownBy w' (some x)) : DskAt B w' d M := by
  obtain ⟨pv, lv, nv, ps, ls, h1, h2, h3, h4, h5⟩ := h
  have ht : ∀ k, some x = some k → TagIs w k 5 := fun k e => by injection e with e; subst e; exact ⟨_, _, hx⟩
  have hd : some d ≠ some x := fun e => by
    injection e with e
    subst e
    rw [h2] at hx
    injection hx with hx
    injection hx with _ e2 _
    exact absurd e2 (by decide)
  refine ⟨pv, lv, nv, ps, ls, h1, (hg.block d (lt_of_block h2) hd).trans h2, ⟨own_far h3.pown hg ht (by decide), fun y hy => ⟨own_small (h3.pall y hy).1 hx hs hg, own_small (h3.pall y hy).2 hx hs hg⟩, own_far h3.lown hg ht (by decide), fun y hy => own_small (h3.lall y hy) hx hs hg, ?_⟩, h4, h5⟩
  have := h3.nown
  cases hM : M.once
  · rw [hM] at this; exact this
  · rw [hM] at this; exact own_small (show w.ownsRow B 5 1 nv M.size _ from this) hx hs hg

theorem gdrewN (w : World) (n : Nat) : w.grownBy (w.drewN n) none := ⟨rfl, rfl, rfl, Nat.le_refl _, fun _ _ _ => rfl⟩
theorem DskAt.writeN {B b0 d i n : Nat} {w : World} {M : SM} {ba : Option Addr} {bc : Nat} {bs : List Int} (h : DskAt B w d M) (he : M.size = n) (hF : Fine M) (hi : i < M.pg.length) (hn : n ≤ 4096) (h0 : cE M.fails M.ahead = 0) (hbs : Own8 b0 w n (.slice ba n bc) bs) (hl : M.loose.length ≤ 100000) :
    Calls Try.prog 14 #[.pointer (some ⟨d, 0, none⟩), .int .i64 (i : Int), .slice ba n bc] w fun r w' => r = .returned (.int .i64 0) ∧ DskAt B w' d (wrM M i bs) ∧ Dfr B w w' := by
  subst he; exact h.write hF hi hn h0 hbs hl
theorem DskAt.readN {B d i n : Nat} {w : World} {M : SM} (h : DskAt B w d M) (he : M.size = n) (hF : Fine M) (hi : i < M.pg.length) (hn : n ≤ 4096) (h0 : cE M.fails M.ahead = 0) :
    Calls Try.prog 16 #[.pointer (some ⟨d, 0, none⟩), .int .i64 (i : Int)] w fun r w' => ∃ wc ao e, r = .returned (.tuple #[.slice ao n e, .int .i64 0]) ∧
      DskAt B wc d (cntM M) ∧ wc.heap.size = w.heap.size ∧ Dfr B w wc ∧ wc.grownBy w' none ∧ Own8 wc.heap.size w' n (.slice ao n e) (lastM M i) := by
  subst he; exact h.read hF hi hn h0

end Go.Proofs.Ytnodclijlhoobaa
