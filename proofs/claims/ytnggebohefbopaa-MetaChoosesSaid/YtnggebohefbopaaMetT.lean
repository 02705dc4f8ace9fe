/-
  Layer 7: the document's Get. Own work.
-/
import Derived.Test.YtnggebohefbopaaMetS
import Derived.Deep.QuietTactic
import Derived.BigQuiet
import Derived.Deep.OwnRows
namespace Go.Proofs.Ytnggebohefbopaa
open Go.RowKit

theorem results_K {fn : Func} {p u : Tmp} (h : fn.results = #[.cell p 30, .tmp u]) (tmps : Array Value) (W : World) (q : Nat) (cs : Array Value) (e : Value) (hp : tmps.getD p undef = .pointer (some ⟨q, 0, none⟩)) (he : tmps.getD u undef = e)
    (hq : W.heap[q]? = some (.cells cs 30 (0, 0))) (hs : cs.size = 4) : (results fn tmps).run Try.prog W = .ok (.tuple #[.agg cs, e]) W := by
  have hld := run_loadVar_row (P := Try.prog) W q 30 30 cs (0, 0) _ hq Try.underlying30 rfl (by rw [hs]; kernel_rfl)
  have hp' : tmps[p]?.getD undef = .pointer (some ⟨q, 0, none⟩) := by simpa using hp
  have he' : tmps[u]?.getD undef = e := by simpa using he
  simp [results, h, hp', he', asAddr, hld]
/-- What stands while a text is read as a meta's page: the result's block is q. -/
structure KS7 (q : Nat) (w0 w : World) : Prop where
  hq : w.heap[q]? = some (.cells zC 30 (0, 0))
  bel : Below w0.heap.size w0 w
  q0 : w0.heap.size ≤ q
theorem KS7.far {q : Nat} {w0 w w' : World} (h : KS7 q w0 w) (k : w.grownBy w' none) : KS7 q w0 w' :=
  ⟨(k.block q (lt_of_block h.hq) (by simp)).trans h.hq, h.bel.trans ((gbelow k).mono h.bel.size), h.q0⟩
theorem KS7.start (w : World) : KS7 w.heap.size w (w.alloc (.cells zC 30)) := ⟨heap_alloc_new _ _, gbelow (World.grownBy_alloc _ _ _), Nat.le_refl _⟩
theorem KS7.quiet {q : Nat} {w0 w : World} (h : KS7 q w0 w) (nq : Nat) : KS7 q w0 (w.drewN nq) := h.far ⟨rfl, rfl, rfl, Nat.le_refl _, fun _ _ _ => rfl⟩
theorem KS7.fin {q : Nat} {w0 w : World} (h : KS7 q w0 w) (a b c d : Value) : w0.grownBy ((((w.setCell ⟨q, 0, none⟩ a).setCell ⟨q, 1, none⟩ b).setCell ⟨q, 2, none⟩ c).setCell ⟨q, 3, none⟩ d) none := gof (below4 h.bel h.q0 _ _ _ _) none

set_option maxHeartbeats 2000000 in
theorem kget_a (w : World) (b : List Int) (hb : Byt b) (hl : b.length ≤ 140737488355328) (h : b.length < 512) :
    Calls Try.prog 19 #[.string (strOfNums b)] w fun r w' => GotM b w w' r := by
  have hsz := strOfNums_size b
  have HE := Lib.hid (mget_len (b := b) (by omega))
  obtain ⟨B, hB⟩ : ∃ B, B = strOfNums b := ⟨_, rfl⟩
  obtain ⟨n, hn⟩ : ∃ n, n = b.length := ⟨_, rfl⟩
  rw [← hB, ← hn] at hsz
  rw [← hn] at h
  rw [← hB]
  have h1 : (n : Int) < 512 := by omega
  have hd : decide ((n : Int) < 512) = true := by simpa using h1
  clear hB hn hb hl
  have HK := Lib.hid (KS7.start w)
  unfold zC at HK
  go_enter Try.func19, Try.ntmps19
  go_wp2
  go_quiet (fail)
  have HQ := Lib.hid (HK.out.quiet nq)
  generalize (w.alloc (.cells #[.int .u64 0, .int .u32 0, .int .u32 0, .int .u32 0] 30)).drewN nq = wq at HQ ⊢
  obtain ⟨⟨z0, z1, z2, z3⟩, f0, f1, f2, f3⟩ := cells4 HQ.out.hq
  go_wp2
  exact bodyPost_ret (results_K rfl _ _ w.heap.size _ _ rfl rfl (store4 HQ.out.hq _ _ _ _) rfl) rfl (gotM_no HE.out (by decide) (HQ.out.fin _ _ _ _))

set_option maxHeartbeats 2000000 in
theorem kget_a2 (w : World) (b : List Int) (hb : Byt b) (hl : b.length ≤ 140737488355328) (h : 4096 < b.length) :
    Calls Try.prog 19 #[.string (strOfNums b)] w fun r w' => GotM b w w' r := by
  have hsz := strOfNums_size b
  have HE := Lib.hid (mget_len (b := b) (by omega))
  obtain ⟨B, hB⟩ : ∃ B, B = strOfNums b := ⟨_, rfl⟩
  obtain ⟨n, hn⟩ : ∃ n, n = b.length := ⟨_, rfl⟩
  rw [← hB, ← hn] at hsz
  rw [← hn] at h
  rw [← hB]
  have h1 : ¬ (n : Int) < 512 := by omega
  have hd : decide ((n : Int) < 512) = false := by simpa using h1
  have h2 : (4096 : Int) < (n : Int) := by omega
  have hd2 : decide ((4096 : Int) < (n : Int)) = true := by simpa using h2
  clear hB hn hb hl
  have HK := Lib.hid (KS7.start w)
  unfold zC at HK
  go_enter Try.func19, Try.ntmps19
  go_wp2
  go_quiet (fail)
  have HQ := Lib.hid (HK.out.quiet nq)
  generalize (w.alloc (.cells #[.int .u64 0, .int .u32 0, .int .u32 0, .int .u32 0] 30)).drewN nq = wq at HQ ⊢
  obtain ⟨⟨z0, z1, z2, z3⟩, f0, f1, f2, f3⟩ := cells4 HQ.out.hq
  go_wp2
  exact bodyPost_ret (results_K rfl _ _ w.heap.size _ _ rfl rfl (store4 HQ.out.hq _ _ _ _) rfl) rfl (gotM_no HE.out (by decide) (HQ.out.fin _ _ _ _))

set_option maxHeartbeats 2000000 in
theorem kget_c (w : World) (b : List Int) (hb : Byt b) (hl : b.length ≤ 140737488355328) (hs : 512 ≤ b.length ∧ b.length ≤ 4096) (hm : b.take 4 ≠ RUB) :
    Calls Try.prog 19 #[.string (strOfNums b)] w fun r w' => GotM b w w' r := by
  have hsz := strOfNums_size b
  have HE := Lib.hid (mget_mark (b := b) hm)
  obtain ⟨B, hB⟩ : ∃ B, B = strOfNums b := ⟨_, rfl⟩
  obtain ⟨n, hn⟩ : ∃ n, n = b.length := ⟨_, rfl⟩
  rw [← hB, ← hn] at hsz
  obtain ⟨T4, hT4⟩ : ∃ T, T = strOfNums (b.take 4) := ⟨_, rfl⟩
  have ht4 := strOf_take b 4
  rw [← hB, ← hT4] at ht4
  rw [← hn] at hs
  rw [← hB]
  have hrub := rub_no (hb.take 4) hm
  rw [← hT4] at hrub
  have h1 : ¬ (n : Int) < 512 := by omega
  have hd : decide ((n : Int) < 512) = false := by simpa using h1
  have h2 : ¬ (4096 : Int) < (n : Int) := by omega
  have hd2 : decide ((4096 : Int) < (n : Int)) = false := by simpa using h2
  have h4 : (4 : Int) ≤ (n : Int) := by omega
  clear hB hn hb hl hT4 hm
  have HK := Lib.hid (KS7.start w)
  unfold zC at HK
  go_enter Try.func19, Try.ntmps19
  go_wp2
  go_quiet (fail)
  have HQ := Lib.hid (HK.out.quiet nq)
  generalize (w.alloc (.cells #[.int .u64 0, .int .u32 0, .int .u32 0, .int .u32 0] 30)).drewN nq = wq at HQ ⊢
  obtain ⟨⟨z0, z1, z2, z3⟩, f0, f1, f2, f3⟩ := cells4 HQ.out.hq
  go_wp2
  exact bodyPost_ret (results_K rfl _ _ w.heap.size _ _ rfl rfl (store4 HQ.out.hq _ _ _ _) rfl) rfl (gotM_no HE.out (by decide) (HQ.out.fin _ _ _ _))

set_option maxHeartbeats 2000000 in
theorem kget_d (w : World) (b : List Int) (hb : Byt b) (hl : b.length ≤ 140737488355328) (hs : 512 ≤ b.length ∧ b.length ≤ 4096) (hm : b.take 4 = RUB) (hf : fld b 4 4 ≠ (b.length : Int)) :
    Calls Try.prog 19 #[.string (strOfNums b)] w fun r w' => GotM b w w' r := by
  have hsz := strOfNums_size b
  have HE := Lib.hid (mget_size (b := b) hf)
  obtain ⟨B, hB⟩ : ∃ B, B = strOfNums b := ⟨_, rfl⟩
  obtain ⟨n, hn⟩ : ∃ n, n = b.length := ⟨_, rfl⟩
  rw [← hB, ← hn] at hsz
  obtain ⟨T4, hT4⟩ : ∃ T, T = strOfNums (b.take 4) := ⟨_, rfl⟩
  have ht4 := strOf_take b 4
  rw [← hB, ← hT4] at ht4
  have hwn : IntKind.u64.wrap (n : Int) = (n : Int) := by rw [show IntKind.u64.wrap (n : Int) = (n : Int) % 18446744073709551616 from rfl]; omega
  have KN := Lib.hid (fun w' => knum_in w' b 4 4 4 4 rfl rfl hb (by omega) (by decide) (by decide) hl)
  rw [← hB] at KN
  rw [← hn] at hs hf
  rw [← hB]
  have hrub := rub_yes hm
  rw [← hT4] at hrub
  obtain ⟨F, hF⟩ : ∃ F, F = fld b 4 4 := ⟨_, rfl⟩
  rw [← hF] at hf KN
  have hfd : (F != (n : Int)) = true := by simpa using hf
  have h1 : ¬ (n : Int) < 512 := by omega
  have hd : decide ((n : Int) < 512) = false := by simpa using h1
  have h2 : ¬ (4096 : Int) < (n : Int) := by omega
  have hd2 : decide ((4096 : Int) < (n : Int)) = false := by simpa using h2
  have h4 : (4 : Int) ≤ (n : Int) := by omega
  clear hB hn hb hl hT4 hm hF
  have HK := Lib.hid (KS7.start w)
  unfold zC at HK
  go_enter Try.func19, Try.ntmps19
  go_wp2
  have HKd := Lib.hid (show KS7 w.heap.size w (w.alloc (.cells #[.int .u64 0, .int .u32 0, .int .u32 0, .int .u32 0] 30)).drew from HK.out.far (gdrew _))
  generalize w.alloc (.cells #[.int .u64 0, .int .u32 0, .int .u32 0, .int .u32 0] 30) = W at HK HKd ⊢
  refine wp_region_held_drew (S := fun w' => True) (by kernel_rfl) ?_ (fun hHeld => ?_)
  · trivial
  refine wpAnyH_take (i := 0) (oi := { dst := some 6, op := Op.move (Operand.tmp 0), type := 9, pos := "ref.go:45", after := #[], guard := none }) (v := ?_) rfl (by kernel_rfl) (by kernel_rfl) (by kernel_rfl) (fun _ _ _ h => h) (Or.inl ⟨by rfl, ?hy0⟩) (by assumption) ?_
  case hy0 => (intro w hSw; (try dsimp only at hSw); (go_simp <;> with_reducible rfl))
  try simp only [Act.put, List.setIfInBounds_toArray, List.set_cons_zero, List.set_cons_succ]
  refine wpAnyH_take (i := 1) (oi := { dst := some 7, op := Op.call { callee := Callee.builtin Builtin.len, args := #[Operand.tmp 6], argTypes := #[9] }, type := 3, pos := "ref.go:45", after := #[{ on := 0, ground := Ground.data }], guard := none }) (v := ?_) rfl (by kernel_rfl) (by kernel_rfl) (by kernel_rfl) (fun _ _ _ h => h) (Or.inl ⟨by rfl, ?hy1⟩) (by assumption) ?_
  case hy1 => (intro w hSw; (try dsimp only at hSw); (go_simp <;> with_reducible rfl))
  try simp only [Act.put, List.setIfInBounds_toArray, List.set_cons_zero, List.set_cons_succ]
  refine wpAnyH_take (i := 2) (oi := { dst := some 8, op := Op.binOp BinOp.lss 3 (Operand.tmp 7) (Operand.const (Value.int IntKind.i64 512)) 3, type := 4, pos := "ref.go:45", after := #[{ on := 1, ground := Ground.data }], guard := none }) (v := ?_) rfl (by kernel_rfl) (by kernel_rfl) (by kernel_rfl) (fun _ _ _ h => h) (Or.inl ⟨by rfl, ?hy2⟩) (by assumption) ?_
  case hy2 => (intro w hSw; (try dsimp only at hSw); (go_simp <;> with_reducible rfl))
  try simp only [Act.put, List.setIfInBounds_toArray, List.set_cons_zero, List.set_cons_succ]
  refine wpAnyH_take (i := 3) (oi := { dst := some 9, op := Op.move (Operand.tmp 8), type := 4, pos := "ref.go:45", after := #[{ on := 2, ground := Ground.data }], guard := none }) (v := ?_) rfl (by kernel_rfl) (by kernel_rfl) (by kernel_rfl) (fun _ _ _ h => h) (Or.inl ⟨by rfl, ?hy3⟩) (by assumption) ?_
  case hy3 => (intro w hSw; (try dsimp only at hSw); (go_simp <;> with_reducible rfl))
  try simp only [Act.put, List.setIfInBounds_toArray, List.set_cons_zero, List.set_cons_succ]
  refine wpAnyH_take (i := 4) (oi := { dst := some 10, op := Op.move (Operand.tmp 0), type := 9, pos := "ref.go:45", after := #[{ on := 3, ground := Ground.guard }], guard := some (3, false) }) (v := ?_) rfl (by kernel_rfl) (by kernel_rfl) (by kernel_rfl) (fun _ _ _ h => h) (Or.inl ⟨by rfl, ?hy4⟩) (by assumption) ?_
  case hy4 => (intro w hSw; (try dsimp only at hSw); (go_simp <;> with_reducible rfl))
  try simp only [Act.put, List.setIfInBounds_toArray, List.set_cons_zero, List.set_cons_succ]
  refine wpAnyH_take (i := 5) (oi := { dst := some 11, op := Op.call { callee := Callee.builtin Builtin.len, args := #[Operand.tmp 10], argTypes := #[9] }, type := 3, pos := "ref.go:45", after := #[{ on := 4, ground := Ground.data }, { on := 3, ground := Ground.guard }], guard := some (3, false) }) (v := ?_) rfl (by kernel_rfl) (by kernel_rfl) (by kernel_rfl) (fun _ _ _ h => h) (Or.inl ⟨by rfl, ?hy5⟩) (by assumption) ?_
  case hy5 => (intro w hSw; (try dsimp only at hSw); (go_simp <;> with_reducible rfl))
  try simp only [Act.put, List.setIfInBounds_toArray, List.set_cons_zero, List.set_cons_succ]
  refine wpAnyH_take (i := 6) (oi := { dst := some 12, op := Op.binOp BinOp.gtr 3 (Operand.tmp 11) (Operand.const (Value.int IntKind.i64 4096)) 3, type := 4, pos := "ref.go:45", after := #[{ on := 5, ground := Ground.data }, { on := 3, ground := Ground.guard }], guard := some (3, false) }) (v := ?_) rfl (by kernel_rfl) (by kernel_rfl) (by kernel_rfl) (fun _ _ _ h => h) (Or.inl ⟨by rfl, ?hy6⟩) (by assumption) ?_
  case hy6 => (intro w hSw; (try dsimp only at hSw); (go_simp <;> with_reducible rfl))
  try simp only [Act.put, List.setIfInBounds_toArray, List.set_cons_zero, List.set_cons_succ]
  refine wpAnyH_take (i := 7) (oi := { dst := some 13, op := Op.pick (Operand.tmp 9) (Operand.const (Value.bool true)) (Operand.tmp 12), type := 4, pos := "ref.go:45", after := #[{ on := 3, ground := Ground.data }, { on := 6, ground := Ground.data }], guard := none }) (v := ?_) rfl (by kernel_rfl) (by kernel_rfl) (by kernel_rfl) (fun _ _ _ h => h) (Or.inl ⟨by rfl, ?hy7⟩) (by assumption) ?_
  case hy7 => (intro w hSw; (try dsimp only at hSw); (go_simp <;> with_reducible rfl))
  try simp only [Act.put, List.setIfInBounds_toArray, List.set_cons_zero, List.set_cons_succ]
  refine wpAnyH_take (i := 8) (oi := { dst := some 14, op := Op.move (Operand.tmp 13), type := 4, pos := "ref.go:45", after := #[{ on := 7, ground := Ground.data }, { on := 3, ground := Ground.chain }], guard := none }) (v := ?_) rfl (by kernel_rfl) (by kernel_rfl) (by kernel_rfl) (fun _ _ _ h => h) (Or.inl ⟨by rfl, ?hy8⟩) (by assumption) ?_
  case hy8 => (intro w hSw; (try dsimp only at hSw); (go_simp <;> with_reducible rfl))
  try simp only [Act.put, List.setIfInBounds_toArray, List.set_cons_zero, List.set_cons_succ]
  refine wpAnyH_take (i := 9) (oi := { dst := some 15, op := Op.move (Operand.tmp 0), type := 9, pos := "ref.go:45", after := #[{ on := 8, ground := Ground.guard }], guard := some (8, false) }) (v := ?_) rfl (by kernel_rfl) (by kernel_rfl) (by kernel_rfl) (fun _ _ _ h => h) (Or.inl ⟨by rfl, ?hy9⟩) (by assumption) ?_
  case hy9 => (intro w hSw; (try dsimp only at hSw); (go_simp <;> with_reducible rfl))
  try simp only [Act.put, List.setIfInBounds_toArray, List.set_cons_zero, List.set_cons_succ]
  refine wpAnyH_take (i := 10) (oi := { dst := some 16, op := Op.slice 9 (Operand.tmp 15) none (some (Operand.const (Value.int IntKind.i64 4))) none, type := 9, pos := "ref.go:45", after := #[{ on := 9, ground := Ground.data }, { on := 8, ground := Ground.guard }], guard := some (8, false) }) (v := ?_) rfl (by kernel_rfl) (by kernel_rfl) (by kernel_rfl) (fun _ _ _ h => h) (Or.inl ⟨by rfl, ?hy10⟩) (by assumption) ?_
  case hy10 => (intro w hSw; (try dsimp only at hSw); (go_simp <;> with_reducible rfl))
  try simp only [Act.put, List.setIfInBounds_toArray, List.set_cons_zero, List.set_cons_succ]
  refine wpAnyH_take (i := 11) (oi := { dst := some 17, op := Op.binOp BinOp.neq 9 (Operand.tmp 16) (Operand.const (Value.string { data := #[82, 85, 66, 49] })) 9, type := 4, pos := "ref.go:45", after := #[{ on := 10, ground := Ground.data }, { on := 8, ground := Ground.guard }], guard := some (8, false) }) (v := ?_) rfl (by kernel_rfl) (by kernel_rfl) (by kernel_rfl) (fun _ _ _ h => h) (Or.inl ⟨by rfl, ?hy11⟩) (by assumption) ?_
  case hy11 => (intro w hSw; (try dsimp only at hSw); (go_simp <;> with_reducible rfl))
  try simp only [Act.put, List.setIfInBounds_toArray, List.set_cons_zero, List.set_cons_succ]
  refine wpAnyH_take (i := 12) (oi := { dst := some 18, op := Op.pick (Operand.tmp 14) (Operand.const (Value.bool true)) (Operand.tmp 17), type := 4, pos := "ref.go:45", after := #[{ on := 8, ground := Ground.data }, { on := 11, ground := Ground.data }], guard := none }) (v := ?_) rfl (by kernel_rfl) (by kernel_rfl) (by kernel_rfl) (fun _ _ _ h => h) (Or.inl ⟨by rfl, ?hy12⟩) (by assumption) ?_
  case hy12 => (intro w hSw; (try dsimp only at hSw); (go_simp <;> with_reducible rfl))
  try simp only [Act.put, List.setIfInBounds_toArray, List.set_cons_zero, List.set_cons_succ]
  refine wpAnyH_take (i := 13) (oi := { dst := some 19, op := Op.move (Operand.tmp 18), type := 4, pos := "ref.go:45", after := #[{ on := 12, ground := Ground.data }, { on := 8, ground := Ground.chain }], guard := none }) (v := ?_) rfl (by kernel_rfl) (by kernel_rfl) (by kernel_rfl) (fun _ _ _ h => h) (Or.inl ⟨by rfl, ?hy13⟩) (by assumption) ?_
  case hy13 => (intro w hSw; (try dsimp only at hSw); (go_simp <;> with_reducible rfl))
  try simp only [Act.put, List.setIfInBounds_toArray, List.set_cons_zero, List.set_cons_succ]
  refine wpAnyH_take (i := 14) (oi := { dst := some 20, op := Op.move (Operand.tmp 0), type := 9, pos := "ref.go:45", after := #[{ on := 13, ground := Ground.guard }], guard := some (13, false) }) (v := ?_) rfl (by kernel_rfl) (by kernel_rfl) (by kernel_rfl) (fun _ _ _ h => h) (Or.inl ⟨by rfl, ?hy14⟩) (by assumption) ?_
  case hy14 => (intro w hSw; (try dsimp only at hSw); (go_simp <;> with_reducible rfl))
  try simp only [Act.put, List.setIfInBounds_toArray, List.set_cons_zero, List.set_cons_succ]
  refine wpAnyH_take (i := 16) (oi := { dst := some 22, op := Op.move (Operand.tmp 0), type := 9, pos := "ref.go:45", after := #[{ on := 13, ground := Ground.guard }], guard := some (13, false) }) (v := ?_) rfl (by kernel_rfl) (by kernel_rfl) (by kernel_rfl) (fun _ _ _ h => h) (Or.inl ⟨by rfl, ?hy16⟩) (by assumption) ?_
  case hy16 => (intro w hSw; (try dsimp only at hSw); (go_simp <;> with_reducible rfl))
  try simp only [Act.put, List.setIfInBounds_toArray, List.set_cons_zero, List.set_cons_succ]
  refine wpAnyH_take (i := 17) (oi := { dst := some 23, op := Op.call { callee := Callee.builtin Builtin.len, args := #[Operand.tmp 22], argTypes := #[9] }, type := 3, pos := "ref.go:45", after := #[{ on := 16, ground := Ground.data }, { on := 13, ground := Ground.guard }], guard := some (13, false) }) (v := ?_) rfl (by kernel_rfl) (by kernel_rfl) (by kernel_rfl) (fun _ _ _ h => h) (Or.inl ⟨by rfl, ?hy17⟩) (by assumption) ?_
  case hy17 => (intro w hSw; (try dsimp only at hSw); (go_simp <;> with_reducible rfl))
  try simp only [Act.put, List.setIfInBounds_toArray, List.set_cons_zero, List.set_cons_succ]
  refine wpAnyH_take (i := 18) (oi := { dst := some 24, op := Op.convert 3 22 (Operand.tmp 23), type := 22, pos := "ref.go:45", after := #[{ on := 17, ground := Ground.data }, { on := 13, ground := Ground.guard }], guard := some (13, false) }) (v := ?_) rfl (by kernel_rfl) (by kernel_rfl) (by kernel_rfl) (fun _ _ _ h => h) (Or.inl ⟨by rfl, ?hy18⟩) (by assumption) ?_
  case hy18 => (intro w hSw; (try dsimp only at hSw); (go_simp <;> with_reducible rfl))
  try simp only [Act.put, List.setIfInBounds_toArray, List.set_cons_zero, List.set_cons_succ]
  refine wpAnyH_ready (rs := [15]) (by kernel_rfl) (by simp) ?_
  refine AllReadyH.cons (o := { dst := some 21, op := Op.call { callee := Callee.value (Operand.func 39), args := #[Operand.tmp 20, Operand.const (Value.int IntKind.i64 4), Operand.const (Value.int IntKind.i64 4)], argTypes := #[9, 3, 3] }, type := 22, pos := "ref.go:45", after := #[{ on := 14, ground := Ground.data }, { on := 13, ground := Ground.chain }, { on := 13, ground := Ground.guard }], guard := some (13, false) }) rfl (fun K hK => ?_) (AllReadyH.nil)
  go_simp
  (go_at_call 39; ((with_reducible refine (KN.out W.drew).mono ?_); rintro r w1 ⟨rfl, hg⟩); have H1 := Lib.hid (HKd.out.far hg); clear hg)
  refine hK.out _ _ ?_ (fun hHeld => ?_)
  · trivial
  clear hK K
  try simp only [Act.put, List.setIfInBounds_toArray, List.set_cons_zero, List.set_cons_succ]
  refine wpAnyH_take (i := 19) (oi := { dst := some 25, op := Op.binOp BinOp.neq 22 (Operand.tmp 21) (Operand.tmp 24) 22, type := 4, pos := "ref.go:45", after := #[{ on := 15, ground := Ground.data }, { on := 18, ground := Ground.data }, { on := 13, ground := Ground.guard }], guard := some (13, false) }) (v := .bool true) rfl (by kernel_rfl) (by kernel_rfl) (by kernel_rfl) (fun _ _ _ h => h) (Or.inl ⟨by rfl, ?hy19⟩) (by assumption) ?_
  case hy19 => (intro w hSw; go_simp)
  try simp only [Act.put, List.setIfInBounds_toArray, List.set_cons_zero, List.set_cons_succ]
  refine wpAnyH_take (i := 20) (oi := { dst := some 26, op := Op.pick (Operand.tmp 19) (Operand.const (Value.bool true)) (Operand.tmp 25), type := 4, pos := "ref.go:45", after := #[{ on := 13, ground := Ground.data }, { on := 19, ground := Ground.data }], guard := none }) (v := ?_) rfl (by kernel_rfl) (by kernel_rfl) (by kernel_rfl) (fun _ _ _ h => h) (Or.inl ⟨by rfl, ?hy20⟩) (by assumption) ?_
  case hy20 => (intro w hSw; (try dsimp only at hSw); (go_simp <;> with_reducible rfl))
  try simp only [Act.put, List.setIfInBounds_toArray, List.set_cons_zero, List.set_cons_succ]
  refine wpAnyH_take (i := 21) (oi := { dst := some 27, op := Op.move (Operand.tmp 26), type := 4, pos := "ref.go:45", after := #[{ on := 20, ground := Ground.data }, { on := 15, ground := Ground.chain }], guard := none }) (v := ?_) rfl (by kernel_rfl) (by kernel_rfl) (by kernel_rfl) (fun _ _ _ h => h) (Or.inl ⟨by rfl, ?hy21⟩) (by assumption) ?_
  case hy21 => (intro w hSw; (try dsimp only at hSw); (go_simp <;> with_reducible rfl))
  try simp only [Act.put, List.setIfInBounds_toArray, List.set_cons_zero, List.set_cons_succ]
  refine wpAnyH_take (i := 22) (oi := { dst := some 28, op := Op.move (Operand.tmp 0), type := 9, pos := "ref.go:45", after := #[{ on := 21, ground := Ground.guard }], guard := some (21, false) }) (v := undef) rfl (by kernel_rfl) (by kernel_rfl) (by kernel_rfl) (fun _ _ _ h => h) (Or.inr ⟨by rfl, rfl⟩) (by assumption) ?_
  try simp only [Act.put, List.setIfInBounds_toArray, List.set_cons_zero, List.set_cons_succ]
  refine wpAnyH_take (i := 23) (oi := { dst := some 29, op := Op.slice 9 (Operand.tmp 28) (some (Operand.const (Value.int IntKind.i64 32))) none none, type := 9, pos := "ref.go:45", after := #[{ on := 22, ground := Ground.data }, { on := 21, ground := Ground.guard }], guard := some (21, false) }) (v := undef) rfl (by kernel_rfl) (by kernel_rfl) (by kernel_rfl) (fun _ _ _ h => h) (Or.inr ⟨by rfl, rfl⟩) (by assumption) ?_
  try simp only [Act.put, List.setIfInBounds_toArray, List.set_cons_zero, List.set_cons_succ]
  refine wpAnyH_take (i := 24) (oi := { dst := some 30, op := Op.move (Operand.tmp 0), type := 9, pos := "ref.go:45", after := #[{ on := 21, ground := Ground.guard }], guard := some (21, false) }) (v := undef) rfl (by kernel_rfl) (by kernel_rfl) (by kernel_rfl) (fun _ _ _ h => h) (Or.inr ⟨by rfl, rfl⟩) (by assumption) ?_
  try simp only [Act.put, List.setIfInBounds_toArray, List.set_cons_zero, List.set_cons_succ]
  refine wpAnyH_take (i := 25) (oi := { dst := some 31, op := Op.call { callee := Callee.builtin Builtin.len, args := #[Operand.tmp 30], argTypes := #[9] }, type := 3, pos := "ref.go:45", after := #[{ on := 24, ground := Ground.data }, { on := 21, ground := Ground.guard }], guard := some (21, false) }) (v := undef) rfl (by kernel_rfl) (by kernel_rfl) (by kernel_rfl) (fun _ _ _ h => h) (Or.inr ⟨by rfl, rfl⟩) (by assumption) ?_
  try simp only [Act.put, List.setIfInBounds_toArray, List.set_cons_zero, List.set_cons_succ]
  refine wpAnyH_take (i := 26) (oi := { dst := some 32, op := Op.binOp BinOp.sub 3 (Operand.tmp 31) (Operand.const (Value.int IntKind.i64 32)) 3, type := 3, pos := "ref.go:45", after := #[{ on := 25, ground := Ground.data }, { on := 21, ground := Ground.guard }], guard := some (21, false) }) (v := undef) rfl (by kernel_rfl) (by kernel_rfl) (by kernel_rfl) (fun _ _ _ h => h) (Or.inr ⟨by rfl, rfl⟩) (by assumption) ?_
  try simp only [Act.put, List.setIfInBounds_toArray, List.set_cons_zero, List.set_cons_succ]
  refine wpAnyH_take (i := 27) (oi := { dst := some 33, op := Op.makeSlice 33 (Operand.tmp 32) (Operand.tmp 32), type := 33, pos := "ref.go:45", after := #[{ on := 26, ground := Ground.data }, { on := 26, ground := Ground.data }, { on := 21, ground := Ground.guard }], guard := some (21, false) }) (v := undef) rfl (by kernel_rfl) (by kernel_rfl) (by kernel_rfl) (fun _ _ _ h => h) (Or.inr ⟨by rfl, rfl⟩) (by assumption) ?_
  try simp only [Act.put, List.setIfInBounds_toArray, List.set_cons_zero, List.set_cons_succ]
  refine wpAnyH_take (i := 28) (oi := { dst := some 34, op := Op.convert 33 9 (Operand.tmp 33), type := 9, pos := "ref.go:45", after := #[{ on := 27, ground := Ground.data }, { on := 21, ground := Ground.guard }], guard := some (21, false) }) (v := undef) rfl (by kernel_rfl) (by kernel_rfl) (by kernel_rfl) (fun _ _ _ h => h) (Or.inr ⟨by rfl, rfl⟩) (by assumption) ?_
  try simp only [Act.put, List.setIfInBounds_toArray, List.set_cons_zero, List.set_cons_succ]
  refine wpAnyH_take (i := 29) (oi := { dst := some 35, op := Op.binOp BinOp.neq 9 (Operand.tmp 29) (Operand.tmp 34) 9, type := 4, pos := "ref.go:45", after := #[{ on := 23, ground := Ground.data }, { on := 28, ground := Ground.data }, { on := 21, ground := Ground.guard }], guard := some (21, false) }) (v := undef) rfl (by kernel_rfl) (by kernel_rfl) (by kernel_rfl) (fun _ _ _ h => h) (Or.inr ⟨by rfl, rfl⟩) (by assumption) ?_
  try simp only [Act.put, List.setIfInBounds_toArray, List.set_cons_zero, List.set_cons_succ]
  refine wpAnyH_take (i := 30) (oi := { dst := some 36, op := Op.pick (Operand.tmp 27) (Operand.const (Value.bool true)) (Operand.tmp 35), type := 4, pos := "ref.go:45", after := #[{ on := 21, ground := Ground.data }, { on := 29, ground := Ground.data }], guard := none }) (v := ?_) rfl (by kernel_rfl) (by kernel_rfl) (by kernel_rfl) (fun _ _ _ h => h) (Or.inl ⟨by rfl, ?hy30⟩) (by assumption) ?_
  case hy30 => (intro w hSw; (try dsimp only at hSw); (go_simp <;> with_reducible rfl))
  try simp only [Act.put, List.setIfInBounds_toArray, List.set_cons_zero, List.set_cons_succ]
  refine wpAnyH_done (by kernel_rfl) ?_ _
  obtain ⟨⟨z0, z1, z2, z3⟩, f0, f1, f2, f3⟩ := cells4 H1.out.hq
  go_wp2
  exact bodyPost_ret (results_K rfl _ _ w.heap.size _ _ rfl rfl (store4 H1.out.hq _ _ _ _) rfl) rfl (gotM_no HE.out (by decide) (H1.out.fin _ _ _ _))

theorem conv_zeros (Z : Nat) (hZ : Z ≤ 4096) (NZ : ByteArray) (hNZ : NZ = strOfNums (List.replicate Z (0 : Int))) (w : World) :
    (convert 33 9 (.slice (some ⟨w.heap.size, 0, none⟩) Z Z)).run Try.prog (w.alloc (.cells (madeCells #[.int .u8 0] Z) 5)) = .ok (.string NZ) (w.alloc (.cells (madeCells #[.int .u8 0] Z) 5)) := by
  subst hNZ
  refine seq_string (seq_lit (heap_alloc_new _ _) ?_ (by simp) (by unfold maxLen; omega))
  rw [List.map_replicate]
  apply Array.ext'
  rw [toList_madeCells_one]
theorem zeros_ne {xs : List Int} (hb : Byt xs) {Z : Nat} (hl : xs.length = Z) (h : allZ xs = false) : ((strOfNums xs).toList == (strOfNums (List.replicate Z (0 : Int))).toList) = false := by
  rw [eq_str hb (rep_byt Z)]
  refine decide_eq_false (fun e => ?_)
  have := cmpL_eq _ _ e
  rw [this, rep_allZ] at h
  cases h
theorem u32w {x : Nat} (h : x < 4294967296) : IntKind.u32.wrap (x : Int) = (x : Int) := by rw [show IntKind.u32.wrap (x : Int) = (x : Int) % 4294967296 from rfl]; omega

set_option maxRecDepth 30000 in
set_option maxHeartbeats 2000000 in
theorem kget_b (w : World) (b : List Int) (hb : Byt b) (hl : b.length ≤ 140737488355328) (hs : 512 ≤ b.length ∧ b.length ≤ 4096) (hm : b.take 4 = RUB) (hf : fld b 4 4 = (b.length : Int)) (hz : allZ (b.drop 32) = false) :
    Calls Try.prog 19 #[.string (strOfNums b)] w fun r w' => GotM b w w' r := by
  have hsz := strOfNums_size b
  have HE := Lib.hid (mget_nz (b := b) hz)
  obtain ⟨B, hB⟩ : ∃ B, B = strOfNums b := ⟨_, rfl⟩
  obtain ⟨n, hn⟩ : ∃ n, n = b.length := ⟨_, rfl⟩
  rw [← hB, ← hn] at hsz
  obtain ⟨T4, hT4⟩ : ∃ T, T = strOfNums (b.take 4) := ⟨_, rfl⟩
  have ht4 := strOf_take b 4
  rw [← hB, ← hT4] at ht4
  have hwn : IntKind.u64.wrap (n : Int) = (n : Int) := by rw [show IntKind.u64.wrap (n : Int) = (n : Int) % 18446744073709551616 from rfl]; omega
  have KN := Lib.hid (fun w' => knum_in w' b 4 4 4 4 rfl rfl hb (by omega) (by decide) (by decide) hl)
  rw [← hB] at KN
  rw [← hn] at hs hf
  rw [← hB]
  have hrub := rub_yes hm
  rw [← hT4] at hrub
  rw [hf] at KN
  have h1 : ¬ (n : Int) < 512 := by omega
  have hd : decide ((n : Int) < 512) = false := by simpa using h1
  have h2 : ¬ (4096 : Int) < (n : Int) := by omega
  have hd2 : decide ((4096 : Int) < (n : Int)) = false := by simpa using h2
  have h4 : (4 : Int) ≤ (n : Int) := by omega
  obtain ⟨Z, hZ⟩ : ∃ Z, Z = n - 32 := ⟨_, rfl⟩
  obtain ⟨NZ, hNZ⟩ : ∃ N, N = strOfNums (List.replicate Z (0 : Int)) := ⟨_, rfl⟩
  have hcz := conv_zeros Z (by omega) NZ hNZ
  have hmk := run_make_row' (P := Try.prog) 33 5 (.int .u8 0) 1 Try.underlying33 infoU8 rfl .i64 .i64 Z (by omega) (by omega)
  have hwZ : IntKind.i64.wrap (Z : Int) = (Z : Int) := IntWalk.i64_in _ (by omega)
  have hw32' : (n : Int) - 32 = (Z : Int) := by omega
  have h32 : (32 : Int) ≤ (n : Int) := by omega
  obtain ⟨D, hD⟩ : ∃ D, D = strOfNums (b.drop 32) := ⟨_, rfl⟩
  have hd32 := strOf_drop b 32 (by omega)
  rw [← hB, ← hD, hsz] at hd32
  have hzn := zeros_ne (hb.drop 32) (Z := Z) (by simp; omega) hz
  rw [← hD, ← hNZ] at hzn
  have HZN := Lib.hid hzn
  clear hB hn hb hl hT4 hm hf hz hD hZ hNZ hzn
  have HK := Lib.hid (KS7.start w)
  unfold zC at HK
  go_enter Try.func19, Try.ntmps19
  go_wp2
  have HKd := Lib.hid (show KS7 w.heap.size w (w.alloc (.cells #[.int .u64 0, .int .u32 0, .int .u32 0, .int .u32 0] 30)).drew from HK.out.far (gdrew _))
  generalize w.alloc (.cells #[.int .u64 0, .int .u32 0, .int .u32 0, .int .u32 0] 30) = W at HK HKd ⊢
  refine wp_region_held_drew (S := fun w' => True) (by kernel_rfl) ?_ (fun hHeld => ?_)
  · trivial
  refine wpAnyH_take (i := 0) (oi := { dst := some 6, op := Op.move (Operand.tmp 0), type := 9, pos := "ref.go:45", after := #[], guard := none }) (v := ?_) rfl (by kernel_rfl) (by kernel_rfl) (by kernel_rfl) (fun _ _ _ h => h) (Or.inl ⟨by rfl, ?hy0⟩) (by assumption) ?_
  case hy0 => (intro w hSw; (try dsimp only at hSw); (go_simp <;> with_reducible rfl))
  try simp only [Act.put, List.setIfInBounds_toArray, List.set_cons_zero, List.set_cons_succ]
  refine wpAnyH_take (i := 1) (oi := { dst := some 7, op := Op.call { callee := Callee.builtin Builtin.len, args := #[Operand.tmp 6], argTypes := #[9] }, type := 3, pos := "ref.go:45", after := #[{ on := 0, ground := Ground.data }], guard := none }) (v := ?_) rfl (by kernel_rfl) (by kernel_rfl) (by kernel_rfl) (fun _ _ _ h => h) (Or.inl ⟨by rfl, ?hy1⟩) (by assumption) ?_
  case hy1 => (intro w hSw; (try dsimp only at hSw); (go_simp <;> with_reducible rfl))
  try simp only [Act.put, List.setIfInBounds_toArray, List.set_cons_zero, List.set_cons_succ]
  refine wpAnyH_take (i := 2) (oi := { dst := some 8, op := Op.binOp BinOp.lss 3 (Operand.tmp 7) (Operand.const (Value.int IntKind.i64 512)) 3, type := 4, pos := "ref.go:45", after := #[{ on := 1, ground := Ground.data }], guard := none }) (v := ?_) rfl (by kernel_rfl) (by kernel_rfl) (by kernel_rfl) (fun _ _ _ h => h) (Or.inl ⟨by rfl, ?hy2⟩) (by assumption) ?_
  case hy2 => (intro w hSw; (try dsimp only at hSw); (go_simp <;> with_reducible rfl))
  try simp only [Act.put, List.setIfInBounds_toArray, List.set_cons_zero, List.set_cons_succ]
  refine wpAnyH_take (i := 3) (oi := { dst := some 9, op := Op.move (Operand.tmp 8), type := 4, pos := "ref.go:45", after := #[{ on := 2, ground := Ground.data }], guard := none }) (v := ?_) rfl (by kernel_rfl) (by kernel_rfl) (by kernel_rfl) (fun _ _ _ h => h) (Or.inl ⟨by rfl, ?hy3⟩) (by assumption) ?_
  case hy3 => (intro w hSw; (try dsimp only at hSw); (go_simp <;> with_reducible rfl))
  try simp only [Act.put, List.setIfInBounds_toArray, List.set_cons_zero, List.set_cons_succ]
  refine wpAnyH_take (i := 4) (oi := { dst := some 10, op := Op.move (Operand.tmp 0), type := 9, pos := "ref.go:45", after := #[{ on := 3, ground := Ground.guard }], guard := some (3, false) }) (v := ?_) rfl (by kernel_rfl) (by kernel_rfl) (by kernel_rfl) (fun _ _ _ h => h) (Or.inl ⟨by rfl, ?hy4⟩) (by assumption) ?_
  case hy4 => (intro w hSw; (try dsimp only at hSw); (go_simp <;> with_reducible rfl))
  try simp only [Act.put, List.setIfInBounds_toArray, List.set_cons_zero, List.set_cons_succ]
  refine wpAnyH_take (i := 5) (oi := { dst := some 11, op := Op.call { callee := Callee.builtin Builtin.len, args := #[Operand.tmp 10], argTypes := #[9] }, type := 3, pos := "ref.go:45", after := #[{ on := 4, ground := Ground.data }, { on := 3, ground := Ground.guard }], guard := some (3, false) }) (v := ?_) rfl (by kernel_rfl) (by kernel_rfl) (by kernel_rfl) (fun _ _ _ h => h) (Or.inl ⟨by rfl, ?hy5⟩) (by assumption) ?_
  case hy5 => (intro w hSw; (try dsimp only at hSw); (go_simp <;> with_reducible rfl))
  try simp only [Act.put, List.setIfInBounds_toArray, List.set_cons_zero, List.set_cons_succ]
  refine wpAnyH_take (i := 6) (oi := { dst := some 12, op := Op.binOp BinOp.gtr 3 (Operand.tmp 11) (Operand.const (Value.int IntKind.i64 4096)) 3, type := 4, pos := "ref.go:45", after := #[{ on := 5, ground := Ground.data }, { on := 3, ground := Ground.guard }], guard := some (3, false) }) (v := ?_) rfl (by kernel_rfl) (by kernel_rfl) (by kernel_rfl) (fun _ _ _ h => h) (Or.inl ⟨by rfl, ?hy6⟩) (by assumption) ?_
  case hy6 => (intro w hSw; (try dsimp only at hSw); (go_simp <;> with_reducible rfl))
  try simp only [Act.put, List.setIfInBounds_toArray, List.set_cons_zero, List.set_cons_succ]
  refine wpAnyH_take (i := 7) (oi := { dst := some 13, op := Op.pick (Operand.tmp 9) (Operand.const (Value.bool true)) (Operand.tmp 12), type := 4, pos := "ref.go:45", after := #[{ on := 3, ground := Ground.data }, { on := 6, ground := Ground.data }], guard := none }) (v := ?_) rfl (by kernel_rfl) (by kernel_rfl) (by kernel_rfl) (fun _ _ _ h => h) (Or.inl ⟨by rfl, ?hy7⟩) (by assumption) ?_
  case hy7 => (intro w hSw; (try dsimp only at hSw); (go_simp <;> with_reducible rfl))
  try simp only [Act.put, List.setIfInBounds_toArray, List.set_cons_zero, List.set_cons_succ]
  refine wpAnyH_take (i := 8) (oi := { dst := some 14, op := Op.move (Operand.tmp 13), type := 4, pos := "ref.go:45", after := #[{ on := 7, ground := Ground.data }, { on := 3, ground := Ground.chain }], guard := none }) (v := ?_) rfl (by kernel_rfl) (by kernel_rfl) (by kernel_rfl) (fun _ _ _ h => h) (Or.inl ⟨by rfl, ?hy8⟩) (by assumption) ?_
  case hy8 => (intro w hSw; (try dsimp only at hSw); (go_simp <;> with_reducible rfl))
  try simp only [Act.put, List.setIfInBounds_toArray, List.set_cons_zero, List.set_cons_succ]
  refine wpAnyH_take (i := 9) (oi := { dst := some 15, op := Op.move (Operand.tmp 0), type := 9, pos := "ref.go:45", after := #[{ on := 8, ground := Ground.guard }], guard := some (8, false) }) (v := ?_) rfl (by kernel_rfl) (by kernel_rfl) (by kernel_rfl) (fun _ _ _ h => h) (Or.inl ⟨by rfl, ?hy9⟩) (by assumption) ?_
  case hy9 => (intro w hSw; (try dsimp only at hSw); (go_simp <;> with_reducible rfl))
  try simp only [Act.put, List.setIfInBounds_toArray, List.set_cons_zero, List.set_cons_succ]
  refine wpAnyH_take (i := 10) (oi := { dst := some 16, op := Op.slice 9 (Operand.tmp 15) none (some (Operand.const (Value.int IntKind.i64 4))) none, type := 9, pos := "ref.go:45", after := #[{ on := 9, ground := Ground.data }, { on := 8, ground := Ground.guard }], guard := some (8, false) }) (v := ?_) rfl (by kernel_rfl) (by kernel_rfl) (by kernel_rfl) (fun _ _ _ h => h) (Or.inl ⟨by rfl, ?hy10⟩) (by assumption) ?_
  case hy10 => (intro w hSw; (try dsimp only at hSw); (go_simp <;> with_reducible rfl))
  try simp only [Act.put, List.setIfInBounds_toArray, List.set_cons_zero, List.set_cons_succ]
  refine wpAnyH_take (i := 11) (oi := { dst := some 17, op := Op.binOp BinOp.neq 9 (Operand.tmp 16) (Operand.const (Value.string { data := #[82, 85, 66, 49] })) 9, type := 4, pos := "ref.go:45", after := #[{ on := 10, ground := Ground.data }, { on := 8, ground := Ground.guard }], guard := some (8, false) }) (v := ?_) rfl (by kernel_rfl) (by kernel_rfl) (by kernel_rfl) (fun _ _ _ h => h) (Or.inl ⟨by rfl, ?hy11⟩) (by assumption) ?_
  case hy11 => (intro w hSw; (try dsimp only at hSw); (go_simp <;> with_reducible rfl))
  try simp only [Act.put, List.setIfInBounds_toArray, List.set_cons_zero, List.set_cons_succ]
  refine wpAnyH_take (i := 12) (oi := { dst := some 18, op := Op.pick (Operand.tmp 14) (Operand.const (Value.bool true)) (Operand.tmp 17), type := 4, pos := "ref.go:45", after := #[{ on := 8, ground := Ground.data }, { on := 11, ground := Ground.data }], guard := none }) (v := ?_) rfl (by kernel_rfl) (by kernel_rfl) (by kernel_rfl) (fun _ _ _ h => h) (Or.inl ⟨by rfl, ?hy12⟩) (by assumption) ?_
  case hy12 => (intro w hSw; (try dsimp only at hSw); (go_simp <;> with_reducible rfl))
  try simp only [Act.put, List.setIfInBounds_toArray, List.set_cons_zero, List.set_cons_succ]
  refine wpAnyH_take (i := 13) (oi := { dst := some 19, op := Op.move (Operand.tmp 18), type := 4, pos := "ref.go:45", after := #[{ on := 12, ground := Ground.data }, { on := 8, ground := Ground.chain }], guard := none }) (v := ?_) rfl (by kernel_rfl) (by kernel_rfl) (by kernel_rfl) (fun _ _ _ h => h) (Or.inl ⟨by rfl, ?hy13⟩) (by assumption) ?_
  case hy13 => (intro w hSw; (try dsimp only at hSw); (go_simp <;> with_reducible rfl))
  try simp only [Act.put, List.setIfInBounds_toArray, List.set_cons_zero, List.set_cons_succ]
  refine wpAnyH_take (i := 14) (oi := { dst := some 20, op := Op.move (Operand.tmp 0), type := 9, pos := "ref.go:45", after := #[{ on := 13, ground := Ground.guard }], guard := some (13, false) }) (v := ?_) rfl (by kernel_rfl) (by kernel_rfl) (by kernel_rfl) (fun _ _ _ h => h) (Or.inl ⟨by rfl, ?hy14⟩) (by assumption) ?_
  case hy14 => (intro w hSw; (try dsimp only at hSw); (go_simp <;> with_reducible rfl))
  try simp only [Act.put, List.setIfInBounds_toArray, List.set_cons_zero, List.set_cons_succ]
  refine wpAnyH_take (i := 16) (oi := { dst := some 22, op := Op.move (Operand.tmp 0), type := 9, pos := "ref.go:45", after := #[{ on := 13, ground := Ground.guard }], guard := some (13, false) }) (v := ?_) rfl (by kernel_rfl) (by kernel_rfl) (by kernel_rfl) (fun _ _ _ h => h) (Or.inl ⟨by rfl, ?hy16⟩) (by assumption) ?_
  case hy16 => (intro w hSw; (try dsimp only at hSw); (go_simp <;> with_reducible rfl))
  try simp only [Act.put, List.setIfInBounds_toArray, List.set_cons_zero, List.set_cons_succ]
  refine wpAnyH_take (i := 17) (oi := { dst := some 23, op := Op.call { callee := Callee.builtin Builtin.len, args := #[Operand.tmp 22], argTypes := #[9] }, type := 3, pos := "ref.go:45", after := #[{ on := 16, ground := Ground.data }, { on := 13, ground := Ground.guard }], guard := some (13, false) }) (v := ?_) rfl (by kernel_rfl) (by kernel_rfl) (by kernel_rfl) (fun _ _ _ h => h) (Or.inl ⟨by rfl, ?hy17⟩) (by assumption) ?_
  case hy17 => (intro w hSw; (try dsimp only at hSw); (go_simp <;> with_reducible rfl))
  try simp only [Act.put, List.setIfInBounds_toArray, List.set_cons_zero, List.set_cons_succ]
  refine wpAnyH_take (i := 18) (oi := { dst := some 24, op := Op.convert 3 22 (Operand.tmp 23), type := 22, pos := "ref.go:45", after := #[{ on := 17, ground := Ground.data }, { on := 13, ground := Ground.guard }], guard := some (13, false) }) (v := ?_) rfl (by kernel_rfl) (by kernel_rfl) (by kernel_rfl) (fun _ _ _ h => h) (Or.inl ⟨by rfl, ?hy18⟩) (by assumption) ?_
  case hy18 => (intro w hSw; (try dsimp only at hSw); (go_simp <;> with_reducible rfl))
  try simp only [Act.put, List.setIfInBounds_toArray, List.set_cons_zero, List.set_cons_succ]
  refine wpAnyH_ready (rs := [15]) (by kernel_rfl) (by simp) ?_
  refine AllReadyH.cons (o := { dst := some 21, op := Op.call { callee := Callee.value (Operand.func 39), args := #[Operand.tmp 20, Operand.const (Value.int IntKind.i64 4), Operand.const (Value.int IntKind.i64 4)], argTypes := #[9, 3, 3] }, type := 22, pos := "ref.go:45", after := #[{ on := 14, ground := Ground.data }, { on := 13, ground := Ground.chain }, { on := 13, ground := Ground.guard }], guard := some (13, false) }) rfl (fun K hK => ?_) (AllReadyH.nil)
  go_simp
  (go_at_call 39; ((with_reducible refine (KN.out W.drew).mono ?_); rintro r w1 ⟨rfl, hg⟩); have H1 := Lib.hid (HKd.out.far (gtrans hg (World.grownBy_alloc w1 (.cells (madeCells #[.int .u8 0] Z) 5) none))); clear hg)
  refine hK.out _ _ ?_ (fun hHeld => ?_)
  · trivial
  clear hK K
  try simp only [Act.put, List.setIfInBounds_toArray, List.set_cons_zero, List.set_cons_succ]
  refine wpAnyH_take (i := 19) (oi := { dst := some 25, op := Op.binOp BinOp.neq 22 (Operand.tmp 21) (Operand.tmp 24) 22, type := 4, pos := "ref.go:45", after := #[{ on := 15, ground := Ground.data }, { on := 18, ground := Ground.data }, { on := 13, ground := Ground.guard }], guard := some (13, false) }) (v := ?_) rfl (by kernel_rfl) (by kernel_rfl) (by kernel_rfl) (fun _ _ _ h => h) (Or.inl ⟨by rfl, ?hy19⟩) (by assumption) ?_
  case hy19 => (intro w hSw; (try dsimp only at hSw); (go_simp <;> with_reducible rfl))
  try simp only [Act.put, List.setIfInBounds_toArray, List.set_cons_zero, List.set_cons_succ]
  refine wpAnyH_take (i := 20) (oi := { dst := some 26, op := Op.pick (Operand.tmp 19) (Operand.const (Value.bool true)) (Operand.tmp 25), type := 4, pos := "ref.go:45", after := #[{ on := 13, ground := Ground.data }, { on := 19, ground := Ground.data }], guard := none }) (v := ?_) rfl (by kernel_rfl) (by kernel_rfl) (by kernel_rfl) (fun _ _ _ h => h) (Or.inl ⟨by rfl, ?hy20⟩) (by assumption) ?_
  case hy20 => (intro w hSw; (try dsimp only at hSw); (go_simp <;> with_reducible rfl))
  try simp only [Act.put, List.setIfInBounds_toArray, List.set_cons_zero, List.set_cons_succ]
  refine wpAnyH_take (i := 21) (oi := { dst := some 27, op := Op.move (Operand.tmp 26), type := 4, pos := "ref.go:45", after := #[{ on := 20, ground := Ground.data }, { on := 15, ground := Ground.chain }], guard := none }) (v := ?_) rfl (by kernel_rfl) (by kernel_rfl) (by kernel_rfl) (fun _ _ _ h => h) (Or.inl ⟨by rfl, ?hy21⟩) (by assumption) ?_
  case hy21 => (intro w hSw; (try dsimp only at hSw); (go_simp <;> with_reducible rfl))
  try simp only [Act.put, List.setIfInBounds_toArray, List.set_cons_zero, List.set_cons_succ]
  refine wpAnyH_take (i := 22) (oi := { dst := some 28, op := Op.move (Operand.tmp 0), type := 9, pos := "ref.go:45", after := #[{ on := 21, ground := Ground.guard }], guard := some (21, false) }) (v := ?_) rfl (by kernel_rfl) (by kernel_rfl) (by kernel_rfl) (fun _ _ _ h => h) (Or.inl ⟨by rfl, ?hy22⟩) (by assumption) ?_
  case hy22 => (intro w hSw; (try dsimp only at hSw); (go_simp <;> with_reducible rfl))
  try simp only [Act.put, List.setIfInBounds_toArray, List.set_cons_zero, List.set_cons_succ]
  refine wpAnyH_take (i := 23) (oi := { dst := some 29, op := Op.slice 9 (Operand.tmp 28) (some (Operand.const (Value.int IntKind.i64 32))) none none, type := 9, pos := "ref.go:45", after := #[{ on := 22, ground := Ground.data }, { on := 21, ground := Ground.guard }], guard := some (21, false) }) (v := ?_) rfl (by kernel_rfl) (by kernel_rfl) (by kernel_rfl) (fun _ _ _ h => h) (Or.inl ⟨by rfl, ?hy23⟩) (by assumption) ?_
  case hy23 => (intro w hSw; (try dsimp only at hSw); (go_simp <;> with_reducible rfl))
  try simp only [Act.put, List.setIfInBounds_toArray, List.set_cons_zero, List.set_cons_succ]
  refine wpAnyH_take (i := 24) (oi := { dst := some 30, op := Op.move (Operand.tmp 0), type := 9, pos := "ref.go:45", after := #[{ on := 21, ground := Ground.guard }], guard := some (21, false) }) (v := ?_) rfl (by kernel_rfl) (by kernel_rfl) (by kernel_rfl) (fun _ _ _ h => h) (Or.inl ⟨by rfl, ?hy24⟩) (by assumption) ?_
  case hy24 => (intro w hSw; (try dsimp only at hSw); (go_simp <;> with_reducible rfl))
  try simp only [Act.put, List.setIfInBounds_toArray, List.set_cons_zero, List.set_cons_succ]
  refine wpAnyH_take (i := 25) (oi := { dst := some 31, op := Op.call { callee := Callee.builtin Builtin.len, args := #[Operand.tmp 30], argTypes := #[9] }, type := 3, pos := "ref.go:45", after := #[{ on := 24, ground := Ground.data }, { on := 21, ground := Ground.guard }], guard := some (21, false) }) (v := ?_) rfl (by kernel_rfl) (by kernel_rfl) (by kernel_rfl) (fun _ _ _ h => h) (Or.inl ⟨by rfl, ?hy25⟩) (by assumption) ?_
  case hy25 => (intro w hSw; (try dsimp only at hSw); (go_simp <;> with_reducible rfl))
  try simp only [Act.put, List.setIfInBounds_toArray, List.set_cons_zero, List.set_cons_succ]
  refine wpAnyH_take (i := 26) (oi := { dst := some 32, op := Op.binOp BinOp.sub 3 (Operand.tmp 31) (Operand.const (Value.int IntKind.i64 32)) 3, type := 3, pos := "ref.go:45", after := #[{ on := 25, ground := Ground.data }, { on := 21, ground := Ground.guard }], guard := some (21, false) }) (v := ?_) rfl (by kernel_rfl) (by kernel_rfl) (by kernel_rfl) (fun _ _ _ h => h) (Or.inl ⟨by rfl, ?hy26⟩) (by assumption) ?_
  case hy26 => (intro w hSw; (try dsimp only at hSw); (go_simp <;> with_reducible rfl))
  try simp only [Act.put, List.setIfInBounds_toArray, List.set_cons_zero, List.set_cons_succ]
  refine wpAnyH_ready (rs := [27]) (by kernel_rfl) (by simp) ?_
  refine AllReadyH.cons (o := { dst := some 33, op := Op.makeSlice 33 (Operand.tmp 32) (Operand.tmp 32), type := 33, pos := "ref.go:45", after := #[{ on := 26, ground := Ground.data }, { on := 26, ground := Ground.data }, { on := 21, ground := Ground.guard }], guard := some (21, false) }) rfl (fun K hK => ?_) (AllReadyH.nil)
  go_simp
  refine hK.out _ _ ?_ (fun hHeld => ?_)
  · trivial
  clear hK K
  try simp only [Act.put, List.setIfInBounds_toArray, List.set_cons_zero, List.set_cons_succ]
  refine wpAnyH_ready (rs := [28]) (by kernel_rfl) (by simp) ?_
  refine AllReadyH.cons (o := { dst := some 34, op := Op.convert 33 9 (Operand.tmp 33), type := 9, pos := "ref.go:45", after := #[{ on := 27, ground := Ground.data }, { on := 21, ground := Ground.guard }], guard := some (21, false) }) rfl (fun K hK => ?_) (AllReadyH.nil)
  go_simp
  refine hK.out _ _ ?_ (fun hHeld => ?_)
  · trivial
  clear hK K
  try simp only [Act.put, List.setIfInBounds_toArray, List.set_cons_zero, List.set_cons_succ]
  refine wpAnyH_take (i := 29) (oi := { dst := some 35, op := Op.binOp BinOp.neq 9 (Operand.tmp 29) (Operand.tmp 34) 9, type := 4, pos := "ref.go:45", after := #[{ on := 23, ground := Ground.data }, { on := 28, ground := Ground.data }, { on := 21, ground := Ground.guard }], guard := some (21, false) }) (v := ?_) rfl (by kernel_rfl) (by kernel_rfl) (by kernel_rfl) (fun _ _ _ h => h) (Or.inl ⟨by rfl, ?hy29⟩) (by assumption) ?_
  case hy29 => (intro w hSw; (try dsimp only at hSw); (go_simp <;> with_reducible rfl))
  try simp only [Act.put, List.setIfInBounds_toArray, List.set_cons_zero, List.set_cons_succ]
  refine wpAnyH_take (i := 30) (oi := { dst := some 36, op := Op.pick (Operand.tmp 27) (Operand.const (Value.bool true)) (Operand.tmp 35), type := 4, pos := "ref.go:45", after := #[{ on := 21, ground := Ground.data }, { on := 29, ground := Ground.data }], guard := none }) (v := ?_) rfl (by kernel_rfl) (by kernel_rfl) (by kernel_rfl) (fun _ _ _ h => h) (Or.inl ⟨by rfl, ?hy30⟩) (by assumption) ?_
  case hy30 => (intro w hSw; (try dsimp only at hSw); (go_simp <;> with_reducible rfl))
  try simp only [Act.put, List.setIfInBounds_toArray, List.set_cons_zero, List.set_cons_succ]
  refine wpAnyH_done (by kernel_rfl) ?_ _
  generalize w1.alloc (.cells (madeCells #[.int .u8 0] Z) 5) = W1 at H1 ⊢
  clear hmk hcz
  obtain ⟨⟨z0, z1, z2, z3⟩, f0, f1, f2, f3⟩ := cells4 H1.out.hq
  rw [HZN.out]
  go_wp2
  exact bodyPost_ret (results_K rfl _ _ w.heap.size _ _ rfl rfl (store4 H1.out.hq _ _ _ _) rfl) rfl (gotM_no HE.out (by decide) (H1.out.fin _ _ _ _))

set_option maxHeartbeats 2000000 in
theorem kget_e (w : World) (b : List Int) (hb : Byt b) (hl : b.length ≤ 140737488355328) (hs : 512 ≤ b.length ∧ b.length ≤ 4096) (hm : b.take 4 = RUB) (hf : fld b 4 4 = (b.length : Int)) (hz : allZ (b.drop 32) = true) (hsum : fld b 28 4 ≠ ((crcN (b.take 28) : Nat) : Int)) :
    Calls Try.prog 19 #[.string (strOfNums b)] w fun r w' => GotM b w w' r := by
  have hsz := strOfNums_size b
  have HE := Lib.hid (mget_sum (b := b) hs hz hm hf hsum)
  obtain ⟨B, hB⟩ : ∃ B, B = strOfNums b := ⟨_, rfl⟩
  obtain ⟨n, hn⟩ : ∃ n, n = b.length := ⟨_, rfl⟩
  rw [← hB, ← hn] at hsz
  obtain ⟨T4, hT4⟩ : ∃ T, T = strOfNums (b.take 4) := ⟨_, rfl⟩
  have ht4 := strOf_take b 4
  rw [← hB, ← hT4] at ht4
  have hwn : IntKind.u64.wrap (n : Int) = (n : Int) := by rw [show IntKind.u64.wrap (n : Int) = (n : Int) % 18446744073709551616 from rfl]; omega
  have KN := Lib.hid (fun w' => knum_in w' b 4 4 4 4 rfl rfl hb (by omega) (by decide) (by decide) hl)
  rw [← hB] at KN
  have KX := Lib.hid (fun w' => knum_in w' b 28 4 28 4 rfl rfl hb (by omega) (by decide) (by decide) hl)
  have KT := Lib.hid (fun w' => ref_any w' (b.take 28) (hb.take 28) (by rw [List.length_take]; omega))
  have K8 := Lib.hid (fun w' => knum_in w' b 8 8 8 8 rfl rfl hb (by omega) (by decide) (by decide) hl)
  have K16 := Lib.hid (fun w' => knum_in w' b 16 4 16 4 rfl rfl hb (by omega) (by decide) (by decide) hl)
  have K20 := Lib.hid (fun w' => knum_in w' b 20 4 20 4 rfl rfl hb (by omega) (by decide) (by decide) hl)
  have K24 := Lib.hid (fun w' => knum_in w' b 24 4 24 4 rfl rfl hb (by omega) (by decide) (by decide) hl)
  rw [← hB] at KX K8 K16 K20 K24
  rw [← hn] at hs hf
  rw [← hB]
  have hrub := rub_yes hm
  rw [← hT4] at hrub
  rw [hf] at KN
  have h1 : ¬ (n : Int) < 512 := by omega
  have hd : decide ((n : Int) < 512) = false := by simpa using h1
  have h2 : ¬ (4096 : Int) < (n : Int) := by omega
  have hd2 : decide ((4096 : Int) < (n : Int)) = false := by simpa using h2
  have h4 : (4 : Int) ≤ (n : Int) := by omega
  obtain ⟨Z, hZ⟩ : ∃ Z, Z = n - 32 := ⟨_, rfl⟩
  obtain ⟨NZ, hNZ⟩ : ∃ N, N = strOfNums (List.replicate Z (0 : Int)) := ⟨_, rfl⟩
  have hcz := conv_zeros Z (by omega) NZ hNZ
  have hmk := run_make_row' (P := Try.prog) 33 5 (.int .u8 0) 1 Try.underlying33 infoU8 rfl .i64 .i64 Z (by omega) (by omega)
  have hwZ : IntKind.i64.wrap (Z : Int) = (Z : Int) := IntWalk.i64_in _ (by omega)
  have hw32' : (n : Int) - 32 = (Z : Int) := by omega
  have h32 : (32 : Int) ≤ (n : Int) := by omega
  have hd32 := strOf_drop b 32 (by omega)
  have hzz := allZ_rep _ hz
  rw [List.length_drop, ← hn, ← hZ] at hzz
  rw [← hB, hzz, ← hNZ, hsz] at hd32
  obtain ⟨T28, hT28⟩ : ∃ T, T = strOfNums (b.take 28) := ⟨_, rfl⟩
  have ht28 := strOf_take b 28
  rw [← hB, ← hT28] at ht28
  have h28 : (28 : Int) ≤ (n : Int) := by omega
  obtain ⟨Y, hY⟩ : ∃ Y, Y = crcN (b.take 28) := ⟨_, rfl⟩
  have hcl := crcN_lt (l := b.take 28) (hb.take 28)
  rw [← hT28, ← hY] at KT
  rw [← hY] at hcl hsum
  have hwy := w32 hcl
  obtain ⟨X, hX⟩ : ∃ X, X = fld b 28 4 := ⟨_, rfl⟩
  rw [← hX] at KX hsum
  have hne : (X != (Y : Int)) = true := by simpa using hsum
  clear hX hsum
  have g8 := fld8 hb 8
  have g16 := fld4 hb 16
  have g20 := fld4 hb 20
  have g24 := fld4 hb 24
  have hMo := mtOf_ok hb
  obtain ⟨M, hMe⟩ : ∃ M, M = mtOf b := ⟨_, rfl⟩
  rw [← hMe] at hMo
  rw [show fld b 8 8 = (M.t : Int) by rw [hMe]; simp only [mtOf]; omega] at K8
  rw [show fld b 16 4 = (M.e : Int) by rw [hMe]; simp only [mtOf]; omega] at K16
  rw [show fld b 20 4 = (M.m : Int) by rw [hMe]; simp only [mtOf]; omega] at K20
  rw [show fld b 24 4 = (M.f : Int) by rw [hMe]; simp only [mtOf]; omega] at K24
  have v1 := u32w hMo.e
  have v2 := u32w hMo.m
  have v3 := u32w hMo.f
  have HMe := Lib.hid hMe
  clear hB hn hb hl hT4 hm hf hz hZ hNZ hzz hT28 hY g8 g16 g20 g24 hMo hMe
  have HK := Lib.hid (KS7.start w)
  unfold zC at HK
  go_enter Try.func19, Try.ntmps19
  go_wp2
  have HKd := Lib.hid (show KS7 w.heap.size w (w.alloc (.cells #[.int .u64 0, .int .u32 0, .int .u32 0, .int .u32 0] 30)).drew from HK.out.far (gdrew _))
  generalize w.alloc (.cells #[.int .u64 0, .int .u32 0, .int .u32 0, .int .u32 0] 30) = W at HK HKd ⊢
  refine wp_region_held_drew (S := fun w' => True) (by kernel_rfl) ?_ (fun hHeld => ?_)
  · trivial
  refine wpAnyH_take (i := 0) (oi := { dst := some 6, op := Op.move (Operand.tmp 0), type := 9, pos := "ref.go:45", after := #[], guard := none }) (v := ?_) rfl (by kernel_rfl) (by kernel_rfl) (by kernel_rfl) (fun _ _ _ h => h) (Or.inl ⟨by rfl, ?hy0⟩) (by assumption) ?_
  case hy0 => (intro w hSw; (try dsimp only at hSw); (go_simp <;> with_reducible rfl))
  try simp only [Act.put, List.setIfInBounds_toArray, List.set_cons_zero, List.set_cons_succ]
  refine wpAnyH_take (i := 1) (oi := { dst := some 7, op := Op.call { callee := Callee.builtin Builtin.len, args := #[Operand.tmp 6], argTypes := #[9] }, type := 3, pos := "ref.go:45", after := #[{ on := 0, ground := Ground.data }], guard := none }) (v := ?_) rfl (by kernel_rfl) (by kernel_rfl) (by kernel_rfl) (fun _ _ _ h => h) (Or.inl ⟨by rfl, ?hy1⟩) (by assumption) ?_
  case hy1 => (intro w hSw; (try dsimp only at hSw); (go_simp <;> with_reducible rfl))
  try simp only [Act.put, List.setIfInBounds_toArray, List.set_cons_zero, List.set_cons_succ]
  refine wpAnyH_take (i := 2) (oi := { dst := some 8, op := Op.binOp BinOp.lss 3 (Operand.tmp 7) (Operand.const (Value.int IntKind.i64 512)) 3, type := 4, pos := "ref.go:45", after := #[{ on := 1, ground := Ground.data }], guard := none }) (v := ?_) rfl (by kernel_rfl) (by kernel_rfl) (by kernel_rfl) (fun _ _ _ h => h) (Or.inl ⟨by rfl, ?hy2⟩) (by assumption) ?_
  case hy2 => (intro w hSw; (try dsimp only at hSw); (go_simp <;> with_reducible rfl))
  try simp only [Act.put, List.setIfInBounds_toArray, List.set_cons_zero, List.set_cons_succ]
  refine wpAnyH_take (i := 3) (oi := { dst := some 9, op := Op.move (Operand.tmp 8), type := 4, pos := "ref.go:45", after := #[{ on := 2, ground := Ground.data }], guard := none }) (v := ?_) rfl (by kernel_rfl) (by kernel_rfl) (by kernel_rfl) (fun _ _ _ h => h) (Or.inl ⟨by rfl, ?hy3⟩) (by assumption) ?_
  case hy3 => (intro w hSw; (try dsimp only at hSw); (go_simp <;> with_reducible rfl))
  try simp only [Act.put, List.setIfInBounds_toArray, List.set_cons_zero, List.set_cons_succ]
  refine wpAnyH_take (i := 4) (oi := { dst := some 10, op := Op.move (Operand.tmp 0), type := 9, pos := "ref.go:45", after := #[{ on := 3, ground := Ground.guard }], guard := some (3, false) }) (v := ?_) rfl (by kernel_rfl) (by kernel_rfl) (by kernel_rfl) (fun _ _ _ h => h) (Or.inl ⟨by rfl, ?hy4⟩) (by assumption) ?_
  case hy4 => (intro w hSw; (try dsimp only at hSw); (go_simp <;> with_reducible rfl))
  try simp only [Act.put, List.setIfInBounds_toArray, List.set_cons_zero, List.set_cons_succ]
  refine wpAnyH_take (i := 5) (oi := { dst := some 11, op := Op.call { callee := Callee.builtin Builtin.len, args := #[Operand.tmp 10], argTypes := #[9] }, type := 3, pos := "ref.go:45", after := #[{ on := 4, ground := Ground.data }, { on := 3, ground := Ground.guard }], guard := some (3, false) }) (v := ?_) rfl (by kernel_rfl) (by kernel_rfl) (by kernel_rfl) (fun _ _ _ h => h) (Or.inl ⟨by rfl, ?hy5⟩) (by assumption) ?_
  case hy5 => (intro w hSw; (try dsimp only at hSw); (go_simp <;> with_reducible rfl))
  try simp only [Act.put, List.setIfInBounds_toArray, List.set_cons_zero, List.set_cons_succ]
  refine wpAnyH_take (i := 6) (oi := { dst := some 12, op := Op.binOp BinOp.gtr 3 (Operand.tmp 11) (Operand.const (Value.int IntKind.i64 4096)) 3, type := 4, pos := "ref.go:45", after := #[{ on := 5, ground := Ground.data }, { on := 3, ground := Ground.guard }], guard := some (3, false) }) (v := ?_) rfl (by kernel_rfl) (by kernel_rfl) (by kernel_rfl) (fun _ _ _ h => h) (Or.inl ⟨by rfl, ?hy6⟩) (by assumption) ?_
  case hy6 => (intro w hSw; (try dsimp only at hSw); (go_simp <;> with_reducible rfl))
  try simp only [Act.put, List.setIfInBounds_toArray, List.set_cons_zero, List.set_cons_succ]
  refine wpAnyH_take (i := 7) (oi := { dst := some 13, op := Op.pick (Operand.tmp 9) (Operand.const (Value.bool true)) (Operand.tmp 12), type := 4, pos := "ref.go:45", after := #[{ on := 3, ground := Ground.data }, { on := 6, ground := Ground.data }], guard := none }) (v := ?_) rfl (by kernel_rfl) (by kernel_rfl) (by kernel_rfl) (fun _ _ _ h => h) (Or.inl ⟨by rfl, ?hy7⟩) (by assumption) ?_
  case hy7 => (intro w hSw; (try dsimp only at hSw); (go_simp <;> with_reducible rfl))
  try simp only [Act.put, List.setIfInBounds_toArray, List.set_cons_zero, List.set_cons_succ]
  refine wpAnyH_take (i := 8) (oi := { dst := some 14, op := Op.move (Operand.tmp 13), type := 4, pos := "ref.go:45", after := #[{ on := 7, ground := Ground.data }, { on := 3, ground := Ground.chain }], guard := none }) (v := ?_) rfl (by kernel_rfl) (by kernel_rfl) (by kernel_rfl) (fun _ _ _ h => h) (Or.inl ⟨by rfl, ?hy8⟩) (by assumption) ?_
  case hy8 => (intro w hSw; (try dsimp only at hSw); (go_simp <;> with_reducible rfl))
  try simp only [Act.put, List.setIfInBounds_toArray, List.set_cons_zero, List.set_cons_succ]
  refine wpAnyH_take (i := 9) (oi := { dst := some 15, op := Op.move (Operand.tmp 0), type := 9, pos := "ref.go:45", after := #[{ on := 8, ground := Ground.guard }], guard := some (8, false) }) (v := ?_) rfl (by kernel_rfl) (by kernel_rfl) (by kernel_rfl) (fun _ _ _ h => h) (Or.inl ⟨by rfl, ?hy9⟩) (by assumption) ?_
  case hy9 => (intro w hSw; (try dsimp only at hSw); (go_simp <;> with_reducible rfl))
  try simp only [Act.put, List.setIfInBounds_toArray, List.set_cons_zero, List.set_cons_succ]
  refine wpAnyH_take (i := 10) (oi := { dst := some 16, op := Op.slice 9 (Operand.tmp 15) none (some (Operand.const (Value.int IntKind.i64 4))) none, type := 9, pos := "ref.go:45", after := #[{ on := 9, ground := Ground.data }, { on := 8, ground := Ground.guard }], guard := some (8, false) }) (v := ?_) rfl (by kernel_rfl) (by kernel_rfl) (by kernel_rfl) (fun _ _ _ h => h) (Or.inl ⟨by rfl, ?hy10⟩) (by assumption) ?_
  case hy10 => (intro w hSw; (try dsimp only at hSw); (go_simp <;> with_reducible rfl))
  try simp only [Act.put, List.setIfInBounds_toArray, List.set_cons_zero, List.set_cons_succ]
  refine wpAnyH_take (i := 11) (oi := { dst := some 17, op := Op.binOp BinOp.neq 9 (Operand.tmp 16) (Operand.const (Value.string { data := #[82, 85, 66, 49] })) 9, type := 4, pos := "ref.go:45", after := #[{ on := 10, ground := Ground.data }, { on := 8, ground := Ground.guard }], guard := some (8, false) }) (v := ?_) rfl (by kernel_rfl) (by kernel_rfl) (by kernel_rfl) (fun _ _ _ h => h) (Or.inl ⟨by rfl, ?hy11⟩) (by assumption) ?_
  case hy11 => (intro w hSw; (try dsimp only at hSw); (go_simp <;> with_reducible rfl))
  try simp only [Act.put, List.setIfInBounds_toArray, List.set_cons_zero, List.set_cons_succ]
  refine wpAnyH_take (i := 12) (oi := { dst := some 18, op := Op.pick (Operand.tmp 14) (Operand.const (Value.bool true)) (Operand.tmp 17), type := 4, pos := "ref.go:45", after := #[{ on := 8, ground := Ground.data }, { on := 11, ground := Ground.data }], guard := none }) (v := ?_) rfl (by kernel_rfl) (by kernel_rfl) (by kernel_rfl) (fun _ _ _ h => h) (Or.inl ⟨by rfl, ?hy12⟩) (by assumption) ?_
  case hy12 => (intro w hSw; (try dsimp only at hSw); (go_simp <;> with_reducible rfl))
  try simp only [Act.put, List.setIfInBounds_toArray, List.set_cons_zero, List.set_cons_succ]
  refine wpAnyH_take (i := 13) (oi := { dst := some 19, op := Op.move (Operand.tmp 18), type := 4, pos := "ref.go:45", after := #[{ on := 12, ground := Ground.data }, { on := 8, ground := Ground.chain }], guard := none }) (v := ?_) rfl (by kernel_rfl) (by kernel_rfl) (by kernel_rfl) (fun _ _ _ h => h) (Or.inl ⟨by rfl, ?hy13⟩) (by assumption) ?_
  case hy13 => (intro w hSw; (try dsimp only at hSw); (go_simp <;> with_reducible rfl))
  try simp only [Act.put, List.setIfInBounds_toArray, List.set_cons_zero, List.set_cons_succ]
  refine wpAnyH_take (i := 14) (oi := { dst := some 20, op := Op.move (Operand.tmp 0), type := 9, pos := "ref.go:45", after := #[{ on := 13, ground := Ground.guard }], guard := some (13, false) }) (v := ?_) rfl (by kernel_rfl) (by kernel_rfl) (by kernel_rfl) (fun _ _ _ h => h) (Or.inl ⟨by rfl, ?hy14⟩) (by assumption) ?_
  case hy14 => (intro w hSw; (try dsimp only at hSw); (go_simp <;> with_reducible rfl))
  try simp only [Act.put, List.setIfInBounds_toArray, List.set_cons_zero, List.set_cons_succ]
  refine wpAnyH_take (i := 16) (oi := { dst := some 22, op := Op.move (Operand.tmp 0), type := 9, pos := "ref.go:45", after := #[{ on := 13, ground := Ground.guard }], guard := some (13, false) }) (v := ?_) rfl (by kernel_rfl) (by kernel_rfl) (by kernel_rfl) (fun _ _ _ h => h) (Or.inl ⟨by rfl, ?hy16⟩) (by assumption) ?_
  case hy16 => (intro w hSw; (try dsimp only at hSw); (go_simp <;> with_reducible rfl))
  try simp only [Act.put, List.setIfInBounds_toArray, List.set_cons_zero, List.set_cons_succ]
  refine wpAnyH_take (i := 17) (oi := { dst := some 23, op := Op.call { callee := Callee.builtin Builtin.len, args := #[Operand.tmp 22], argTypes := #[9] }, type := 3, pos := "ref.go:45", after := #[{ on := 16, ground := Ground.data }, { on := 13, ground := Ground.guard }], guard := some (13, false) }) (v := ?_) rfl (by kernel_rfl) (by kernel_rfl) (by kernel_rfl) (fun _ _ _ h => h) (Or.inl ⟨by rfl, ?hy17⟩) (by assumption) ?_
  case hy17 => (intro w hSw; (try dsimp only at hSw); (go_simp <;> with_reducible rfl))
  try simp only [Act.put, List.setIfInBounds_toArray, List.set_cons_zero, List.set_cons_succ]
  refine wpAnyH_take (i := 18) (oi := { dst := some 24, op := Op.convert 3 22 (Operand.tmp 23), type := 22, pos := "ref.go:45", after := #[{ on := 17, ground := Ground.data }, { on := 13, ground := Ground.guard }], guard := some (13, false) }) (v := ?_) rfl (by kernel_rfl) (by kernel_rfl) (by kernel_rfl) (fun _ _ _ h => h) (Or.inl ⟨by rfl, ?hy18⟩) (by assumption) ?_
  case hy18 => (intro w hSw; (try dsimp only at hSw); (go_simp <;> with_reducible rfl))
  try simp only [Act.put, List.setIfInBounds_toArray, List.set_cons_zero, List.set_cons_succ]
  refine wpAnyH_ready (rs := [15]) (by kernel_rfl) (by simp) ?_
  refine AllReadyH.cons (o := { dst := some 21, op := Op.call { callee := Callee.value (Operand.func 39), args := #[Operand.tmp 20, Operand.const (Value.int IntKind.i64 4), Operand.const (Value.int IntKind.i64 4)], argTypes := #[9, 3, 3] }, type := 22, pos := "ref.go:45", after := #[{ on := 14, ground := Ground.data }, { on := 13, ground := Ground.chain }, { on := 13, ground := Ground.guard }], guard := some (13, false) }) rfl (fun K hK => ?_) (AllReadyH.nil)
  go_simp
  (go_at_call 39; ((with_reducible refine (KN.out W.drew).mono ?_); rintro r w1 ⟨rfl, hg⟩); have H1 := Lib.hid (HKd.out.far (gtrans hg (World.grownBy_alloc w1 (.cells (madeCells #[.int .u8 0] Z) 5) none))); clear hg)
  refine hK.out _ _ ?_ (fun hHeld => ?_)
  · trivial
  clear hK K
  try simp only [Act.put, List.setIfInBounds_toArray, List.set_cons_zero, List.set_cons_succ]
  refine wpAnyH_take (i := 19) (oi := { dst := some 25, op := Op.binOp BinOp.neq 22 (Operand.tmp 21) (Operand.tmp 24) 22, type := 4, pos := "ref.go:45", after := #[{ on := 15, ground := Ground.data }, { on := 18, ground := Ground.data }, { on := 13, ground := Ground.guard }], guard := some (13, false) }) (v := ?_) rfl (by kernel_rfl) (by kernel_rfl) (by kernel_rfl) (fun _ _ _ h => h) (Or.inl ⟨by rfl, ?hy19⟩) (by assumption) ?_
  case hy19 => (intro w hSw; (try dsimp only at hSw); (go_simp <;> with_reducible rfl))
  try simp only [Act.put, List.setIfInBounds_toArray, List.set_cons_zero, List.set_cons_succ]
  refine wpAnyH_take (i := 20) (oi := { dst := some 26, op := Op.pick (Operand.tmp 19) (Operand.const (Value.bool true)) (Operand.tmp 25), type := 4, pos := "ref.go:45", after := #[{ on := 13, ground := Ground.data }, { on := 19, ground := Ground.data }], guard := none }) (v := ?_) rfl (by kernel_rfl) (by kernel_rfl) (by kernel_rfl) (fun _ _ _ h => h) (Or.inl ⟨by rfl, ?hy20⟩) (by assumption) ?_
  case hy20 => (intro w hSw; (try dsimp only at hSw); (go_simp <;> with_reducible rfl))
  try simp only [Act.put, List.setIfInBounds_toArray, List.set_cons_zero, List.set_cons_succ]
  refine wpAnyH_take (i := 21) (oi := { dst := some 27, op := Op.move (Operand.tmp 26), type := 4, pos := "ref.go:45", after := #[{ on := 20, ground := Ground.data }, { on := 15, ground := Ground.chain }], guard := none }) (v := ?_) rfl (by kernel_rfl) (by kernel_rfl) (by kernel_rfl) (fun _ _ _ h => h) (Or.inl ⟨by rfl, ?hy21⟩) (by assumption) ?_
  case hy21 => (intro w hSw; (try dsimp only at hSw); (go_simp <;> with_reducible rfl))
  try simp only [Act.put, List.setIfInBounds_toArray, List.set_cons_zero, List.set_cons_succ]
  refine wpAnyH_take (i := 22) (oi := { dst := some 28, op := Op.move (Operand.tmp 0), type := 9, pos := "ref.go:45", after := #[{ on := 21, ground := Ground.guard }], guard := some (21, false) }) (v := ?_) rfl (by kernel_rfl) (by kernel_rfl) (by kernel_rfl) (fun _ _ _ h => h) (Or.inl ⟨by rfl, ?hy22⟩) (by assumption) ?_
  case hy22 => (intro w hSw; (try dsimp only at hSw); (go_simp <;> with_reducible rfl))
  try simp only [Act.put, List.setIfInBounds_toArray, List.set_cons_zero, List.set_cons_succ]
  refine wpAnyH_take (i := 23) (oi := { dst := some 29, op := Op.slice 9 (Operand.tmp 28) (some (Operand.const (Value.int IntKind.i64 32))) none none, type := 9, pos := "ref.go:45", after := #[{ on := 22, ground := Ground.data }, { on := 21, ground := Ground.guard }], guard := some (21, false) }) (v := ?_) rfl (by kernel_rfl) (by kernel_rfl) (by kernel_rfl) (fun _ _ _ h => h) (Or.inl ⟨by rfl, ?hy23⟩) (by assumption) ?_
  case hy23 => (intro w hSw; (try dsimp only at hSw); (go_simp <;> with_reducible rfl))
  try simp only [Act.put, List.setIfInBounds_toArray, List.set_cons_zero, List.set_cons_succ]
  refine wpAnyH_take (i := 24) (oi := { dst := some 30, op := Op.move (Operand.tmp 0), type := 9, pos := "ref.go:45", after := #[{ on := 21, ground := Ground.guard }], guard := some (21, false) }) (v := ?_) rfl (by kernel_rfl) (by kernel_rfl) (by kernel_rfl) (fun _ _ _ h => h) (Or.inl ⟨by rfl, ?hy24⟩) (by assumption) ?_
  case hy24 => (intro w hSw; (try dsimp only at hSw); (go_simp <;> with_reducible rfl))
  try simp only [Act.put, List.setIfInBounds_toArray, List.set_cons_zero, List.set_cons_succ]
  refine wpAnyH_take (i := 25) (oi := { dst := some 31, op := Op.call { callee := Callee.builtin Builtin.len, args := #[Operand.tmp 30], argTypes := #[9] }, type := 3, pos := "ref.go:45", after := #[{ on := 24, ground := Ground.data }, { on := 21, ground := Ground.guard }], guard := some (21, false) }) (v := ?_) rfl (by kernel_rfl) (by kernel_rfl) (by kernel_rfl) (fun _ _ _ h => h) (Or.inl ⟨by rfl, ?hy25⟩) (by assumption) ?_
  case hy25 => (intro w hSw; (try dsimp only at hSw); (go_simp <;> with_reducible rfl))
  try simp only [Act.put, List.setIfInBounds_toArray, List.set_cons_zero, List.set_cons_succ]
  refine wpAnyH_take (i := 26) (oi := { dst := some 32, op := Op.binOp BinOp.sub 3 (Operand.tmp 31) (Operand.const (Value.int IntKind.i64 32)) 3, type := 3, pos := "ref.go:45", after := #[{ on := 25, ground := Ground.data }, { on := 21, ground := Ground.guard }], guard := some (21, false) }) (v := ?_) rfl (by kernel_rfl) (by kernel_rfl) (by kernel_rfl) (fun _ _ _ h => h) (Or.inl ⟨by rfl, ?hy26⟩) (by assumption) ?_
  case hy26 => (intro w hSw; (try dsimp only at hSw); (go_simp <;> with_reducible rfl))
  try simp only [Act.put, List.setIfInBounds_toArray, List.set_cons_zero, List.set_cons_succ]
  refine wpAnyH_ready (rs := [27]) (by kernel_rfl) (by simp) ?_
  refine AllReadyH.cons (o := { dst := some 33, op := Op.makeSlice 33 (Operand.tmp 32) (Operand.tmp 32), type := 33, pos := "ref.go:45", after := #[{ on := 26, ground := Ground.data }, { on := 26, ground := Ground.data }, { on := 21, ground := Ground.guard }], guard := some (21, false) }) rfl (fun K hK => ?_) (AllReadyH.nil)
  go_simp
  refine hK.out _ _ ?_ (fun hHeld => ?_)
  · trivial
  clear hK K
  try simp only [Act.put, List.setIfInBounds_toArray, List.set_cons_zero, List.set_cons_succ]
  refine wpAnyH_ready (rs := [28]) (by kernel_rfl) (by simp) ?_
  refine AllReadyH.cons (o := { dst := some 34, op := Op.convert 33 9 (Operand.tmp 33), type := 9, pos := "ref.go:45", after := #[{ on := 27, ground := Ground.data }, { on := 21, ground := Ground.guard }], guard := some (21, false) }) rfl (fun K hK => ?_) (AllReadyH.nil)
  go_simp
  refine hK.out _ _ ?_ (fun hHeld => ?_)
  · trivial
  clear hK K
  try simp only [Act.put, List.setIfInBounds_toArray, List.set_cons_zero, List.set_cons_succ]
  refine wpAnyH_take (i := 29) (oi := { dst := some 35, op := Op.binOp BinOp.neq 9 (Operand.tmp 29) (Operand.tmp 34) 9, type := 4, pos := "ref.go:45", after := #[{ on := 23, ground := Ground.data }, { on := 28, ground := Ground.data }, { on := 21, ground := Ground.guard }], guard := some (21, false) }) (v := ?_) rfl (by kernel_rfl) (by kernel_rfl) (by kernel_rfl) (fun _ _ _ h => h) (Or.inl ⟨by rfl, ?hy29⟩) (by assumption) ?_
  case hy29 => (intro w hSw; (try dsimp only at hSw); (go_simp <;> with_reducible rfl))
  try simp only [Act.put, List.setIfInBounds_toArray, List.set_cons_zero, List.set_cons_succ]
  refine wpAnyH_take (i := 30) (oi := { dst := some 36, op := Op.pick (Operand.tmp 27) (Operand.const (Value.bool true)) (Operand.tmp 35), type := 4, pos := "ref.go:45", after := #[{ on := 21, ground := Ground.data }, { on := 29, ground := Ground.data }], guard := none }) (v := ?_) rfl (by kernel_rfl) (by kernel_rfl) (by kernel_rfl) (fun _ _ _ h => h) (Or.inl ⟨by rfl, ?hy30⟩) (by assumption) ?_
  case hy30 => (intro w hSw; (try dsimp only at hSw); (go_simp <;> with_reducible rfl))
  try simp only [Act.put, List.setIfInBounds_toArray, List.set_cons_zero, List.set_cons_succ]
  refine wpAnyH_done (by kernel_rfl) ?_ _
  generalize w1.alloc (.cells (madeCells #[.int .u8 0] Z) 5) = W1 at H1 ⊢
  clear hmk hcz
  go_wp2
  have HKe := Lib.hid (show KS7 w.heap.size w W1.drew from H1.out.far (gdrew _))
  go_region_held3 (fun _ => True) (trivial) (first
    | (go_at_call 39; ((with_reducible refine (KX.out W1.drew).mono ?_); rintro r w2 ⟨rfl, hg⟩); have H2 := Lib.hid (HKe.out.far hg); clear hg)
    | (go_at_call 31; ((with_reducible refine (KT.out w2).mono ?_); rintro r w3 ⟨rfl, rfl⟩)))
  obtain ⟨⟨z0, z1, z2, z3⟩, f0, f1, f2, f3⟩ := cells4 H2.out.hq
  go_wp2
  exact bodyPost_ret (results_K rfl _ _ w.heap.size _ _ rfl rfl (store4 H2.out.hq _ _ _ _) rfl) rfl (gotM_no HE.out (by decide) (H2.out.fin _ _ _ _))

set_option maxHeartbeats 2000000 in
theorem kget_f (w : World) (b : List Int) (hb : Byt b) (hl : b.length ≤ 140737488355328) (hs : 512 ≤ b.length ∧ b.length ≤ 4096) (hm : b.take 4 = RUB) (hf : fld b 4 4 = (b.length : Int)) (hz : allZ (b.drop 32) = true) (hsum : fld b 28 4 = ((crcN (b.take 28) : Nat) : Int)) (hr : mright (mtOf b) = false) :
    Calls Try.prog 19 #[.string (strOfNums b)] w fun r w' => GotM b w w' r := by
  have hsz := strOfNums_size b
  have HE := Lib.hid (mget_wrong (b := b) hs hz hm hf hsum hr)
  obtain ⟨B, hB⟩ : ∃ B, B = strOfNums b := ⟨_, rfl⟩
  obtain ⟨n, hn⟩ : ∃ n, n = b.length := ⟨_, rfl⟩
  rw [← hB, ← hn] at hsz
  obtain ⟨T4, hT4⟩ : ∃ T, T = strOfNums (b.take 4) := ⟨_, rfl⟩
  have ht4 := strOf_take b 4
  rw [← hB, ← hT4] at ht4
  have hwn : IntKind.u64.wrap (n : Int) = (n : Int) := by rw [show IntKind.u64.wrap (n : Int) = (n : Int) % 18446744073709551616 from rfl]; omega
  have KN := Lib.hid (fun w' => knum_in w' b 4 4 4 4 rfl rfl hb (by omega) (by decide) (by decide) hl)
  rw [← hB] at KN
  have KX := Lib.hid (fun w' => knum_in w' b 28 4 28 4 rfl rfl hb (by omega) (by decide) (by decide) hl)
  have KT := Lib.hid (fun w' => ref_any w' (b.take 28) (hb.take 28) (by rw [List.length_take]; omega))
  have K8 := Lib.hid (fun w' => knum_in w' b 8 8 8 8 rfl rfl hb (by omega) (by decide) (by decide) hl)
  have K16 := Lib.hid (fun w' => knum_in w' b 16 4 16 4 rfl rfl hb (by omega) (by decide) (by decide) hl)
  have K20 := Lib.hid (fun w' => knum_in w' b 20 4 20 4 rfl rfl hb (by omega) (by decide) (by decide) hl)
  have K24 := Lib.hid (fun w' => knum_in w' b 24 4 24 4 rfl rfl hb (by omega) (by decide) (by decide) hl)
  rw [← hB] at KX K8 K16 K20 K24
  rw [← hn] at hs hf
  rw [← hB]
  have hrub := rub_yes hm
  rw [← hT4] at hrub
  rw [hf] at KN
  have h1 : ¬ (n : Int) < 512 := by omega
  have hd : decide ((n : Int) < 512) = false := by simpa using h1
  have h2 : ¬ (4096 : Int) < (n : Int) := by omega
  have hd2 : decide ((4096 : Int) < (n : Int)) = false := by simpa using h2
  have h4 : (4 : Int) ≤ (n : Int) := by omega
  obtain ⟨Z, hZ⟩ : ∃ Z, Z = n - 32 := ⟨_, rfl⟩
  obtain ⟨NZ, hNZ⟩ : ∃ N, N = strOfNums (List.replicate Z (0 : Int)) := ⟨_, rfl⟩
  have hcz := conv_zeros Z (by omega) NZ hNZ
  have hmk := run_make_row' (P := Try.prog) 33 5 (.int .u8 0) 1 Try.underlying33 infoU8 rfl .i64 .i64 Z (by omega) (by omega)
  have hwZ : IntKind.i64.wrap (Z : Int) = (Z : Int) := IntWalk.i64_in _ (by omega)
  have hw32' : (n : Int) - 32 = (Z : Int) := by omega
  have h32 : (32 : Int) ≤ (n : Int) := by omega
  have hd32 := strOf_drop b 32 (by omega)
  have hzz := allZ_rep _ hz
  rw [List.length_drop, ← hn, ← hZ] at hzz
  rw [← hB, hzz, ← hNZ, hsz] at hd32
  obtain ⟨T28, hT28⟩ : ∃ T, T = strOfNums (b.take 28) := ⟨_, rfl⟩
  have ht28 := strOf_take b 28
  rw [← hB, ← hT28] at ht28
  have h28 : (28 : Int) ≤ (n : Int) := by omega
  obtain ⟨Y, hY⟩ : ∃ Y, Y = crcN (b.take 28) := ⟨_, rfl⟩
  have hcl := crcN_lt (l := b.take 28) (hb.take 28)
  rw [← hT28, ← hY] at KT
  rw [← hY] at hcl hsum
  have hwy := w32 hcl
  rw [hsum] at KX
  clear hsum
  have g8 := fld8 hb 8
  have g16 := fld4 hb 16
  have g20 := fld4 hb 20
  have g24 := fld4 hb 24
  have hMo := mtOf_ok hb
  obtain ⟨M, hMe⟩ : ∃ M, M = mtOf b := ⟨_, rfl⟩
  rw [← hMe] at hMo
  rw [show fld b 8 8 = (M.t : Int) by rw [hMe]; simp only [mtOf]; omega] at K8
  rw [show fld b 16 4 = (M.e : Int) by rw [hMe]; simp only [mtOf]; omega] at K16
  rw [show fld b 20 4 = (M.m : Int) by rw [hMe]; simp only [mtOf]; omega] at K20
  rw [show fld b 24 4 = (M.f : Int) by rw [hMe]; simp only [mtOf]; omega] at K24
  have v1 := u32w hMo.e
  have v2 := u32w hMo.m
  have v3 := u32w hMo.f
  rw [← hMe] at hr
  have HMe := Lib.hid hMe
  clear hB hn hb hl hT4 hm hf hz hZ hNZ hzz hT28 hY g8 g16 g20 g24 hMo hMe
  have HK := Lib.hid (KS7.start w)
  unfold zC at HK
  go_enter Try.func19, Try.ntmps19
  go_wp2
  have HKd := Lib.hid (show KS7 w.heap.size w (w.alloc (.cells #[.int .u64 0, .int .u32 0, .int .u32 0, .int .u32 0] 30)).drew from HK.out.far (gdrew _))
  generalize w.alloc (.cells #[.int .u64 0, .int .u32 0, .int .u32 0, .int .u32 0] 30) = W at HK HKd ⊢
  refine wp_region_held_drew (S := fun w' => True) (by kernel_rfl) ?_ (fun hHeld => ?_)
  · trivial
  refine wpAnyH_take (i := 0) (oi := { dst := some 6, op := Op.move (Operand.tmp 0), type := 9, pos := "ref.go:45", after := #[], guard := none }) (v := ?_) rfl (by kernel_rfl) (by kernel_rfl) (by kernel_rfl) (fun _ _ _ h => h) (Or.inl ⟨by rfl, ?hy0⟩) (by assumption) ?_
  case hy0 => (intro w hSw; (try dsimp only at hSw); (go_simp <;> with_reducible rfl))
  try simp only [Act.put, List.setIfInBounds_toArray, List.set_cons_zero, List.set_cons_succ]
  refine wpAnyH_take (i := 1) (oi := { dst := some 7, op := Op.call { callee := Callee.builtin Builtin.len, args := #[Operand.tmp 6], argTypes := #[9] }, type := 3, pos := "ref.go:45", after := #[{ on := 0, ground := Ground.data }], guard := none }) (v := ?_) rfl (by kernel_rfl) (by kernel_rfl) (by kernel_rfl) (fun _ _ _ h => h) (Or.inl ⟨by rfl, ?hy1⟩) (by assumption) ?_
  case hy1 => (intro w hSw; (try dsimp only at hSw); (go_simp <;> with_reducible rfl))
  try simp only [Act.put, List.setIfInBounds_toArray, List.set_cons_zero, List.set_cons_succ]
  refine wpAnyH_take (i := 2) (oi := { dst := some 8, op := Op.binOp BinOp.lss 3 (Operand.tmp 7) (Operand.const (Value.int IntKind.i64 512)) 3, type := 4, pos := "ref.go:45", after := #[{ on := 1, ground := Ground.data }], guard := none }) (v := ?_) rfl (by kernel_rfl) (by kernel_rfl) (by kernel_rfl) (fun _ _ _ h => h) (Or.inl ⟨by rfl, ?hy2⟩) (by assumption) ?_
  case hy2 => (intro w hSw; (try dsimp only at hSw); (go_simp <;> with_reducible rfl))
  try simp only [Act.put, List.setIfInBounds_toArray, List.set_cons_zero, List.set_cons_succ]
  refine wpAnyH_take (i := 3) (oi := { dst := some 9, op := Op.move (Operand.tmp 8), type := 4, pos := "ref.go:45", after := #[{ on := 2, ground := Ground.data }], guard := none }) (v := ?_) rfl (by kernel_rfl) (by kernel_rfl) (by kernel_rfl) (fun _ _ _ h => h) (Or.inl ⟨by rfl, ?hy3⟩) (by assumption) ?_
  case hy3 => (intro w hSw; (try dsimp only at hSw); (go_simp <;> with_reducible rfl))
  try simp only [Act.put, List.setIfInBounds_toArray, List.set_cons_zero, List.set_cons_succ]
  refine wpAnyH_take (i := 4) (oi := { dst := some 10, op := Op.move (Operand.tmp 0), type := 9, pos := "ref.go:45", after := #[{ on := 3, ground := Ground.guard }], guard := some (3, false) }) (v := ?_) rfl (by kernel_rfl) (by kernel_rfl) (by kernel_rfl) (fun _ _ _ h => h) (Or.inl ⟨by rfl, ?hy4⟩) (by assumption) ?_
  case hy4 => (intro w hSw; (try dsimp only at hSw); (go_simp <;> with_reducible rfl))
  try simp only [Act.put, List.setIfInBounds_toArray, List.set_cons_zero, List.set_cons_succ]
  refine wpAnyH_take (i := 5) (oi := { dst := some 11, op := Op.call { callee := Callee.builtin Builtin.len, args := #[Operand.tmp 10], argTypes := #[9] }, type := 3, pos := "ref.go:45", after := #[{ on := 4, ground := Ground.data }, { on := 3, ground := Ground.guard }], guard := some (3, false) }) (v := ?_) rfl (by kernel_rfl) (by kernel_rfl) (by kernel_rfl) (fun _ _ _ h => h) (Or.inl ⟨by rfl, ?hy5⟩) (by assumption) ?_
  case hy5 => (intro w hSw; (try dsimp only at hSw); (go_simp <;> with_reducible rfl))
  try simp only [Act.put, List.setIfInBounds_toArray, List.set_cons_zero, List.set_cons_succ]
  refine wpAnyH_take (i := 6) (oi := { dst := some 12, op := Op.binOp BinOp.gtr 3 (Operand.tmp 11) (Operand.const (Value.int IntKind.i64 4096)) 3, type := 4, pos := "ref.go:45", after := #[{ on := 5, ground := Ground.data }, { on := 3, ground := Ground.guard }], guard := some (3, false) }) (v := ?_) rfl (by kernel_rfl) (by kernel_rfl) (by kernel_rfl) (fun _ _ _ h => h) (Or.inl ⟨by rfl, ?hy6⟩) (by assumption) ?_
  case hy6 => (intro w hSw; (try dsimp only at hSw); (go_simp <;> with_reducible rfl))
  try simp only [Act.put, List.setIfInBounds_toArray, List.set_cons_zero, List.set_cons_succ]
  refine wpAnyH_take (i := 7) (oi := { dst := some 13, op := Op.pick (Operand.tmp 9) (Operand.const (Value.bool true)) (Operand.tmp 12), type := 4, pos := "ref.go:45", after := #[{ on := 3, ground := Ground.data }, { on := 6, ground := Ground.data }], guard := none }) (v := ?_) rfl (by kernel_rfl) (by kernel_rfl) (by kernel_rfl) (fun _ _ _ h => h) (Or.inl ⟨by rfl, ?hy7⟩) (by assumption) ?_
  case hy7 => (intro w hSw; (try dsimp only at hSw); (go_simp <;> with_reducible rfl))
  try simp only [Act.put, List.setIfInBounds_toArray, List.set_cons_zero, List.set_cons_succ]
  refine wpAnyH_take (i := 8) (oi := { dst := some 14, op := Op.move (Operand.tmp 13), type := 4, pos := "ref.go:45", after := #[{ on := 7, ground := Ground.data }, { on := 3, ground := Ground.chain }], guard := none }) (v := ?_) rfl (by kernel_rfl) (by kernel_rfl) (by kernel_rfl) (fun _ _ _ h => h) (Or.inl ⟨by rfl, ?hy8⟩) (by assumption) ?_
  case hy8 => (intro w hSw; (try dsimp only at hSw); (go_simp <;> with_reducible rfl))
  try simp only [Act.put, List.setIfInBounds_toArray, List.set_cons_zero, List.set_cons_succ]
  refine wpAnyH_take (i := 9) (oi := { dst := some 15, op := Op.move (Operand.tmp 0), type := 9, pos := "ref.go:45", after := #[{ on := 8, ground := Ground.guard }], guard := some (8, false) }) (v := ?_) rfl (by kernel_rfl) (by kernel_rfl) (by kernel_rfl) (fun _ _ _ h => h) (Or.inl ⟨by rfl, ?hy9⟩) (by assumption) ?_
  case hy9 => (intro w hSw; (try dsimp only at hSw); (go_simp <;> with_reducible rfl))
  try simp only [Act.put, List.setIfInBounds_toArray, List.set_cons_zero, List.set_cons_succ]
  refine wpAnyH_take (i := 10) (oi := { dst := some 16, op := Op.slice 9 (Operand.tmp 15) none (some (Operand.const (Value.int IntKind.i64 4))) none, type := 9, pos := "ref.go:45", after := #[{ on := 9, ground := Ground.data }, { on := 8, ground := Ground.guard }], guard := some (8, false) }) (v := ?_) rfl (by kernel_rfl) (by kernel_rfl) (by kernel_rfl) (fun _ _ _ h => h) (Or.inl ⟨by rfl, ?hy10⟩) (by assumption) ?_
  case hy10 => (intro w hSw; (try dsimp only at hSw); (go_simp <;> with_reducible rfl))
  try simp only [Act.put, List.setIfInBounds_toArray, List.set_cons_zero, List.set_cons_succ]
  refine wpAnyH_take (i := 11) (oi := { dst := some 17, op := Op.binOp BinOp.neq 9 (Operand.tmp 16) (Operand.const (Value.string { data := #[82, 85, 66, 49] })) 9, type := 4, pos := "ref.go:45", after := #[{ on := 10, ground := Ground.data }, { on := 8, ground := Ground.guard }], guard := some (8, false) }) (v := ?_) rfl (by kernel_rfl) (by kernel_rfl) (by kernel_rfl) (fun _ _ _ h => h) (Or.inl ⟨by rfl, ?hy11⟩) (by assumption) ?_
  case hy11 => (intro w hSw; (try dsimp only at hSw); (go_simp <;> with_reducible rfl))
  try simp only [Act.put, List.setIfInBounds_toArray, List.set_cons_zero, List.set_cons_succ]
  refine wpAnyH_take (i := 12) (oi := { dst := some 18, op := Op.pick (Operand.tmp 14) (Operand.const (Value.bool true)) (Operand.tmp 17), type := 4, pos := "ref.go:45", after := #[{ on := 8, ground := Ground.data }, { on := 11, ground := Ground.data }], guard := none }) (v := ?_) rfl (by kernel_rfl) (by kernel_rfl) (by kernel_rfl) (fun _ _ _ h => h) (Or.inl ⟨by rfl, ?hy12⟩) (by assumption) ?_
  case hy12 => (intro w hSw; (try dsimp only at hSw); (go_simp <;> with_reducible rfl))
  try simp only [Act.put, List.setIfInBounds_toArray, List.set_cons_zero, List.set_cons_succ]
  refine wpAnyH_take (i := 13) (oi := { dst := some 19, op := Op.move (Operand.tmp 18), type := 4, pos := "ref.go:45", after := #[{ on := 12, ground := Ground.data }, { on := 8, ground := Ground.chain }], guard := none }) (v := ?_) rfl (by kernel_rfl) (by kernel_rfl) (by kernel_rfl) (fun _ _ _ h => h) (Or.inl ⟨by rfl, ?hy13⟩) (by assumption) ?_
  case hy13 => (intro w hSw; (try dsimp only at hSw); (go_simp <;> with_reducible rfl))
  try simp only [Act.put, List.setIfInBounds_toArray, List.set_cons_zero, List.set_cons_succ]
  refine wpAnyH_take (i := 14) (oi := { dst := some 20, op := Op.move (Operand.tmp 0), type := 9, pos := "ref.go:45", after := #[{ on := 13, ground := Ground.guard }], guard := some (13, false) }) (v := ?_) rfl (by kernel_rfl) (by kernel_rfl) (by kernel_rfl) (fun _ _ _ h => h) (Or.inl ⟨by rfl, ?hy14⟩) (by assumption) ?_
  case hy14 => (intro w hSw; (try dsimp only at hSw); (go_simp <;> with_reducible rfl))
  try simp only [Act.put, List.setIfInBounds_toArray, List.set_cons_zero, List.set_cons_succ]
  refine wpAnyH_take (i := 16) (oi := { dst := some 22, op := Op.move (Operand.tmp 0), type := 9, pos := "ref.go:45", after := #[{ on := 13, ground := Ground.guard }], guard := some (13, false) }) (v := ?_) rfl (by kernel_rfl) (by kernel_rfl) (by kernel_rfl) (fun _ _ _ h => h) (Or.inl ⟨by rfl, ?hy16⟩) (by assumption) ?_
  case hy16 => (intro w hSw; (try dsimp only at hSw); (go_simp <;> with_reducible rfl))
  try simp only [Act.put, List.setIfInBounds_toArray, List.set_cons_zero, List.set_cons_succ]
  refine wpAnyH_take (i := 17) (oi := { dst := some 23, op := Op.call { callee := Callee.builtin Builtin.len, args := #[Operand.tmp 22], argTypes := #[9] }, type := 3, pos := "ref.go:45", after := #[{ on := 16, ground := Ground.data }, { on := 13, ground := Ground.guard }], guard := some (13, false) }) (v := ?_) rfl (by kernel_rfl) (by kernel_rfl) (by kernel_rfl) (fun _ _ _ h => h) (Or.inl ⟨by rfl, ?hy17⟩) (by assumption) ?_
  case hy17 => (intro w hSw; (try dsimp only at hSw); (go_simp <;> with_reducible rfl))
  try simp only [Act.put, List.setIfInBounds_toArray, List.set_cons_zero, List.set_cons_succ]
  refine wpAnyH_take (i := 18) (oi := { dst := some 24, op := Op.convert 3 22 (Operand.tmp 23), type := 22, pos := "ref.go:45", after := #[{ on := 17, ground := Ground.data }, { on := 13, ground := Ground.guard }], guard := some (13, false) }) (v := ?_) rfl (by kernel_rfl) (by kernel_rfl) (by kernel_rfl) (fun _ _ _ h => h) (Or.inl ⟨by rfl, ?hy18⟩) (by assumption) ?_
  case hy18 => (intro w hSw; (try dsimp only at hSw); (go_simp <;> with_reducible rfl))
  try simp only [Act.put, List.setIfInBounds_toArray, List.set_cons_zero, List.set_cons_succ]
  refine wpAnyH_ready (rs := [15]) (by kernel_rfl) (by simp) ?_
  refine AllReadyH.cons (o := { dst := some 21, op := Op.call { callee := Callee.value (Operand.func 39), args := #[Operand.tmp 20, Operand.const (Value.int IntKind.i64 4), Operand.const (Value.int IntKind.i64 4)], argTypes := #[9, 3, 3] }, type := 22, pos := "ref.go:45", after := #[{ on := 14, ground := Ground.data }, { on := 13, ground := Ground.chain }, { on := 13, ground := Ground.guard }], guard := some (13, false) }) rfl (fun K hK => ?_) (AllReadyH.nil)
  go_simp
  (go_at_call 39; ((with_reducible refine (KN.out W.drew).mono ?_); rintro r w1 ⟨rfl, hg⟩); have H1 := Lib.hid (HKd.out.far (gtrans hg (World.grownBy_alloc w1 (.cells (madeCells #[.int .u8 0] Z) 5) none))); clear hg)
  refine hK.out _ _ ?_ (fun hHeld => ?_)
  · trivial
  clear hK K
  try simp only [Act.put, List.setIfInBounds_toArray, List.set_cons_zero, List.set_cons_succ]
  refine wpAnyH_take (i := 19) (oi := { dst := some 25, op := Op.binOp BinOp.neq 22 (Operand.tmp 21) (Operand.tmp 24) 22, type := 4, pos := "ref.go:45", after := #[{ on := 15, ground := Ground.data }, { on := 18, ground := Ground.data }, { on := 13, ground := Ground.guard }], guard := some (13, false) }) (v := ?_) rfl (by kernel_rfl) (by kernel_rfl) (by kernel_rfl) (fun _ _ _ h => h) (Or.inl ⟨by rfl, ?hy19⟩) (by assumption) ?_
  case hy19 => (intro w hSw; (try dsimp only at hSw); (go_simp <;> with_reducible rfl))
  try simp only [Act.put, List.setIfInBounds_toArray, List.set_cons_zero, List.set_cons_succ]
  refine wpAnyH_take (i := 20) (oi := { dst := some 26, op := Op.pick (Operand.tmp 19) (Operand.const (Value.bool true)) (Operand.tmp 25), type := 4, pos := "ref.go:45", after := #[{ on := 13, ground := Ground.data }, { on := 19, ground := Ground.data }], guard := none }) (v := ?_) rfl (by kernel_rfl) (by kernel_rfl) (by kernel_rfl) (fun _ _ _ h => h) (Or.inl ⟨by rfl, ?hy20⟩) (by assumption) ?_
  case hy20 => (intro w hSw; (try dsimp only at hSw); (go_simp <;> with_reducible rfl))
  try simp only [Act.put, List.setIfInBounds_toArray, List.set_cons_zero, List.set_cons_succ]
  refine wpAnyH_take (i := 21) (oi := { dst := some 27, op := Op.move (Operand.tmp 26), type := 4, pos := "ref.go:45", after := #[{ on := 20, ground := Ground.data }, { on := 15, ground := Ground.chain }], guard := none }) (v := ?_) rfl (by kernel_rfl) (by kernel_rfl) (by kernel_rfl) (fun _ _ _ h => h) (Or.inl ⟨by rfl, ?hy21⟩) (by assumption) ?_
  case hy21 => (intro w hSw; (try dsimp only at hSw); (go_simp <;> with_reducible rfl))
  try simp only [Act.put, List.setIfInBounds_toArray, List.set_cons_zero, List.set_cons_succ]
  refine wpAnyH_take (i := 22) (oi := { dst := some 28, op := Op.move (Operand.tmp 0), type := 9, pos := "ref.go:45", after := #[{ on := 21, ground := Ground.guard }], guard := some (21, false) }) (v := ?_) rfl (by kernel_rfl) (by kernel_rfl) (by kernel_rfl) (fun _ _ _ h => h) (Or.inl ⟨by rfl, ?hy22⟩) (by assumption) ?_
  case hy22 => (intro w hSw; (try dsimp only at hSw); (go_simp <;> with_reducible rfl))
  try simp only [Act.put, List.setIfInBounds_toArray, List.set_cons_zero, List.set_cons_succ]
  refine wpAnyH_take (i := 23) (oi := { dst := some 29, op := Op.slice 9 (Operand.tmp 28) (some (Operand.const (Value.int IntKind.i64 32))) none none, type := 9, pos := "ref.go:45", after := #[{ on := 22, ground := Ground.data }, { on := 21, ground := Ground.guard }], guard := some (21, false) }) (v := ?_) rfl (by kernel_rfl) (by kernel_rfl) (by kernel_rfl) (fun _ _ _ h => h) (Or.inl ⟨by rfl, ?hy23⟩) (by assumption) ?_
  case hy23 => (intro w hSw; (try dsimp only at hSw); (go_simp <;> with_reducible rfl))
  try simp only [Act.put, List.setIfInBounds_toArray, List.set_cons_zero, List.set_cons_succ]
  refine wpAnyH_take (i := 24) (oi := { dst := some 30, op := Op.move (Operand.tmp 0), type := 9, pos := "ref.go:45", after := #[{ on := 21, ground := Ground.guard }], guard := some (21, false) }) (v := ?_) rfl (by kernel_rfl) (by kernel_rfl) (by kernel_rfl) (fun _ _ _ h => h) (Or.inl ⟨by rfl, ?hy24⟩) (by assumption) ?_
  case hy24 => (intro w hSw; (try dsimp only at hSw); (go_simp <;> with_reducible rfl))
  try simp only [Act.put, List.setIfInBounds_toArray, List.set_cons_zero, List.set_cons_succ]
  refine wpAnyH_take (i := 25) (oi := { dst := some 31, op := Op.call { callee := Callee.builtin Builtin.len, args := #[Operand.tmp 30], argTypes := #[9] }, type := 3, pos := "ref.go:45", after := #[{ on := 24, ground := Ground.data }, { on := 21, ground := Ground.guard }], guard := some (21, false) }) (v := ?_) rfl (by kernel_rfl) (by kernel_rfl) (by kernel_rfl) (fun _ _ _ h => h) (Or.inl ⟨by rfl, ?hy25⟩) (by assumption) ?_
  case hy25 => (intro w hSw; (try dsimp only at hSw); (go_simp <;> with_reducible rfl))
  try simp only [Act.put, List.setIfInBounds_toArray, List.set_cons_zero, List.set_cons_succ]
  refine wpAnyH_take (i := 26) (oi := { dst := some 32, op := Op.binOp BinOp.sub 3 (Operand.tmp 31) (Operand.const (Value.int IntKind.i64 32)) 3, type := 3, pos := "ref.go:45", after := #[{ on := 25, ground := Ground.data }, { on := 21, ground := Ground.guard }], guard := some (21, false) }) (v := ?_) rfl (by kernel_rfl) (by kernel_rfl) (by kernel_rfl) (fun _ _ _ h => h) (Or.inl ⟨by rfl, ?hy26⟩) (by assumption) ?_
  case hy26 => (intro w hSw; (try dsimp only at hSw); (go_simp <;> with_reducible rfl))
  try simp only [Act.put, List.setIfInBounds_toArray, List.set_cons_zero, List.set_cons_succ]
  refine wpAnyH_ready (rs := [27]) (by kernel_rfl) (by simp) ?_
  refine AllReadyH.cons (o := { dst := some 33, op := Op.makeSlice 33 (Operand.tmp 32) (Operand.tmp 32), type := 33, pos := "ref.go:45", after := #[{ on := 26, ground := Ground.data }, { on := 26, ground := Ground.data }, { on := 21, ground := Ground.guard }], guard := some (21, false) }) rfl (fun K hK => ?_) (AllReadyH.nil)
  go_simp
  refine hK.out _ _ ?_ (fun hHeld => ?_)
  · trivial
  clear hK K
  try simp only [Act.put, List.setIfInBounds_toArray, List.set_cons_zero, List.set_cons_succ]
  refine wpAnyH_ready (rs := [28]) (by kernel_rfl) (by simp) ?_
  refine AllReadyH.cons (o := { dst := some 34, op := Op.convert 33 9 (Operand.tmp 33), type := 9, pos := "ref.go:45", after := #[{ on := 27, ground := Ground.data }, { on := 21, ground := Ground.guard }], guard := some (21, false) }) rfl (fun K hK => ?_) (AllReadyH.nil)
  go_simp
  refine hK.out _ _ ?_ (fun hHeld => ?_)
  · trivial
  clear hK K
  try simp only [Act.put, List.setIfInBounds_toArray, List.set_cons_zero, List.set_cons_succ]
  refine wpAnyH_take (i := 29) (oi := { dst := some 35, op := Op.binOp BinOp.neq 9 (Operand.tmp 29) (Operand.tmp 34) 9, type := 4, pos := "ref.go:45", after := #[{ on := 23, ground := Ground.data }, { on := 28, ground := Ground.data }, { on := 21, ground := Ground.guard }], guard := some (21, false) }) (v := ?_) rfl (by kernel_rfl) (by kernel_rfl) (by kernel_rfl) (fun _ _ _ h => h) (Or.inl ⟨by rfl, ?hy29⟩) (by assumption) ?_
  case hy29 => (intro w hSw; (try dsimp only at hSw); (go_simp <;> with_reducible rfl))
  try simp only [Act.put, List.setIfInBounds_toArray, List.set_cons_zero, List.set_cons_succ]
  refine wpAnyH_take (i := 30) (oi := { dst := some 36, op := Op.pick (Operand.tmp 27) (Operand.const (Value.bool true)) (Operand.tmp 35), type := 4, pos := "ref.go:45", after := #[{ on := 21, ground := Ground.data }, { on := 29, ground := Ground.data }], guard := none }) (v := ?_) rfl (by kernel_rfl) (by kernel_rfl) (by kernel_rfl) (fun _ _ _ h => h) (Or.inl ⟨by rfl, ?hy30⟩) (by assumption) ?_
  case hy30 => (intro w hSw; (try dsimp only at hSw); (go_simp <;> with_reducible rfl))
  try simp only [Act.put, List.setIfInBounds_toArray, List.set_cons_zero, List.set_cons_succ]
  refine wpAnyH_done (by kernel_rfl) ?_ _
  generalize w1.alloc (.cells (madeCells #[.int .u8 0] Z) 5) = W1 at H1 ⊢
  clear hmk hcz
  go_wp2
  have HKe := Lib.hid (show KS7 w.heap.size w W1.drew from H1.out.far (gdrew _))
  go_region_held3 (fun _ => True) (trivial) (first
    | (go_at_call 39; ((with_reducible refine (KX.out W1.drew).mono ?_); rintro r w2 ⟨rfl, hg⟩); have H2 := Lib.hid (HKe.out.far hg); clear hg)
    | (go_at_call 31; ((with_reducible refine (KT.out w2).mono ?_); rintro r w3 ⟨rfl, rfl⟩)))
  go_wp2_with (first
    | (go_at_call 39; ((with_reducible refine (K8.out w2).mono ?_); rintro r w4 ⟨rfl, hg⟩); have H4 := Lib.hid (H2.out.far hg); clear hg)
    | (go_at_call 39; ((with_reducible refine (K16.out w4).mono ?_); rintro r w5 ⟨rfl, hg⟩); have H5 := Lib.hid (H4.out.far hg); clear hg)
    | (go_at_call 39; ((with_reducible refine (K20.out w5).mono ?_); rintro r w6 ⟨rfl, hg⟩); have H6 := Lib.hid (H5.out.far hg); clear hg)
    | (go_at_call 39; ((with_reducible refine (K24.out w6).mono ?_); rintro r w7 ⟨rfl, hg⟩); have H7 := Lib.hid (H6.out.far (gtrans hg (World.grownBy_alloc w7 (.cells #[.int .u64 (M.t : Int), .int .u32 (M.e : Int), .int .u32 (M.m : Int), .int .u32 (M.f : Int)] 30) none))); have HM7 := Lib.hid (heap_alloc_new w7 (.cells #[.int .u64 (M.t : Int), .int .u32 (M.e : Int), .int .u32 (M.m : Int), .int .u32 (M.f : Int)] 30)); clear hg)
    | (go_at_call 15; have K := kright_any M (w7.alloc (.cells #[.int .u64 (M.t : Int), .int .u32 (M.e : Int), .int .u32 (M.m : Int), .int .u32 (M.f : Int)] 30)); rw [show mtC M = #[.int .u64 (M.t : Int), .int .u32 (M.e : Int), .int .u32 (M.m : Int), .int .u32 (M.f : Int)] from rfl, hr] at K; ((with_reducible refine K.mono ?_); clear K; rintro r w8 ⟨rfl, hg⟩); have H8 := Lib.hid (H7.out.far hg); have HM8 := Lib.hid ((hg.block _ (lt_of_block HM7.out) (by simp)).trans HM7.out); obtain ⟨⟨z0, z1, z2, z3⟩, f0, f1, f2, f3⟩ := cells4 H8.out.hq; obtain ⟨⟨y0, y1, y2, y3⟩, _⟩ := cells4 HM8.out; clear hg))
  exact bodyPost_ret (results_K rfl _ _ w.heap.size _ _ rfl rfl (store4 H8.out.hq _ _ _ _) rfl) rfl (gotM_no HE.out (by decide) (H8.out.fin _ _ _ _))

set_option maxHeartbeats 2000000 in
theorem kget_g (w : World) (b : List Int) (hb : Byt b) (hl : b.length ≤ 140737488355328) (hs : 512 ≤ b.length ∧ b.length ≤ 4096) (hm : b.take 4 = RUB) (hf : fld b 4 4 = (b.length : Int)) (hz : allZ (b.drop 32) = true) (hsum : fld b 28 4 = ((crcN (b.take 28) : Nat) : Int)) (hr : mright (mtOf b) = true) :
    Calls Try.prog 19 #[.string (strOfNums b)] w fun r w' => GotM b w w' r := by
  have hsz := strOfNums_size b
  have HE := Lib.hid (mget_ok (b := b) hs hz hm hf hsum hr)
  obtain ⟨B, hB⟩ : ∃ B, B = strOfNums b := ⟨_, rfl⟩
  obtain ⟨n, hn⟩ : ∃ n, n = b.length := ⟨_, rfl⟩
  rw [← hB, ← hn] at hsz
  obtain ⟨T4, hT4⟩ : ∃ T, T = strOfNums (b.take 4) := ⟨_, rfl⟩
  have ht4 := strOf_take b 4
  rw [← hB, ← hT4] at ht4
  have hwn : IntKind.u64.wrap (n : Int) = (n : Int) := by rw [show IntKind.u64.wrap (n : Int) = (n : Int) % 18446744073709551616 from rfl]; omega
  have KN := Lib.hid (fun w' => knum_in w' b 4 4 4 4 rfl rfl hb (by omega) (by decide) (by decide) hl)
  rw [← hB] at KN
  have KX := Lib.hid (fun w' => knum_in w' b 28 4 28 4 rfl rfl hb (by omega) (by decide) (by decide) hl)
  have KT := Lib.hid (fun w' => ref_any w' (b.take 28) (hb.take 28) (by rw [List.length_take]; omega))
  have K8 := Lib.hid (fun w' => knum_in w' b 8 8 8 8 rfl rfl hb (by omega) (by decide) (by decide) hl)
  have K16 := Lib.hid (fun w' => knum_in w' b 16 4 16 4 rfl rfl hb (by omega) (by decide) (by decide) hl)
  have K20 := Lib.hid (fun w' => knum_in w' b 20 4 20 4 rfl rfl hb (by omega) (by decide) (by decide) hl)
  have K24 := Lib.hid (fun w' => knum_in w' b 24 4 24 4 rfl rfl hb (by omega) (by decide) (by decide) hl)
  rw [← hB] at KX K8 K16 K20 K24
  rw [← hn] at hs hf
  rw [← hB]
  have hrub := rub_yes hm
  rw [← hT4] at hrub
  rw [hf] at KN
  have h1 : ¬ (n : Int) < 512 := by omega
  have hd : decide ((n : Int) < 512) = false := by simpa using h1
  have h2 : ¬ (4096 : Int) < (n : Int) := by omega
  have hd2 : decide ((4096 : Int) < (n : Int)) = false := by simpa using h2
  have h4 : (4 : Int) ≤ (n : Int) := by omega
  obtain ⟨Z, hZ⟩ : ∃ Z, Z = n - 32 := ⟨_, rfl⟩
  obtain ⟨NZ, hNZ⟩ : ∃ N, N = strOfNums (List.replicate Z (0 : Int)) := ⟨_, rfl⟩
  have hcz := conv_zeros Z (by omega) NZ hNZ
  have hmk := run_make_row' (P := Try.prog) 33 5 (.int .u8 0) 1 Try.underlying33 infoU8 rfl .i64 .i64 Z (by omega) (by omega)
  have hwZ : IntKind.i64.wrap (Z : Int) = (Z : Int) := IntWalk.i64_in _ (by omega)
  have hw32' : (n : Int) - 32 = (Z : Int) := by omega
  have h32 : (32 : Int) ≤ (n : Int) := by omega
  have hd32 := strOf_drop b 32 (by omega)
  have hzz := allZ_rep _ hz
  rw [List.length_drop, ← hn, ← hZ] at hzz
  rw [← hB, hzz, ← hNZ, hsz] at hd32
  obtain ⟨T28, hT28⟩ : ∃ T, T = strOfNums (b.take 28) := ⟨_, rfl⟩
  have ht28 := strOf_take b 28
  rw [← hB, ← hT28] at ht28
  have h28 : (28 : Int) ≤ (n : Int) := by omega
  obtain ⟨Y, hY⟩ : ∃ Y, Y = crcN (b.take 28) := ⟨_, rfl⟩
  have hcl := crcN_lt (l := b.take 28) (hb.take 28)
  rw [← hT28, ← hY] at KT
  rw [← hY] at hcl hsum
  have hwy := w32 hcl
  rw [hsum] at KX
  clear hsum
  have g8 := fld8 hb 8
  have g16 := fld4 hb 16
  have g20 := fld4 hb 20
  have g24 := fld4 hb 24
  have hMo := mtOf_ok hb
  obtain ⟨M, hMe⟩ : ∃ M, M = mtOf b := ⟨_, rfl⟩
  rw [← hMe] at hMo
  rw [show fld b 8 8 = (M.t : Int) by rw [hMe]; simp only [mtOf]; omega] at K8
  rw [show fld b 16 4 = (M.e : Int) by rw [hMe]; simp only [mtOf]; omega] at K16
  rw [show fld b 20 4 = (M.m : Int) by rw [hMe]; simp only [mtOf]; omega] at K20
  rw [show fld b 24 4 = (M.f : Int) by rw [hMe]; simp only [mtOf]; omega] at K24
  have v1 := u32w hMo.e
  have v2 := u32w hMo.m
  have v3 := u32w hMo.f
  rw [← hMe] at hr
  have HMe := Lib.hid hMe
  clear hB hn hb hl hT4 hm hf hz hZ hNZ hzz hT28 hY g8 g16 g20 g24 hMo hMe
  have HK := Lib.hid (KS7.start w)
  unfold zC at HK
  go_enter Try.func19, Try.ntmps19
  go_wp2
  have HKd := Lib.hid (show KS7 w.heap.size w (w.alloc (.cells #[.int .u64 0, .int .u32 0, .int .u32 0, .int .u32 0] 30)).drew from HK.out.far (gdrew _))
  generalize w.alloc (.cells #[.int .u64 0, .int .u32 0, .int .u32 0, .int .u32 0] 30) = W at HK HKd ⊢
  refine wp_region_held_drew (S := fun w' => True) (by kernel_rfl) ?_ (fun hHeld => ?_)
  · trivial
  refine wpAnyH_take (i := 0) (oi := { dst := some 6, op := Op.move (Operand.tmp 0), type := 9, pos := "ref.go:45", after := #[], guard := none }) (v := ?_) rfl (by kernel_rfl) (by kernel_rfl) (by kernel_rfl) (fun _ _ _ h => h) (Or.inl ⟨by rfl, ?hy0⟩) (by assumption) ?_
  case hy0 => (intro w hSw; (try dsimp only at hSw); (go_simp <;> with_reducible rfl))
  try simp only [Act.put, List.setIfInBounds_toArray, List.set_cons_zero, List.set_cons_succ]
  refine wpAnyH_take (i := 1) (oi := { dst := some 7, op := Op.call { callee := Callee.builtin Builtin.len, args := #[Operand.tmp 6], argTypes := #[9] }, type := 3, pos := "ref.go:45", after := #[{ on := 0, ground := Ground.data }], guard := none }) (v := ?_) rfl (by kernel_rfl) (by kernel_rfl) (by kernel_rfl) (fun _ _ _ h => h) (Or.inl ⟨by rfl, ?hy1⟩) (by assumption) ?_
  case hy1 => (intro w hSw; (try dsimp only at hSw); (go_simp <;> with_reducible rfl))
  try simp only [Act.put, List.setIfInBounds_toArray, List.set_cons_zero, List.set_cons_succ]
  refine wpAnyH_take (i := 2) (oi := { dst := some 8, op := Op.binOp BinOp.lss 3 (Operand.tmp 7) (Operand.const (Value.int IntKind.i64 512)) 3, type := 4, pos := "ref.go:45", after := #[{ on := 1, ground := Ground.data }], guard := none }) (v := ?_) rfl (by kernel_rfl) (by kernel_rfl) (by kernel_rfl) (fun _ _ _ h => h) (Or.inl ⟨by rfl, ?hy2⟩) (by assumption) ?_
  case hy2 => (intro w hSw; (try dsimp only at hSw); (go_simp <;> with_reducible rfl))
  try simp only [Act.put, List.setIfInBounds_toArray, List.set_cons_zero, List.set_cons_succ]
  refine wpAnyH_take (i := 3) (oi := { dst := some 9, op := Op.move (Operand.tmp 8), type := 4, pos := "ref.go:45", after := #[{ on := 2, ground := Ground.data }], guard := none }) (v := ?_) rfl (by kernel_rfl) (by kernel_rfl) (by kernel_rfl) (fun _ _ _ h => h) (Or.inl ⟨by rfl, ?hy3⟩) (by assumption) ?_
  case hy3 => (intro w hSw; (try dsimp only at hSw); (go_simp <;> with_reducible rfl))
  try simp only [Act.put, List.setIfInBounds_toArray, List.set_cons_zero, List.set_cons_succ]
  refine wpAnyH_take (i := 4) (oi := { dst := some 10, op := Op.move (Operand.tmp 0), type := 9, pos := "ref.go:45", after := #[{ on := 3, ground := Ground.guard }], guard := some (3, false) }) (v := ?_) rfl (by kernel_rfl) (by kernel_rfl) (by kernel_rfl) (fun _ _ _ h => h) (Or.inl ⟨by rfl, ?hy4⟩) (by assumption) ?_
  case hy4 => (intro w hSw; (try dsimp only at hSw); (go_simp <;> with_reducible rfl))
  try simp only [Act.put, List.setIfInBounds_toArray, List.set_cons_zero, List.set_cons_succ]
  refine wpAnyH_take (i := 5) (oi := { dst := some 11, op := Op.call { callee := Callee.builtin Builtin.len, args := #[Operand.tmp 10], argTypes := #[9] }, type := 3, pos := "ref.go:45", after := #[{ on := 4, ground := Ground.data }, { on := 3, ground := Ground.guard }], guard := some (3, false) }) (v := ?_) rfl (by kernel_rfl) (by kernel_rfl) (by kernel_rfl) (fun _ _ _ h => h) (Or.inl ⟨by rfl, ?hy5⟩) (by assumption) ?_
  case hy5 => (intro w hSw; (try dsimp only at hSw); (go_simp <;> with_reducible rfl))
  try simp only [Act.put, List.setIfInBounds_toArray, List.set_cons_zero, List.set_cons_succ]
  refine wpAnyH_take (i := 6) (oi := { dst := some 12, op := Op.binOp BinOp.gtr 3 (Operand.tmp 11) (Operand.const (Value.int IntKind.i64 4096)) 3, type := 4, pos := "ref.go:45", after := #[{ on := 5, ground := Ground.data }, { on := 3, ground := Ground.guard }], guard := some (3, false) }) (v := ?_) rfl (by kernel_rfl) (by kernel_rfl) (by kernel_rfl) (fun _ _ _ h => h) (Or.inl ⟨by rfl, ?hy6⟩) (by assumption) ?_
  case hy6 => (intro w hSw; (try dsimp only at hSw); (go_simp <;> with_reducible rfl))
  try simp only [Act.put, List.setIfInBounds_toArray, List.set_cons_zero, List.set_cons_succ]
  refine wpAnyH_take (i := 7) (oi := { dst := some 13, op := Op.pick (Operand.tmp 9) (Operand.const (Value.bool true)) (Operand.tmp 12), type := 4, pos := "ref.go:45", after := #[{ on := 3, ground := Ground.data }, { on := 6, ground := Ground.data }], guard := none }) (v := ?_) rfl (by kernel_rfl) (by kernel_rfl) (by kernel_rfl) (fun _ _ _ h => h) (Or.inl ⟨by rfl, ?hy7⟩) (by assumption) ?_
  case hy7 => (intro w hSw; (try dsimp only at hSw); (go_simp <;> with_reducible rfl))
  try simp only [Act.put, List.setIfInBounds_toArray, List.set_cons_zero, List.set_cons_succ]
  refine wpAnyH_take (i := 8) (oi := { dst := some 14, op := Op.move (Operand.tmp 13), type := 4, pos := "ref.go:45", after := #[{ on := 7, ground := Ground.data }, { on := 3, ground := Ground.chain }], guard := none }) (v := ?_) rfl (by kernel_rfl) (by kernel_rfl) (by kernel_rfl) (fun _ _ _ h => h) (Or.inl ⟨by rfl, ?hy8⟩) (by assumption) ?_
  case hy8 => (intro w hSw; (try dsimp only at hSw); (go_simp <;> with_reducible rfl))
  try simp only [Act.put, List.setIfInBounds_toArray, List.set_cons_zero, List.set_cons_succ]
  refine wpAnyH_take (i := 9) (oi := { dst := some 15, op := Op.move (Operand.tmp 0), type := 9, pos := "ref.go:45", after := #[{ on := 8, ground := Ground.guard }], guard := some (8, false) }) (v := ?_) rfl (by kernel_rfl) (by kernel_rfl) (by kernel_rfl) (fun _ _ _ h => h) (Or.inl ⟨by rfl, ?hy9⟩) (by assumption) ?_
  case hy9 => (intro w hSw; (try dsimp only at hSw); (go_simp <;> with_reducible rfl))
  try simp only [Act.put, List.setIfInBounds_toArray, List.set_cons_zero, List.set_cons_succ]
  refine wpAnyH_take (i := 10) (oi := { dst := some 16, op := Op.slice 9 (Operand.tmp 15) none (some (Operand.const (Value.int IntKind.i64 4))) none, type := 9, pos := "ref.go:45", after := #[{ on := 9, ground := Ground.data }, { on := 8, ground := Ground.guard }], guard := some (8, false) }) (v := ?_) rfl (by kernel_rfl) (by kernel_rfl) (by kernel_rfl) (fun _ _ _ h => h) (Or.inl ⟨by rfl, ?hy10⟩) (by assumption) ?_
  case hy10 => (intro w hSw; (try dsimp only at hSw); (go_simp <;> with_reducible rfl))
  try simp only [Act.put, List.setIfInBounds_toArray, List.set_cons_zero, List.set_cons_succ]
  refine wpAnyH_take (i := 11) (oi := { dst := some 17, op := Op.binOp BinOp.neq 9 (Operand.tmp 16) (Operand.const (Value.string { data := #[82, 85, 66, 49] })) 9, type := 4, pos := "ref.go:45", after := #[{ on := 10, ground := Ground.data }, { on := 8, ground := Ground.guard }], guard := some (8, false) }) (v := ?_) rfl (by kernel_rfl) (by kernel_rfl) (by kernel_rfl) (fun _ _ _ h => h) (Or.inl ⟨by rfl, ?hy11⟩) (by assumption) ?_
  case hy11 => (intro w hSw; (try dsimp only at hSw); (go_simp <;> with_reducible rfl))
  try simp only [Act.put, List.setIfInBounds_toArray, List.set_cons_zero, List.set_cons_succ]
  refine wpAnyH_take (i := 12) (oi := { dst := some 18, op := Op.pick (Operand.tmp 14) (Operand.const (Value.bool true)) (Operand.tmp 17), type := 4, pos := "ref.go:45", after := #[{ on := 8, ground := Ground.data }, { on := 11, ground := Ground.data }], guard := none }) (v := ?_) rfl (by kernel_rfl) (by kernel_rfl) (by kernel_rfl) (fun _ _ _ h => h) (Or.inl ⟨by rfl, ?hy12⟩) (by assumption) ?_
  case hy12 => (intro w hSw; (try dsimp only at hSw); (go_simp <;> with_reducible rfl))
  try simp only [Act.put, List.setIfInBounds_toArray, List.set_cons_zero, List.set_cons_succ]
  refine wpAnyH_take (i := 13) (oi := { dst := some 19, op := Op.move (Operand.tmp 18), type := 4, pos := "ref.go:45", after := #[{ on := 12, ground := Ground.data }, { on := 8, ground := Ground.chain }], guard := none }) (v := ?_) rfl (by kernel_rfl) (by kernel_rfl) (by kernel_rfl) (fun _ _ _ h => h) (Or.inl ⟨by rfl, ?hy13⟩) (by assumption) ?_
  case hy13 => (intro w hSw; (try dsimp only at hSw); (go_simp <;> with_reducible rfl))
  try simp only [Act.put, List.setIfInBounds_toArray, List.set_cons_zero, List.set_cons_succ]
  refine wpAnyH_take (i := 14) (oi := { dst := some 20, op := Op.move (Operand.tmp 0), type := 9, pos := "ref.go:45", after := #[{ on := 13, ground := Ground.guard }], guard := some (13, false) }) (v := ?_) rfl (by kernel_rfl) (by kernel_rfl) (by kernel_rfl) (fun _ _ _ h => h) (Or.inl ⟨by rfl, ?hy14⟩) (by assumption) ?_
  case hy14 => (intro w hSw; (try dsimp only at hSw); (go_simp <;> with_reducible rfl))
  try simp only [Act.put, List.setIfInBounds_toArray, List.set_cons_zero, List.set_cons_succ]
  refine wpAnyH_take (i := 16) (oi := { dst := some 22, op := Op.move (Operand.tmp 0), type := 9, pos := "ref.go:45", after := #[{ on := 13, ground := Ground.guard }], guard := some (13, false) }) (v := ?_) rfl (by kernel_rfl) (by kernel_rfl) (by kernel_rfl) (fun _ _ _ h => h) (Or.inl ⟨by rfl, ?hy16⟩) (by assumption) ?_
  case hy16 => (intro w hSw; (try dsimp only at hSw); (go_simp <;> with_reducible rfl))
  try simp only [Act.put, List.setIfInBounds_toArray, List.set_cons_zero, List.set_cons_succ]
  refine wpAnyH_take (i := 17) (oi := { dst := some 23, op := Op.call { callee := Callee.builtin Builtin.len, args := #[Operand.tmp 22], argTypes := #[9] }, type := 3, pos := "ref.go:45", after := #[{ on := 16, ground := Ground.data }, { on := 13, ground := Ground.guard }], guard := some (13, false) }) (v := ?_) rfl (by kernel_rfl) (by kernel_rfl) (by kernel_rfl) (fun _ _ _ h => h) (Or.inl ⟨by rfl, ?hy17⟩) (by assumption) ?_
  case hy17 => (intro w hSw; (try dsimp only at hSw); (go_simp <;> with_reducible rfl))
  try simp only [Act.put, List.setIfInBounds_toArray, List.set_cons_zero, List.set_cons_succ]
  refine wpAnyH_take (i := 18) (oi := { dst := some 24, op := Op.convert 3 22 (Operand.tmp 23), type := 22, pos := "ref.go:45", after := #[{ on := 17, ground := Ground.data }, { on := 13, ground := Ground.guard }], guard := some (13, false) }) (v := ?_) rfl (by kernel_rfl) (by kernel_rfl) (by kernel_rfl) (fun _ _ _ h => h) (Or.inl ⟨by rfl, ?hy18⟩) (by assumption) ?_
  case hy18 => (intro w hSw; (try dsimp only at hSw); (go_simp <;> with_reducible rfl))
  try simp only [Act.put, List.setIfInBounds_toArray, List.set_cons_zero, List.set_cons_succ]
  refine wpAnyH_ready (rs := [15]) (by kernel_rfl) (by simp) ?_
  refine AllReadyH.cons (o := { dst := some 21, op := Op.call { callee := Callee.value (Operand.func 39), args := #[Operand.tmp 20, Operand.const (Value.int IntKind.i64 4), Operand.const (Value.int IntKind.i64 4)], argTypes := #[9, 3, 3] }, type := 22, pos := "ref.go:45", after := #[{ on := 14, ground := Ground.data }, { on := 13, ground := Ground.chain }, { on := 13, ground := Ground.guard }], guard := some (13, false) }) rfl (fun K hK => ?_) (AllReadyH.nil)
  go_simp
  (go_at_call 39; ((with_reducible refine (KN.out W.drew).mono ?_); rintro r w1 ⟨rfl, hg⟩); have H1 := Lib.hid (HKd.out.far (gtrans hg (World.grownBy_alloc w1 (.cells (madeCells #[.int .u8 0] Z) 5) none))); clear hg)
  refine hK.out _ _ ?_ (fun hHeld => ?_)
  · trivial
  clear hK K
  try simp only [Act.put, List.setIfInBounds_toArray, List.set_cons_zero, List.set_cons_succ]
  refine wpAnyH_take (i := 19) (oi := { dst := some 25, op := Op.binOp BinOp.neq 22 (Operand.tmp 21) (Operand.tmp 24) 22, type := 4, pos := "ref.go:45", after := #[{ on := 15, ground := Ground.data }, { on := 18, ground := Ground.data }, { on := 13, ground := Ground.guard }], guard := some (13, false) }) (v := ?_) rfl (by kernel_rfl) (by kernel_rfl) (by kernel_rfl) (fun _ _ _ h => h) (Or.inl ⟨by rfl, ?hy19⟩) (by assumption) ?_
  case hy19 => (intro w hSw; (try dsimp only at hSw); (go_simp <;> with_reducible rfl))
  try simp only [Act.put, List.setIfInBounds_toArray, List.set_cons_zero, List.set_cons_succ]
  refine wpAnyH_take (i := 20) (oi := { dst := some 26, op := Op.pick (Operand.tmp 19) (Operand.const (Value.bool true)) (Operand.tmp 25), type := 4, pos := "ref.go:45", after := #[{ on := 13, ground := Ground.data }, { on := 19, ground := Ground.data }], guard := none }) (v := ?_) rfl (by kernel_rfl) (by kernel_rfl) (by kernel_rfl) (fun _ _ _ h => h) (Or.inl ⟨by rfl, ?hy20⟩) (by assumption) ?_
  case hy20 => (intro w hSw; (try dsimp only at hSw); (go_simp <;> with_reducible rfl))
  try simp only [Act.put, List.setIfInBounds_toArray, List.set_cons_zero, List.set_cons_succ]
  refine wpAnyH_take (i := 21) (oi := { dst := some 27, op := Op.move (Operand.tmp 26), type := 4, pos := "ref.go:45", after := #[{ on := 20, ground := Ground.data }, { on := 15, ground := Ground.chain }], guard := none }) (v := ?_) rfl (by kernel_rfl) (by kernel_rfl) (by kernel_rfl) (fun _ _ _ h => h) (Or.inl ⟨by rfl, ?hy21⟩) (by assumption) ?_
  case hy21 => (intro w hSw; (try dsimp only at hSw); (go_simp <;> with_reducible rfl))
  try simp only [Act.put, List.setIfInBounds_toArray, List.set_cons_zero, List.set_cons_succ]
  refine wpAnyH_take (i := 22) (oi := { dst := some 28, op := Op.move (Operand.tmp 0), type := 9, pos := "ref.go:45", after := #[{ on := 21, ground := Ground.guard }], guard := some (21, false) }) (v := ?_) rfl (by kernel_rfl) (by kernel_rfl) (by kernel_rfl) (fun _ _ _ h => h) (Or.inl ⟨by rfl, ?hy22⟩) (by assumption) ?_
  case hy22 => (intro w hSw; (try dsimp only at hSw); (go_simp <;> with_reducible rfl))
  try simp only [Act.put, List.setIfInBounds_toArray, List.set_cons_zero, List.set_cons_succ]
  refine wpAnyH_take (i := 23) (oi := { dst := some 29, op := Op.slice 9 (Operand.tmp 28) (some (Operand.const (Value.int IntKind.i64 32))) none none, type := 9, pos := "ref.go:45", after := #[{ on := 22, ground := Ground.data }, { on := 21, ground := Ground.guard }], guard := some (21, false) }) (v := ?_) rfl (by kernel_rfl) (by kernel_rfl) (by kernel_rfl) (fun _ _ _ h => h) (Or.inl ⟨by rfl, ?hy23⟩) (by assumption) ?_
  case hy23 => (intro w hSw; (try dsimp only at hSw); (go_simp <;> with_reducible rfl))
  try simp only [Act.put, List.setIfInBounds_toArray, List.set_cons_zero, List.set_cons_succ]
  refine wpAnyH_take (i := 24) (oi := { dst := some 30, op := Op.move (Operand.tmp 0), type := 9, pos := "ref.go:45", after := #[{ on := 21, ground := Ground.guard }], guard := some (21, false) }) (v := ?_) rfl (by kernel_rfl) (by kernel_rfl) (by kernel_rfl) (fun _ _ _ h => h) (Or.inl ⟨by rfl, ?hy24⟩) (by assumption) ?_
  case hy24 => (intro w hSw; (try dsimp only at hSw); (go_simp <;> with_reducible rfl))
  try simp only [Act.put, List.setIfInBounds_toArray, List.set_cons_zero, List.set_cons_succ]
  refine wpAnyH_take (i := 25) (oi := { dst := some 31, op := Op.call { callee := Callee.builtin Builtin.len, args := #[Operand.tmp 30], argTypes := #[9] }, type := 3, pos := "ref.go:45", after := #[{ on := 24, ground := Ground.data }, { on := 21, ground := Ground.guard }], guard := some (21, false) }) (v := ?_) rfl (by kernel_rfl) (by kernel_rfl) (by kernel_rfl) (fun _ _ _ h => h) (Or.inl ⟨by rfl, ?hy25⟩) (by assumption) ?_
  case hy25 => (intro w hSw; (try dsimp only at hSw); (go_simp <;> with_reducible rfl))
  try simp only [Act.put, List.setIfInBounds_toArray, List.set_cons_zero, List.set_cons_succ]
  refine wpAnyH_take (i := 26) (oi := { dst := some 32, op := Op.binOp BinOp.sub 3 (Operand.tmp 31) (Operand.const (Value.int IntKind.i64 32)) 3, type := 3, pos := "ref.go:45", after := #[{ on := 25, ground := Ground.data }, { on := 21, ground := Ground.guard }], guard := some (21, false) }) (v := ?_) rfl (by kernel_rfl) (by kernel_rfl) (by kernel_rfl) (fun _ _ _ h => h) (Or.inl ⟨by rfl, ?hy26⟩) (by assumption) ?_
  case hy26 => (intro w hSw; (try dsimp only at hSw); (go_simp <;> with_reducible rfl))
  try simp only [Act.put, List.setIfInBounds_toArray, List.set_cons_zero, List.set_cons_succ]
  refine wpAnyH_ready (rs := [27]) (by kernel_rfl) (by simp) ?_
  refine AllReadyH.cons (o := { dst := some 33, op := Op.makeSlice 33 (Operand.tmp 32) (Operand.tmp 32), type := 33, pos := "ref.go:45", after := #[{ on := 26, ground := Ground.data }, { on := 26, ground := Ground.data }, { on := 21, ground := Ground.guard }], guard := some (21, false) }) rfl (fun K hK => ?_) (AllReadyH.nil)
  go_simp
  refine hK.out _ _ ?_ (fun hHeld => ?_)
  · trivial
  clear hK K
  try simp only [Act.put, List.setIfInBounds_toArray, List.set_cons_zero, List.set_cons_succ]
  refine wpAnyH_ready (rs := [28]) (by kernel_rfl) (by simp) ?_
  refine AllReadyH.cons (o := { dst := some 34, op := Op.convert 33 9 (Operand.tmp 33), type := 9, pos := "ref.go:45", after := #[{ on := 27, ground := Ground.data }, { on := 21, ground := Ground.guard }], guard := some (21, false) }) rfl (fun K hK => ?_) (AllReadyH.nil)
  go_simp
  refine hK.out _ _ ?_ (fun hHeld => ?_)
  · trivial
  clear hK K
  try simp only [Act.put, List.setIfInBounds_toArray, List.set_cons_zero, List.set_cons_succ]
  refine wpAnyH_take (i := 29) (oi := { dst := some 35, op := Op.binOp BinOp.neq 9 (Operand.tmp 29) (Operand.tmp 34) 9, type := 4, pos := "ref.go:45", after := #[{ on := 23, ground := Ground.data }, { on := 28, ground := Ground.data }, { on := 21, ground := Ground.guard }], guard := some (21, false) }) (v := ?_) rfl (by kernel_rfl) (by kernel_rfl) (by kernel_rfl) (fun _ _ _ h => h) (Or.inl ⟨by rfl, ?hy29⟩) (by assumption) ?_
  case hy29 => (intro w hSw; (try dsimp only at hSw); (go_simp <;> with_reducible rfl))
  try simp only [Act.put, List.setIfInBounds_toArray, List.set_cons_zero, List.set_cons_succ]
  refine wpAnyH_take (i := 30) (oi := { dst := some 36, op := Op.pick (Operand.tmp 27) (Operand.const (Value.bool true)) (Operand.tmp 35), type := 4, pos := "ref.go:45", after := #[{ on := 21, ground := Ground.data }, { on := 29, ground := Ground.data }], guard := none }) (v := ?_) rfl (by kernel_rfl) (by kernel_rfl) (by kernel_rfl) (fun _ _ _ h => h) (Or.inl ⟨by rfl, ?hy30⟩) (by assumption) ?_
  case hy30 => (intro w hSw; (try dsimp only at hSw); (go_simp <;> with_reducible rfl))
  try simp only [Act.put, List.setIfInBounds_toArray, List.set_cons_zero, List.set_cons_succ]
  refine wpAnyH_done (by kernel_rfl) ?_ _
  generalize w1.alloc (.cells (madeCells #[.int .u8 0] Z) 5) = W1 at H1 ⊢
  clear hmk hcz
  go_wp2
  have HKe := Lib.hid (show KS7 w.heap.size w W1.drew from H1.out.far (gdrew _))
  go_region_held3 (fun _ => True) (trivial) (first
    | (go_at_call 39; ((with_reducible refine (KX.out W1.drew).mono ?_); rintro r w2 ⟨rfl, hg⟩); have H2 := Lib.hid (HKe.out.far hg); clear hg)
    | (go_at_call 31; ((with_reducible refine (KT.out w2).mono ?_); rintro r w3 ⟨rfl, rfl⟩)))
  go_wp2_with (first
    | (go_at_call 39; ((with_reducible refine (K8.out w2).mono ?_); rintro r w4 ⟨rfl, hg⟩); have H4 := Lib.hid (H2.out.far hg); clear hg)
    | (go_at_call 39; ((with_reducible refine (K16.out w4).mono ?_); rintro r w5 ⟨rfl, hg⟩); have H5 := Lib.hid (H4.out.far hg); clear hg)
    | (go_at_call 39; ((with_reducible refine (K20.out w5).mono ?_); rintro r w6 ⟨rfl, hg⟩); have H6 := Lib.hid (H5.out.far hg); clear hg)
    | (go_at_call 39; ((with_reducible refine (K24.out w6).mono ?_); rintro r w7 ⟨rfl, hg⟩); have H7 := Lib.hid (H6.out.far (gtrans hg (World.grownBy_alloc w7 (.cells #[.int .u64 (M.t : Int), .int .u32 (M.e : Int), .int .u32 (M.m : Int), .int .u32 (M.f : Int)] 30) none))); have HM7 := Lib.hid (heap_alloc_new w7 (.cells #[.int .u64 (M.t : Int), .int .u32 (M.e : Int), .int .u32 (M.m : Int), .int .u32 (M.f : Int)] 30)); clear hg)
    | (go_at_call 15; have K := kright_any M (w7.alloc (.cells #[.int .u64 (M.t : Int), .int .u32 (M.e : Int), .int .u32 (M.m : Int), .int .u32 (M.f : Int)] 30)); rw [show mtC M = #[.int .u64 (M.t : Int), .int .u32 (M.e : Int), .int .u32 (M.m : Int), .int .u32 (M.f : Int)] from rfl, hr] at K; ((with_reducible refine K.mono ?_); clear K; rintro r w8 ⟨rfl, hg⟩); have H8 := Lib.hid (H7.out.far hg); have HM8 := Lib.hid ((hg.block _ (lt_of_block HM7.out) (by simp)).trans HM7.out); obtain ⟨⟨z0, z1, z2, z3⟩, f0, f1, f2, f3⟩ := cells4 H8.out.hq; obtain ⟨⟨y0, y1, y2, y3⟩, _⟩ := cells4 HM8.out; clear hg))
  exact bodyPost_ret (results_K rfl _ _ w.heap.size _ _ rfl rfl (store4 H8.out.hq _ _ _ _) rfl) rfl ⟨by rw [mgetM_yes HE.out, HE.out, ← HMe.out]; rfl, H8.out.fin _ _ _ _⟩

theorem kget_any (w : World) (b : List Int) (hb : Byt b) (hl : b.length ≤ 140737488355328) :
    Calls Try.prog 19 #[.string (strOfNums b)] w fun r w' => GotM b w w' r := by
  by_cases h1 : b.length < 512
  · exact kget_a w b hb hl h1
  by_cases h2 : 4096 < b.length
  · exact kget_a2 w b hb hl h2
  have hs : 512 ≤ b.length ∧ b.length ≤ 4096 := by omega
  by_cases h3 : b.take 4 = RUB
  · by_cases h4 : fld b 4 4 = (b.length : Int)
    · cases h5 : allZ (b.drop 32)
      · exact kget_b w b hb hl hs h3 h4 h5
      · by_cases h6 : fld b 28 4 = ((crcN (b.take 28) : Nat) : Int)
        · cases h7 : mright (mtOf b)
          · exact kget_f w b hb hl hs h3 h4 h5 h6 h7
          · exact kget_g w b hb hl hs h3 h4 h5 h6 h7
        · exact kget_e w b hb hl hs h3 h4 h5 h6
    · exact kget_d w b hb hl hs h3 h4
  · exact kget_c w b hb hl hs h3

end Go.Proofs.Ytnggebohefbopaa
