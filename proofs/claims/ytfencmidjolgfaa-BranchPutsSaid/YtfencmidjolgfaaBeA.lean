/-
  Layer 5: the law's entries: words; append from a row that may be nil. Own work.
-/
import Derived.Test.YtfencmidjolgfaaRaws5
import Derived.Test.YtfencmidjolgfaaEntE
namespace Go.Proofs.Ytfencmidjolgfaa
open Go.RowKit

theorem run_append_none5 {P : Program} {w : World} (base : Nat) (t ty e : TypeId) (i : TypeInfo) (size : Nat) (ht : P.underlying t = some (.slice e)) (hi : P.info? e = some i)
    (v : Value) (n c : Nat) (xs : List Value) (hown : w.ownsRow base e size v n xs) : (Builtin.append_ #[t, t] ty #[v, .slice none 0 c]).run P w = .ok v w := by
  rcases hown.2 with ⟨rfl, rfl⟩ | ⟨g, cap, cur, rfl, _, _, hnc, _⟩
  · simp [Builtin.append_, run_underlying ht, sizeOf, typeInfo, hi, Builtin.lenOf, Builtin.firstCells]
  · simp [Builtin.append_, run_underlying ht, sizeOf, typeInfo, hi, Builtin.lenOf, Builtin.firstCells, hnc, storeCells]
/-- append onto a row of the call's own, out of a slice that may be nil. -/
theorem wpList_append_any {P : Program} (w : World) {ops : Array Oper} {rest : List Oper} {o : Oper} {a : Act} {Q : Exit → Act → World → Prop} (hgd : o.guard = none) (s x : Operand) (t : TypeId)
    (ho : o.op = .call { callee := .builtin .append, args := #[s, x], argTypes := #[t, t] })
    (base : Nat) (e : TypeId) (i : TypeInfo) (z : Value) (size bytes : Nat) (ht : P.underlying t = some (.slice e)) (hi : P.info? e = some i) (hz : i.zero = some z)
    (hsize : i.size = size) (hby : i.bytes = bytes) (hzs : z.cells.size = size) (hsz : 0 < size)
    (v : Value) (n : Nat) (xs : List Value) (hs : a.eval s = v) (hown : w.ownsRow base e size v n xs)
    (sa : Option Addr) (m c : Nat) (news : List Value) (hx : a.eval x = .slice sa m c) (hl : news.length = m * size) (hsa : sa = none → m = 0) (hnews : ∀ ad, sa = some ad → ∀ j u, news[j]? = some u → w.cell? (ad.add j) = some u) (h1 : ∀ u ∈ news, u.oneCell' = true)
    (h63 : n + m ≤ maxLen) (hbytes : (n + m) * bytes ≤ 140737488355328) (hbase : base ≤ w.heap.size)
    (h : ∀ v' w', w'.ownsRow base e size v' (n + m) (xs ++ news) → w.grownBy w' v.ownBlock → wpList P ops Q rest (a.put o.dst v') w') : wpList P ops Q (o :: rest) a w := by
  cases sa with
  | none =>
    obtain rfl := hsa rfl
    have hn : news = [] := List.eq_nil_of_length_eq_zero (by simpa using hl)
    subst hn
    refine wpList_plain hgd fun K hK => ?_
    have hrun := run_append_none5 (P := P) (w := w) base t o.type e i size ht hi v n c xs hown
    unfold Oper.wp
    simp [execOp, ho, resolve, invoke, builtin, hs, hx, hrun, Result.andThen]
    exact hK _ _ (h v w (by simpa using hown) (grefl _ _))
  | some ad => exact wpList_append_own2 w hgd s x t ho base e i z size bytes ht hi hz hsize hby hzs hsz v n xs hs hown ad m c news hx hl (hnews ad rfl) h1 h63 hbytes hbase fun v' w' h2 h3 _ => h v' w' h2 h3

/-- What is told of the entries. -/
structure Fine5 (sorted : Bool) (k : Nat) (X : List En) : Prop where
  len : X.length ≤ k
  ok : ∀ x ∈ X, BOk x ∧ x.key.length ≤ 120
  rise : sorted = true → Rise X
theorem Fine5.nil (s : Bool) : Fine5 s 0 [] := ⟨Nat.le_refl _, (fun x hx => by cases hx), (fun _ i j x y _ hx => by simp at hx)⟩
theorem Fine5.up {s : Bool} {k : Nat} {X : List En} (h : Fine5 s k X) : Fine5 s (k + 1) X := ⟨by have := h.len; omega, h.ok, h.rise⟩
theorem Fine5.ins {s : Bool} {k p : Nat} {X : List En} {x : En} (h : Fine5 s k X) (hx : BOk x ∧ x.key.length ≤ 120) (hp : p ≤ X.length) (hs : s = true → PosOf X x.key p ∧ ¬ FoundAt X x.key p) : Fine5 s (k + 1) (insE X x p) := by
  refine ⟨by rw [insE_len hp]; have := h.len; omega, fun y hy => ?_, fun e => ?_⟩
  · rcases insE_mem hy with hy | rfl
    · exact h.ok y hy
    · exact hx
  · exact insE_rise (h.rise e) (hs e).1 (hs e).2
theorem insE_cells (X : List En) (x : En) (p : Nat) : (([] ++ (X.take p).flatMap rcl5) ++ [x].flatMap rcl5) ++ (X.drop p).flatMap rcl5 = (insE X x p).flatMap rcl5 := by
  simp [insE, List.flatMap_append]
/-- Where the place stands, k keys seen. -/
def atK (X : List En) (key : List Int) (m k : Nat) : Nat := if firstP X key < k then firstP X key else m

end Go.Proofs.Ytfencmidjolgfaa
