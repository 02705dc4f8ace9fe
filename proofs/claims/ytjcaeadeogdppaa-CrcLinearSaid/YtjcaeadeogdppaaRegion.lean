/-
  A region that draws its order, by what is known of each of its operations' values: one proof an operation, whatever the order. Own work; of no program.
-/
import Derived.WalkKit
import Derived.Orders
import Derived.RegionTactic
namespace Go.Proofs.Ytjcaeadeogdppaa
open Go.RowKit

section
variable {P : Program} {ops : Array Oper} {Q : Exit → Act → World → Prop} {md : Region.Mode}

/-- How many operations have not come up yet. -/
def unl (n : Nat) (L : Array Bool) : Nat := (List.range n).countP fun i => !L.getD i true

theorem unl_set {n : Nat} {L : Array Bool} {i : Nat} (hi : i < n) (hL : L.getD i true = false) : unl n (L.setIfInBounds i true) + 1 ≤ unl n L := by
  unfold unl
  have hsz : i < L.size := by
    rcases Nat.lt_or_ge i L.size with h | h
    · exact h
    · simp [Array.getElem?_eq_none h] at hL
  have hkey : ∀ l : List Nat, l.Nodup → l.countP (fun j => !(L.setIfInBounds i true).getD j true) + (if i ∈ l then 1 else 0) = l.countP fun j => !L.getD j true := by
    intro l
    induction l with
    | nil => simp
    | cons j l ih =>
      intro hnd
      obtain ⟨hj, hnd⟩ := List.nodup_cons.1 hnd
      have ih := ih hnd
      by_cases e : j = i
      · subst e
        have h1 : (L.setIfInBounds j true).getD j true = true := by simp [hsz]
        rw [if_neg hj] at ih
        simp only [List.countP_cons, h1, hL, List.mem_cons_self, if_true, Bool.not_true, Bool.not_false, Bool.false_eq_true, if_false]
        omega
      · have h1 : (L.setIfInBounds i true).getD j true = L.getD j true := by
          simp only [Array.getD_eq_getD_getElem?, Array.getElem?_setIfInBounds_ne (Ne.symm e)]
        have h2 : (i ∈ j :: l) = (i ∈ l) := by apply propext; simp [List.mem_cons, Ne.symm e]
        simp only [List.countP_cons, h1, h2]
        omega
  have := hkey (List.range n) List.nodup_range
  rw [if_pos (List.mem_range.2 hi)] at this
  omega

theorem ready_none {L : Array Bool} (h : unl ops.size L = 0) : Region.ready md ops L = [] := by
  unfold Region.ready
  rw [List.filter_eq_nil_iff]
  intro i hi
  have := List.countP_eq_zero.1 h i hi
  simp only [Bool.not_eq_true', Bool.not_eq_false] at this
  simp [this]

/-- What holds of what has come up, the temporaries and the world holds at the end, whatever the order. -/
theorem wpAny_inv (I : Array Bool → Act → World → Prop)
    (step : ∀ L a w i, I L a w → i ∈ Region.ready md ops L → wpOp P ops Q i (fun a' w' => I (L.setIfInBounds i true) a' w') a w)
    (fin : ∀ L a w, I L a w → Region.ready md ops L = [] → Q .normal a w) :
    ∀ (fuel : Nat) (L : Array Bool) (a : Act) (w : World), unl ops.size L ≤ fuel → I L a w → wpAny P md ops Q fuel L a w
  | 0, L, a, w, hf, hI => by
    have hr : Region.ready md ops L = [] := ready_none (by omega)
    exact ⟨hr, fin L a w hI hr⟩
  | fuel + 1, L, a, w, hf, hI => by
    refine ⟨fin L a w hI, fun i hi => wpOp_mono (fun a' w' h => ?_) (step L a w i hI hi)⟩
    obtain ⟨hun, o, ho, _⟩ := mem_ready.1 hi
    have := unl_set (n := ops.size) (Array.getElem?_eq_some_iff.1 ho).1 hun
    exact wpAny_inv I step fin fuel _ a' w' (by omega) h

/-- Each operation leaves its value in a temporary of its own, below n. -/
def apartB (ops : Array Oper) (n : Nat) : Bool :=
  (List.range ops.size).all fun i => match (ops[i]?).bind (·.dst) with
    | some d => decide (d < n) && (List.range ops.size).all fun j => i == j || ((ops[j]?).bind (·.dst)) != some d
    | none => false

theorem apartB_spec {n : Nat} (h : apartB ops n = true) {i : Nat} {o : Oper} (hi : ops[i]? = some o) :
    ∃ d, o.dst = some d ∧ d < n ∧ ∀ j o', ops[j]? = some o' → o'.dst = some d → j = i := by
  simp only [apartB, List.all_eq_true, List.mem_range] at h
  have h1 := h i (Array.getElem?_eq_some_iff.1 hi).1
  rw [hi] at h1
  simp only [Option.bind_some] at h1
  cases hd : o.dst with
  | none => rw [hd] at h1; simp at h1
  | some d =>
    rw [hd] at h1
    simp only [Bool.and_eq_true, decide_eq_true_eq, List.all_eq_true, List.mem_range, Bool.or_eq_true, beq_iff_eq, bne_iff_ne, ne_eq] at h1
    refine ⟨d, rfl, h1.1, fun j o' hj hd' => ?_⟩
    rcases h1.2 j (Array.getElem?_eq_some_iff.1 hj).1 with h2 | h2
    · exact h2.symm
    · rw [hj] at h2; simp [hd'] at h2

/-- Each operation waits for earlier ones alone. -/
def downB (ops : Array Oper) : Bool := (List.range ops.size).all fun i => match ops[i]? with
  | some o => o.after.all fun e => decide (e.on < i)
  | none => false
theorem all_listed (hdn : downB ops = true) {L : Array Bool} (hL : L.size = ops.size) (hr : Region.ready md ops L = []) : ∀ e, e < ops.size → L.getD e false = true := by
  intro e
  induction e using Nat.strongRecOn with
  | _ e ih =>
    intro he
    have ho : ops[e]? = some ops[e] := Array.getElem?_eq_getElem he
    cases hc : L.getD e false with
    | true => rfl
    | false =>
      exfalso
      have hmem : e ∈ Region.ready md ops L := by
        refine mem_ready.2 ⟨?_, _, ho, fun x hx _ => ?_⟩
        · have h : e < L.size := by omega
          simp only [Array.getD_eq_getD_getElem?, Array.getElem?_eq_getElem h, Option.getD_some] at hc ⊢
          exact hc
        · simp only [downB, List.all_eq_true, List.mem_range] at hdn
          have h1 := hdn e he
          rw [ho] at h1
          simp only [Array.all_eq_true_iff_forall_mem, decide_eq_true_eq] at h1
          have h2 := h1 x hx
          exact ih x.on h2 (by omega)
      rw [hr] at hmem
      cases hmem

/-- The temporaries that no operation of the region writes. -/
def Rest (ops : Array Oper) (T : Array Value) (a : Act) : Prop := ∀ s, ((List.range ops.size).all fun j => ((ops[j]?).bind (·.dst)) != some s) = true → a.tmps.getD s undef = T.getD s undef
/-- What operation e has left. -/
def Left (ops : Array Oper) (F : Nat → Value → World → Prop) (a : Act) (w : World) (e : Nat) : Prop := ∀ o d, ops[e]? = some o → o.dst = some d → F e (a.tmps.getD d undef) w

theorem wp_region_facts {id : Nat} {a : Act} {w : World} (F : Nat → Value → World → Prop) (hm : P.follows .mixedOrders = true) (hap : apartB ops a.tmps.size = true) (hdn : downB ops = true)
    (mono : ∀ i v w1 w2, F i v w1 → w1.grownBy w2 none → F i v w2)
    (step : ∀ i o, ops[i]? = some o → ∀ (a' : Act) (w' : World), Rest ops a.tmps a' → w.grownBy w' none → (∀ e ∈ o.after, Region.binds .any e = true → Left ops F a' w' e.on) →
      Region.wanted o (yielded ops a'.tmps) = true ∧ o.wp P a' w' (fun a'' w'' => ∃ v, a'' = a'.put o.dst v ∧ F i v w'' ∧ w'.grownBy w'' none) Q)
    (fin : ∀ (a' : Act) (w' : World), Rest ops a.tmps a' → a'.tmps.size = a.tmps.size → a'.defers = a.defers → w.grownBy w' none → (∀ e, e < ops.size → Left ops F a' w' e) → Q .normal a' w') :
    (Code.region id ops true).wp P Q a w := by
  refine wp_region_any hm ?_
  refine wpAny_inv (fun L a' w' => L.size = ops.size ∧ a'.defers = a.defers ∧ a'.tmps.size = a.tmps.size ∧ Rest ops a.tmps a' ∧ w.grownBy w' none ∧ ∀ e, L.getD e false = true → Left ops F a' w' e) ?_ ?_ ops.size _ a _ ?_ ?_
  · rintro L a' w' i ⟨hLs, hde, hsz, hrest, hg, hleft⟩ hi
    obtain ⟨hun, o, ho, haft⟩ := mem_ready.1 hi
    obtain ⟨d, hd, hdn, huniq⟩ := apartB_spec hap ho
    have hiL : i < ops.size := (Array.getElem?_eq_some_iff.1 ho).1
    obtain ⟨hw, hwp⟩ := step i o ho a' w' hrest hg fun e he hb => hleft e.on (haft e he hb)
    refine wpOp_step ho fun K' hK => ?_
    rw [if_pos hw]
    refine Oper.wp_mono (fun a'' w'' h => ?_) hwp
    obtain ⟨v, rfl, hF, hg2⟩ := h
    apply hK
    have hput : ∀ s, (a'.put o.dst v).tmps.getD s undef = if s = d then v else a'.tmps.getD s undef := fun s => by
      rw [hd]
      show (a'.tmps.setIfInBounds d v).getD s undef = _
      by_cases e : s = d
      · subst e
        simp [Array.getElem?_setIfInBounds, hsz, hdn]
      · rw [if_neg e]
        simp only [Array.getD_eq_getD_getElem?, Array.getElem?_setIfInBounds_ne (Ne.symm e)]
    refine ⟨by simpa using hLs, by rw [hd]; exact hde, by rw [hd]; simpa [Act.put] using hsz, fun s hs => ?_, ?_, fun e he o' d' ho' hd' => ?_⟩
    · rw [hput, if_neg, hrest s hs]
      rintro rfl
      rw [List.all_eq_true] at hs
      have := hs i (List.mem_range.2 hiL)
      rw [ho] at this
      simp [hd] at this
    · exact ⟨hg2.os.trans hg.os, hg2.tape.trans hg.tape, hg2.output.trans hg.output, Nat.le_trans hg.size hg2.size, fun i hi hn => (hg2.block i (Nat.lt_of_lt_of_le hi hg.size) hn).trans (hg.block i hi hn)⟩
    · rw [hput]
      by_cases hei : e = i
      · subst hei
        rw [ho] at ho'
        obtain rfl := Option.some.inj ho'
        rw [hd] at hd'
        obtain rfl := Option.some.inj hd'
        rw [if_pos rfl]; exact hF
      · have : d' ≠ d := fun h => by subst h; exact hei (huniq e o' ho' hd')
        rw [if_neg this]
        refine mono _ _ _ _ (hleft e ?_ o' d' ho' hd') hg2
        simpa only [Array.getD_eq_getD_getElem?, Array.getElem?_setIfInBounds_ne (Ne.symm hei)] using he
  · rintro L a' w' ⟨hLs, hde, hsz, hrest, hg, hleft⟩ hr
    refine fin a' w' hrest hsz hde hg fun e he => ?_
    exact hleft e (all_listed hdn hLs hr e he)
  · unfold unl; exact Nat.le_trans List.countP_le_length (by simp)
  · refine ⟨by simp, rfl, rfl, fun s _ => rfl, ⟨rfl, rfl, rfl, Nat.le_refl _, fun _ _ _ => rfl⟩, fun e he => ?_⟩
    have h0 : (Array.replicate ops.size false).getD e false = false := by
      simp only [Array.getD_eq_getD_getElem?, Array.getElem?_replicate]
      split <;> rfl
    rw [h0] at he
    cases he

/-- What is asked of each operation, one behind the other. -/
def Steps (P : Program) (ops : Array Oper) (Q : Exit → Act → World → Prop) (F : Nat → Value → World → Prop) (T : Array Value) (w : World) : Nat → List Oper → Prop
  | _, [] => True
  | i, o :: r => (∀ (a' : Act) (w' : World), Rest ops T a' → w.grownBy w' none → (∀ e ∈ o.after, Region.binds .any e = true → Left ops F a' w' e.on) →
      Region.wanted o (yielded ops a'.tmps) = true ∧ o.wp P a' w' (fun a'' w'' => ∃ v, a'' = a'.put o.dst v ∧ F i v w'' ∧ w'.grownBy w'' none) Q) ∧ Steps P ops Q F T w (i + 1) r
theorem Steps.at {F : Nat → Value → World → Prop} {T : Array Value} {w : World} : ∀ (l : List Oper) (k : Nat), Steps P ops Q F T w k l → ∀ i o, l[i]? = some o → ∀ (a' : Act) (w' : World), Rest ops T a' → w.grownBy w' none → (∀ e ∈ o.after, Region.binds .any e = true → Left ops F a' w' e.on) →
      Region.wanted o (yielded ops a'.tmps) = true ∧ o.wp P a' w' (fun a'' w'' => ∃ v, a'' = a'.put o.dst v ∧ F (k + i) v w'' ∧ w'.grownBy w'' none) Q
  | [], _, _, i, o, hi => by simp at hi
  | x :: l, k, h, 0, o, hi => by
    simp only [List.getElem?_cons_zero, Option.some.injEq] at hi
    subst hi
    exact h.1
  | x :: l, k, h, i + 1, o, hi => by
    simp only [List.getElem?_cons_succ] at hi
    have := Steps.at l (k + 1) h.2 i o hi
    rwa [show k + 1 + i = k + (i + 1) by omega] at this
theorem wp_region_steps {id : Nat} {a : Act} {w : World} (F : Nat → Value → World → Prop) (hm : P.follows .mixedOrders = true) (hap : apartB ops a.tmps.size = true) (hdn : downB ops = true)
    (mono : ∀ i v w1 w2, F i v w1 → w1.grownBy w2 none → F i v w2) (step : Steps P ops Q F a.tmps w 0 ops.toList)
    (fin : ∀ (a' : Act) (w' : World), Rest ops a.tmps a' → a'.tmps.size = a.tmps.size → a'.defers = a.defers → w.grownBy w' none → (∀ e, e < ops.size → Left ops F a' w' e) → Q .normal a' w') :
    (Code.region id ops true).wp P Q a w :=
  wp_region_facts F hm hap hdn mono (fun i o hi => by
    have := Steps.at ops.toList 0 step i o (by simpa using hi)
    simpa only [Nat.zero_add] using this) fin

/-- An operation that yields v. -/
theorem step_val {o : Oper} {a : Act} {w w' : World} {v : Value} {R : Value → World → Prop} (hrun : (execOp a.eval o).run P w = .ok (.value v) w') (hF : R v w') (hg : w.grownBy w' none) :
    o.wp P a w (fun a'' w'' => ∃ v, a'' = a.put o.dst v ∧ R v w'' ∧ w.grownBy w'' none) Q := by
  unfold Oper.wp
  rw [hrun]
  exact ⟨v, rfl, hF, hg⟩
/-- An operation that calls a function of which a contract is known. -/
theorem step_call {o : Oper} {a : Act} {w : World} {f : FuncId} {args : Array Value} {R : Value → World → Prop} {C : Ending → World → Prop} (hrun : (execOp a.eval o).run P w = .ok (.enter f args) w)
    (hc : Calls P f args w C) (hC : ∀ e w', C e w' → ∃ v, e = .returned v ∧ R v w' ∧ w.grownBy w' none) :
    o.wp P a w (fun a'' w'' => ∃ v, a'' = a.put o.dst v ∧ R v w'' ∧ w.grownBy w'' none) Q := by
  unfold Oper.wp
  rw [hrun]
  refine Calls.mono hc fun e w' h => ?_
  obtain ⟨v, rfl, hR, hg⟩ := hC e w' h
  exact ⟨v, rfl, hR, hg⟩

theorem ex_move (ρ : Operand → Value) (o : Oper) (x : Operand) (ho : o.op = .move x) (w : World) : (execOp ρ o).run P w = .ok (.value (ρ x)) w := by
  cases o; simp only at ho; subst ho; rfl
theorem ex_assign (ρ : Operand → Value) (o : Oper) (x : Operand) (ho : o.op = .assign x) (w : World) : (execOp ρ o).run P w = .ok (.value (ρ x)) w := by
  cases o; simp only at ho; subst ho; rfl

end
end Go.Proofs.Ytjcaeadeogdppaa
