/-
  Layer 8: pages as lists of numbers that rise: plain. Own work.
-/
import Derived.Test.YtildjdhoeilcfaaGreatRows
import Derived.WalkKit
import Derived.WalkSpells
import Derived.WalkLawsBesides
import Derived.Lib.Hide
import Derived.ProofKit
import Derived.OpenShut
import Derived.ChangeOld
import Derived.OwnWalk
import Derived.Maps.OwnSet
import Derived.Maps.AppendAt
import Derived.Test.YtildjdhoeilcfaaGreatPgrAA
import Derived.Deep.RegionWith

namespace Go.Proofs.YtildjdhoeilcfaaGreat

def Srt (L : List Nat) : Prop := L.Pairwise (· < ·)
def insS (p : Nat) : List Nat → List Nat
  | [] => [p]
  | y :: r => if p < y then p :: y :: r else y :: insS p r
def del (p : Nat) (L : List Nat) : List Nat := L.filter (fun x => !(x == p))
def ins (p : Nat) (L : List Nat) : List Nat := insS p (del p L)
def insAll (ps L : List Nat) : List Nat := ps.foldl (fun m p => ins p m) L

theorem mem_insS {x p : Nat} : ∀ {L : List Nat}, x ∈ insS p L ↔ x = p ∨ x ∈ L
  | [] => by simp [insS]
  | y :: r => by
    unfold insS
    split
    · simp
    · simp only [List.mem_cons, mem_insS (L := r)]
      constructor
      · rintro (h | h | h)
        · exact .inr (.inl h)
        · exact .inl h
        · exact .inr (.inr h)
      · rintro (h | h | h)
        · exact .inr (.inl h)
        · exact .inl h
        · exact .inr (.inr h)
theorem mem_del {x p : Nat} {L : List Nat} : x ∈ del p L ↔ x ∈ L ∧ x ≠ p := by
  unfold del
  rw [List.mem_filter]
  simp
theorem mem_ins {x p : Nat} {L : List Nat} : x ∈ ins p L ↔ x = p ∨ x ∈ L := by
  unfold ins
  rw [mem_insS, mem_del]
  constructor
  · rintro (h | h)
    · exact .inl h
    · exact .inr h.1
  · rintro (h | h)
    · exact .inl h
    · by_cases e : x = p
      · exact .inl e
      · exact .inr ⟨h, e⟩
theorem srt_insS {p : Nat} : ∀ {L : List Nat}, Srt L → p ∉ L → Srt (insS p L)
  | [], _, _ => by simp [insS, Srt]
  | y :: r, h, hp => by
    obtain ⟨h1, h2⟩ := List.pairwise_cons.1 h
    simp only [List.mem_cons, not_or] at hp
    unfold insS
    split
    · rename_i hlt
      refine List.pairwise_cons.2 ⟨fun q hq => ?_, h⟩
      rcases List.mem_cons.1 hq with rfl | hq
      · exact hlt
      · exact Nat.lt_trans hlt (h1 q hq)
    · rename_i hlt
      refine List.pairwise_cons.2 ⟨fun q hq => ?_, srt_insS h2 hp.2⟩
      rcases mem_insS.1 hq with rfl | hq
      · omega
      · exact h1 q hq
theorem srt_del {p : Nat} {L : List Nat} (h : Srt L) : Srt (del p L) := h.filter _
theorem srt_ins {p : Nat} {L : List Nat} (h : Srt L) : Srt (ins p L) := srt_insS (srt_del h) (fun k => (mem_del.1 k).2 rfl)
theorem srt_insAll : ∀ {ps L : List Nat}, Srt L → Srt (insAll ps L)
  | [], _, h => h
  | p :: ps, L, h => srt_insAll (ps := ps) (L := ins p L) (srt_ins h)
theorem mem_insAll {x : Nat} : ∀ {ps L : List Nat}, x ∈ insAll ps L ↔ x ∈ ps ∨ x ∈ L
  | [], L => by simp [insAll]
  | p :: ps, L => by
    show x ∈ insAll ps (ins p L) ↔ _
    rw [mem_insAll, mem_ins, List.mem_cons]
    constructor
    · rintro (h | h | h)
      · exact .inl (.inr h)
      · exact .inl (.inl h)
      · exact .inr h
    · rintro ((h | h) | h)
      · exact .inr (.inl h)
      · exact .inl h
      · exact .inr (.inr h)
theorem insAll_snoc (ps L : List Nat) (p : Nat) : insAll (ps ++ [p]) L = ins p (insAll ps L) := by simp [insAll, List.foldl_append]
theorem srt_ext : ∀ {L M : List Nat}, Srt L → Srt M → (∀ x, x ∈ L ↔ x ∈ M) → L = M
  | [], [], _, _, _ => rfl
  | [], y :: m, _, _, h => by have := (h y).2 (by simp); simp at this
  | x :: l, [], _, _, h => by have := (h x).1 (by simp); simp at this
  | x :: l, y :: m, h1, h2, h => by
    obtain ⟨a1, a2⟩ := List.pairwise_cons.1 h1
    obtain ⟨b1, b2⟩ := List.pairwise_cons.1 h2
    have e : x = y := by
      rcases List.mem_cons.1 ((h x).1 (by simp)) with e | e
      · exact e
      · rcases List.mem_cons.1 ((h y).2 (by simp)) with k | k
        · exact k.symm
        · have := b1 x e; have := a1 y k; omega
    subst e
    rw [srt_ext a2 b2 (fun z => ?_)]
    constructor
    · intro hz
      have := a1 z hz
      rcases List.mem_cons.1 ((h z).1 (by simp [hz])) with e | e
      · omega
      · exact e
    · intro hz
      have := b1 z hz
      rcases List.mem_cons.1 ((h z).2 (by simp [hz])) with e | e
      · omega
      · exact e
theorem len_insS (p : Nat) : ∀ L : List Nat, (insS p L).length = L.length + 1
  | [] => rfl
  | y :: r => by
    unfold insS
    split
    · rfl
    · simp [len_insS p r]
theorem del_no {p : Nat} {L : List Nat} (h : p ∉ L) : del p L = L := by
  unfold del
  refine List.filter_eq_self.2 fun x hx => ?_
  simp
  rintro rfl
  exact h hx
theorem len_del {p : Nat} : ∀ {L : List Nat}, Srt L → p ∈ L → (del p L).length + 1 = L.length
  | [], _, h => by simp at h
  | y :: r, hs, h => by
    obtain ⟨h1, h2⟩ := List.pairwise_cons.1 hs
    by_cases e : y = p
    · subst e
      have : y ∉ r := fun k => by have := h1 y k; omega
      have hd := del_no this
      unfold del at hd ⊢
      rw [List.filter_cons]
      simp [hd]
    · have hr : p ∈ r := by
        rcases List.mem_cons.1 h with k | k
        · exact absurd k.symm e
        · exact k
      have ih := len_del h2 hr
      unfold del at ih ⊢
      rw [List.filter_cons]
      simp [e]
      omega
theorem len_ins_new {p : Nat} {L : List Nat} (h : p ∉ L) : (ins p L).length = L.length + 1 := by
  unfold ins
  rw [len_insS, del_no h]
theorem len_ins_old {p : Nat} {L : List Nat} (hs : Srt L) (h : p ∈ L) : (ins p L).length = L.length := by
  unfold ins
  rw [len_insS, len_del hs h]
theorem len_ins_le (p : Nat) (L : List Nat) : (ins p L).length ≤ L.length + 1 := by
  unfold ins
  rw [len_insS]
  have := List.length_filter_le (fun x => !(x == p)) L
  unfold del
  omega
theorem srt_len {N : Nat} : ∀ {L : List Nat} (a : Nat), Srt L → (∀ x ∈ L, a ≤ x ∧ x < N) → L.length ≤ N - a
  | [], _, _, _ => by simp
  | y :: r, a, hs, h => by
    obtain ⟨h1, h2⟩ := List.pairwise_cons.1 hs
    have hy := h y (by simp)
    have ih := srt_len (L := r) (y + 1) h2 (fun x hx => ⟨h1 x hx, (h x (by simp [hx])).2⟩)
    simp
    omega
theorem srt_nodup {L : List Nat} (h : Srt L) : L.Nodup := h.imp (fun hab e => by omega)
/-- The lowest of a list that rises is its head. -/
theorem srt_head {y : Nat} {r : List Nat} (h : Srt (y :: r)) {x : Nat} (hx : x ∈ y :: r) : y ≤ x := by
  rcases List.mem_cons.1 hx with e | e
  · omega
  · have := (List.pairwise_cons.1 h).1 x e; omega

/-! ### records -/
abbrev Rc := Nat × List Nat
/-- Pages that may be a record's, from 'least' on. -/
def rise (stop : Nat) : Nat → List Nat → Bool
  | _, [] => true
  | least, p :: r => decide (least ≤ p) && decide (p < stop) && rise stop (p + 1) r
def okPages (l : List Nat) (stop : Nat) : Bool := rise stop 2 l && decide (0 < l.length)
def noneIn (ps L : List Nat) : Bool := ps.all (fun p => decide (p ∉ L))
/-- What Right tells: behind records whose pages are 'seen', the last of them 'last'. -/
def okRecs (stop : Nat) : Option Nat → List Nat → List Rc → Bool
  | _, _, [] => true
  | last, seen, r :: l => (match last with | none => true | some t => decide (t < r.1)) && okPages r.2 stop && noneIn r.2 seen && okRecs stop (some r.1) (insAll r.2 seen) l
def right (l : List Rc) (stop : Nat) : Bool := okRecs stop none [] l

theorem rise_iff (stop : Nat) : ∀ (l : List Nat) (least : Nat), rise stop least l = true ↔ Srt l ∧ ∀ x ∈ l, least ≤ x ∧ x < stop
  | [], least => by simp [rise, Srt]
  | p :: r, least => by
    unfold rise
    simp only [Bool.and_eq_true, decide_eq_true_eq, rise_iff stop r (p + 1)]
    constructor
    · rintro ⟨⟨h1, h2⟩, h3, h4⟩
      refine ⟨List.pairwise_cons.2 ⟨fun x hx => (h4 x hx).1, h3⟩, fun x hx => ?_⟩
      rcases List.mem_cons.1 hx with rfl | hx
      · exact ⟨h1, h2⟩
      · have := h4 x hx; omega
    · rintro ⟨h1, h2⟩
      obtain ⟨a1, a2⟩ := List.pairwise_cons.1 h1
      refine ⟨h2 p (by simp), a2, fun x hx => ⟨a1 x hx, (h2 x (by simp [hx])).2⟩⟩
theorem okPages_iff {l : List Nat} {stop : Nat} : okPages l stop = true ↔ Srt l ∧ (∀ x ∈ l, 2 ≤ x ∧ x < stop) ∧ l ≠ [] := by
  unfold okPages
  rw [Bool.and_eq_true, rise_iff, decide_eq_true_eq, List.length_pos_iff, and_assoc]

/-- What a page's records say, told at once. -/
structure Okr (stop : Nat) (l : List Rc) : Prop where
  txns : l.Pairwise (fun a b => a.1 < b.1)
  each : ∀ r ∈ l, Srt r.2 ∧ (∀ x ∈ r.2, 2 ≤ x ∧ x < stop) ∧ r.2 ≠ []
  apart : l.Pairwise (fun a b => ∀ x ∈ a.2, x ∉ b.2)
theorem okRecs_iff (stop : Nat) : ∀ (l : List Rc) (last : Option Nat) (seen : List Nat), okRecs stop last seen l = true ↔ Okr stop l ∧ (∀ t, last = some t → ∀ r ∈ l, t < r.1) ∧ ∀ r ∈ l, ∀ x ∈ r.2, x ∉ seen
  | [], last, seen => by simp [okRecs]; exact ⟨List.Pairwise.nil, by simp, List.Pairwise.nil⟩
  | r :: l, last, seen => by
    unfold okRecs
    simp only [Bool.and_eq_true, okPages_iff, noneIn, List.all_eq_true, decide_eq_true_eq, okRecs_iff stop l (some r.1) (insAll r.2 seen), mem_insAll]
    constructor
    · rintro ⟨⟨⟨h1, h2⟩, h3⟩, h4, h5, h6⟩
      refine ⟨⟨List.pairwise_cons.2 ⟨fun b hb => h5 _ rfl b hb, h4.txns⟩, fun b hb => ?_, List.pairwise_cons.2 ⟨fun b hb x hx hxb => h6 b hb x hxb (.inl hx), h4.apart⟩⟩, fun t ht b hb => ?_, fun b hb x hx => ?_⟩
      · rcases List.mem_cons.1 hb with rfl | hb
        · exact h2
        · exact h4.each b hb
      · subst ht
        have h1' : t < r.1 := by simpa using h1
        rcases List.mem_cons.1 hb with rfl | hb
        · exact h1'
        · have := h5 _ rfl b hb; omega
      · rcases List.mem_cons.1 hb with rfl | hb
        · exact h3 x hx
        · exact fun k => h6 b hb x hx (.inr k)
    · rintro ⟨h, h1, h2⟩
      obtain ⟨a1, a2⟩ := List.pairwise_cons.1 h.txns
      obtain ⟨b1, b2⟩ := List.pairwise_cons.1 h.apart
      refine ⟨⟨⟨?_, h.each r (by simp)⟩, fun x hx => h2 r (by simp) x hx⟩, ⟨a2, fun b hb => h.each b (by simp [hb]), b2⟩, ?_, ?_⟩
      · cases last with
        | none => rfl
        | some t => simpa using h1 t rfl r (by simp)
      · intro t ht b hb
        cases ht
        exact a1 b hb
      · rintro b hb x hx (k | k)
        · exact b1 b hb x k hx
        · exact h2 b (by simp [hb]) x hx k
theorem right_iff {l : List Rc} {stop : Nat} : right l stop = true ↔ Okr stop l := by
  unfold right
  rw [okRecs_iff]
  simp

abbrev allOf (l : List Rc) : List Nat := l.flatMap (·.2)
theorem okr_tail {stop : Nat} {r : Rc} {l : List Rc} (h : Okr stop (r :: l)) : Okr stop l :=
  ⟨(List.pairwise_cons.1 h.txns).2, fun b hb => h.each b (by simp [hb]), (List.pairwise_cons.1 h.apart).2⟩
theorem mem_allOf {l : List Rc} {x : Nat} : x ∈ allOf l ↔ ∃ r ∈ l, x ∈ r.2 := by simp [allOf, List.mem_flatMap]
theorem okr_nodup {stop : Nat} : ∀ {l : List Rc}, Okr stop l → (allOf l).Nodup
  | [], _ => by simp [allOf]
  | r :: l, h => by
    have e : allOf (r :: l) = r.2 ++ allOf l := rfl
    rw [e, List.nodup_append]
    refine ⟨srt_nodup (h.each r (by simp)).1, okr_nodup (okr_tail h), fun a ha b hb hab => ?_⟩
    subst hab
    obtain ⟨r', hr', hx⟩ := mem_allOf.1 hb
    exact (List.pairwise_cons.1 h.apart).1 r' hr' a ha hx
theorem okr_range {stop : Nat} {l : List Rc} (h : Okr stop l) : ∀ x ∈ allOf l, 2 ≤ x ∧ x < stop := fun x hx => by
  obtain ⟨r, hr, hx⟩ := mem_allOf.1 hx
  exact (h.each r hr).2.1 x hx
theorem len_insAll : ∀ {ps L : List Nat}, ps.Nodup → (∀ x ∈ ps, x ∉ L) → (insAll ps L).length = L.length + ps.length
  | [], L, _, _ => by simp [insAll]
  | p :: ps, L, h, k => by
    obtain ⟨h1, h2⟩ := List.nodup_cons.1 h
    show (insAll ps (ins p L)).length = _
    rw [len_insAll h2 (fun x hx hm => by
      rcases mem_ins.1 hm with e | e
      · subst e; exact h1 hx
      · exact k x (by simp [hx]) e), len_ins_new (k p (by simp))]
    simp
    omega
theorem nodup_len {N : Nat} {ps : List Nat} (h : ps.Nodup) (k : ∀ x ∈ ps, x < N) : ps.length ≤ N := by
  have h1 := len_insAll (L := []) h (by simp)
  have h2 := srt_len (N := N) 0 (srt_insAll (ps := ps) (L := []) List.Pairwise.nil) (fun x hx => by
    rcases mem_insAll.1 hx with e | e
    · exact ⟨Nat.zero_le _, k x e⟩
    · simp at e)
  simp at h1
  omega
theorem len_allOf {l : List Rc} (h : ∀ r ∈ l, r.2 ≠ []) : l.length ≤ (allOf l).length := by
  induction l with
  | nil => simp
  | cons r l ih =>
    have e : allOf (r :: l) = r.2 ++ allOf l := rfl
    rw [e, List.length_append, List.length_cons]
    have := ih fun b hb => h b (by simp [hb])
    have := List.length_pos_iff.2 (h r (by simp))
    omega
theorem okr_len {stop : Nat} {l : List Rc} (h : Okr stop l) : l.length ≤ stop :=
  Nat.le_trans (len_allOf fun r hr => (h.each r hr).2.2) (nodup_len (okr_nodup h) fun x hx => (okr_range h x hx).2)
theorem okr_each {stop : Nat} {l : List Rc} (h : Okr stop l) {r : Rc} (hr : r ∈ l) : r.2.length ≤ stop := nodup_len (srt_nodup (h.each r hr).1) fun x hx => ((h.each r hr).2.1 x hx).2

/-! ### old and new records -/
def isOld (old : Nat) (r : Rc) : Bool := decide (r.1 ≤ old)
def oldRecs (old : Nat) (l : List Rc) : List Rc := l.filter (isOld old)
def newRecs (old : Nat) (l : List Rc) : List Rc := l.filter (fun r => !isOld old r)
theorem insAll_app (a b L : List Nat) : insAll (a ++ b) L = insAll b (insAll a L) := by simp [insAll, List.foldl_append]
theorem take_snoc {α : Type} {l : List α} {k : Nat} {r : α} (h : l[k]? = some r) : l.take (k + 1) = l.take k ++ [r] := by
  have hk := (List.getElem?_eq_some_iff.1 h).1
  rw [List.take_succ_eq_append_getElem hk]
  rw [List.getElem?_eq_getElem hk] at h
  cases h
  rfl
theorem oldRecs_yes {old : Nat} {l : List Rc} {r : Rc} (h : r.1 ≤ old) : oldRecs old (l ++ [r]) = oldRecs old l ++ [r] ∧ newRecs old (l ++ [r]) = newRecs old l := by
  simp [oldRecs, newRecs, isOld, List.filter_append, h]
theorem oldRecs_no {old : Nat} {l : List Rc} {r : Rc} (h : ¬ r.1 ≤ old) : oldRecs old (l ++ [r]) = oldRecs old l ∧ newRecs old (l ++ [r]) = newRecs old l ++ [r] := by
  simp [oldRecs, newRecs, isOld, List.filter_append, h]
theorem allOf_snoc (l : List Rc) (r : Rc) : allOf (l ++ [r]) = allOf l ++ r.2 := by simp [allOf, List.flatMap_append]

end Go.Proofs.YtildjdhoeilcfaaGreat

namespace Go.Proofs.YtildjdhoeilcfaaGreat
open Go.RowKit Go.Maps

/-- The value v is a slice that reads as the pages ps; its cells lie in blocks of R. -/
def PSq (R : Nat → Prop) (w : World) (v : Value) (ps : List Nat) : Prop :=
  ∃ ao c, v = .slice ao ps.length c ∧ ps.length ≤ c ∧ c ≤ maxLen ∧ (∀ p ∈ ps, p < 4294967296) ∧
    (ps ≠ [] → ∃ b o, ao = some ⟨b, o, none⟩ ∧ R b ∧ ∀ j, j < ps.length → w.cell? ⟨b, o + j, none⟩ = some (.int .u32 ((ps.getD j 0 : Nat) : Int)))
theorem PSq.kept {R : Nat → Prop} {w w' : World} {v : Value} {ps : List Nat} (h : PSq R w v ps) (k : ∀ b, R b → b < w.heap.size → w'.heap[b]? = w.heap[b]?) : PSq R w' v ps := by
  obtain ⟨ao, c, hv, h1, h2, h3, h4⟩ := h
  refine ⟨ao, c, hv, h1, h2, h3, fun hne => ?_⟩
  obtain ⟨b, o, ha, hb, hc⟩ := h4 hne
  exact ⟨b, o, ha, hb, fun j hj => (World.cell?_of_block (w := w) (k b hb (World.block_lt_of_cell? _ _ (hc j hj)))).trans (hc j hj)⟩
theorem PSq.cells {R : Nat → Prop} {w w' : World} {v : Value} {ps : List Nat} (h : PSq R w v ps) (k : ∀ a u, w.cell? a = some u → w'.cell? a = some u) : PSq R w' v ps := by
  obtain ⟨ao, c, hv, h1, h2, h3, h4⟩ := h
  refine ⟨ao, c, hv, h1, h2, h3, fun hne => ?_⟩
  obtain ⟨b, o, ha, hb, hc⟩ := h4 hne
  exact ⟨b, o, ha, hb, fun j hj => k _ _ (hc j hj)⟩
theorem PSq.imp {R S : Nat → Prop} {w : World} {v : Value} {ps : List Nat} (h : PSq R w v ps) (k : ∀ b, R b → b < w.heap.size → S b) : PSq S w v ps := by
  obtain ⟨ao, c, hv, h1, h2, h3, h4⟩ := h
  refine ⟨ao, c, hv, h1, h2, h3, fun hne => ?_⟩
  obtain ⟨b, o, ha, hb, hc⟩ := h4 hne
  have hl : 0 < ps.length := List.length_pos_iff.2 hne
  exact ⟨b, o, ha, k b hb (World.block_lt_of_cell? _ _ (hc 0 hl)), hc⟩
theorem PSq.grown {R : Nat → Prop} {w w' : World} {v : Value} {ps : List Nat} (h : PSq R w v ps) (k : w.grownBy w' none) : PSq R w' v ps := h.kept fun b _ hb => k.block b hb (by simp)
theorem PSq.shape {R : Nat → Prop} {w : World} {v : Value} {ps : List Nat} (h : PSq R w v ps) : ∃ ao c, v = .slice ao ps.length c := by
  obtain ⟨ao, c, hv, _⟩ := h
  exact ⟨ao, c, hv⟩
theorem PSq.len {R : Nat → Prop} {w : World} {ao : Option Addr} {n c : Nat} {ps : List Nat} (h : PSq R w (.slice ao n c) ps) : n = ps.length ∧ n ≤ maxLen := by
  obtain ⟨ao', c', hv, h1, h2, _⟩ := h
  cases hv
  exact ⟨rfl, Nat.le_trans h1 h2⟩
theorem PSq.at {R : Nat → Prop} {w : World} {ao : Option Addr} {n c : Nat} {ps : List Nat} (h : PSq R w (.slice ao n c) ps) (k : Nat) (hk : k < ps.length) : ∃ b o, ao = some ⟨b, o, none⟩ ∧ R b ∧ w.cell? ⟨b, o + k, none⟩ = some (.int .u32 ((ps.getD k 0 : Nat) : Int)) := by
  obtain ⟨ao', c', hv, h1, h2, h3, h4⟩ := h
  cases hv
  obtain ⟨b, o, ha, hb, hc⟩ := h4 (fun e => by rw [e] at hk; simp at hk)
  exact ⟨b, o, ha, hb, hc k hk⟩
theorem PSq.u32 {R : Nat → Prop} {w : World} {v : Value} {ps : List Nat} (h : PSq R w v ps) : ∀ p ∈ ps, p < 4294967296 := by
  obtain ⟨ao, c, hv, h1, h2, h3, h4⟩ := h
  exact h3
theorem psq_nil (R : Nat → Prop) (w : World) : PSq R w (.slice none 0 0) [] := ⟨none, 0, rfl, Nat.le_refl _, by simp [maxLen], by simp, fun h => absurd rfl h⟩

abbrev encP (p : Nat) : Value := .int .u32 (p : Int)
theorem pcell1 {ps : List Nat} : ∀ u ∈ ps.map encP, u.oneCell' = true := by
  intro u hu; simp only [List.mem_map] at hu; obtain ⟨x, _, rfl⟩ := hu; rfl
/-- What the call owns reads as pages. -/
theorem PSq.owned {base n : Nat} {w : World} {v : Value} {ps : List Nat} (h : w.ownsRow base 42 1 v n (ps.map encP)) (h32 : ∀ p ∈ ps, p < 4294967296) : PSq (fun b => base ≤ b ∧ v.ownBlock = some b) w v ps := by
  have hl : ps.length = n := by have := h.1; simpa using this
  subst hl
  rcases h.2 with ⟨rfl, hn⟩ | ⟨g, cap, cur, rfl, hb, hg, hc, hm, hs, ht⟩
  · rw [List.eq_nil_of_length_eq_zero hn]; exact psq_nil _ _
  · refine ⟨some ⟨g, 0, none⟩, cap, rfl, hc, hm, h32, fun _ => ⟨g, 0, rfl, ⟨hb, rfl⟩, fun j hj => ?_⟩⟩
    rw [Nat.zero_add, h.cellAt j (by omega)]
    simp [List.getElem?_map, List.getElem?_eq_getElem hj, encP]

/-- The value v is a slice that reads as the records rs; they, and their pages, lie in blocks of R. -/
def RSq (R : Nat → Prop) (w : World) (v : Value) (rs : List Rc) : Prop :=
  ∃ ao c, v = .slice ao rs.length c ∧ rs.length ≤ c ∧ c ≤ maxLen ∧
    (rs ≠ [] → ∃ b o, ao = some ⟨b, o, none⟩ ∧ R b ∧ ∀ j (r : Rc), rs[j]? = some r → w.cell? ⟨b, o + j * 2, none⟩ = some (.int .u64 ((r.1 : Nat) : Int)) ∧ r.1 < 18446744073709551616 ∧
      ∃ pv, w.cell? ⟨b, o + j * 2 + 1, none⟩ = some pv ∧ PSq R w pv r.2)
theorem RSq.kept {R : Nat → Prop} {w w' : World} {v : Value} {rs : List Rc} (h : RSq R w v rs) (k : ∀ b, R b → b < w.heap.size → w'.heap[b]? = w.heap[b]?) : RSq R w' v rs := by
  obtain ⟨ao, c, hv, h1, h2, h4⟩ := h
  refine ⟨ao, c, hv, h1, h2, fun hne => ?_⟩
  obtain ⟨b, o, ha, hb, hc⟩ := h4 hne
  refine ⟨b, o, ha, hb, fun j r hr => ?_⟩
  obtain ⟨c1, c2, pv, c3, c4⟩ := hc j r hr
  have e := k b hb (World.block_lt_of_cell? _ _ c1)
  exact ⟨(World.cell?_of_block (w := w) e).trans c1, c2, pv, (World.cell?_of_block (w := w) e).trans c3, c4.kept k⟩
theorem RSq.cells {R : Nat → Prop} {w w' : World} {v : Value} {rs : List Rc} (h : RSq R w v rs) (k : ∀ a u, w.cell? a = some u → w'.cell? a = some u) : RSq R w' v rs := by
  obtain ⟨ao, c, hv, h1, h2, h4⟩ := h
  refine ⟨ao, c, hv, h1, h2, fun hne => ?_⟩
  obtain ⟨b, o, ha, hb, hc⟩ := h4 hne
  refine ⟨b, o, ha, hb, fun j r hr => ?_⟩
  obtain ⟨c1, c2, pv, c3, c4⟩ := hc j r hr
  exact ⟨k _ _ c1, c2, pv, k _ _ c3, c4.cells k⟩
theorem RSq.imp {R S : Nat → Prop} {w : World} {v : Value} {rs : List Rc} (h : RSq R w v rs) (k : ∀ b, R b → b < w.heap.size → S b) : RSq S w v rs := by
  obtain ⟨ao, c, hv, h1, h2, h4⟩ := h
  refine ⟨ao, c, hv, h1, h2, fun hne => ?_⟩
  obtain ⟨b, o, ha, hb, hc⟩ := h4 hne
  obtain ⟨r0, hr0⟩ : ∃ r, rs[0]? = some r := ⟨rs[0]'(List.length_pos_iff.2 hne), by simp⟩
  refine ⟨b, o, ha, k b hb (World.block_lt_of_cell? _ _ (hc 0 r0 hr0).1), fun j r hr => ?_⟩
  obtain ⟨c1, c2, pv, c3, c4⟩ := hc j r hr
  exact ⟨c1, c2, pv, c3, c4.imp k⟩
theorem RSq.grown {R : Nat → Prop} {w w' : World} {v : Value} {rs : List Rc} (h : RSq R w v rs) (k : w.grownBy w' none) : RSq R w' v rs := h.kept fun b _ hb => k.block b hb (by simp)
theorem RSq.shape {R : Nat → Prop} {w : World} {v : Value} {rs : List Rc} (h : RSq R w v rs) : ∃ ao c, v = .slice ao rs.length c := by
  obtain ⟨ao, c, hv, _⟩ := h
  exact ⟨ao, c, hv⟩
theorem RSq.len {R : Nat → Prop} {w : World} {ao : Option Addr} {n c : Nat} {rs : List Rc} (h : RSq R w (.slice ao n c) rs) : n = rs.length ∧ n ≤ maxLen := by
  obtain ⟨ao', c', hv, h1, h2, _⟩ := h
  cases hv
  exact ⟨rfl, Nat.le_trans h1 h2⟩
theorem RSq.at {R : Nat → Prop} {w : World} {ao : Option Addr} {n c : Nat} {rs : List Rc} (h : RSq R w (.slice ao n c) rs) (j : Nat) (r : Rc) (hr : rs[j]? = some r) :
    ∃ b o, ao = some ⟨b, o, none⟩ ∧ R b ∧ w.cell? ⟨b, o + j * 2, none⟩ = some (.int .u64 ((r.1 : Nat) : Int)) ∧ r.1 < 18446744073709551616 ∧ ∃ a1 c1, w.cell? ⟨b, o + j * 2 + 1, none⟩ = some (.slice a1 r.2.length c1) ∧ PSq R w (.slice a1 r.2.length c1) r.2 := by
  obtain ⟨ao', c', hv, h1, h2, h4⟩ := h
  cases hv
  obtain ⟨b, o, ha, hb, hc⟩ := h4 (fun e => by rw [e] at hr; simp at hr)
  obtain ⟨k1, k2, pv, k3, k4⟩ := hc j r hr
  obtain ⟨a1, c1, rfl⟩ := k4.shape
  exact ⟨b, o, ha, hb, k1, k2, a1, c1, k3, k4⟩
theorem rsq_nil (R : Nat → Prop) (w : World) : RSq R w (.slice none 0 0) [] := ⟨none, 0, rfl, Nat.le_refl _, by simp [maxLen], fun h => absurd rfl h⟩

theorem infoPg : (Tryz.prog.info? 42).map (fun i => (i.zero, i.size, i.bytes)) = some (some (.int .u32 0), 1, 4) := by kernel_rfl
theorem infoRec : (Tryz.prog.info? 141).map (fun i => (i.zero, i.size, i.bytes)) = some (some (.agg #[.int .u64 0, .slice none 0 0]), 2, 32) := by kernel_rfl

end Go.Proofs.YtildjdhoeilcfaaGreat

namespace Go.Proofs.YtildjdhoeilcfaaGreat
open Go.RowKit Go.Maps

abbrev keyL (p : Nat) : Lit := .int .u32 (p : Int)
def setD (L : List Nat) : DataW Unit := .map (L.map fun p => (keyL p, .agg []))

theorem keyL_same (a b : Nat) : (keyL a).sameKey (keyL b) = (a == b) := by
  simp only [keyL, Lit.sameKey]
  by_cases h : a = b
  · subst h; simp
  · have : ¬ (a : Int) = (b : Int) := by omega
    simp [h, this]
theorem keyL_before (a b : Nat) : (keyL a).before (keyL b) = decide (a < b) := by
  simp [keyL, Lit.before]
theorem has_setD (L : List Nat) (p : Nat) : Maps.has (setD L) (keyL p) = decide (p ∈ L) := by
  unfold setD
  rw [Maps.has_eq, List.any_map]
  induction L with
  | nil => simp
  | cons y r ih =>
    rw [List.any_cons, ih]
    simp only [Function.comp, keyL_same, List.mem_cons]
    by_cases h : y = p
    · subst h; simp
    · have : ¬ p = y := fun e => h e.symm
      simp [h, this]
theorem size_setD (L : List Nat) : Maps.size (setD L) = L.length := by
  unfold setD
  rw [Maps.size_eq, List.length_map]
theorem filt_setD (L : List Nat) (p : Nat) : (L.map fun q => (keyL q, (.agg [] : DataW Unit))).filter (fun x => !x.1.sameKey (keyL p)) = (del p L).map fun q => (keyL q, .agg []) := by
  unfold del
  rw [List.filter_map]
  congr 1
  apply List.filter_congr
  intro x _
  simp [Function.comp, keyL_same]
theorem setD_del (L : List Nat) (p : Nat) : (setD L).del (keyL p) = setD (del p L) := by
  show DataW.map _ = DataW.map _
  rw [filt_setD]
theorem insert_setD (p : Nat) : ∀ L : List Nat, DataW.insert (keyL p, (.agg [] : DataW Unit)) (L.map fun q => (keyL q, .agg [])) = (insS p L).map fun q => (keyL q, .agg [])
  | [] => rfl
  | y :: r => by
    simp only [List.map_cons]
    unfold DataW.insert insS
    simp only [keyL_before, decide_eq_true_eq]
    split
    · simp
    · rw [insert_setD p r]; simp
theorem setD_put (L : List Nat) (p : Nat) : (setD L).put (keyL p) (.agg []) = setD (ins p L) := by
  show DataW.map _ = DataW.map _
  rw [filt_setD, insert_setD]
  rfl

/-- Block b of w is a map that has the pages L, which rise. -/
def SetAt (w : World) (b : Nat) (L : List Nat) : Prop := w.ownsMap Tryz.prog 42 (unitElem (H := Unit)) b L.length (setD L) ∧ Srt L ∧ ∀ p ∈ L, p < 4294967296

theorem own_tight {w : World} {P : Program} {k : TypeId} {R : Value → Option (DataW Unit × List MemPlace)} {b n : Nat} {L : List Nat} (h : w.ownsMap P k R b n (setD L)) : w.ownsMap P k R b L.length (setD L) := by
  obtain ⟨es, clock, hb, F, _, hD⟩ := h
  refine ⟨es, clock, hb, F, ?_, hD⟩
  have := congrArg Maps.size hD
  rw [size_setD, Maps.size_eq, length_sorted, List.length_map] at this
  simpa using (Nat.le_of_eq this.symm)
theorem SetAt.lt {w : World} {b : Nat} {L : List Nat} (h : SetAt w b L) : b < w.heap.size := by
  obtain ⟨⟨es, clock, hb, _⟩, _⟩ := h
  exact (Array.getElem?_eq_some_iff.1 hb).1
theorem SetAt.len {w : World} {b : Nat} {L : List Nat} (h : SetAt w b L) : L.length ≤ 4294967296 := by
  have := srt_len (N := 4294967296) 0 h.2.1 (fun x hx => ⟨Nat.zero_le _, h.2.2 x hx⟩)
  simpa using this
theorem SetAt.kept {w w' : World} {b : Nat} {L : List Nat} (h : SetAt w b L) (k : w'.heap[b]? = w.heap[b]?) : SetAt w' b L := by
  obtain ⟨⟨es, clock, hb, F, hs, hD⟩, h2⟩ := h
  exact ⟨⟨es, clock, k.trans hb, F, hs, hD⟩, h2⟩
theorem SetAt.grown {w w' : World} {b : Nat} {L : List Nat} (h : SetAt w b L) (k : w.grownBy w' none) : SetAt w' b L := h.kept (k.block b h.lt (by simp))
theorem set_made (w : World) : SetAt (w.alloc (.map #[] 0)) w.heap.size [] := ⟨World.ownsMap_made _ _ _ _, List.Pairwise.nil, by simp⟩

theorem lawP : Keyed Tryz.prog 42 := int_keyed Tryz.underlying42
theorem zeroUnit (w : World) : (zeroValue 97).run Tryz.prog w = .ok (.agg #[]) w := by kernel_rfl
theorem wf32 {p : Nat} (h : p < 4294967296) : (Lit.int .u32 (p : Int)).wf = true := by
  have h1 : IntKind.u32.max = 4294967295 := by decide
  have h2 : IntKind.u32.min = 0 := by decide
  simp only [Lit.wf, h1, h2, Bool.and_eq_true, decide_eq_true_eq]
  omega
theorem keyP {p : Nat} (h : p < 4294967296) : keyOf Tryz.prog 42 (.int .u32 (p : Int)) = some (keyL p) := keyOf_int_mk Tryz.underlying42 (wf32 h)

/-- Only entries of the map in block b may have changed. -/
theorem turned_cell {w w' : World} {b : Nat} (h : w.mapTurned w' b) (a : Addr) : w'.cell? a = w.cell? a := by
  obtain ⟨es, clock, es', clock', hb, rfl⟩ := h
  by_cases e : a.block = b
  · have h1 : (ChangeMaps.setBlock w b (.map es' clock')).heap[a.block]? = some (.map es' clock') := by rw [e]; exact ChangeMaps.heap_setBlock_same hb _
    have h2 : w.heap[a.block]? = some (.map es clock) := by rw [e]; exact hb
    simp [World.cell?, h1, h2]
  · exact World.cell?_of_block (ChangeMaps.heap_setBlock_other hb _ e)

theorem SetAt.turned {w w' : World} {b c : Nat} {L : List Nat} (h : SetAt w c L) (k : w.mapTurned w' b) (hne : c ≠ b) : SetAt w' c L :=
  h.kept (k.grown.block c h.lt (by simp; exact hne))

set_option maxHeartbeats 400000 in
theorem has_any (w : World) (b p : Nat) (L : List Nat) (h : SetAt w b L) (hp : p < 4294967296) :
    Calls Tryz.prog 77 #[.map (some b), .int .u32 (p : Int)] w fun r w' => r = .returned (.bool (decide (p ∈ L))) ∧ w' = w.alloc (.cells #[] 97) := by
  have hown := h.1
  go_enter Tryz.func77, Tryz.ntmps77
  go_wp2_with (first
    | (at_lookup; refine wpList_lookup_own_unit _ rfl _ _ 157 rfl 42 97 lawP Tryz.underlying157 (zeroUnit _) b L.length _ rfl hown _ _ rfl (keyP hp) ?_)
    | go_in)
  go_ret
  exact ⟨by simp [has_setD], rfl⟩

set_option maxHeartbeats 400000 in
theorem setAdd_any (w : World) (b : Nat) (L ps : List Nat) (R : Nat → Prop) (ao : Option Addr) (n c : Nat) (h : SetAt w b L) (hp : PSq R w (.slice ao n c) ps) :
    Calls Tryz.prog 78 #[.map (some b), .slice ao n c] w fun r w' => r = .returned (.tuple #[]) ∧ SetAt w' b (insAll ps L) ∧ w.mapTurned w' b := by
  obtain ⟨hn, hm⟩ := hp.len
  have hN := Lib.hid hn
  have hps := Lib.hid hp
  have hm2 : (n : Int) ≤ 9223372036854775807 := by have h9 : maxLen ≤ 9223372036854775807 := by decide
                                                   omega
  clear hn hp hm
  go_enter Tryz.func78, Tryz.ntmps78
  go_wp2
  go_loopw [8] (fun i wr => ∃ k : Nat, k ≤ n ∧ i = .int .i64 (k : Int) ∧ SetAt wr b (insAll (ps.take k) L) ∧ w.mapTurned wr b) (fun i _ => n - (intOf i).toNat)
  case atStart => exact ⟨0, Nat.zero_le _, rfl, h, h.1.turned_refl⟩
  case round =>
    obtain ⟨k, hk, rfl, hs, ht⟩ := hrel
    by_cases hlt : k < n
    · have hki : (k : Int) < (n : Int) := by omega
      have hkl : k < ps.length := by rw [← hN.out]; exact hlt
      obtain ⟨b', o, rfl, _, hc⟩ := hps.out.at k hkl
      have hc1 : wr.cell? ⟨b', o + k, none⟩ = some (.int .u32 ((ps.getD k 0 : Nat) : Int)) := (turned_cell ht _).trans hc
      have hpk : ps.getD k 0 < 4294967296 := hps.out.u32 _ (by rw [List.getD_eq_getElem?_getD, List.getElem?_eq_getElem hkl]; exact List.getElem_mem hkl)
      have hown := hs.1
      have htk : ps.take (k + 1) = ps.take k ++ [ps.getD k 0] := by
        rw [List.take_succ_eq_append_getElem hkl, List.getD_eq_getElem?_getD, List.getElem?_eq_getElem hkl]; rfl
      have HT := Lib.hid htk
      generalize ps.getD k 0 = q at hc1 hpk HT
      clear hc htk
      go_wp2_with (first
        | (at_mapUpdate; refine wpList_mapUpdate_in _ rfl _ _ _ 157 rfl 42 97 lawP Tryz.underlying157 (unitElem (H := Unit)) b _ _ rfl hown (by have := hs.len; unfold maxLen; omega) _ _ _ rfl rfl (keyP hpk) _ [] unitElem_mk ?_; intro w1 hown1 hturn1)
        | go_in)
      rw [setD_put] at hown1
      go_roundw
      case rel =>
        refine ⟨k + 1, by omega, by go_num, ?_, ht.trans hturn1⟩
        rw [HT.out, insAll_snoc]
        exact ⟨own_tight hown1, srt_ins hs.2.1, fun x hx => by
          rcases mem_ins.1 hx with e | e
          · rw [e]; exact hpk
          · exact hs.2.2 x e⟩
      case measure => simp [intOf]; omega
    · have hki : ¬ (k : Int) < (n : Int) := by omega
      have e : k = n := by omega
      go_wp2
      go_end0
      refine ⟨rfl, ?_, ht⟩
      rw [e, hN.out, List.take_length] at hs
      exact hs

end Go.Proofs.YtildjdhoeilcfaaGreat

namespace Go.Proofs.YtildjdhoeilcfaaGreat
open Go.RowKit Go.Maps

/-- Pages of the call's own, in memory from 'base' on. -/
def OwnP (base : Nat) (w : World) (v : Value) (ps : List Nat) : Prop := w.ownsRow base 42 1 v ps.length (ps.map encP) ∧ ∀ p ∈ ps, p < 4294967296
theorem OwnP.grown {base : Nat} {w w' : World} {v : Value} {ps : List Nat} (h : OwnP base w v ps) (k : w.grownBy w' none) : OwnP base w' v ps := ⟨World.ownsRow.kept h.1 k (by cases v.ownBlock <;> simp), h.2⟩
theorem OwnP.mono {base base' : Nat} {w : World} {v : Value} {ps : List Nat} (h : OwnP base w v ps) (k : base' ≤ base) : OwnP base' w v ps := by
  refine ⟨⟨h.1.1, ?_⟩, h.2⟩
  rcases h.1.2 with hn | ⟨g, cap, cur, rfl, hb, r⟩
  · exact .inl hn
  · exact .inr ⟨g, cap, cur, rfl, by omega, r⟩
theorem OwnP.set {base q : Nat} {w : World} {v : Value} {ps : List Nat} (h : OwnP base w v ps) (hq : q < base) (k : Nat) (u : Value) : OwnP base (w.setCell ⟨q, k, none⟩ u) v ps := by
  refine ⟨World.ownsRow.kept h.1 (gset w ⟨q, k, none⟩ u) ?_, h.2⟩
  cases hv : v.ownBlock with
  | none => exact .inl rfl
  | some g => have := (h.1.lt g hv).1; right; intro e; injection e with e; simp at e; omega
theorem OwnP.psq {base : Nat} {w : World} {v : Value} {ps : List Nat} (h : OwnP base w v ps) : PSq (fun b => base ≤ b) w v ps := (PSq.owned h.1 h.2).imp fun _ k _ => k.1

set_option maxHeartbeats 400000 in
theorem pclone_any (w : World) (R : Nat → Prop) (ao : Option Addr) (n c : Nat) (ps : List Nat) (hs : PSq R w (.slice ao n c) ps) (hne : ps ≠ []) (hl : ps.length ≤ 35184372088831) :
    Calls Tryz.prog 73 #[.slice ao n c] w fun r w' => ∃ ao c, r = .returned (.slice ao n c) ∧ OwnP w.heap.size w' (.slice ao n c) ps ∧ w.grownBy w' none := by
  obtain ⟨i0, hi, hz0, hz1, hz2⟩ := info_parts infoPg
  obtain ⟨rfl, _⟩ := hs.len
  have h32 := hs.u32
  obtain ⟨b, o, rfl, _, _⟩ := hs.at 0 (List.length_pos_iff.2 hne)
  have hc : ∀ j u, (ps.map encP)[j]? = some u → w.cell? ((⟨b, o, none⟩ : Addr).add j) = some u := by
    intro j u hu
    have hj : j < ps.length := by have := (List.getElem?_eq_some_iff.1 hu).1; simpa using this
    obtain ⟨b', o', e, _, h3⟩ := hs.at j hj
    cases e
    rw [show (⟨b, o, none⟩ : Addr).add j = ⟨b, o + j, none⟩ by unfold Addr.add; split <;> simp_all, h3]
    simp only [List.getElem?_map, List.getElem?_eq_getElem hj, Option.map_some, Option.some.injEq] at hu
    rw [← hu]
    simp [encP, hj]
  clear hs
  have heq : ∀ w : World, (binOp .eql 31 (.slice (some ⟨b, o, none⟩) ps.length c) (.slice none 0 0)).run Tryz.prog w = .ok (.bool false) w := fun w => Lib.run_eql_slice_nil w _ _ _ _ _ _ _ Tryz.underlying31
  go_enter Tryz.func73, Tryz.ntmps73
  go_wp2_with (at_builtin; refine wpList_append_own _ rfl _ _ 31 rfl w.heap.size 42 i0 (.int .u32 0) 1 4 Tryz.underlying31 hi hz0 hz1 hz2 rfl (by decide) _ _ _ rfl (World.ownsRow_lit w #[] 0 (Nat.le_refl _) (by simp [maxLen]) rfl) ⟨b, o, none⟩ ps.length c (ps.map encP) rfl (by simp) ?c1 pcell1 ?c3 ?c4 ?c5 ?_)
  case c1 =>
    intro j u hu
    exact cell_alloc (hc j u hu)
  case c3 => unfold maxLen; omega
  case c4 => omega
  case c5 => simp
  · intro v' w1 hown hgrow _
    obtain ⟨ao, c', rfl⟩ := own_shape hown
    go_wp2
    go_ret
    refine ⟨ao, c', rfl, ⟨?_, h32⟩, gof (((Below.refl w.heap.size w).alloc (Nat.le_refl _) _).grown hgrow (by simp) (fun k h => by simp [Value.ownBlock] at h; omega)) _⟩
    simpa using hown

theorem results_Rec {fn : Func} {p : Tmp} (h : fn.results = #[.cell p 141]) (tmps : Array Value) (W : World) (q : Nat) (cs : Array Value) (hp : tmps.getD p undef = .pointer (some ⟨q, 0, none⟩))
    (hq : W.heap[q]? = some (.cells cs 141 (0, 0))) (hs : cs.size = 2) : (results fn tmps).run Tryz.prog W = .ok (.agg cs) W :=
  results_cell_row h tmps W q 141 cs (0, 0) _ hp hq Tryz.underlying141 rfl (by rw [hs]; kernel_rfl)

theorem cells2 {W : World} {q : Nat} {a b : Value} {t : TypeId} (h : W.heap[q]? = some (.cells #[a, b] t (0, 0))) : W.cell? ⟨q, 0, none⟩ = some a ∧ W.cell? ⟨q, 1, none⟩ = some b ∧ W.frozen? ⟨q, 0, none⟩ = false ∧ W.frozen? ⟨q, 1, none⟩ = false := by
  simp [World.cell?, World.frozen?, h]
theorem store2 {W : World} {q : Nat} {x0 x1 : Value} {t : TypeId} (h : W.heap[q]? = some (.cells #[x0, x1] t (0, 0))) (a b : Value) :
    ((W.setCell ⟨q, 0, none⟩ a).setCell ⟨q, 1, none⟩ b).heap[q]? = some (.cells #[a, b] t (0, 0)) := by
  simp [World.setCell, Array.getElem?_modify, h]

set_option maxHeartbeats 1000000 in
theorem copied_any (w : World) (R : Nat → Prop) (t : Nat) (ao : Option Addr) (n c : Nat) (ps : List Nat) (hs : PSq R w (.slice ao n c) ps) (hne : ps ≠ []) (hl : ps.length ≤ 35184372088831) :
    Calls Tryz.prog 101 #[.agg #[.int .u64 (t : Int), .slice ao n c]] w fun r w' => ∃ ao c, r = .returned (.agg #[.int .u64 (t : Int), .slice ao n c]) ∧ OwnP w.heap.size w' (.slice ao n c) ps ∧ w.grownBy w' none := by
  have Hs := Lib.hid ((hs.grown (two_grown w (.cells #[.int .u64 (t : Int), .slice ao n c] 141) (.cells #[.int .u64 0, .slice none 0 0] 141))).grown (gdrew _))
  clear hs
  go_enter Tryz.func101, Tryz.ntmps101
  go_wp2
  go_region_with (go_at_call 73; (with_reducible refine (pclone_any _ R ao n c ps Hs.out hne hl).mono ?_); rintro r w1 ⟨a1, c1, rfl, ho1, hg1⟩; have b1 := (hg1.block (w.heap.size + 1) (by simp [World.drew]) (by simp)).trans (two_lit1 _ _ _); obtain ⟨d0, d1, f0, f1⟩ := cells2 b1; have b0 := (hg1.block w.heap.size (by simp [World.drew]; omega) (by simp)).trans (two_lit0 _ _ _); obtain ⟨e0, e1, -, -⟩ := cells2 b0; have HB := Lib.hid b1; have HO := Lib.hid ho1; have HG := Lib.hid hg1; clear b0 b1 ho1 hg1)
  all_goals
    go_wp2
    refine bodyPost_ret (results_Rec rfl _ _ (w.heap.size + 1) _ rfl (store2 HB.out _ _) rfl) rfl ⟨a1, c1, rfl, ((HO.out.set (by simp [World.drew]) 0 _).set (by simp [World.drew]) 1 _).mono (by simp [World.drew]; omega), ?_⟩
    have hw : w.grownBy w1 none := gtrans (gtrans (two_grown _ _ _) (gdrew _)) HG.out
    exact gnew (gnew hw (gset _ ⟨w.heap.size + 1, 0, none⟩ _) (by simp)) (gset _ ⟨w.heap.size + 1, 1, none⟩ _) (by simp)

end Go.Proofs.YtildjdhoeilcfaaGreat

namespace Go.Proofs.YtildjdhoeilcfaaGreat
open Go.RowKit Go.Maps

theorem rise_cons (stop least p : Nat) (r : List Nat) : rise stop least (p :: r) = (decide (least ≤ p) && decide (p < stop) && rise stop (p + 1) r) := rfl

set_option maxHeartbeats 1000000 in
theorem rightPages_any (w : World) (R : Nat → Prop) (ao : Option Addr) (n c : Nat) (ps : List Nat) (stop : Nat) (hs : PSq R w (.slice ao n c) ps) (hst : stop < 4294967296) :
    Calls Tryz.prog 75 #[.slice ao n c, .int .u32 (stop : Int)] w fun r w' => r = .returned (.bool (okPages ps stop)) ∧ w = w' := by
  obtain ⟨hn, hm⟩ := hs.len
  have hN := Lib.hid hn
  have Hs := Lib.hid hs
  have hm2 : (n : Int) ≤ 9223372036854775807 := by have h9 : maxLen ≤ 9223372036854775807 := by decide
                                                   omega
  clear hn hm hs
  go_enter Tryz.func75, Tryz.ntmps75
  go_wp2
  go_loopw [5, 10] (fun l i wr => ∃ k least : Nat, k ≤ n ∧ i = .int .i64 (k : Int) ∧ l = .int .u32 (least : Int) ∧ rise stop 2 ps = rise stop least (ps.drop k) ∧ w = wr) (fun _ i _ => n - (intOf i).toNat)
  case atStart => exact ⟨0, 2, Nat.zero_le _, rfl, rfl, by simp, rfl⟩
  case round =>
    obtain ⟨k, least, hk, rfl, rfl, hr, rfl⟩ := hrel
    have Hr := Lib.hid hr
    clear hr
    by_cases hlt : k < n
    · have hki : (k : Int) < (n : Int) := by omega
      have hkl : k < ps.length := by rw [← hN.out]; exact hlt
      obtain ⟨b', o, rfl, _, hc⟩ := Hs.out.at k hkl
      have hdk : ps.drop k = ps.getD k 0 :: ps.drop (k + 1) := by
        rw [List.drop_eq_getElem_cons hkl, List.getD_eq_getElem?_getD, List.getElem?_eq_getElem hkl]; rfl
      have HD := Lib.hid hdk
      clear hdk
      generalize ps.getD k 0 = q at hc HD
      by_cases h1 : q < least
      · have h1i : (q : Int) < (least : Int) := by omega
        have HF := Lib.hid (show okPages ps stop = false by unfold okPages; rw [Hr.out, HD.out, rise_cons]; simp [show ¬ least ≤ q by omega])
        go_wp2
        go_ret
        exact ⟨by rw [HF.out]; rfl, rfl⟩
      · have h1i : ¬ (q : Int) < (least : Int) := by omega
        by_cases h2 : stop ≤ q
        · have h2i : (stop : Int) ≤ (q : Int) := by omega
          have HF := Lib.hid (show okPages ps stop = false by unfold okPages; rw [Hr.out, HD.out, rise_cons]; simp [show ¬ q < stop by omega])
          go_wp2
          go_ret
          exact ⟨by rw [HF.out]; rfl, rfl⟩
        · have h2i : ¬ (stop : Int) ≤ (q : Int) := by omega
          have hq1 : (q : Int) + 1 ≤ 4294967295 := by omega
          go_wp2
          go_roundw
          case rel => exact ⟨k + 1, q + 1, by omega, by go_num, by go_num, by rw [Hr.out, HD.out, rise_cons]; simp [show least ≤ q by omega, show q < stop by omega], trivial⟩
          case measure => simp [intOf]; omega
    · have hki : ¬ (k : Int) < (n : Int) := by omega
      have HF := Lib.hid (show okPages ps stop = decide (0 < n) by
        unfold okPages
        rw [Hr.out, List.drop_eq_nil_of_le (by rw [← hN.out]; omega), ← hN.out]
        simp [rise])
      go_wp2
      go_ret
      exact ⟨by rw [HF.out]; rfl, rfl⟩

set_option maxHeartbeats 1000000 in
/-- slices.IndexFunc, asked for the first page that is in a set. -/
theorem pindex_any (w : World) (R : Nat → Prop) (ao : Option Addr) (n c b : Nat) (ps L : List Nat) (hs : PSq R w (.slice ao n c) ps) (hS : SetAt w b L) :
    Calls Tryz.prog 110 #[.slice ao n c, .func (.func 77) #[.map (some b)] #[]] w fun r w' => ∃ i : Int, r = .returned (.int .i64 i) ∧ (decide (0 ≤ i) = !noneIn ps L) ∧ w.grownBy w' none := by
  obtain ⟨hn, hm⟩ := hs.len
  have hN := Lib.hid hn
  have Hs := Lib.hid hs
  have HS := Lib.hid hS
  have hm2 : (n : Int) ≤ 9223372036854775807 := by have h9 : maxLen ≤ 9223372036854775807 := by decide
                                                   omega
  clear hn hm hs hS
  go_enter Tryz.func110, Tryz.ntmps110
  go_wp2
  go_loopw [8] (fun i wr => ∃ k : Nat, k ≤ n ∧ i = .int .i64 (k : Int) ∧ (∀ p ∈ ps.take k, p ∉ L) ∧ w.grownBy wr none) (fun i _ => n - (intOf i).toNat)
  case atStart => exact ⟨0, Nat.zero_le _, rfl, by simp, grefl _ _⟩
  case round =>
    obtain ⟨k, hk, rfl, hr, hg⟩ := hrel
    have Hr := Lib.hid hr
    have Hg := Lib.hid hg
    clear hr hg
    by_cases hlt : k < n
    · have hki : (k : Int) < (n : Int) := by omega
      have hkl : k < ps.length := by rw [← hN.out]; exact hlt
      obtain ⟨b', o, rfl, _, hc0⟩ := Hs.out.at k hkl
      have hc : wr.cell? ⟨b', o + k, none⟩ = _ := Hg.out.cell hc0 (by simp)
      have htk : ps.take (k + 1) = ps.take k ++ [ps.getD k 0] := by
        rw [List.take_succ_eq_append_getElem hkl, List.getD_eq_getElem?_getD, List.getElem?_eq_getElem hkl]; rfl
      have hmem : ps.getD k 0 ∈ ps := by rw [List.getD_eq_getElem?_getD, List.getElem?_eq_getElem hkl]; exact List.getElem_mem hkl
      have hq32 := Hs.out.u32 _ hmem
      have HT := Lib.hid htk
      have HM := Lib.hid hmem
      clear htk hmem hc0
      generalize ps.getD k 0 = q at hc HT HM hq32
      by_cases hin : q ∈ L
      · have hd : decide (q ∈ L) = true := by simpa using hin
        have HIN := Lib.hid hin
        clear hin
        go_wp2_with (first
          | (go_at_call 77; refine (has_any wr b q L (HS.out.grown Hg.out) hq32).mono ?_; rw [hd]; rintro r w1 ⟨rfl, rfl⟩))
        go_ret
        refine ⟨(k : Int), rfl, ?_, gtrans Hg.out (World.grownBy_alloc _ _ _)⟩
        have : noneIn ps L = false := by
          unfold noneIn
          rw [List.all_eq_false]
          exact ⟨q, HM.out, by simp [HIN.out]⟩
        rw [this]
        simp
      · have hd : decide (q ∈ L) = false := by simpa using hin
        have HIN := Lib.hid hin
        clear hin
        go_wp2_with (first
          | (go_at_call 77; refine (has_any wr b q L (HS.out.grown Hg.out) hq32).mono ?_; rw [hd]; rintro r w1 ⟨rfl, rfl⟩))
        go_roundw
        case rel =>
          refine ⟨k + 1, by omega, by go_num, ?_, gtrans Hg.out (World.grownBy_alloc _ _ _)⟩
          rw [HT.out]
          intro p hp
          rcases List.mem_append.1 hp with h | h
          · exact Hr.out p h
          · have : p = q := by simpa using h
            rw [this]; exact HIN.out
        case measure => simp [intOf]; omega
    · have hki : ¬ (k : Int) < (n : Int) := by omega
      go_wp2
      go_ret
      refine ⟨-1, rfl, ?_, Hg.out⟩
      have e : ps.take k = ps := by rw [show k = n by omega, hN.out]; exact List.take_length
      have h := Hr.out
      rw [e] at h
      have : noneIn ps L = true := by
        unfold noneIn
        rw [List.all_eq_true]
        intro p hp
        simpa using h p hp
      rw [this]
      simp

set_option maxHeartbeats 1000000 in
theorem contains_any (w : World) (R : Nat → Prop) (ao : Option Addr) (n c b : Nat) (ps L : List Nat) (hs : PSq R w (.slice ao n c) ps) (hS : SetAt w b L) :
    Calls Tryz.prog 76 #[.slice ao n c, .func (.func 77) #[.map (some b)] #[]] w fun r w' => r = .returned (.bool (!noneIn ps L)) ∧ w.grownBy w' none := by
  go_enter Tryz.func76, Tryz.ntmps76
  go_wp2_with (first
    | (go_at_call 110; refine (pindex_any w R ao n c b ps L hs hS).mono ?_; rintro r w1 ⟨i, rfl, hi, hg⟩; have HI := Lib.hid hi; have HG := Lib.hid hg; clear hi hg))
  go_ret
  exact ⟨by rw [← HI.out]; rfl, HG.out⟩

end Go.Proofs.YtildjdhoeilcfaaGreat
