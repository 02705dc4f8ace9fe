/-
  Layer 8: pages as lists of numbers that rise: plain. Own work.
-/
namespace Go.Proofs.Ytpgpilalhbdidaa

def Srt (L : List Nat) : Prop := L.Pairwise (· < ·)
def insS (p : Nat) : List Nat → List Nat
  | [] => [p]
  | y :: r => if p < y then p :: y :: r else y :: insS p r
def del (p : Nat) (L : List Nat) : List Nat := L.filter (fun x => !(x == p))
def ins (p : Nat) (L : List Nat) : List Nat := insS p (del p L)
def insAll (ps L : List Nat) : List Nat := ps.foldl (fun m p => ins p m) L

theorem mem_insS {x p : Nat} : ∀ {L : List Nat}, x ∈ insS p L ↔ x = p ∨ x ∈ L
  | [] => by simp [insS]
  | y :: r => by
    unfold insS
    split
    · simp
    · simp only [List.mem_cons, mem_insS (L := r)]
      constructor
      · rintro (h | h | h)
        · exact .inr (.inl h)
        · exact .inl h
        · exact .inr (.inr h)
      · rintro (h | h | h)
        · exact .inr (.inl h)
        · exact .inl h
        · exact .inr (.inr h)
theorem mem_del {x p : Nat} {L : List Nat} : x ∈ del p L ↔ x ∈ L ∧ x ≠ p := by
  unfold del
  rw [List.mem_filter]
  simp
theorem mem_ins {x p : Nat} {L : List Nat} : x ∈ ins p L ↔ x = p ∨ x ∈ L := by
  unfold ins
  rw [mem_insS, mem_del]
  constructor
  · rintro (h | h)
    · exact .inl h
    · exact .inr h.1
  · rintro (h | h)
    · exact .inl h
    · by_cases e : x = p
      · exact .inl e
      · exact .inr ⟨h, e⟩
theorem srt_insS {p : Nat} : ∀ {L : List Nat}, Srt L → p ∉ L → Srt (insS p L)
  | [], _, _ => by simp [insS, Srt]
  | y :: r, h, hp => by
    obtain ⟨h1, h2⟩ := List.pairwise_cons.1 h
    simp only [List.mem_cons, not_or] at hp
    unfold insS
    split
    · rename_i hlt
      refine List.pairwise_cons.2 ⟨fun q hq => ?_, h⟩
      rcases List.mem_cons.1 hq with rfl | hq
      · exact hlt
      · exact Nat.lt_trans hlt (h1 q hq)
    · rename_i hlt
      refine List.pairwise_cons.2 ⟨fun q hq => ?_, srt_insS h2 hp.2⟩
      rcases mem_insS.1 hq with rfl | hq
      · omega
      · exact h1 q hq
theorem srt_del {p : Nat} {L : List Nat} (h : Srt L) : Srt (del p L) := h.filter _
theorem srt_ins {p : Nat} {L : List Nat} (h : Srt L) : Srt (ins p L) := srt_insS (srt_del h) (fun k => (mem_del.1 k).2 rfl)
theorem srt_insAll : ∀ {ps L : List Nat}, Srt L → Srt (insAll ps L)
  | [], _, h => h
  | p :: ps, L, h => srt_insAll (ps := ps) (L := ins p L) (srt_ins h)
theorem mem_insAll {x : Nat} : ∀ {ps L : List Nat}, x ∈ insAll ps L ↔ x ∈ ps ∨ x ∈ L
  | [], L => by simp [insAll]
  | p :: ps, L => by
    show x ∈ insAll ps (ins p L) ↔ _
    rw [mem_insAll, mem_ins, List.mem_cons]
    constructor
    · rintro (h | h | h)
      · exact .inl (.inr h)
      · exact .inl (.inl h)
      · exact .inr h
    · rintro ((h | h) | h)
      · exact .inr (.inl h)
      · exact .inl h
      · exact .inr (.inr h)
theorem insAll_snoc (ps L : List Nat) (p : Nat) : insAll (ps ++ [p]) L = ins p (insAll ps L) := by simp [insAll, List.foldl_append]
theorem srt_ext : ∀ {L M : List Nat}, Srt L → Srt M → (∀ x, x ∈ L ↔ x ∈ M) → L = M
  | [], [], _, _, _ => rfl
  | [], y :: m, _, _, h => by have := (h y).2 (by simp); simp at this
  | x :: l, [], _, _, h => by have := (h x).1 (by simp); simp at this
  | x :: l, y :: m, h1, h2, h => by
    obtain ⟨a1, a2⟩ := List.pairwise_cons.1 h1
    obtain ⟨b1, b2⟩ := List.pairwise_cons.1 h2
    have e : x = y := by
      rcases List.mem_cons.1 ((h x).1 (by simp)) with e | e
      · exact e
      · rcases List.mem_cons.1 ((h y).2 (by simp)) with k | k
        · exact k.symm
        · have := b1 x e; have := a1 y k; omega
    subst e
    rw [srt_ext a2 b2 (fun z => ?_)]
    constructor
    · intro hz
      have := a1 z hz
      rcases List.mem_cons.1 ((h z).1 (by simp [hz])) with e | e
      · omega
      · exact e
    · intro hz
      have := b1 z hz
      rcases List.mem_cons.1 ((h z).2 (by simp [hz])) with e | e
      · omega
      · exact e
theorem len_insS (p : Nat) : ∀ L : List Nat, (insS p L).length = L.length + 1
  | [] => rfl
  | y :: r => by
    unfold insS
    split
    · rfl
    · simp [len_insS p r]
theorem del_no {p : Nat} {L : List Nat} (h : p ∉ L) : del p L = L := by
  unfold del
  refine List.filter_eq_self.2 fun x hx => ?_
  simp
  rintro rfl
  exact h hx
theorem len_del {p : Nat} : ∀ {L : List Nat}, Srt L → p ∈ L → (del p L).length + 1 = L.length
  | [], _, h => by simp at h
  | y :: r, hs, h => by
    obtain ⟨h1, h2⟩ := List.pairwise_cons.1 hs
    by_cases e : y = p
    · subst e
      have : y ∉ r := fun k => by have := h1 y k; omega
      have hd := del_no this
      unfold del at hd ⊢
      rw [List.filter_cons]
      simp [hd]
    · have hr : p ∈ r := by
        rcases List.mem_cons.1 h with k | k
        · exact absurd k.symm e
        · exact k
      have ih := len_del h2 hr
      unfold del at ih ⊢
      rw [List.filter_cons]
      simp [e]
      omega
theorem len_ins_new {p : Nat} {L : List Nat} (h : p ∉ L) : (ins p L).length = L.length + 1 := by
  unfold ins
  rw [len_insS, del_no h]
theorem len_ins_old {p : Nat} {L : List Nat} (hs : Srt L) (h : p ∈ L) : (ins p L).length = L.length := by
  unfold ins
  rw [len_insS, len_del hs h]
theorem len_ins_le (p : Nat) (L : List Nat) : (ins p L).length ≤ L.length + 1 := by
  unfold ins
  rw [len_insS]
  have := List.length_filter_le (fun x => !(x == p)) L
  unfold del
  omega
theorem srt_len {N : Nat} : ∀ {L : List Nat} (a : Nat), Srt L → (∀ x ∈ L, a ≤ x ∧ x < N) → L.length ≤ N - a
  | [], _, _, _ => by simp
  | y :: r, a, hs, h => by
    obtain ⟨h1, h2⟩ := List.pairwise_cons.1 hs
    have hy := h y (by simp)
    have ih := srt_len (L := r) (y + 1) h2 (fun x hx => ⟨h1 x hx, (h x (by simp [hx])).2⟩)
    simp
    omega
theorem srt_nodup {L : List Nat} (h : Srt L) : L.Nodup := h.imp (fun hab e => by omega)
/-- The lowest of a list that rises is its head. -/
theorem srt_head {y : Nat} {r : List Nat} (h : Srt (y :: r)) {x : Nat} (hx : x ∈ y :: r) : y ≤ x := by
  rcases List.mem_cons.1 hx with e | e
  · omega
  · have := (List.pairwise_cons.1 h).1 x e; omega

/-! ### records -/
abbrev Rc := Nat × List Nat
/-- Pages that may be a record's, from 'least' on. -/
def rise (stop : Nat) : Nat → List Nat → Bool
  | _, [] => true
  | least, p :: r => decide (least ≤ p) && decide (p < stop) && rise stop (p + 1) r
def okPages (l : List Nat) (stop : Nat) : Bool := rise stop 2 l && decide (0 < l.length)
def noneIn (ps L : List Nat) : Bool := ps.all (fun p => decide (p ∉ L))
/-- What Right tells: behind records whose pages are 'seen', the last of them 'last'. -/
def okRecs (stop : Nat) : Option Nat → List Nat → List Rc → Bool
  | _, _, [] => true
  | last, seen, r :: l => (match last with | none => true | some t => decide (t < r.1)) && okPages r.2 stop && noneIn r.2 seen && okRecs stop (some r.1) (insAll r.2 seen) l
def right (l : List Rc) (stop : Nat) : Bool := okRecs stop none [] l

theorem rise_iff (stop : Nat) : ∀ (l : List Nat) (least : Nat), rise stop least l = true ↔ Srt l ∧ ∀ x ∈ l, least ≤ x ∧ x < stop
  | [], least => by simp [rise, Srt]
  | p :: r, least => by
    unfold rise
    simp only [Bool.and_eq_true, decide_eq_true_eq, rise_iff stop r (p + 1)]
    constructor
    · rintro ⟨⟨h1, h2⟩, h3, h4⟩
      refine ⟨List.pairwise_cons.2 ⟨fun x hx => (h4 x hx).1, h3⟩, fun x hx => ?_⟩
      rcases List.mem_cons.1 hx with rfl | hx
      · exact ⟨h1, h2⟩
      · have := h4 x hx; omega
    · rintro ⟨h1, h2⟩
      obtain ⟨a1, a2⟩ := List.pairwise_cons.1 h1
      refine ⟨h2 p (by simp), a2, fun x hx => ⟨a1 x hx, (h2 x (by simp [hx])).2⟩⟩
theorem okPages_iff {l : List Nat} {stop : Nat} : okPages l stop = true ↔ Srt l ∧ (∀ x ∈ l, 2 ≤ x ∧ x < stop) ∧ l ≠ [] := by
  unfold okPages
  rw [Bool.and_eq_true, rise_iff, decide_eq_true_eq, List.length_pos_iff, and_assoc]

/-- What a page's records say, told at once. -/
structure Okr (stop : Nat) (l : List Rc) : Prop where
  txns : l.Pairwise (fun a b => a.1 < b.1)
  each : ∀ r ∈ l, Srt r.2 ∧ (∀ x ∈ r.2, 2 ≤ x ∧ x < stop) ∧ r.2 ≠ []
  apart : l.Pairwise (fun a b => ∀ x ∈ a.2, x ∉ b.2)
theorem okRecs_iff (stop : Nat) : ∀ (l : List Rc) (last : Option Nat) (seen : List Nat), okRecs stop last seen l = true ↔ Okr stop l ∧ (∀ t, last = some t → ∀ r ∈ l, t < r.1) ∧ ∀ r ∈ l, ∀ x ∈ r.2, x ∉ seen
  | [], last, seen => by simp [okRecs]; exact ⟨List.Pairwise.nil, by simp, List.Pairwise.nil⟩
  | r :: l, last, seen => by
    unfold okRecs
    simp only [Bool.and_eq_true, okPages_iff, noneIn, List.all_eq_true, decide_eq_true_eq, okRecs_iff stop l (some r.1) (insAll r.2 seen), mem_insAll]
    constructor
    · rintro ⟨⟨⟨h1, h2⟩, h3⟩, h4, h5, h6⟩
      refine ⟨⟨List.pairwise_cons.2 ⟨fun b hb => h5 _ rfl b hb, h4.txns⟩, fun b hb => ?_, List.pairwise_cons.2 ⟨fun b hb x hx hxb => h6 b hb x hxb (.inl hx), h4.apart⟩⟩, fun t ht b hb => ?_, fun b hb x hx => ?_⟩
      · rcases List.mem_cons.1 hb with rfl | hb
        · exact h2
        · exact h4.each b hb
      · subst ht
        have h1' : t < r.1 := by simpa using h1
        rcases List.mem_cons.1 hb with rfl | hb
        · exact h1'
        · have := h5 _ rfl b hb; omega
      · rcases List.mem_cons.1 hb with rfl | hb
        · exact h3 x hx
        · exact fun k => h6 b hb x hx (.inr k)
    · rintro ⟨h, h1, h2⟩
      obtain ⟨a1, a2⟩ := List.pairwise_cons.1 h.txns
      obtain ⟨b1, b2⟩ := List.pairwise_cons.1 h.apart
      refine ⟨⟨⟨?_, h.each r (by simp)⟩, fun x hx => h2 r (by simp) x hx⟩, ⟨a2, fun b hb => h.each b (by simp [hb]), b2⟩, ?_, ?_⟩
      · cases last with
        | none => rfl
        | some t => simpa using h1 t rfl r (by simp)
      · intro t ht b hb
        cases ht
        exact a1 b hb
      · rintro b hb x hx (k | k)
        · exact b1 b hb x k hx
        · exact h2 b (by simp [hb]) x hx k
theorem right_iff {l : List Rc} {stop : Nat} : right l stop = true ↔ Okr stop l := by
  unfold right
  rw [okRecs_iff]
  simp

abbrev allOf (l : List Rc) : List Nat := l.flatMap (·.2)
theorem okr_tail {stop : Nat} {r : Rc} {l : List Rc} (h : Okr stop (r :: l)) : Okr stop l :=
  ⟨(List.pairwise_cons.1 h.txns).2, fun b hb => h.each b (by simp [hb]), (List.pairwise_cons.1 h.apart).2⟩
theorem mem_allOf {l : List Rc} {x : Nat} : x ∈ allOf l ↔ ∃ r ∈ l, x ∈ r.2 := by simp [allOf, List.mem_flatMap]
theorem okr_nodup {stop : Nat} : ∀ {l : List Rc}, Okr stop l → (allOf l).Nodup
  | [], _ => by simp [allOf]
  | r :: l, h => by
    have e : allOf (r :: l) = r.2 ++ allOf l := rfl
    rw [e, List.nodup_append]
    refine ⟨srt_nodup (h.each r (by simp)).1, okr_nodup (okr_tail h), fun a ha b hb hab => ?_⟩
    subst hab
    obtain ⟨r', hr', hx⟩ := mem_allOf.1 hb
    exact (List.pairwise_cons.1 h.apart).1 r' hr' a ha hx
theorem okr_range {stop : Nat} {l : List Rc} (h : Okr stop l) : ∀ x ∈ allOf l, 2 ≤ x ∧ x < stop := fun x hx => by
  obtain ⟨r, hr, hx⟩ := mem_allOf.1 hx
  exact (h.each r hr).2.1 x hx
theorem len_insAll : ∀ {ps L : List Nat}, ps.Nodup → (∀ x ∈ ps, x ∉ L) → (insAll ps L).length = L.length + ps.length
  | [], L, _, _ => by simp [insAll]
  | p :: ps, L, h, k => by
    obtain ⟨h1, h2⟩ := List.nodup_cons.1 h
    show (insAll ps (ins p L)).length = _
    rw [len_insAll h2 (fun x hx hm => by
      rcases mem_ins.1 hm with e | e
      · subst e; exact h1 hx
      · exact k x (by simp [hx]) e), len_ins_new (k p (by simp))]
    simp
    omega
theorem nodup_len {N : Nat} {ps : List Nat} (h : ps.Nodup) (k : ∀ x ∈ ps, x < N) : ps.length ≤ N := by
  have h1 := len_insAll (L := []) h (by simp)
  have h2 := srt_len (N := N) 0 (srt_insAll (ps := ps) (L := []) List.Pairwise.nil) (fun x hx => by
    rcases mem_insAll.1 hx with e | e
    · exact ⟨Nat.zero_le _, k x e⟩
    · simp at e)
  simp at h1
  omega
theorem len_allOf {l : List Rc} (h : ∀ r ∈ l, r.2 ≠ []) : l.length ≤ (allOf l).length := by
  induction l with
  | nil => simp
  | cons r l ih =>
    have e : allOf (r :: l) = r.2 ++ allOf l := rfl
    rw [e, List.length_append, List.length_cons]
    have := ih fun b hb => h b (by simp [hb])
    have := List.length_pos_iff.2 (h r (by simp))
    omega
theorem okr_len {stop : Nat} {l : List Rc} (h : Okr stop l) : l.length ≤ stop :=
  Nat.le_trans (len_allOf fun r hr => (h.each r hr).2.2) (nodup_len (okr_nodup h) fun x hx => (okr_range h x hx).2)
theorem okr_each {stop : Nat} {l : List Rc} (h : Okr stop l) {r : Rc} (hr : r ∈ l) : r.2.length ≤ stop := nodup_len (srt_nodup (h.each r hr).1) fun x hx => ((h.each r hr).2.1 x hx).2

/-! ### old and new records -/
def isOld (old : Nat) (r : Rc) : Bool := decide (r.1 ≤ old)
def oldRecs (old : Nat) (l : List Rc) : List Rc := l.filter (isOld old)
def newRecs (old : Nat) (l : List Rc) : List Rc := l.filter (fun r => !isOld old r)
theorem insAll_app (a b L : List Nat) : insAll (a ++ b) L = insAll b (insAll a L) := by simp [insAll, List.foldl_append]
theorem take_snoc {α : Type} {l : List α} {k : Nat} {r : α} (h : l[k]? = some r) : l.take (k + 1) = l.take k ++ [r] := by
  have hk := (List.getElem?_eq_some_iff.1 h).1
  rw [List.take_succ_eq_append_getElem hk]
  rw [List.getElem?_eq_getElem hk] at h
  cases h
  rfl
theorem oldRecs_yes {old : Nat} {l : List Rc} {r : Rc} (h : r.1 ≤ old) : oldRecs old (l ++ [r]) = oldRecs old l ++ [r] ∧ newRecs old (l ++ [r]) = newRecs old l := by
  simp [oldRecs, newRecs, isOld, List.filter_append, h]
theorem oldRecs_no {old : Nat} {l : List Rc} {r : Rc} (h : ¬ r.1 ≤ old) : oldRecs old (l ++ [r]) = oldRecs old l ∧ newRecs old (l ++ [r]) = newRecs old l ++ [r] := by
  simp [oldRecs, newRecs, isOld, List.filter_append, h]
theorem allOf_snoc (l : List Rc) (r : Rc) : allOf (l ++ [r]) = allOf l ++ r.2 := by simp [allOf, List.flatMap_append]

end Go.Proofs.Ytpgpilalhbdidaa
