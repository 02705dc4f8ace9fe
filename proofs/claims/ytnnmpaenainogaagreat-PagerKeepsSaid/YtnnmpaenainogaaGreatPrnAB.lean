/-
  Layer 8: pages as lists of numbers that rise: plain. Own work.
-/

set_option linter.unusedVariables false
set_option linter.unusedSimpArgs false
namespace Go.Proofs.YtnnmpaenainogaaGreat
def Srt (L : List Nat) : Prop := L.Pairwise (· < ·)
def insS (p : Nat) : List Nat→List Nat
  | [] => [p]
  | y :: r => if p < y then p :: y :: r else y :: insS p r
def del (p : Nat) (L : List Nat) : List Nat := L.filter (fun x => !(x == p))
def ins (p : Nat) (L : List Nat) : List Nat := insS p (del p L)
def insAll (ps L : List Nat) : List Nat := ps.foldl (fun m p => ins p m) L
theorem mem_insS {x p : Nat} : ∀ {L : List Nat},x∈insS p L↔x = p∨x∈L
  | [] => by simp [insS]
  | y :: r => by
    unfold insS
    split
    · simp
    · simp only [List.mem_cons,mem_insS (L := r)]
      constructor
      · rintro (h | h | h)
        · exact .inr (.inl h)
        · exact .inl h
        · exact .inr (.inr h)
      · rintro (h | h | h)
        · exact .inr (.inl h)
        · exact .inl h
        · exact .inr (.inr h)
theorem mem_del {x p : Nat} {L : List Nat} : x∈del p L↔x∈L∧x≠p := by
  unfold del
  rw [List.mem_filter]
  simp
theorem mem_ins {x p : Nat} {L : List Nat} : x∈ins p L↔x = p∨x∈L := by
  unfold ins
  rw [mem_insS,mem_del]
  constructor
  · rintro (h | h)
    · exact .inl h
    · exact .inr h.1
  · rintro (h | h)
    · exact .inl h
    · by_cases e : x = p
      · exact .inl e
      · exact .inr ⟨h,e⟩
theorem srt_insS {p : Nat} : ∀ {L : List Nat},Srt L→p ∉ L→Srt (insS p L)
  | [],_,_ => by simp [insS,Srt]
  | y :: r,h,hp => by
    obtain ⟨h1,h2⟩ := List.pairwise_cons.1 h
    simp only [List.mem_cons,not_or] at hp
    unfold insS
    split
    · rename_i hlt
      refine List.pairwise_cons.2 ⟨fun q hq => ?_,h⟩
      rcases List.mem_cons.1 hq with rfl | hq
      · exact hlt
      · exact Nat.lt_trans hlt (h1 q hq)
    · rename_i hlt
      refine List.pairwise_cons.2 ⟨fun q hq => ?_,srt_insS h2 hp.2⟩
      rcases mem_insS.1 hq with rfl | hq
      · omega
      · exact h1 q hq
theorem srt_del {p : Nat} {L : List Nat} (h : Srt L) : Srt (del p L) := h.filter _
theorem srt_ins {p : Nat} {L : List Nat} (h : Srt L) : Srt (ins p L) := srt_insS (srt_del h) (fun k => (mem_del.1 k).2 rfl)
theorem srt_insAll : ∀ {ps L : List Nat},Srt L→Srt (insAll ps L)
  | [],_,h => h
  | p :: ps,L,h => srt_insAll (ps := ps) (L := ins p L) (srt_ins h)
theorem mem_insAll {x : Nat} : ∀ {ps L : List Nat},x∈insAll ps L↔x∈ps∨x∈L
  | [],L => by simp [insAll]
  | p :: ps,L => by
    show x∈insAll ps (ins p L)↔_
    rw [mem_insAll,mem_ins,List.mem_cons]
    constructor
    · rintro (h | h | h)
      · exact .inl (.inr h)
      · exact .inl (.inl h)
      · exact .inr h
    · rintro ((h | h) | h)
      · exact .inr (.inl h)
      · exact .inl h
      · exact .inr (.inr h)
theorem insAll_snoc (ps L : List Nat) (p : Nat) : insAll (ps++[p]) L = ins p (insAll ps L) := by simp [insAll,List.foldl_append]
theorem srt_ext : ∀ {L M : List Nat},Srt L→Srt M→(∀ x,x∈L↔x∈M)→L = M
  | [],[],_,_,_ => rfl
  | [],y :: m,_,_,h => by have := (h y).2 (by simp); simp at this
  | x :: l,[],_,_,h => by have := (h x).1 (by simp); simp at this
  | x :: l,y :: m,h1,h2,h => by
    obtain ⟨a1,a2⟩ := List.pairwise_cons.1 h1
    obtain ⟨b1,b2⟩ := List.pairwise_cons.1 h2
    have e : x = y := by
      rcases List.mem_cons.1 ((h x).1 (by simp)) with e | e
      · exact e
      · rcases List.mem_cons.1 ((h y).2 (by simp)) with k | k
        · exact k.symm
        · have := b1 x e; have := a1 y k; omega
    subst e
    rw [srt_ext a2 b2 (fun z => ?_)]
    constructor
    · intro hz
      have := a1 z hz
      rcases List.mem_cons.1 ((h z).1 (by simp [hz])) with e | e
      · omega
      · exact e
    · intro hz
      have := b1 z hz
      rcases List.mem_cons.1 ((h z).2 (by simp [hz])) with e | e
      · omega
      · exact e
theorem len_insS (p : Nat) : ∀ L : List Nat,(insS p L).length = L.length + 1
  | [] => rfl
  | y :: r => by
    unfold insS
    split
    · rfl
    · simp [len_insS p r]
theorem del_no {p : Nat} {L : List Nat} (h : p ∉ L) : del p L = L := by
  unfold del
  refine List.filter_eq_self.2 fun x hx => ?_
  simp
  rintro rfl
  exact h hx
theorem len_ins_new {p : Nat} {L : List Nat} (h : p ∉ L) : (ins p L).length = L.length + 1 := by
  unfold ins
  rw [len_insS,del_no h]
theorem srt_len {N : Nat} : ∀ {L : List Nat} (a : Nat),Srt L→(∀ x∈L,a≤x∧x < N)→L.length≤N - a
  | [],_,_,_ => by simp
  | y :: r,a,hs,h => by
    obtain ⟨h1,h2⟩ := List.pairwise_cons.1 hs
    have hy := h y (by simp)
    have ih := srt_len (L := r) (y + 1) h2 (fun x hx => ⟨h1 x hx,(h x (by simp [hx])).2⟩)
    simp
    omega
theorem srt_nodup {L : List Nat} (h : Srt L) : L.Nodup := h.imp (fun hab e => by omega)
theorem srt_head {y : Nat} {r : List Nat} (h : Srt (y :: r)) {x : Nat} (hx : x∈y :: r) : y≤x := by
  rcases List.mem_cons.1 hx with e | e
  · omega
  · have := (List.pairwise_cons.1 h).1 x e; omega
abbrev Rc := Nat × List Nat
def rise (stop : Nat) : Nat→List Nat→Bool
  | _,[] => true
  | least,p :: r => decide (least≤p) && decide (p < stop) && rise stop (p + 1) r
def okPages (l : List Nat) (stop : Nat) : Bool := rise stop 2 l && decide (0 < l.length)
def noneIn (ps L : List Nat) : Bool := ps.all (fun p => decide (p ∉ L))
def okRecs (stop : Nat) : Option Nat→List Nat→List Rc→Bool
  | _,_,[] => true
  | last,seen,r :: l => (match last with | none => true | some t => decide (t < r.1)) && okPages r.2 stop && noneIn r.2 seen && okRecs stop (some r.1) (insAll r.2 seen) l
def right (l : List Rc) (stop : Nat) : Bool := okRecs stop none [] l
theorem rise_iff (stop : Nat) : ∀ (l : List Nat) (least : Nat),rise stop least l = true↔Srt l∧∀ x∈l,least≤x∧x < stop
  | [],least => by simp [rise,Srt]
  | p :: r,least => by
    unfold rise
    simp only [Bool.and_eq_true,decide_eq_true_eq,rise_iff stop r (p + 1)]
    constructor
    · rintro ⟨⟨h1,h2⟩,h3,h4⟩
      refine ⟨List.pairwise_cons.2 ⟨fun x hx => (h4 x hx).1,h3⟩,fun x hx => ?_⟩
      rcases List.mem_cons.1 hx with rfl | hx
      · exact ⟨h1,h2⟩
      · have := h4 x hx; omega
    · rintro ⟨h1,h2⟩
      obtain ⟨a1,a2⟩ := List.pairwise_cons.1 h1
      refine ⟨h2 p (by simp),a2,fun x hx => ⟨a1 x hx,(h2 x (by simp [hx])).2⟩⟩
theorem okPages_iff {l : List Nat} {stop : Nat} : okPages l stop = true↔Srt l∧(∀ x∈l,2≤x∧x < stop)∧l≠[] := by
  unfold okPages
  rw [Bool.and_eq_true,rise_iff,decide_eq_true_eq,List.length_pos_iff,and_assoc]
structure Okr (stop : Nat) (l : List Rc) : Prop where
  txns : l.Pairwise (fun a b => a.1 < b.1)
  each : ∀ r∈l,Srt r.2∧(∀ x∈r.2,2≤x∧x < stop)∧r.2≠[]
  apart : l.Pairwise (fun a b => ∀ x∈a.2,x ∉ b.2)
theorem okRecs_iff (stop : Nat) : ∀ (l : List Rc) (last : Option Nat) (seen : List Nat),okRecs stop last seen l = true↔Okr stop l∧(∀ t,last = some t→∀ r∈l,t < r.1)∧∀ r∈l,∀ x∈r.2,x ∉ seen
  | [],last,seen => by simp [okRecs]; exact ⟨List.Pairwise.nil,by simp,List.Pairwise.nil⟩
  | r :: l,last,seen => by
    unfold okRecs
    simp only [Bool.and_eq_true,okPages_iff,noneIn,List.all_eq_true,decide_eq_true_eq,okRecs_iff stop l (some r.1) (insAll r.2 seen),mem_insAll]
    constructor
    · rintro ⟨⟨⟨h1,h2⟩,h3⟩,h4,h5,h6⟩
      refine ⟨⟨List.pairwise_cons.2 ⟨fun b hb => h5 _ rfl b hb,h4.txns⟩,fun b hb => ?_,List.pairwise_cons.2 ⟨fun b hb x hx hxb => h6 b hb x hxb (.inl hx),h4.apart⟩⟩,fun t ht b hb => ?_,fun b hb x hx => ?_⟩
      · rcases List.mem_cons.1 hb with rfl | hb
        · exact h2
        · exact h4.each b hb
      · subst ht
        have h1' : t < r.1 := by simpa using h1
        rcases List.mem_cons.1 hb with rfl | hb
        · exact h1'
        · have := h5 _ rfl b hb; omega
      · rcases List.mem_cons.1 hb with rfl | hb
        · exact h3 x hx
        · exact fun k => h6 b hb x hx (.inr k)
    · rintro ⟨h,h1,h2⟩
      obtain ⟨a1,a2⟩ := List.pairwise_cons.1 h.txns
      obtain ⟨b1,b2⟩ := List.pairwise_cons.1 h.apart
      refine ⟨⟨⟨?_,h.each r (by simp)⟩,fun x hx => h2 r (by simp) x hx⟩,⟨a2,fun b hb => h.each b (by simp [hb]),b2⟩,?_,?_⟩
      · cases last with
        | none => rfl
        | some t => simpa using h1 t rfl r (by simp)
      · intro t ht b hb
        cases ht
        exact a1 b hb
      · rintro b hb x hx (k | k)
        · exact b1 b hb x k hx
        · exact h2 b (by simp [hb]) x hx k
theorem right_iff {l : List Rc} {stop : Nat} : right l stop = true↔Okr stop l := by
  unfold right
  rw [okRecs_iff]
  simp
abbrev allOf (l : List Rc) : List Nat := l.flatMap (·.2)
theorem okr_tail {stop : Nat} {r : Rc} {l : List Rc} (h : Okr stop (r :: l)) : Okr stop l :=
  ⟨(List.pairwise_cons.1 h.txns).2,fun b hb => h.each b (by simp [hb]),(List.pairwise_cons.1 h.apart).2⟩
theorem mem_allOf {l : List Rc} {x : Nat} : x∈allOf l↔∃ r∈l,x∈r.2 := by simp [allOf,List.mem_flatMap]
theorem okr_nodup {stop : Nat} : ∀ {l : List Rc},Okr stop l→(allOf l).Nodup
  | [],_ => by simp [allOf]
  | r :: l,h => by
    have e : allOf (r :: l) = r.2++allOf l := rfl
    rw [e,List.nodup_append]
    refine ⟨srt_nodup (h.each r (by simp)).1,okr_nodup (okr_tail h),fun a ha b hb hab => ?_⟩
    subst hab
    obtain ⟨r',hr',hx⟩ := mem_allOf.1 hb
    exact (List.pairwise_cons.1 h.apart).1 r' hr' a ha hx
theorem okr_range {stop : Nat} {l : List Rc} (h : Okr stop l) : ∀ x∈allOf l,2≤x∧x < stop := fun x hx => by
  obtain ⟨r,hr,hx⟩ := mem_allOf.1 hx
  exact (h.each r hr).2.1 x hx
theorem len_insAll : ∀ {ps L : List Nat},ps.Nodup→(∀ x∈ps,x ∉ L)→(insAll ps L).length = L.length + ps.length
  | [],L,_,_ => by simp [insAll]
  | p :: ps,L,h,k => by
    obtain ⟨h1,h2⟩ := List.nodup_cons.1 h
    show (insAll ps (ins p L)).length = _
    rw [len_insAll h2 (fun x hx hm => by
      rcases mem_ins.1 hm with e | e
      · subst e; exact h1 hx
      · exact k x (by simp [hx]) e),len_ins_new (k p (by simp))]
    simp
    omega
theorem nodup_len {N : Nat} {ps : List Nat} (h : ps.Nodup) (k : ∀ x∈ps,x < N) : ps.length≤N := by
  have h1 := len_insAll (L := []) h (by simp)
  have h2 := srt_len (N := N) 0 (srt_insAll (ps := ps) (L := []) List.Pairwise.nil) (fun x hx => by
    rcases mem_insAll.1 hx with e | e
    · exact ⟨Nat.zero_le _,k x e⟩
    · simp at e)
  simp at h1
  omega
theorem len_allOf {l : List Rc} (h : ∀ r∈l,r.2≠[]) : l.length≤(allOf l).length := by
  induction l with
  | nil => simp
  | cons r l ih =>
    have e : allOf (r :: l) = r.2++allOf l := rfl
    rw [e,List.length_append,List.length_cons]
    have := ih fun b hb => h b (by simp [hb])
    have := List.length_pos_iff.2 (h r (by simp))
    omega
theorem okr_len {stop : Nat} {l : List Rc} (h : Okr stop l) : l.length≤stop :=
  Nat.le_trans (len_allOf fun r hr => (h.each r hr).2.2) (nodup_len (okr_nodup h) fun x hx => (okr_range h x hx).2)
theorem okr_each {stop : Nat} {l : List Rc} (h : Okr stop l) {r : Rc} (hr : r∈l) : r.2.length≤stop := nodup_len (srt_nodup (h.each r hr).1) fun x hx => ((h.each r hr).2.1 x hx).2
def isOld (old : Nat) (r : Rc) : Bool := decide (r.1≤old)
def oldRecs (old : Nat) (l : List Rc) : List Rc := l.filter (isOld old)
def newRecs (old : Nat) (l : List Rc) : List Rc := l.filter (fun r => !isOld old r)
theorem insAll_app (a b L : List Nat) : insAll (a++b) L = insAll b (insAll a L) := by simp [insAll,List.foldl_append]
theorem take_snoc {α : Type} {l : List α} {k : Nat} {r : α} (h : l[k]? = some r) : l.take (k + 1) = l.take k++[r] := by
  have hk := (List.getElem?_eq_some_iff.1 h).1
  rw [List.take_succ_eq_append_getElem hk]
  rw [List.getElem?_eq_getElem hk] at h
  cases h
  rfl
theorem oldRecs_yes {old : Nat} {l : List Rc} {r : Rc} (h : r.1≤old) : oldRecs old (l++[r]) = oldRecs old l++[r]∧newRecs old (l++[r]) = newRecs old l := by
  simp [oldRecs,newRecs,isOld,List.filter_append,h]
theorem oldRecs_no {old : Nat} {l : List Rc} {r : Rc} (h : ¬ r.1≤old) : oldRecs old (l++[r]) = oldRecs old l∧newRecs old (l++[r]) = newRecs old l++[r] := by
  simp [oldRecs,newRecs,isOld,List.filter_append,h]
theorem allOf_snoc (l : List Rc) (r : Rc) : allOf (l++[r]) = allOf l++r.2 := by simp [allOf,List.flatMap_append]
end Go.Proofs.YtnnmpaenainogaaGreat

namespace Go.Proofs.YtnnmpaenainogaaGreat
structure Sp where
  en : Nat
  lim : Nat
  low : Nat
  us : List Nat
  fr : List Nat
  go : List Nat
  wa : List Nat
  ws : List Rc
def inUseM (M : Sp) (p : Nat) : Bool := decide (2≤p) && decide (p < M.en) && !decide (p∈M.us) && !decide (p∈M.fr) && !decide (p∈M.go) && !decide (p∈M.wa)
def giveM (M : Sp) (p : Nat) : Sp × Int :=
  if p∈M.fr then ({ M with fr := del p M.fr,us := ins p M.us,low := min M.low p },0)
  else if inUseM M p = true then ({ M with go := ins p M.go },0) else (M,1)
def takeM (M : Sp) : Sp × Nat × Int :=
  match M.us with
  | p :: r => ({ M with low := p,us := r,fr := ins p M.fr },p,0)
  | [] => if M.en = M.lim then (M,0,21) else ({ M with en := M.en + 1,fr := ins M.en M.fr },M.en,0)
def recM (L : List Nat) (t : Nat) : List Rc := if L = [] then [] else [(t,L)]
def recsM (M : Sp) (t : Nat) : List Rc := recM M.us 0++M.ws++recM M.go t
def spOf (en lim old : Nat) (l : List Rc) : Sp := { en := en,lim := lim,low := 2,us := insAll (allOf (oldRecs old l)) [],fr := [],go := [],wa := insAll (allOf (newRecs old l)) [],ws := newRecs old l }
def upd (V : Nat→Nat) (p x : Nat) : Nat→Nat := fun q => if q = p then x else V q
theorem upd_same (V : Nat→Nat) (p x : Nat) : upd V p x p = x := if_pos rfl
theorem upd_other (V : Nat→Nat) {p q : Nat} (x : Nat) (h : q≠p) : upd V p x q = V q := if_neg h
end Go.Proofs.YtnnmpaenainogaaGreat

namespace Go.Proofs.YtnnmpaenainogaaGreat
structure GInv (e0 lm : Nat) (WS : List Rc) (M : Sp) (V : Nat→Nat) : Prop where
  e2 : 2≤e0
  lim : M.lim = lm
  en1 : e0≤M.en
  en2 : M.en≤lm
  low : ∀ x∈M.us,M.low≤x
  su : Srt M.us
  sg : Srt M.go
  k1 : ∀ p,V p = 1↔p∈M.us
  k2 : ∀ p,V p = 2↔p∈M.wa
  k3 : ∀ p,V p = 3↔p∈M.fr
  k4 : ∀ p,V p = 4↔p∈M.go
  rg : ∀ p,V p≠0→2≤p∧p < M.en
  v4 : ∀ p,V p≤4
  ws : M.ws = WS
  wa : ∀ p,p∈M.wa↔p∈allOf WS
  nw : ∀ p,e0≤p→p < M.en→V p = 1∨V p = 3
theorem g_take {e0 lm : Nat} {WS : List Rc} {M : Sp} {V : Nat→Nat} (h : GInv e0 lm WS M V) {M' : Sp} {p : Nat} {e : Int} (ht : takeM M = (M',p,e)) :
    (e = 0∧(V p = 1∧M'.en = M.en∧M.us.length = M'.us.length + 1∨V p = 0∧p = M.en∧M'.en = M.en + 1∧M'.us = []∧M.us = [])∧M'.go = M.go∧GInv e0 lm WS M' (upd V p 3))∨(e = 21∧M' = M∧M.us = []∧M.en = lm) := by
  unfold takeM at ht
  cases hu : M.us with
  | cons q r =>
    rw [hu] at ht
    simp only at ht
    injection ht with h1 h2
    injection h2 with h2 h3
    subst h1 h2 h3
    have hs := h.su
    rw [hu] at hs
    obtain ⟨s1,s2⟩ := List.pairwise_cons.1 hs
    have hV : V q = 1 := (h.k1 q).2 (by rw [hu]; exact List.mem_cons_self)
    have hr := h.rg q (by rw [hV]; decide)
    have hqr : q ∉ r := fun k => by have := s1 q k; omega
    have hen := h.en2
    refine .inl ⟨rfl,.inl ⟨hV,rfl,rfl⟩,rfl,⟨h.e2,h.lim,h.en1,h.en2,fun x hx => Nat.le_of_lt (s1 x hx),s2,h.sg,fun x => ?_,fun x => ?_,fun x => ?_,fun x => ?_,fun x hx => ?_,fun x => ?_,h.ws,h.wa,fun x x1 x2 => by by_cases e : x = q <;> first | (subst e; rw [upd_same]; exact .inr rfl) | (rw [upd_other V 3 e]; exact h.nw x x1 x2)⟩⟩
    · show _↔x∈r
      by_cases e : x = q
      · subst e; rw [upd_same]; constructor
        · intro k; omega
        · intro k; exact absurd k hqr
      · rw [upd_other V 3 e,h.k1 x,hu,List.mem_cons]
        exact ⟨fun k => k.resolve_left e,.inr⟩
    · show _↔x∈M.wa
      by_cases e : x = q
      · subst e; rw [upd_same,← h.k2]; omega
      · rw [upd_other V 3 e,h.k2 x]
    · show _↔x∈ins q M.fr
      rw [mem_ins]
      by_cases e : x = q
      · subst e; rw [upd_same]; simp
      · rw [upd_other V 3 e,h.k3 x]
        exact ⟨.inr,fun k => k.resolve_left e⟩
    · show _↔x∈M.go
      by_cases e : x = q
      · subst e; rw [upd_same,← h.k4]; omega
      · rw [upd_other V 3 e,h.k4 x]
    · by_cases e : x = q
      · subst e; exact hr
      · rw [upd_other V 3 e] at hx; exact h.rg x hx
    · by_cases e : x = q
      · subst e; rw [upd_same]; decide
      · rw [upd_other V 3 e]; exact h.v4 x
  | nil =>
    rw [hu] at ht
    simp only at ht
    split at ht
    · rename_i he
      injection ht with h1 h2
      injection h2 with h2 h3
      exact .inr ⟨h3.symm,h1.symm,rfl,he.trans h.lim⟩
    · rename_i he
      injection ht with h1 h2
      injection h2 with h2 h3
      subst h1 h2 h3
      have h60 : M.en < lm := by have := h.en2; have := h.lim; omega
      have hV : V M.en = 0 := by
        rcases Nat.eq_zero_or_pos (V M.en) with e | e
        · exact e
        · have := (h.rg M.en (by omega)).2; omega
      have hen := h.en1
      have he2 := h.e2
      refine .inl ⟨rfl,.inr ⟨hV,rfl,rfl,rfl,rfl⟩,rfl,⟨h.e2,h.lim,Nat.le_succ_of_le h.en1,h60,fun x hx => h.low x (by rw [hu]; exact hx),List.Pairwise.nil,h.sg,fun x => ?_,fun x => ?_,fun x => ?_,fun x => ?_,fun x hx => ?_,fun x => ?_,h.ws,h.wa,fun x x1 x2 => by by_cases e : x = M.en <;> first | (subst e; rw [upd_same]; exact .inr rfl) | (rw [upd_other V 3 e]; exact h.nw x x1 (by have x2 : x < M.en + 1 := x2; omega))⟩⟩
      · show _↔x∈[]
        rw [← hu]
        by_cases e : x = M.en
        · subst e; rw [upd_same,← h.k1]; omega
        · rw [upd_other V 3 e,h.k1 x]
      · show _↔x∈M.wa
        by_cases e : x = M.en
        · subst e; rw [upd_same,← h.k2]; omega
        · rw [upd_other V 3 e,h.k2 x]
      · show _↔x∈ins M.en M.fr
        rw [mem_ins]
        by_cases e : x = M.en
        · subst e; rw [upd_same]; simp
        · rw [upd_other V 3 e,h.k3 x]
          exact ⟨.inr,fun k => k.resolve_left e⟩
      · show _↔x∈M.go
        by_cases e : x = M.en
        · subst e; rw [upd_same,← h.k4]; omega
        · rw [upd_other V 3 e,h.k4 x]
      · show 2≤x∧x < M.en + 1
        by_cases e : x = M.en
        · omega
        · rw [upd_other V 3 e] at hx
          have := h.rg x hx; omega
      · by_cases e : x = M.en
        · subst e; rw [upd_same]; decide
        · rw [upd_other V 3 e]; exact h.v4 x
theorem g_give {e0 lm : Nat} {WS : List Rc} {M : Sp} {V : Nat→Nat} (h : GInv e0 lm WS M V) {M' : Sp} {p : Nat} {e : Int} (ht : giveM M p = (M',e)) :
    (e = 0∧V p = 3∧M'.en = M.en∧GInv e0 lm WS M' (upd V p 1))∨(e = 0∧V p = 0∧2≤p∧p < e0∧M'.en = M.en∧M'.us = M.us∧M'.go = ins p M.go∧GInv e0 lm WS M' (upd V p 4))∨(e = 1∧M' = M∧¬ (V p = 3∨V p = 0∧2≤p∧p < e0)) := by
  unfold giveM at ht
  split at ht
  · rename_i hf
    injection ht with h1 h2
    subst h1 h2
    have hV : V p = 3 := (h.k3 p).2 hf
    have hr := h.rg p (by rw [hV]; decide)
    refine .inl ⟨rfl,hV,rfl,⟨h.e2,h.lim,h.en1,h.en2,fun x hx => ?_,srt_ins h.su,h.sg,fun x => ?_,fun x => ?_,fun x => ?_,fun x => ?_,fun x hx => ?_,fun x => ?_,h.ws,h.wa,fun x x1 x2 => by by_cases e : x = p <;> first | (subst e; rw [upd_same]; exact .inl rfl) | (rw [upd_other V 1 e]; exact h.nw x x1 x2)⟩⟩
    · show min M.low p≤x
      rcases mem_ins.1 (show x∈ins p M.us from hx) with e | e
      · rw [e]; exact Nat.min_le_right _ _
      · exact Nat.le_trans (Nat.min_le_left _ _) (h.low x e)
    · show _↔x∈ins p M.us
      rw [mem_ins]
      by_cases e : x = p
      · subst e; rw [upd_same]; simp
      · rw [upd_other V 1 e,h.k1 x]
        exact ⟨.inr,fun k => k.resolve_left e⟩
    · show _↔x∈M.wa
      by_cases e : x = p
      · subst e; rw [upd_same,← h.k2]; omega
      · rw [upd_other V 1 e,h.k2 x]
    · show _↔x∈del p M.fr
      rw [mem_del]
      by_cases e : x = p
      · subst e; rw [upd_same]; simp
      · rw [upd_other V 1 e,h.k3 x]
        exact ⟨fun k => ⟨k,e⟩,fun k => k.1⟩
    · show _↔x∈M.go
      by_cases e : x = p
      · subst e; rw [upd_same,← h.k4]; omega
      · rw [upd_other V 1 e,h.k4 x]
    · show 2≤x∧x < M.en
      by_cases e : x = p
      · subst e; exact hr
      · rw [upd_other V 1 e] at hx; exact h.rg x hx
    · by_cases e : x = p
      · subst e; rw [upd_same]; decide
      · rw [upd_other V 1 e]; exact h.v4 x
  · rename_i hf
    split at ht
    · rename_i hi
      injection ht with h1 h2
      subst h1 h2
      unfold inUseM at hi
      simp only [Bool.and_eq_true,decide_eq_true_eq,Bool.not_eq_true',decide_eq_false_iff_not] at hi
      obtain ⟨⟨⟨⟨⟨i1,i2⟩,i3⟩,i4⟩,i5⟩,i6⟩ := hi
      have n1 : V p≠1 := fun k => i3 ((h.k1 p).1 k)
      have n2 : V p≠2 := fun k => i6 ((h.k2 p).1 k)
      have n3 : V p≠3 := fun k => i4 ((h.k3 p).1 k)
      have n4 : V p≠4 := fun k => i5 ((h.k4 p).1 k)
      have hv := h.v4 p
      have hV : V p = 0 := by omega
      have hpe : p < e0 := by
        rcases Nat.lt_or_ge p e0 with k | k
        · exact k
        · rcases h.nw p k i2 with k | k <;> omega
      refine .inr (.inl ⟨rfl,hV,i1,hpe,rfl,rfl,rfl,⟨h.e2,h.lim,h.en1,h.en2,h.low,h.su,srt_ins h.sg,fun x => ?_,fun x => ?_,fun x => ?_,fun x => ?_,fun x hx => ?_,fun x => ?_,h.ws,h.wa,fun x x1 x2 => by rw [upd_other V 4 (by omega)]; exact h.nw x x1 x2⟩⟩)
      · show _↔x∈M.us
        by_cases e : x = p
        · subst e; rw [upd_same,← h.k1]; omega
        · rw [upd_other V 4 e,h.k1 x]
      · show _↔x∈M.wa
        by_cases e : x = p
        · subst e; rw [upd_same,← h.k2]; omega
        · rw [upd_other V 4 e,h.k2 x]
      · show _↔x∈M.fr
        by_cases e : x = p
        · subst e; rw [upd_same,← h.k3]; omega
        · rw [upd_other V 4 e,h.k3 x]
      · show _↔x∈ins p M.go
        rw [mem_ins]
        by_cases e : x = p
        · subst e; rw [upd_same]; simp
        · rw [upd_other V 4 e,h.k4 x]
          exact ⟨.inr,fun k => k.resolve_left e⟩
      · show 2≤x∧x < M.en
        by_cases e : x = p
        · subst e; exact ⟨i1,i2⟩
        · rw [upd_other V 4 e] at hx; exact h.rg x hx
      · by_cases e : x = p
        · subst e; rw [upd_same]; decide
        · rw [upd_other V 4 e]; exact h.v4 x
    · rename_i hi
      injection ht with h1 h2
      refine .inr (.inr ⟨h2.symm,h1.symm,?_⟩)
      rintro (k | ⟨k,k2,k3⟩)
      · exact hf ((h.k3 p).1 k)
      · refine hi ?_
        have n1 : p ∉ M.us := fun x => by have := (h.k1 p).2 x; omega
        have n2 : p ∉ M.wa := fun x => by have := (h.k2 p).2 x; omega
        have n4 : p ∉ M.go := fun x => by have := (h.k4 p).2 x; omega
        have := h.en1
        simp [inUseM,k2,n1,hf,n4,n2]
        omega
def ggood (V : Nat→Nat) (p : Nat) : Bool := V p == 1 || V p == 2 || V p == 4
theorem ggood_iff {V : Nat→Nat} {p : Nat} : ggood V p = true↔V p = 1∨V p = 2∨V p = 4 := by simp [ggood,or_assoc]
theorem gallOf_append (a b : List Rc) : allOf (a++b) = allOf a++allOf b := by simp [allOf]
theorem gallOf_recM (L : List Nat) (t : Nat) : allOf (recM L t) = L := by
  unfold recM
  split
  · rename_i e; simp [allOf,e]
  · simp [allOf]
theorem grecs_mem {e0 lm : Nat} {WS : List Rc} {M : Sp} {V : Nat→Nat} (h : GInv e0 lm WS M V) (t p : Nat) : p∈allOf (recsM M t)↔ggood V p = true := by
  unfold recsM
  rw [gallOf_append,gallOf_append,gallOf_recM,gallOf_recM,List.mem_append,List.mem_append,ggood_iff,h.k1,h.k2,h.k4,h.wa,h.ws]
  exact or_assoc
theorem grecs_nodup {e0 lm : Nat} {WS : List Rc} {M : Sp} {V : Nat→Nat} (h : GInv e0 lm WS M V) (hok : Okr e0 WS) (t : Nat) : (allOf (recsM M t)).Nodup := by
  unfold recsM
  rw [gallOf_append,gallOf_append,gallOf_recM,gallOf_recM,h.ws]
  have d12 : ∀ x∈M.us,x ∉ allOf WS := fun x hx k => by
    have a1 := (h.k1 x).2 hx
    have a2 := (h.k2 x).2 ((h.wa x).2 k)
    omega
  have d14 : ∀ x∈M.us,x ∉ M.go := fun x hx k => by
    have a1 := (h.k1 x).2 hx
    have a2 := (h.k4 x).2 k
    omega
  have d24 : ∀ x∈allOf WS,x ∉ M.go := fun x hx k => by
    have a1 := (h.k2 x).2 ((h.wa x).2 hx)
    have a2 := (h.k4 x).2 k
    omega
  refine List.nodup_append.2 ⟨List.nodup_append.2 ⟨srt_nodup h.su,okr_nodup hok,fun a ha b hb e => d12 a ha (e ▸ hb)⟩,srt_nodup h.sg,fun a ha b hb e => ?_⟩
  rcases List.mem_append.1 ha with ha | ha
  · exact d14 a ha (e ▸ hb)
  · exact d24 a ha (e ▸ hb)
theorem grecs_right {e0 lm : Nat} {WS : List Rc} {M : Sp} {V : Nat→Nat} (h : GInv e0 lm WS M V) (hok : Okr e0 WS) (t : Nat) (h0 : ∀ r∈WS,0 < r.1∧r.1 < t) (ht : 0 < t) : right (recsM M t) M.en = true := by
  have hnd := grecs_nodup h hok t
  have hp : ∀ p∈allOf (recsM M t),2≤p∧p < M.en := fun p hp => by
    have k := (grecs_mem h t p).1 hp
    exact h.rg p (by rcases ggood_iff.1 k with e | e | e <;> omega)
  refine right_iff.2 ⟨?_,fun r hr => ?_,?_⟩
  · unfold recsM
    rw [h.ws]
    have f1 : ∀ {L : List Nat} {t : Nat} {r : Rc},r∈recM L t→r = (t,L) := fun {L t r} hr => by
      unfold recM at hr
      split at hr
      · cases hr
      · simpa using hr
    have f2 : ∀ (L : List Nat) (t : Nat),(recM L t).Pairwise (fun a b : Rc => a.1 < b.1) := fun L t => by
      unfold recM; split
      · exact List.Pairwise.nil
      · exact List.pairwise_singleton _ _
    refine List.pairwise_append.2 ⟨List.pairwise_append.2 ⟨f2 _ _,hok.txns,fun a ha b hb => ?_⟩,f2 _ _,fun a ha b hb => ?_⟩
    · rw [f1 ha]; exact (h0 b hb).1
    · rw [f1 hb]
      rcases List.mem_append.1 ha with ha | ha
      · rw [f1 ha]; exact ht
      · exact (h0 a ha).2
  · have hsub : ∀ x∈r.2,2≤x∧x < M.en := fun x hx => hp x (mem_allOf.2 ⟨r,hr,hx⟩)
    have hsr : Srt r.2∧r.2≠[] := by
      unfold recsM at hr
      rw [h.ws] at hr
      rcases List.mem_append.1 hr with hr | hr
      · rcases List.mem_append.1 hr with hr | hr
        · unfold recM at hr
          split at hr
          · cases hr
          · rename_i hne
            obtain rfl : r = (0,M.us) := by simpa using hr
            exact ⟨h.su,hne⟩
        · exact ⟨(hok.each r hr).1,(hok.each r hr).2.2⟩
      · unfold recM at hr
        split at hr
        · cases hr
        · rename_i hne
          obtain rfl : r = (t,M.go) := by simpa using hr
          exact ⟨h.sg,hne⟩
    exact ⟨hsr.1,hsub,hsr.2⟩
  · have : ∀ l : List Rc,(allOf l).Nodup→l.Pairwise (fun a b : Rc => ∀ x∈a.2,x ∉ b.2) := fun l => by
      induction l with
      | nil => intro _; exact List.Pairwise.nil
      | cons r l ih =>
        intro hn
        have e : allOf (r :: l) = r.2++allOf l := rfl
        rw [e] at hn
        obtain ⟨_,n2,n3⟩ := List.nodup_append.1 hn
        exact List.pairwise_cons.2 ⟨fun b hb x hx k => n3 x hx x (mem_allOf.2 ⟨b,hb,k⟩) rfl,ih n2⟩
    exact this _ hnd
def fillP (old t : Nat) (V : Nat→Nat) (ps : List Nat) : Nat→Nat := ps.foldl (fun V p => upd V p (if t≤old then 1 else 2)) V
def fillR (old : Nat) (V : Nat→Nat) (rs : List Rc) : Nat→Nat := rs.foldl (fun V r => fillP old r.1 V r.2) V
theorem fillP_at (old t : Nat) : ∀ (ps : List Nat) (V : Nat→Nat) (p : Nat),fillP old t V ps p = if p∈ps then (if t≤old then 1 else 2) else V p
  | [],V,p => by simp [fillP]
  | x :: ps,V,p => by
    show fillP old t (upd V x _) ps p = _
    rw [fillP_at old t ps]
    by_cases h1 : p∈ps
    · rw [if_pos h1,if_pos (show p∈x :: ps from List.mem_cons_of_mem _ h1)]
    · rw [if_neg h1]
      by_cases h2 : p = x
      · subst h2; rw [upd_same,if_pos (show p∈p :: ps from List.mem_cons_self)]
      · rw [upd_other V _ h2,if_neg (show ¬ p∈x :: ps by simp [h1,h2])]
theorem fillR_at (old : Nat) : ∀ (rs : List Rc) (V : Nat→Nat),(allOf rs).Nodup→∀ p,fillR old V rs p = if p∈allOf (oldRecs old rs) then 1 else if p∈allOf (newRecs old rs) then 2 else V p
  | [],V,_,p => by simp [fillR,oldRecs,newRecs,allOf]
  | r :: rs,V,hnd,p => by
    have e : allOf (r :: rs) = r.2++allOf rs := rfl
    rw [e] at hnd
    obtain ⟨n1,n2,n3⟩ := List.nodup_append.1 hnd
    show fillR old (fillP old r.1 V r.2) rs p = _
    rw [fillR_at old rs _ n2,fillP_at]
    have so : ∀ x,x∈allOf (oldRecs old rs)→x∈allOf rs := fun x hx => by
      obtain ⟨a,ha,hx⟩ := mem_allOf.1 hx
      exact mem_allOf.2 ⟨a,(List.mem_filter.1 ha).1,hx⟩
    have sn : ∀ x,x∈allOf (newRecs old rs)→x∈allOf rs := fun x hx => by
      obtain ⟨a,ha,hx⟩ := mem_allOf.1 hx
      exact mem_allOf.2 ⟨a,(List.mem_filter.1 ha).1,hx⟩
    by_cases ho : r.1≤old
    · have e1 : oldRecs old (r :: rs) = r :: oldRecs old rs := by simp [oldRecs,isOld,ho]
      have e2 : newRecs old (r :: rs) = newRecs old rs := by simp [newRecs,isOld,ho]
      rw [e1,e2,show allOf (r :: oldRecs old rs) = r.2++allOf (oldRecs old rs) from rfl,if_pos ho]
      by_cases h1 : p∈r.2
      · have h2 : p ∉ allOf rs := fun k => n3 p h1 p k rfl
        rw [if_neg (fun k => h2 (so p k)),if_neg (fun k => h2 (sn p k)),if_pos h1,if_pos (by simp [h1])]
      · simp only [List.mem_append,h1,false_or,if_false]
    · have e1 : oldRecs old (r :: rs) = oldRecs old rs := by simp [oldRecs,isOld,ho]
      have e2 : newRecs old (r :: rs) = r :: newRecs old rs := by simp [newRecs,isOld,ho]
      rw [e1,e2,show allOf (r :: newRecs old rs) = r.2++allOf (newRecs old rs) from rfl,if_neg ho]
      by_cases h1 : p∈r.2
      · have h2 : p ∉ allOf rs := fun k => n3 p h1 p k rfl
        rw [if_neg (fun k => h2 (so p k)),if_neg (fun k => h2 (sn p k)),if_pos h1,if_neg (fun k => h2 (so p k)),if_pos (by simp [h1])]
      · simp only [List.mem_append,h1,false_or,if_false]
theorem g_start {e0 lm old : Nat} {rs : List Rc} (he : 2≤e0) (hl : e0≤lm) (hok : Okr e0 rs) : GInv e0 lm (newRecs old rs) (spOf e0 lm old rs) (fillR old (fun _ => 0) rs) := by
  have hnd := okr_nodup hok
  have hat := fillR_at old rs (fun _ => 0) hnd
  have hex : ∀ x,x∈allOf (oldRecs old rs)→x∈allOf (newRecs old rs)→False := fun x h1 h2 => by
    obtain ⟨a,ha,hxa⟩ := mem_allOf.1 h1
    obtain ⟨b,hb,hxb⟩ := mem_allOf.1 h2
    obtain ⟨ha1,ha2⟩ := List.mem_filter.1 ha
    obtain ⟨hb1,hb2⟩ := List.mem_filter.1 hb
    have hne : a≠b := fun e => by subst e; simp [ha2] at hb2
    have hp : rs.Pairwise (fun a b : Rc => ∀ x∈a.2,x ∉ b.2) := hok.apart
    obtain ⟨i,hi,e1⟩ := List.mem_iff_getElem.1 ha1
    obtain ⟨j,hj,e2⟩ := List.mem_iff_getElem.1 hb1
    rcases Nat.lt_trichotomy i j with k | k | k
    · have := List.pairwise_iff_getElem.1 hp i j hi hj k x (by rw [e1]; exact hxa)
      rw [e2] at this; exact this hxb
    · subst k; exact hne (e1.symm.trans e2)
    · have := List.pairwise_iff_getElem.1 hp j i hj hi k x (by rw [e2]; exact hxb)
      rw [e1] at this; exact this hxa
  have hr : ∀ x∈allOf rs,2≤x∧x < e0 := okr_range hok
  have so : ∀ x,x∈allOf (oldRecs old rs)→x∈allOf rs := fun x hx => by
    obtain ⟨a,ha,hx⟩ := mem_allOf.1 hx
    exact mem_allOf.2 ⟨a,(List.mem_filter.1 ha).1,hx⟩
  have sn : ∀ x,x∈allOf (newRecs old rs)→x∈allOf rs := fun x hx => by
    obtain ⟨a,ha,hx⟩ := mem_allOf.1 hx
    exact mem_allOf.2 ⟨a,(List.mem_filter.1 ha).1,hx⟩
  have mu : ∀ x,x∈(spOf e0 lm old rs).us↔x∈allOf (oldRecs old rs) := fun x => by
    show x∈insAll _ []↔_
    rw [mem_insAll]; simp
  have mw : ∀ x,x∈(spOf e0 lm old rs).wa↔x∈allOf (newRecs old rs) := fun x => by
    show x∈insAll _ []↔_
    rw [mem_insAll]; simp
  refine ⟨he,rfl,Nat.le_refl _,hl,fun x hx => (hr x (so x ((mu x).1 hx))).1,srt_insAll List.Pairwise.nil,List.Pairwise.nil,fun p => ?_,fun p => ?_,fun p => ?_,fun p => ?_,fun p hp => ?_,fun p => ?_,rfl,mw,fun p p1 p2 => absurd (show p < e0 from p2) (by omega)⟩
  · rw [mu,hat]
    by_cases h1 : p∈allOf (oldRecs old rs)
    · simp [h1]
    · rw [if_neg h1]; split <;> simp [h1]
  · rw [mw,hat]
    by_cases h1 : p∈allOf (oldRecs old rs)
    · rw [if_pos h1]; exact ⟨fun k => by omega,fun k => (hex p h1 k).elim⟩
    · rw [if_neg h1]; split
      · rename_i h2; simp [h2]
      · rename_i h2; simp [h2]
  · show _↔p∈[]
    rw [hat]
    split
    · simp
    · split <;> simp
  · show _↔p∈[]
    rw [hat]
    split
    · simp
    · split <;> simp
  · show 2≤p∧p < e0
    rw [hat] at hp
    split at hp
    · rename_i h1; exact hr p (so p h1)
    · split at hp
      · rename_i h1; exact hr p (sn p h1)
      · exact absurd rfl hp
  · rw [hat]
    split
    · decide
    · split <;> decide
end Go.Proofs.YtnnmpaenainogaaGreat

namespace Go.Proofs.YtnnmpaenainogaaGreat
structure Fl where
  t : Nat
  e : Nat
  mn : Nat
  rs : List Rc
  ls : List Nat
structure FInv (lm : Nat) (f : Fl) (H : List Nat) : Prop where
  e2 : 2≤f.e
  el : f.e≤lm
  ok : Okr f.e f.rs
  tx : ∀ r∈f.rs,r.1≤f.t
  nd : (allOf f.rs++(f.ls++H)).Nodup
  al : ∀ p,2≤p→p < f.e→p∈allOf f.rs∨p∈f.ls∨p∈H
  rl : ∀ p∈f.ls,2≤p∧p < f.e
  rh : ∀ p∈H,2≤p∧p < f.e
theorem FInv.apart {lm : Nat} {f : Fl} {H : List Nat} (h : FInv lm f H) : f.ls.Nodup∧H.Nodup∧(∀ p∈allOf f.rs,p ∉ f.ls∧p ∉ H)∧∀ p∈f.ls,p ∉ H := by
  obtain ⟨_,h2,h3⟩ := List.nodup_append.1 h.nd
  obtain ⟨h4,h5,h6⟩ := List.nodup_append.1 h2
  exact ⟨h4,h5,fun p hp => ⟨fun k => h3 p hp p (List.mem_append.2 (.inl k)) rfl,fun k => h3 p hp p (List.mem_append.2 (.inr k)) rfl⟩,fun p hp k => h6 p hp p k rfl⟩
structure CInv (lm o : Nat) (f : Fl) (H : List Nat) (M : Sp) (V : Nat→Nat) (I G A : List Nat) : Prop where
  g : GInv f.e lm (newRecs o f.rs) M V
  nd : (I++A).Nodup
  i : ∀ p∈I,V p = 3∨V p = 0∧p∈H
  a : ∀ p∈A,V p = 3
  i3 : ∀ p,V p = 3→p∈I∨p∈A
  h : ∀ p∈H,V p = 4∨V p = 0∧p∈I
  l0 : ∀ p∈f.ls,p ∉ G→V p = 0
  l4 : ∀ p∈G,V p = 4∧p∈f.ls
  r : ∀ p∈allOf f.rs,V p = 1∨V p = 2∨V p = 3
  go : ∀ p,V p = 4→p∈H∨p∈G
theorem old_or_new (o : Nat) (rs : List Rc) (p : Nat) : p∈allOf rs↔p∈allOf (oldRecs o rs)∨p∈allOf (newRecs o rs) := by
  simp only [mem_allOf,oldRecs,newRecs,List.mem_filter,Bool.not_eq_true']
  constructor
  · rintro ⟨r,hr,hp⟩
    cases e : isOld o r
    · exact .inr ⟨r,⟨hr,e⟩,hp⟩
    · exact .inl ⟨r,⟨hr,e⟩,hp⟩
  · rintro (⟨r,⟨hr,_⟩,hp⟩ | ⟨r,⟨hr,_⟩,hp⟩) <;> exact ⟨r,hr,hp⟩
theorem okr_new {stop : Nat} {rs : List Rc} (o : Nat) (h : Okr stop rs) : Okr stop (newRecs o rs) :=
  ⟨h.txns.filter _,fun r hr => h.each r (List.mem_filter.1 hr).1,h.apart.filter _⟩
theorem new_mem {o : Nat} {rs : List Rc} {r : Rc} : r∈newRecs o rs↔r∈rs∧o < r.1 := by
  unfold newRecs
  rw [List.mem_filter]
  simp [isOld]
theorem c_begin {lm o : Nat} {f : Fl} {H : List Nat} (h : FInv lm f H) : CInv lm o f H (spOf f.e lm o f.rs) (fillR o (fun _ => 0) f.rs) H [] [] := by
  obtain ⟨n1,n2,n3,n4⟩ := h.apart
  have hnd := okr_nodup h.ok
  have hat := fillR_at o f.rs (fun _ => 0) hnd
  have hz : ∀ p,p ∉ allOf f.rs→fillR o (fun _ => 0) f.rs p = 0 := fun p hp => by
    have k := fun x => hp ((old_or_new o f.rs p).2 x)
    rw [hat,if_neg (fun x => k (.inl x)),if_neg (fun x => k (.inr x))]
  have h12 : ∀ p,fillR o (fun _ => 0) f.rs p = 0∨fillR o (fun _ => 0) f.rs p = 1∨fillR o (fun _ => 0) f.rs p = 2 := fun p => by
    rw [hat]; split
    · exact .inr (.inl rfl)
    · split
      · exact .inr (.inr rfl)
      · exact .inl rfl
  have hH : ∀ p∈H,fillR o (fun _ => 0) f.rs p = 0 := fun p hp => hz p fun k => (n3 p k).2 hp
  refine ⟨g_start h.e2 h.el h.ok,by simpa using n2,fun p hp => .inr ⟨hH p hp,hp⟩,(fun p hp => by cases hp),fun p hp => ?_,fun p hp => .inr ⟨hH p hp,hp⟩,fun p hp _ => hz p fun k => (n3 p k).1 hp,(fun p hp => by cases hp),fun p hp => ?_,fun p hp => ?_⟩
  · rcases h12 p with k | k | k <;> omega
  · rw [hat]
    rcases (old_or_new o f.rs p).1 hp with k | k
    · exact .inl (if_pos k)
    · by_cases k2 : p∈allOf (oldRecs o f.rs)
      · exact .inl (if_pos k2)
      · rw [if_neg k2,if_pos k]; exact .inr (.inl rfl)
  · rcases h12 p with k | k | k <;> omega
theorem c_taken {lm o : Nat} {f : Fl} {H : List Nat} {M : Sp} {V : Nat→Nat} {I G A : List Nat} (hf : FInv lm f H) (h : CInv lm o f H M V I G A) {p : Nat} (hp : V p = 1∨V p = 0∧p = M.en) : p ∉ I∧p ∉ A∧p ∉ H∧p ∉ f.ls∧p ∉ G∧2≤p := by
  have en := h.g.en1
  have e2 := hf.e2
  have hH : p ∉ H := fun k => by
    have r := hf.rh p k
    rcases h.h p k with x | ⟨x,_⟩
    · omega
    · rcases hp with y | ⟨_,y⟩ <;> omega
  have hl : p ∉ f.ls := fun k => by
    have r := hf.rl p k
    by_cases g : p∈G
    · have := (h.l4 p g).1; omega
    · have := h.l0 p k g; omega
  refine ⟨fun k => ?_,fun k => ?_,hH,hl,fun k => hl (h.l4 p k).2,?_⟩
  · rcases h.i p k with x | ⟨_,x⟩
    · omega
    · exact hH x
  · have := h.a p k; omega
  · rcases hp with x | ⟨_,x⟩
    · exact (h.g.rg p (by omega)).1
    · omega
theorem c_new {lm o : Nat} {f : Fl} {H : List Nat} {M M' : Sp} {V : Nat→Nat} {I G A : List Nat} (hf : FInv lm f H) (h : CInv lm o f H M V I G A) {p : Nat} (hp : V p = 1∨V p = 0∧p = M.en) (hg : GInv f.e lm (newRecs o f.rs) M' (upd V p 3)) (hA : A = []) :
    CInv lm o f H M' (upd V p 3) (I++[p]) G A := by
  subst hA
  obtain ⟨n1,_,n3,n4,n5,_⟩ := c_taken hf h hp
  have ne : ∀ {q : Nat} {L : List Nat},q∈L→p ∉ L→upd V p 3 q = V q := fun hq hL => upd_other V 3 (fun e => hL (e ▸ hq))
  refine ⟨hg,?_,fun q hq => ?_,(fun q hq => by cases hq),fun q hq => ?_,fun q hq => ?_,fun q hq k => ?_,fun q hq => ?_,fun q hq => ?_,fun q hq => ?_⟩
  · have := h.nd
    rw [List.append_nil] at this ⊢
    exact List.nodup_append.2 ⟨this,by simp,fun a ha b hb e => n1 (by simp at hb; rw [← hb,← e]; exact ha)⟩
  · rcases List.mem_append.1 hq with k | k
    · rw [ne k n1]; exact h.i q k
    · have e : q = p := by simpa using k
      subst e; exact .inl (upd_same _ _ _)
  · by_cases e : q = p
    · exact .inl (by simp [e])
    · rw [upd_other V 3 e] at hq
      rcases h.i3 q hq with k | k
      · exact .inl (List.mem_append.2 (.inl k))
      · cases k
  · rw [ne hq n3]
    rcases h.h q hq with k | ⟨k,k2⟩
    · exact .inl k
    · exact .inr ⟨k,List.mem_append.2 (.inl k2)⟩
  · rw [ne hq n4]; exact h.l0 q hq k
  · rw [ne hq n5]; exact h.l4 q hq
  · by_cases e : q = p
    · subst e; rw [upd_same]; exact .inr (.inr rfl)
    · rw [upd_other V 3 e]; exact h.r q hq
  · have e : q≠p := fun e => by subst e; rw [upd_same] at hq; omega
    rw [upd_other V 3 e] at hq; exact h.go q hq
theorem c_take {lm o : Nat} {f : Fl} {H : List Nat} {M M' : Sp} {V : Nat→Nat} {I G A : List Nat} (hf : FInv lm f H) (h : CInv lm o f H M V I G A) {p : Nat} (hp : V p = 1∨V p = 0∧p = M.en) (hg : GInv f.e lm (newRecs o f.rs) M' (upd V p 3)) :
    CInv lm o f H M' (upd V p 3) I G (A++[p]) := by
  obtain ⟨n1,n2,n3,n4,n5,_⟩ := c_taken hf h hp
  have ne : ∀ {q : Nat} {L : List Nat},q∈L→p ∉ L→upd V p 3 q = V q := fun hq hL => upd_other V 3 (fun e => hL (e ▸ hq))
  refine ⟨hg,?_,fun q hq => ?_,fun q hq => ?_,fun q hq => ?_,fun q hq => ?_,fun q hq k => ?_,fun q hq => ?_,fun q hq => ?_,fun q hq => ?_⟩
  · rw [← List.append_assoc]
    refine List.nodup_append.2 ⟨h.nd,by simp,fun a ha b hb e => ?_⟩
    have hb : b = p := by simpa using hb
    rw [e,hb] at ha
    rcases List.mem_append.1 ha with k | k
    · exact n1 k
    · exact n2 k
  · rw [ne hq n1]; exact h.i q hq
  · rcases List.mem_append.1 hq with k | k
    · rw [ne k n2]; exact h.a q k
    · have e : q = p := by simpa using k
      subst e; exact upd_same _ _ _
  · by_cases e : q = p
    · exact .inr (by simp [e])
    · rw [upd_other V 3 e] at hq
      rcases h.i3 q hq with k | k
      · exact .inl k
      · exact .inr (List.mem_append.2 (.inl k))
  · rw [ne hq n3]; exact h.h q hq
  · rw [ne hq n4]; exact h.l0 q hq k
  · rw [ne hq n5]; exact h.l4 q hq
  · by_cases e : q = p
    · subst e; rw [upd_same]; exact .inr (.inr rfl)
    · rw [upd_other V 3 e]; exact h.r q hq
  · have e : q≠p := fun e => by subst e; rw [upd_same] at hq; omega
    rw [upd_other V 3 e] at hq; exact h.go q hq
theorem c_free {lm o : Nat} {f : Fl} {H : List Nat} {M M' : Sp} {V : Nat→Nat} {I I' G : List Nat} (hf : FInv lm f H) (h : CInv lm o f H M V I G []) {p x : Nat} (hp : p∈I) (hx : V p = 3∧x = 1∨V p = 0∧x = 4) (hg : GInv f.e lm (newRecs o f.rs) M' (upd V p x)) (hn : I'.Nodup) (hI : ∀ q,q∈I'↔q∈I∧q≠p) :
    CInv lm o f H M' (upd V p x) I' G [] := by
  have hl : p ∉ f.ls := fun k => by
    rcases h.i p hp with y | ⟨y,z⟩
    · by_cases g : p∈G
      · have := (h.l4 p g).1; omega
      · have := h.l0 p k g; omega
    · exact hf.apart.2.2.2 p k z
  have hG : p ∉ G := fun k => hl (h.l4 p k).2
  have ne : ∀ {q : Nat} {L : List Nat},q∈L→p ∉ L→upd V p x q = V q := fun hq hL => upd_other V x (fun e => hL (e ▸ hq))
  refine ⟨hg,by simpa using hn,fun q hq => ?_,(fun q hq => by cases hq),fun q hq => ?_,fun q hq => ?_,fun q hq k => ?_,fun q hq => ?_,fun q hq => ?_,fun q hq => ?_⟩
  · obtain ⟨k,e⟩ := (hI q).1 hq
    rw [upd_other V x e]; exact h.i q k
  · have e : q≠p := fun e => by subst e; rw [upd_same] at hq; omega
    rw [upd_other V x e] at hq
    rcases h.i3 q hq with k | k
    · exact .inl ((hI q).2 ⟨k,e⟩)
    · cases k
  · by_cases e : q = p
    · subst e
      rw [upd_same]
      rcases hx with ⟨y,_⟩ | ⟨_,y⟩
      · rcases h.h q hq with k | ⟨k,_⟩ <;> omega
      · exact .inl y
    · rw [upd_other V x e]
      rcases h.h q hq with k | ⟨k,k2⟩
      · exact .inl k
      · exact .inr ⟨k,(hI q).2 ⟨k2,e⟩⟩
  · rw [ne hq hl]; exact h.l0 q hq k
  · rw [ne hq hG]; exact h.l4 q hq
  · by_cases e : q = p
    · subst e
      rw [upd_same]
      have := h.r q hq
      omega
    · rw [upd_other V x e]; exact h.r q hq
  · by_cases e : q = p
    · subst e
      rcases h.i q hp with y | ⟨_,y⟩
      · rw [upd_same] at hq; omega
      · exact .inl y
    · rw [upd_other V x e] at hq; exact h.go q hq
theorem c_list {lm o : Nat} {f : Fl} {H : List Nat} {M M' : Sp} {V : Nat→Nat} {I G : List Nat} (hf : FInv lm f H) (h : CInv lm o f H M V I G []) {p : Nat} (hp : p∈f.ls) (hG : p ∉ G) (hg : GInv f.e lm (newRecs o f.rs) M' (upd V p 4)) :
    CInv lm o f H M' (upd V p 4) I (G++[p]) [] := by
  have hV := h.l0 p hp hG
  have hH : p ∉ H := hf.apart.2.2.2 p hp
  have hI : p ∉ I := fun k => by
    rcases h.i p k with y | ⟨_,y⟩
    · omega
    · exact hH y
  have ne : ∀ {q : Nat} {L : List Nat},q∈L→p ∉ L→upd V p 4 q = V q := fun hq hL => upd_other V 4 (fun e => hL (e ▸ hq))
  refine ⟨hg,h.nd,fun q hq => ?_,(fun q hq => by cases hq),fun q hq => ?_,fun q hq => ?_,fun q hq k => ?_,fun q hq => ?_,fun q hq => ?_,fun q hq => ?_⟩
  · rw [ne hq hI]; exact h.i q hq
  · have e : q≠p := fun e => by subst e; rw [upd_same] at hq; omega
    rw [upd_other V 4 e] at hq; exact h.i3 q hq
  · rw [ne hq hH]; exact h.h q hq
  · have e : q≠p := fun e => k (by simp [e])
    rw [upd_other V 4 e]; exact h.l0 q hq fun g => k (List.mem_append.2 (.inl g))
  · rcases List.mem_append.1 hq with k | k
    · rw [ne k hG]; exact h.l4 q k
    · have e : q = p := by simpa using k
      subst e; exact ⟨upd_same _ _ _,hp⟩
  · by_cases e : q = p
    · subst e; have := h.r q hq; omega
    · rw [upd_other V 4 e]; exact h.r q hq
  · by_cases e : q = p
    · exact .inr (by simp [e])
    · rw [upd_other V 4 e] at hq
      rcases h.go q hq with k | k
      · exact .inl k
      · exact .inr (List.mem_append.2 (.inl k))
theorem c_commit {lm o mn : Nat} {f : Fl} {H : List Nat} {M : Sp} {V : Nat→Nat} {I G A : List Nat} (hf : FInv lm f H) (h : CInv lm o f H M V I G A) (hG : ∀ p∈f.ls,p∈G) :
    FInv lm ⟨f.t + 1,M.en,mn,recsM M (f.t + 1),A⟩ I := by
  have hok : Okr f.e (newRecs o f.rs) := okr_new o hf.ok
  have en := h.g.en1
  have h0 : ∀ r∈newRecs o f.rs,0 < r.1∧r.1 < f.t + 1 := fun r hr => by
    have k := new_mem.1 hr
    have := hf.tx r k.1
    omega
  have hI : ∀ p∈I,2≤p∧p < M.en := fun p hp => by
    rcases h.i p hp with k | ⟨_,k⟩
    · exact h.g.rg p (by omega)
    · have := hf.rh p k; omega
  have hA : ∀ p∈A,2≤p∧p < M.en := fun p hp => h.g.rg p (by have := h.a p hp; omega)
  obtain ⟨d1,d2,d3⟩ := List.nodup_append.1 h.nd
  have hr : ∀ p,p∈allOf (recsM M (f.t + 1))→V p = 1∨V p = 2∨V p = 4 := fun p hp => ggood_iff.1 ((grecs_mem h.g (f.t + 1) p).1 hp)
  refine ⟨by have := hf.e2; show 2≤M.en; omega,h.g.en2,right_iff.1 (grecs_right h.g hok (f.t + 1) h0 (by omega)),fun r hr => ?_,?_,fun p p1 p2 => ?_,hA,hI⟩
  · show r.1≤f.t + 1
    have hr : r∈recsM M (f.t + 1) := hr
    have f1 : ∀ {L : List Nat} {t : Nat},r∈recM L t→r.1 = t := fun {L t} hr => by
      unfold recM at hr
      split at hr
      · cases hr
      · rw [show r = (t,L) by simpa using hr]
    unfold recsM at hr
    rw [h.g.ws] at hr
    rcases List.mem_append.1 hr with k | k
    · rcases List.mem_append.1 k with k | k
      · rw [f1 k]; omega
      · have := h0 r k; omega
    · rw [f1 k]; exact Nat.le_refl _
  · refine List.nodup_append.2 ⟨grecs_nodup h.g hok _,List.nodup_append.2 ⟨d2,d1,fun a ha b hb e => d3 b hb a ha e.symm⟩,fun a ha b hb e => ?_⟩
    have k := hr a ha
    rw [e] at k
    rcases List.mem_append.1 hb with x | x
    · have := h.a b x; omega
    · rcases h.i b x with y | ⟨y,_⟩ <;> omega
  · show p∈allOf (recsM M (f.t + 1))∨p∈A∨p∈I
    have p2 : p < M.en := p2
    rcases Nat.lt_or_ge p f.e with k | k
    · have hv := h.g.v4 p
      by_cases g : V p = 1∨V p = 2∨V p = 4
      · exact .inl ((grecs_mem h.g (f.t + 1) p).2 (ggood_iff.2 g))
      · by_cases g3 : V p = 3
        · exact .inr ((h.i3 p g3).elim .inr .inl)
        · rcases hf.al p p1 k with x | x | x
          · have := h.r p x; omega
          · have := (h.l4 p (hG p x)).1; omega
          · rcases h.h p x with y | ⟨_,y⟩
            · omega
            · exact .inr (.inr y)
    · rcases h.g.nw p k p2 with x | x
      · exact .inl ((grecs_mem h.g (f.t + 1) p).2 (ggood_iff.2 (.inl x)))
      · exact .inr ((h.i3 p x).elim .inr .inl)
def OldF (T : Nat) (f : Fl) (H O : List Nat) : Prop := ∀ p∈O,p∈H∨∃ r∈f.rs,T < r.1∧p∈r.2
def OldC (T o : Nat) (f : Fl) (H O : List Nat) (V : Nat→Nat) : Prop := ∀ p∈O,p∈H∧(V p = 0∨V p = 4)∨∃ r∈newRecs o f.rs,T < r.1∧p∈r.2
theorem oldC_now {lm o : Nat} {f : Fl} {H : List Nat} {M : Sp} {V : Nat→Nat} {I G A : List Nat} (T : Nat) (h : CInv lm o f H M V I G A) : OldC T o f H H V := fun p hp => .inl ⟨hp,by
  rcases h.h p hp with k | ⟨k,_⟩
  · exact .inr k
  · exact .inl k⟩
theorem old_begin {lm o T : Nat} {f : Fl} {H O : List Nat} (hf : FInv lm f H) (hT : o≤T) (h : OldF T f H O) : OldC T o f H O (fillR o (fun _ => 0) f.rs) := fun p hp => by
  rcases h p hp with k | ⟨r,hr,h1,h2⟩
  · exact .inl ⟨k,by
      rcases (c_begin (o := o) hf).h p k with x | ⟨x,_⟩
      · exact .inr x
      · exact .inl x⟩
  · exact .inr ⟨r,new_mem.2 ⟨hr,by omega⟩,h1,h2⟩
theorem old_kept {lm o T : Nat} {f : Fl} {H O : List Nat} {M : Sp} {V : Nat→Nat} {I G A : List Nat} (hc : CInv lm o f H M V I G A) (h : OldC T o f H O V) : ∀ p∈O,V p = 0∨V p = 2∨V p = 4 := fun p hp => by
  rcases h p hp with ⟨_,k | k⟩ | ⟨r,hr,_,h2⟩
  · exact .inl k
  · exact .inr (.inr k)
  · exact .inr (.inl ((hc.g.k2 p).2 ((hc.g.wa p).2 (mem_allOf.2 ⟨r,hr,h2⟩))))
theorem old_range {lm T : Nat} {f : Fl} {H O : List Nat} (hf : FInv lm f H) (h : OldF T f H O) : ∀ p∈O,2≤p∧p < f.e := fun p hp => by
  rcases h p hp with k | ⟨r,hr,_,h2⟩
  · exact hf.rh p k
  · exact okr_range hf.ok p (mem_allOf.2 ⟨r,hr,h2⟩)
theorem old_step {T o p x : Nat} {f : Fl} {H O : List Nat} {V : Nat→Nat} (h : OldC T o f H O V) (hp : p ∉ O∨p ∉ H∨x = 4) : OldC T o f H O (upd V p x) := fun q hq => by
  rcases h q hq with ⟨k,k2⟩ | k
  · by_cases e : q = p
    · subst e
      rw [upd_same]
      rcases hp with y | y | y
      · exact absurd hq y
      · exact absurd k y
      · exact .inl ⟨k,.inr y⟩
    · rw [upd_other V x e]; exact .inl ⟨k,k2⟩
  · exact .inr k
theorem old_commit {lm o mn T : Nat} {f : Fl} {H O : List Nat} {M : Sp} {V : Nat→Nat} {I G A : List Nat} (hc : CInv lm o f H M V I G A) (h : OldC T o f H O V) (hT : T≤f.t) : OldF T ⟨f.t + 1,M.en,mn,recsM M (f.t + 1),A⟩ I O := fun p hp => by
  rcases h p hp with ⟨k,k2⟩ | ⟨r,hr,h1,h2⟩
  · rcases k2 with k2 | k2
    · rcases hc.h p k with x | ⟨_,x⟩
      · omega
      · exact .inl x
    · have hg : p∈M.go := (hc.g.k4 p).1 k2
      refine .inr ⟨(f.t + 1,M.go),?_,by show T < f.t + 1; omega,hg⟩
      show _∈recsM M (f.t + 1)
      unfold recsM
      refine List.mem_append.2 (.inr ?_)
      unfold recM
      rw [if_neg (fun e => by rw [e] at hg; cases hg)]
      exact List.mem_singleton.2 rfl
  · refine .inr ⟨r,?_,h1,h2⟩
    show _∈recsM M (f.t + 1)
    unfold recsM
    rw [hc.g.ws]
    exact List.mem_append.2 (.inl (List.mem_append.2 (.inr hr)))
end Go.Proofs.YtnnmpaenainogaaGreat

namespace Go.Proofs.YtnnmpaenainogaaGreat
end Go.Proofs.YtnnmpaenainogaaGreat
