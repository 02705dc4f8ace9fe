/-
  Layer 8: pages that are taken, and given back: what is so of the model. Own work.
-/
import Derived.Test.YtoaglkbobndmeabSpcJ
import Derived.Test.YtoaglkbobndmeabSpcU
namespace Go.Proofs.Ytoaglkbobndmeab

structure TakeInv (was : Nat) (M : Sp) (T : List Nat) : Prop where
  lim : M.lim = 60
  en1 : 50 ≤ M.en
  en2 : M.en ≤ 60
  low : ∀ x ∈ M.us, M.low ≤ x
  srt : Srt M.us
  us : ∀ x ∈ M.us, x < M.en
  fr : ∀ x, x ∈ M.fr ↔ x ∈ T
  nd : T.Nodup
  tl : ∀ x ∈ T, x < M.en ∧ x ∉ M.us
  len : M.us.length + T.length = was + (M.en - 50)
  or : M.en = 50 ∨ M.us = []

theorem take_step {was : Nat} {M : Sp} {T : List Nat} (h : TakeInv was M T) {M' : Sp} {p : Nat} {e : Int} (ht : takeM M = (M', p, e)) :
    (e = 0 ∧ TakeInv was M' (T ++ [p]) ∧ p < 60) ∨ (e = 21 ∧ M' = M ∧ p = 0) := by
  unfold takeM at ht
  cases hu : M.us with
  | cons q r =>
    rw [hu] at ht
    simp only at ht
    injection ht with h1 h2
    injection h2 with h2 h3
    subst h1 h2 h3
    have hs := h.srt
    rw [hu] at hs
    obtain ⟨s1, s2⟩ := List.pairwise_cons.1 hs
    have hq := h.us q (by rw [hu]; simp)
    have hqT : q ∉ T := fun k => (h.tl q k).2 (by rw [hu]; simp)
    refine .inl ⟨rfl, ⟨h.lim, h.en1, h.en2, fun x hx => Nat.le_of_lt (s1 x hx), s2, fun x hx => h.us x (by rw [hu]; simp [hx]), fun x => ?_, ?_, fun x hx => ?_, ?_, ?_⟩, by have := h.en2; omega⟩
    · show x ∈ ins q M.fr ↔ _
      rw [mem_ins, h.fr x, List.mem_append, List.mem_singleton]
      exact Or.comm
    · exact List.nodup_append.2 ⟨h.nd, by simp, fun a ha b hb => by simp at hb; subst hb; exact fun e => hqT (e ▸ ha)⟩
    · rcases List.mem_append.1 hx with hx | hx
      · exact ⟨(h.tl x hx).1, fun k => (h.tl x hx).2 (by rw [hu]; simp [show x ∈ r from k])⟩
      · obtain rfl : x = q := by simpa using hx
        exact ⟨hq, fun k => by have := s1 x k; omega⟩
    · have := h.len
      rw [hu] at this
      simp only [List.length_cons, List.length_append, List.length_nil] at this ⊢
      omega
    · rcases h.or with e | e
      · exact .inl e
      · rw [e] at hu; cases hu
  | nil =>
    rw [hu] at ht
    simp only at ht
    split at ht
    · rename_i he
      injection ht with h1 h2
      injection h2 with h2 h3
      exact .inr ⟨h3.symm, h1.symm, h2.symm⟩
    · rename_i he
      injection ht with h1 h2
      injection h2 with h2 h3
      subst h1 h2 h3
      have h60 : M.en < 60 := by have := h.en2; have := h.lim; omega
      have heT : M.en ∉ T := fun k => by have := (h.tl _ k).1; omega
      refine .inl ⟨rfl, ⟨h.lim, Nat.le_succ_of_le h.en1, h60, fun x hx => (by cases hx), List.Pairwise.nil, fun x hx => (by cases hx), fun x => ?_, ?_, fun x hx => ?_, ?_, .inr rfl⟩, h60⟩
      · show x ∈ ins M.en M.fr ↔ _
        rw [mem_ins, h.fr x, List.mem_append, List.mem_singleton]
        exact Or.comm
      · exact List.nodup_append.2 ⟨h.nd, by simp, fun a ha b hb => by simp at hb; subst hb; exact fun e => heT (e ▸ ha)⟩
      · rcases List.mem_append.1 hx with hx | hx
        · exact ⟨by have := (h.tl x hx).1; show x < M.en + 1; omega, fun k => (by cases k)⟩
        · obtain rfl : x = M.en := by simpa using hx
          exact ⟨Nat.lt_succ_self _, fun k => (by cases k)⟩
      · have := h.len
        rw [hu] at this
        have := h.en1
        simp only [List.length_nil, List.length_append, List.length_cons] at *
        omega

structure GiveInv (u0 E k : Nat) (M : Sp) (T : List Nat) : Prop where
  en : M.en = E
  srt : Srt M.us
  fr : ∀ x, x ∈ M.fr ↔ x ∈ T.drop k
  far : ∀ x ∈ T.drop k, x ∉ M.us
  len : M.us.length = u0 + k
theorem TakeInv.give {was : Nat} {M : Sp} {T : List Nat} (h : TakeInv was M T) : GiveInv M.us.length M.en 0 M T :=
  ⟨rfl, h.srt, fun x => by rw [List.drop_zero]; exact h.fr x, fun x hx => (h.tl x (by simpa using hx)).2, by simp⟩

theorem give_step {u0 E k : Nat} {M : Sp} {T : List Nat} (h : GiveInv u0 E k M T) (hnd : T.Nodup) {p : Nat} (hp : T[k]? = some p) :
    p ∈ M.fr ∧ ∃ M', giveM M p = (M', 0) ∧ GiveInv u0 E (k + 1) M' T ∧ p ∉ M'.fr ∧ giveM M' p = (M', 1) := by
  have hk := (List.getElem?_eq_some_iff.1 hp).1
  have hd : T.drop k = p :: T.drop (k + 1) := by
    rw [List.drop_eq_getElem_cons hk]
    rw [List.getElem?_eq_getElem hk] at hp
    cases hp; rfl
  have hnd2 : (p :: T.drop (k + 1)).Nodup := by rw [← hd]; exact (List.drop_sublist k T).nodup hnd
  obtain ⟨n1, n2⟩ := List.nodup_cons.1 hnd2
  have hin : p ∈ M.fr := (h.fr p).2 (by rw [hd]; simp)
  have hpu : p ∉ M.us := h.far p (by rw [hd]; simp)
  refine ⟨hin, { M with fr := del p M.fr, us := ins p M.us, low := min M.low p }, by unfold giveM; rw [if_pos hin], ⟨h.en, srt_ins h.srt, fun x => ?_, fun x hx => ?_, ?_⟩, fun k => (mem_del.1 k).2 rfl, ?_⟩
  · show x ∈ del p M.fr ↔ _
    rw [mem_del, h.fr x, hd, List.mem_cons]
    constructor
    · rintro ⟨e | e, hne⟩
      · exact absurd e hne
      · exact e
    · intro e
      exact ⟨.inr e, fun e2 => n1 (e2 ▸ e)⟩
  · intro hm
    rcases mem_ins.1 (show x ∈ ins p M.us from hm) with e | e
    · exact n1 (e ▸ hx)
    · exact h.far x (by rw [hd]; simp [hx]) e
  · show (ins p M.us).length = _
    rw [len_ins_new hpu, h.len]
    omega
  · have hn : p ∉ del p M.fr := fun k => (mem_del.1 k).2 rfl
    have hi : p ∈ ins p M.us := mem_ins.2 (.inl rfl)
    conv => lhs; unfold giveM
    rw [if_neg hn, if_neg]
    unfold inUseM
    simp [hi]

end Go.Proofs.Ytoaglkbobndmeab
