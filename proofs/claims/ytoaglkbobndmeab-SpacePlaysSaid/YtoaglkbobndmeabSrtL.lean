/-
  pdqsortOrdered's own invariant, plain. Own work.
-/
import Derived.Test.YtoaglkbobndmeabSrtK
namespace Go.Proofs.Ytoaglkbobndmeab

theorem permIn_size {a b : Nat} {d dk : Array Nat} (h : Sort.PermIn a b d dk) : dk.size = d.size := h.1
theorem nodup_perm {a b : Nat} {d dk : Array Nat} (h : Sort.PermIn a b d dk) (hb : b ≤ d.size) (nd : d.toList.Nodup) : dk.toList.Nodup := by
  have h2 := Sort.permIn_mono d dk a b 0 d.size (Nat.zero_le _) hb (Nat.le_refl _) h
  have h3 := h2.2.2
  have e1 : (dk.extract 0 d.size).toList = dk.toList := by rw [← h.1]; simp
  have e2 : (d.extract 0 d.size).toList = d.toList := by simp
  rw [e1, e2] at h3
  exact h3.nodup_iff.2 nd
theorem nodup_ne {d : Array Nat} (h : d.toList.Nodup) {i j : Nat} (hi : i < d.size) (hj : j < d.size) (hij : i < j) : d[i]! ≠ d[j]! := by
  have h2 := List.pairwise_iff_getElem.1 h i j (by simpa using hi) (by simpa using hj) hij
  rw [getElem!_pos d i hi, getElem!_pos d j hj]
  simpa using h2

structure QInv (a b A B : Nat) (d dk : Array Nat) : Prop where
  aA : a ≤ A
  AB : A ≤ B
  Bb : B ≤ b
  bd : b ≤ d.size
  perm : Sort.PermIn a b d dk
  below : Sort.Below ltN A B dk
  rest : ∀ dz, Sort.PermIn A B dk dz → Sort.SortedIn ltN A B dz → Sort.SortedIn ltN a b dz
theorem QInv.start {a b : Nat} {d : Array Nat} (hab : a ≤ b) (hb : b ≤ d.size) (h : Sort.Below ltN a b d) : QInv a b a b d d :=
  ⟨Nat.le_refl _, hab, Nat.le_refl _, hb, Sort.permIn_refl _ _ _, h, fun _ _ hs => hs⟩
theorem QInv.size {a b A B : Nat} {d dk : Array Nat} (h : QInv a b A B d dk) : dk.size = d.size := h.perm.1
theorem QInv.bk {a b A B : Nat} {d dk : Array Nat} (h : QInv a b A B d dk) : B ≤ dk.size := by
  rw [h.size]; exact Nat.le_trans h.Bb h.bd
theorem QInv.wide {a b A B : Nat} {d dk dz : Array Nat} (h : QInv a b A B d dk) (hp : Sort.PermIn A B dk dz) : Sort.PermIn a b d dz :=
  Sort.permIn_trans _ _ _ _ _ h.perm (Sort.permIn_mono dk dz A B a b h.aA h.Bb (by rw [h.size]; exact h.bd) hp)
theorem QInv.turn {a b A B : Nat} {d dk dz : Array Nat} (h : QInv a b A B d dk) (hp : Sort.PermIn A B dk dz) : QInv a b A B d dz :=
  ⟨h.aA, h.AB, h.Bb, h.bd, h.wide hp, h.below.perm h.bk hp, fun _ k hs => h.rest _ (Sort.permIn_trans _ _ _ _ _ hp k) hs⟩
theorem QInv.done {a b A B : Nat} {d dk dz : Array Nat} (h : QInv a b A B d dk) (hp : Sort.PermIn A B dk dz) (hs : Sort.SortedIn ltN A B dz) : Sort.PermIn a b d dz ∧ Sort.SortedIn ltN a b dz :=
  ⟨h.wide hp, h.rest _ hp hs⟩
theorem glue {A m B : Nat} {R : Array Nat} (hL : Sort.SortedIn ltN A m R) (hR : Sort.SortedIn ltN (m + 1) B R) (h1 : ∀ k, A ≤ k → k < m → R[k]! < R[m]!) (h2 : ∀ k, m < k → k < B → R[m]! ≤ R[k]!) : Sort.SortedIn ltN A B R := by
  intro i j hi hij hj
  simp only [ltN, decide_eq_false_iff_not, Nat.not_lt]
  rcases Nat.lt_trichotomy j m with e | e | e
  · have := hL i j hi hij e
    simpa [ltN] using this
  · subst e; exact Nat.le_of_lt (h1 i hi hij)
  · rcases Nat.lt_trichotomy i m with e2 | e2 | e2
    · exact Nat.le_trans (Nat.le_of_lt (h1 i hi e2)) (h2 j e hj)
    · subst e2; exact h2 j e hj
    · have := hR i j (by omega) hij hj
      simpa [ltN] using this
theorem below_left {a b A B m : Nat} {d dk : Array Nat} (h : QInv a b A B d dk) (hm : m < B) : Sort.Below ltN A m dk := h.below.mono (Nat.le_of_lt hm)
theorem below_right {B m : Nat} {dk : Array Nat} (h2 : ∀ k, m < k → k < B → dk[m]! ≤ dk[k]!) : Sort.Below ltN (m + 1) B dk :=
  .inr fun i hi hi2 => by
    rw [Nat.add_sub_cancel]
    have := h2 i (by omega) hi2
    simp [ltN]; omega
theorem QInv.left {a b A B m : Nat} {d dk d5 : Array Nat} (h : QInv a b A B d dk) (hm1 : A ≤ m) (hm2 : m < B) (h1 : ∀ k, A ≤ k → k < m → dk[k]! < dk[m]!) (h2 : ∀ k, m < k → k < B → dk[m]! ≤ dk[k]!)
    (hp : Sort.PermIn A m dk d5) (hs : Sort.SortedIn ltN A m d5) : QInv a b (m + 1) B d d5 := by
  have hp2 : Sort.PermIn A B dk d5 := Sort.permIn_mono dk d5 A m A B (Nat.le_refl _) (by omega) h.bk hp
  have hl := Sort.permIn_all dk d5 A m (fun x => x < dk[m]!) (by have := h.bk; omega) hp h1
  have em : d5[m]! = dk[m]! := hp.2.1 m (.inr (Nat.le_refl _))
  have er : ∀ k, m < k → d5[k]! = dk[k]! := fun k hk => hp.2.1 k (.inr (by omega))
  have hr5 : ∀ k, m < k → k < B → d5[m]! ≤ d5[k]! := fun k k1 k2 => by rw [em, er k k1]; exact h2 k k1 k2
  have hsz : d5.size = dk.size := hp.1
  refine ⟨by have := h.aA; omega, by omega, h.Bb, h.bd, h.wide hp2, below_right hr5, fun dz hz hsz2 => ?_⟩
  have hz2 : Sort.PermIn A B dk dz := Sort.permIn_trans _ _ _ _ _ hp2 (Sort.permIn_mono d5 dz (m + 1) B A B (by omega) (Nat.le_refl _) (by rw [hsz]; exact h.bk) hz)
  refine h.rest dz hz2 ?_
  have zl : ∀ k, k < m + 1 → dz[k]! = d5[k]! := fun k hk => hz.2.1 k (.inl hk)
  have zr := Sort.permIn_all d5 dz (m + 1) B (fun x => d5[m]! ≤ x) (by rw [hsz]; exact h.bk) hz (fun i hi hi2 => hr5 i (by omega) hi2)
  refine glue (m := m) (fun i j hi hij hj => ?_) hsz2 (fun k k1 k2 => ?_) (fun k k1 k2 => ?_)
  · rw [zl i (by omega), zl j (by omega)]; exact hs i j hi hij hj
  · rw [zl k (by omega), zl m (by omega), em]; exact hl k k1 k2
  · rw [zl m (by omega)]; exact zr k (by omega) k2
theorem QInv.right {a b A B m : Nat} {d dk d5 : Array Nat} (h : QInv a b A B d dk) (hm1 : A ≤ m) (hm2 : m < B) (h1 : ∀ k, A ≤ k → k < m → dk[k]! < dk[m]!) (h2 : ∀ k, m < k → k < B → dk[m]! ≤ dk[k]!)
    (hp : Sort.PermIn (m + 1) B dk d5) (hs : Sort.SortedIn ltN (m + 1) B d5) : QInv a b A m d d5 := by
  have hp2 : Sort.PermIn A B dk d5 := Sort.permIn_mono dk d5 (m + 1) B A B (by omega) (Nat.le_refl _) h.bk hp
  have el : ∀ k, k < m + 1 → d5[k]! = dk[k]! := fun k hk => hp.2.1 k (.inl hk)
  have hr5 := Sort.permIn_all dk d5 (m + 1) B (fun x => dk[m]! ≤ x) h.bk hp (fun i hi hi2 => h2 i (by omega) hi2)
  have hsz : d5.size = dk.size := hp.1
  have hq := h.turn hp2
  refine ⟨h.aA, hm1, by have := h.Bb; omega, h.bd, h.wide hp2, hq.below.mono (Nat.le_of_lt hm2), fun dz hz hsz2 => ?_⟩
  refine hq.rest dz (Sort.permIn_mono d5 dz A m A B (Nat.le_refl _) (by omega) (by rw [hsz]; exact h.bk) hz) ?_
  have zr : ∀ k, m ≤ k → dz[k]! = d5[k]! := fun k hk => hz.2.1 k (.inr hk)
  have zl := Sort.permIn_all d5 dz A m (fun x => x < dk[m]!) (by rw [hsz]; have := h.bk; omega) hz (fun i hi hi2 => by rw [el i (by omega)]; exact h1 i hi hi2)
  refine glue (m := m) hsz2 (fun i j hi hij hj => ?_) (fun k k1 k2 => ?_) (fun k k1 k2 => ?_)
  · rw [zr i (by omega), zr j (by omega)]; exact hs i j hi hij hj
  · rw [zr m (Nat.le_refl _), el m (by omega)]; exact zl k k1 k2
  · rw [zr m (Nat.le_refl _), zr k (by omega), el m (by omega)]; exact hr5 k (by omega) k2
theorem QInv.less {a b A B p : Nat} {d dk : Array Nat} (h : QInv a b A B d dk) (nd : d.toList.Nodup) (hA : 0 < A) (hp1 : A ≤ p) (hp2 : p < B) : ltN dk[A - 1]! dk[p]! = true := by
  have hb := h.bk
  rcases h.below with e | e
  · omega
  · have h1 := e p hp1 hp2
    have h2 := nodup_ne (nodup_perm h.perm h.bd nd) (i := A - 1) (j := p) (by omega) (by omega) (by omega)
    simp [ltN] at h1 ⊢
    omega

end Go.Proofs.Ytoaglkbobndmeab
