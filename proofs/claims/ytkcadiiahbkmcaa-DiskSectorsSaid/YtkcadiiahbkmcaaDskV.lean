/-
  DiskSectors' own states (plain). Own work.
-/
import Derived.Test.YtkcadiiahbkmcaaDskU
namespace Go.Proofs.Ytkcadiiahbkmcaa
open Go.RowKit

/-- Five cells on end, the first s of them v. -/
def up5 (L : List Int) (i : Nat) (v : Int) : Nat → List Int
  | 0 => L
  | s + 1 => (up5 L i v s).set (5 * i + s) v
theorem up5_len (L : List Int) (i : Nat) (v : Int) : ∀ s, (up5 L i v s).length = L.length
  | 0 => rfl
  | s + 1 => by rw [up5, List.length_set, up5_len]
theorem up5_get (L : List Int) (i : Nat) (v : Int) (p t : Nat) (ht : t < 5) : ∀ s, s ≤ 5 → 5 * i + s ≤ L.length → (up5 L i v s).getD (5 * p + t) 0 = if p = i ∧ t < s then v else L.getD (5 * p + t) 0
  | 0, _, _ => by rw [if_neg (by omega)]; rfl
  | s + 1, hs, hl => by
    have ih := up5_get L i v p t ht s (by omega) (by omega)
    simp only [List.getD_eq_getElem?_getD] at ih ⊢
    rw [up5, List.getElem?_set, up5_len]
    by_cases e : 5 * i + s = 5 * p + t
    · rw [if_pos e, if_pos (by omega), if_pos (by omega)]; rfl
    · rw [if_neg e, ih]
      by_cases h : p = i ∧ t < s
      · rw [if_pos h, if_pos (by omega)]
      · rw [if_neg h, if_neg (by omega)]
/-- Five cells on end, those of the first s that are picked v. -/
def upB (L : List Int) (i : Nat) (v : Int) (x : Nat) : Nat → List Int
  | 0 => L
  | s + 1 => if bitB x s = true then (upB L i v x s).set (5 * i + s) v else upB L i v x s
theorem upB_len (L : List Int) (i : Nat) (v : Int) (x : Nat) : ∀ s, (upB L i v x s).length = L.length
  | 0 => rfl
  | s + 1 => by
    rw [upB]
    split
    · rw [List.length_set, upB_len]
    · exact upB_len L i v x s
theorem upB_get (L : List Int) (i : Nat) (v : Int) (x p t : Nat) (ht : t < 5) : ∀ s, s ≤ 5 → 5 * i + s ≤ L.length → (upB L i v x s).getD (5 * p + t) 0 = if p = i ∧ t < s ∧ bitB x t = true then v else L.getD (5 * p + t) 0
  | 0, _, _ => by rw [if_neg (by omega)]; rfl
  | s + 1, hs, hl => by
    have ih := upB_get L i v x p t ht s (by omega) (by omega)
    rw [upB]
    by_cases hb : bitB x s = true
    · rw [if_pos hb]
      simp only [List.getD_eq_getElem?_getD] at ih ⊢
      rw [List.getElem?_set, upB_len]
      by_cases e : 5 * i + s = 5 * p + t
      · have e1 : s = t := by omega
        subst e1
        rw [if_pos e, if_pos (by omega), if_pos ⟨by omega, by omega, hb⟩]; rfl
      · rw [if_neg e, ih]
        by_cases h : p = i ∧ t < s ∧ bitB x t = true
        · rw [if_pos h, if_pos ⟨h.1, by omega, h.2.2⟩]
        · rw [if_neg h, if_neg (fun h' => h ⟨h'.1, by omega, h'.2.2⟩)]
    · rw [if_neg hb, ih]
      by_cases h : p = i ∧ t < s ∧ bitB x t = true
      · rw [if_pos h, if_pos ⟨h.1, by omega, h.2.2⟩]
      · rw [if_neg h, if_neg (fun h' => by
          by_cases e : t = s
          · subst e; exact hb h'.2.2
          · exact h ⟨h'.1, by omega, h'.2.2⟩)]

/-- Behind i first writes. -/
structure S1 (M : SM) (L f : List Int) (n i : Nat) : Prop where
  fs : M.fails = false
  sz : M.size = 640
  pl : M.pg.length = n
  ll : M.loose.length = i
  wf : WF M
  la : ∀ p, p < i → lastM M p = List.replicate 640 (f.getD p 0)
  wa : ∀ p, p < i → ∀ t, t < 5 → L.getD (5 * p + t) 0 = f.getD p 0
  wl : L.length = 5 * n
theorem S1.step {M : SM} {L f : List Int} {n i : Nat} (h : S1 M L f n i) (hi : i < n) : S1 (wrM M i (fullB 640 [f.getD i 0] 640)) (up5 L i (f.getD i 0) 5) f n (i + 1) where
  fs := cnt_calm (M := M) h.fs
  sz := h.sz
  pl := by simp [wrM, h.pl]
  ll := by simp [wrM, h.ll]
  wf := h.wf.wr (by rw [h.pl]; exact hi)
  la := fun p hp => by
    rw [lastM_wr _ _ _ _ (by rw [h.pl]; exact hi), fullB_one]
    by_cases e : p = i
    · subst e; rw [if_pos rfl]
    · rw [if_neg e]; exact h.la p (by omega)
  wa := fun p hp t ht => by
    rw [up5_get _ _ _ _ _ ht 5 (by omega) (by rw [h.wl]; omega)]
    by_cases e : p = i
    · subst e; rw [if_pos ⟨rfl, ht⟩]
    · rw [if_neg (fun e' => e e'.1)]; exact h.wa p (by omega) t ht
  wl := by rw [up5_len]; exact h.wl

/-- Behind j later writes. -/
structure S2 (M : SM) (L ks : List Int) (n j : Nat) : Prop where
  fs : M.fails = false
  sz : M.size = 640
  pl : M.pg.length = n
  ll : M.loose.length = j
  wf : WF M
  cl : ∀ p, p < n → (crM M ks p).length = 640
  ca : ∀ p, p < n → ∀ q, q < 640 → (crM M ks p).getD q 0 = L.getD (5 * p + q / 128) 0
  wl : L.length = 5 * n
theorem S1.sync {M : SM} {L f ks : List Int} {n : Nat} (h : S1 M L f n n) (hin : ∀ x ∈ M.loose, x.1 < M.pg.length) : S2 (syncM M) L ks n 0 := by
  have e : ∀ p, p < n → crM (syncM M) ks p = List.replicate 640 (f.getD p 0) := fun p hp => by
    have h1 := (h.wf.sync hin) p (by simp [syncM, syncP_len, h.pl, hp])
    rw [lastM_sync, h.la p hp] at h1
    exact h1.symm
  refine ⟨cnt_calm (M := M) h.fs, h.sz, by simp [syncM, syncP_len, h.pl], rfl, h.wf.sync hin, fun p hp => by rw [e p hp, List.length_replicate], fun p hp q hq => ?_, h.wl⟩
  rw [e p hp, h.wa p hp (q / 128) (by omega), List.getD_eq_getElem?_getD, List.getElem?_replicate, if_pos hq]; rfl
theorem S2.step {M : SM} {L ks : List Int} {n j i : Nat} {v : Int} (h : S2 M L ks n j) (hi : i < n) :
    S2 (wrM M i (fullB 640 [v] 640)) (if j < ks.length then upB L i v (ks.getD j 0).toNat 5 else L) ks n (j + 1) := by
  have hip : i < M.pg.length := by rw [h.pl]; exact hi
  refine ⟨cnt_calm (M := M) h.fs, h.sz, by simp [wrM, h.pl], by simp [wrM, h.ll], h.wf.wr hip, fun p hp => ?_, fun p hp q hq => ?_, ?_⟩
  · rw [crM_wr _ _ _ _ _ hip]
    by_cases e : i = p
    · subst e
      rw [if_pos rfl]
      split
      · rw [tornB_len]; exact h.cl i hp
      · exact h.cl i hp
    · rw [if_neg e]; exact h.cl p hp
  · rw [crM_wr _ _ _ _ _ hip, h.ll]
    by_cases hj : j < ks.length
    · rw [if_pos hj, if_pos hj, upB_get L i v (ks.getD j 0).toNat p (q / 128) (by omega) 5 (by omega) (by rw [h.wl]; omega)]
      by_cases e : i = p
      · subst e
        rw [if_pos rfl, List.getD_eq_getElem?_getD, tornB_get _ _ _ _ _ (by rw [h.cl i hp]; exact hq), Option.getD_some, h.cl i hp, fullB_one]
        have h5 : q / 128 < 5 := by omega
        have h8 : q / 128 % 8 = q / 128 := by omega
        rw [h8]
        by_cases hb : bitB (ks.getD j 0).toNat (q / 128) = true
        · rw [if_pos ⟨by omega, hb⟩, if_pos ⟨rfl, h5, hb⟩, List.getD_eq_getElem?_getD, List.getElem?_replicate, if_pos hq]; rfl
        · rw [if_neg (fun e => hb e.2), if_neg (fun e => hb e.2.2)]; exact h.ca i hp q hq
      · rw [if_neg e, if_neg (fun e' => e e'.1.symm)]; exact h.ca p hp q hq
    · rw [if_neg hj, if_neg hj]
      by_cases e : i = p
      · subst e
        rw [if_pos rfl]; exact h.ca i hp q hq
      · rw [if_neg e]; exact h.ca p hp q hq
  · split
    · rw [upB_len]; exact h.wl
    · exact h.wl

/-- Behind the crash. -/
structure S3 (M : SM) (L : List Int) (n : Nat) : Prop where
  fs : M.fails = false
  sz : M.size = 640
  pl : M.pg.length = n
  ll : M.loose.length = 0
  ca : ∀ p, p < n → ∀ q, q < 640 → (lastM M p).getD q 0 = L.getD (5 * p + q / 128) 0
  wl : L.length = 5 * n
theorem S2.crash {M : SM} {L ks : List Int} {n j : Nat} (h : S2 M L ks n j) (hin : ∀ x ∈ M.loose, x.1 < M.pg.length) : S3 (crashM M ks) L n :=
  ⟨rfl, h.sz, by simp [crashM, crashP_len, h.pl], rfl, fun p hp q hq => by rw [lastM_crash h.wf hin p (by rw [h.pl]; exact hp)]; exact h.ca p hp q hq, h.wl⟩
theorem S3.cnt {M : SM} {L : List Int} {n : Nat} (h : S3 M L n) : S3 (cntM M) L n := ⟨cnt_calm h.fs, h.sz, h.pl, h.ll, h.ca, h.wl⟩

def sec0 (n : Nat) (o : Bool) : SM := growM (cntM { size := 640, limit := 9, pg := [], loose := [], fails := false, ahead := 0, calls := 0, once := false }) n o
theorem sec0_wel (n : Nat) (o : Bool) (h : n ≤ 6) : Wel (sec0 n o) 1 := Wel.grow (wel_new (s := 640) (l := 9) (by decide)) (by show 0 + n ≤ 9; omega)
theorem sec0_st (n : Nat) (o : Bool) (f : List Int) : S1 (sec0 n o) (List.replicate (5 * n) 0) f n 0 :=
  ⟨rfl, rfl, by show ([] ++ List.replicate n _).length = n; rw [List.nil_append, List.length_replicate], rfl, wf_grow (M := { size := 640, limit := 9, pg := [], loose := [], fails := false, ahead := 0, calls := 0, once := false }) (fun p hp => by simp at hp) (fun x hx => by simp at hx), fun p hp => by omega, fun p hp => by omega, by simp⟩

end Go.Proofs.Ytkcadiiahbkmcaa
