/-
  Layer 3: the disk's model and the document's, side by side (plain). Own work.
-/
import Derived.Test.YtnodclijlhoobaaDskU
import Derived.Test.YtnodclijlhoobaaDskW
import Derived.Test.YtnodclijlhoobaaDskY
import Derived.Test.YtnodclijlhoobaaDskZ
namespace Go.Proofs.Ytnodclijlhoobaa
open Go.RowKit

/-- The pages for good, and the loose writes, as strings. -/
def mgO (pg : List (List Int × List Int)) : List ByteArray := pg.map fun y => strOfNums y.1
def mlO (l : List (Nat × List Int)) : List (Nat × ByteArray) := l.map fun x => (x.1, strOfNums x.2)
theorem mgO_len (pg : List (List Int × List Int)) : (mgO pg).length = pg.length := by simp [mgO]
theorem mlO_len (l : List (Nat × List Int)) : (mlO l).length = l.length := by simp [mlO]
theorem mgO_get (pg : List (List Int × List Int)) (p : Nat) (hp : p < pg.length) : (mgO pg).getD p ByteArray.empty = strOfNums (pgAt pg p).1 := by
  simp [mgO, pgAt, List.getD_eq_getElem?_getD, List.getElem?_eq_getElem hp]

theorem lastL_pre (l m : List (Nat × ByteArray)) (i : Nat) : ∀ k, k ≤ l.length → lastL (l ++ m) i k = lastL l i k
  | 0, _ => rfl
  | k + 1, h => by
    rw [lastL, lastL, List.getElem?_append_left (by omega), lastL_pre l m i k (by omega)]
theorem lastL_snoc (l : List (Nat × ByteArray)) (x : Nat × ByteArray) (i : Nat) : lastL (l ++ [x]) i (l.length + 1) = if x.1 = i then some x.2 else lastL l i l.length := by
  rw [lastL, List.getElem?_append_right (Nat.le_refl _), Nat.sub_self, lastL_pre l [x] i l.length (Nat.le_refl _)]
  rfl
theorem overL_look (i : Nat) (g : List Int) : ∀ (n : Nat) (l : List (Nat × List Int)), l.length = n → (lastL (mlO l) i (mlO l).length).getD (strOfNums g) = strOfNums (overL i l g)
  | 0, l, h => by
    obtain rfl := List.eq_nil_of_length_eq_zero h
    rfl
  | n + 1, l, h => by
    rcases List.eq_nil_or_concat l with rfl | ⟨l', x, rfl⟩
    · simp at h
    · have e : mlO (l' ++ [x]) = mlO l' ++ [(x.1, strOfNums x.2)] := by simp [mlO]
      have ih := overL_look i g n l' (by simpa using h)
      try rw [List.concat_eq_append]
      rw [e, List.length_append, List.length_singleton, lastL_snoc, overL_snoc]
      by_cases h : x.1 = i
      · rw [if_pos h, if_pos h]; rfl
      · rw [if_neg h, if_neg h]; exact ih
/-- What is read is the document's. -/
theorem look_same {M : SM} (h : WF M) (i : Nat) (hi : i < M.pg.length) : lookD (mgO M.pg) (mlO M.loose) i = strOfNums (lastM M i) := by
  unfold lookD
  rw [mgO_get _ _ hi, overL_look i _ _ _ rfl, h i hi]

theorem sync_same : ∀ (l : List (Nat × List Int)) (pg : List (List Int × List Int)), applyL (mgO pg) (mlO l) = mgO (syncP pg l)
  | [], _ => rfl
  | x :: l, pg => by
    have e : (mgO pg).set x.1 (strOfNums x.2) = mgO (pg.set x.1 (x.2, (pg.getD x.1 ([], [])).2)) := by simp [mgO, List.map_set]
    show applyL ((mgO pg).set x.1 (strOfNums x.2)) (mlO l) = _
    rw [e, sync_same l]; rfl
theorem write_same (M : SM) (i : Nat) (bs : List Int) (hi : i < M.pg.length) : mgO (wrM M i bs).pg = mgO M.pg ∧ mlO (wrM M i bs).loose = mlO M.loose ++ [(i, strOfNums bs)] := by
  refine ⟨?_, by simp [mlO, wrM]⟩
  simp only [mgO, wrM, List.map_set]
  apply List.ext_getElem?
  intro j
  rw [List.getElem?_set]
  by_cases e : i = j
  · subst e
    simp [List.getD_eq_getElem?_getD, hi]
  · rw [if_neg e]
theorem grow_same (M : SM) (k : Nat) (o : Bool) : mgO (growM (cntM M) k o).pg = mgO M.pg ++ List.replicate k (zeroS M.size) := by
  simp [mgO, growM, cntM, zeroS]

theorem str_app (a b : List Int) : strOfNums (a ++ b) = strOfNums a ++ strOfNums b := by
  apply ByteArray.ext
  simp [strOfNums]
theorem str_cut (a : List Int) (p q : Nat) : (strOfNums a).extract p q = strOfNums ((a.take q).drop p) := by
  apply ByteArray.ext
  simp [strOfNums, ByteArray.data_extract, List.map_drop, List.map_take, List.drop_take]
theorem from_same (bs : List Int) (s k : Nat) : mgO (chunks bs s k) = chunksA (strOfNums bs) s k := by
  simp only [mgO, chunks, chunksA, List.map_map]
  apply List.map_congr_left
  intro j _
  simp only [Function.comp]
  rw [str_cut, chunk, List.drop_take]
  congr 2
  omega

theorem torn_same (old bs : List Int) (x nn : Nat) (h1 : old.length = nn * 128) (h2 : bs.length = nn * 128) : ∀ k, k ≤ nn → tornA (strOfNums old) (strOfNums bs) x k = strOfNums ((tornB old bs x nn).take (k * 128))
  | 0, _ => by simp [tornA]; rfl
  | k + 1, hk => by
    have e : (tornB old bs x nn).take ((k + 1) * 128) = (tornB old bs x nn).take (k * 128) ++ ((if bitB x (k % 8) = true then bs else old).take (k * 128 + 128)).drop (k * 128) := by
      apply List.ext_getElem?
      intro j
      have hl : ((tornB old bs x nn).take (k * 128)).length = k * 128 := by rw [List.length_take, tornB_len]; omega
      rw [List.getElem?_append, hl, List.getElem?_take]
      by_cases hj : j < k * 128
      · rw [if_pos (by omega), if_pos hj, List.getElem?_take, if_pos hj]
      · rw [if_neg hj, List.getElem?_drop, List.getElem?_take, show k * 128 + (j - k * 128) = j by omega]
        by_cases hj2 : j < k * 128 + 128
        · rw [if_pos (by omega), if_pos hj2, tornB_get _ _ _ _ _ (by omega), show j / 128 = k by omega]
          by_cases hb : bitB x (k % 8) = true
          · rw [if_pos ⟨by omega, hb⟩, if_pos hb, List.getD_eq_getElem?_getD, List.getElem?_eq_getElem (by omega)]; rfl
          · rw [if_neg (fun e => hb e.2), if_neg hb, List.getD_eq_getElem?_getD, List.getElem?_eq_getElem (by omega)]; rfl
        · rw [if_neg (by omega), if_neg hj2]
    rw [tornA, torn_same old bs x nn h1 h2 k (by omega), e, str_app]
    congr 1
    show (if bitV x (k % 8) = true then strOfNums bs else strOfNums old).extract _ _ = _
    have hv : bitV x (k % 8) = bitB x (k % 8) := rfl
    rw [hv]
    by_cases hb : bitB x (k % 8) = true
    · rw [if_pos hb, if_pos hb, str_cut]
    · rw [if_neg hb, if_neg hb, str_cut]
theorem str_get (ks : List Int) (hk : Byt ks) (i : Nat) (hi : i < ks.length) : ((strOfNums ks).get! i).toNat = (ks.getD i 0).toNat := by
  have hb := hk (ks[i]) (List.getElem_mem hi)
  have e : (strOfNums ks).get! i = UInt8.ofNat (ks[i]).toNat := by
    show (strOfNums ks).data[i]! = _
    rw [getElem!_pos _ i (by simp [strOfNums]; exact hi)]
    simp [strOfNums]
  rw [e, List.getD_eq_getElem?_getD, List.getElem?_eq_getElem hi]
  simp
  omega
theorem crash_same (ks : List Int) (hk : Byt ks) (nn : Nat) : ∀ (l : List (Nat × List Int)) (i : Nat) (pg : List (List Int × List Int)), (∀ x ∈ l, x.1 < pg.length ∧ x.2.length = nn * 128) → (∀ y ∈ pg, y.1.length = nn * 128) →
    mgO (crashP ks i pg l) = crashA (strOfNums ks) nn i (mgO pg) ((mlO l).take (ks.length - i))
  | [], i, pg, _, _ => by simp [crashP, mlO, crashA]
  | x :: l, i, pg, hl, hp => by
    obtain ⟨hx1, hx2⟩ := hl x (by simp)
    have hg : (pgAt pg x.1).1.length = nn * 128 := by
      simp only [pgAt, List.getD_eq_getElem?_getD, List.getElem?_eq_getElem hx1]
      exact hp _ (List.getElem_mem hx1)
    have hp2 : ∀ y ∈ crashS ks i x pg, y.1.length = nn * 128 := by
      intro y hy
      rcases List.mem_or_eq_of_mem_set hy with hy | rfl
      · exact hp y hy
      · show (if i < ks.length then _ else _ : List Int).length = _
        split
        · rw [tornB_len]; exact hg
        · exact hg
    have hl2 : ∀ y ∈ l, y.1 < (crashS ks i x pg).length ∧ y.2.length = nn * 128 := fun y hy => by rw [crashS_len]; exact hl y (by simp [hy])
    rw [crashP, crash_same ks hk nn l (i + 1) _ hl2 hp2]
    by_cases hi : i < ks.length
    · have e : ks.length - i = (ks.length - (i + 1)) + 1 := by omega
      have e2 : mlO (x :: l) = (x.1, strOfNums x.2) :: mlO l := rfl
      rw [e, e2, List.take_succ_cons, crashA]
      congr 1
      rw [mgO_get _ _ hx1, str_get ks hk i hi, torn_same _ _ _ nn hg hx2 nn (Nat.le_refl _)]
      simp only [mgO, crashS, List.map_set, if_pos hi]
      congr 1
      show strOfNums (tornB (pgAt pg x.1).1 x.2 (ks.getD i 0).toNat ((pgAt pg x.1).1.length / 128)) = _
      rw [hg, show nn * 128 / 128 = nn by omega, List.take_of_length_le (by rw [tornB_len, hg]; exact Nat.le_refl _)]
    · have e : ks.length - i = 0 := by omega
      have e1 : ks.length - (i + 1) = 0 := by omega
      rw [e, e1, List.take_zero, List.take_zero, crashA, crashA]
      simp only [mgO, crashS, List.map_set, if_neg hi]
      apply List.ext_getElem?
      intro j
      rw [List.getElem?_set]
      by_cases e : x.1 = j
      · subst e
        simp [List.getD_eq_getElem?_getD, hx1]
      · rw [if_neg e]

end Go.Proofs.Ytnodclijlhoobaa
