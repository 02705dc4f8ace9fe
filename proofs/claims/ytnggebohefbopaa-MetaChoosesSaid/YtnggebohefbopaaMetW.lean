/-
  Layer 7: pages that are chosen; the document's example is what it says. Own work.
-/
import Derived.Test.YtnggebohefbopaaMetV
namespace Go.Proofs.Ytnggebohefbopaa
open Go.RowKit

/-- A meta that may be, and a size that may. -/
structure Good (M : Mt) (S : Nat) : Prop where
  ok : MtOk M
  right : mright M = true
  lo : 512 ≤ S
  hi : S ≤ 4096
theorem Good.get {M : Mt} {S : Nat} (h : Good M S) : mgetE (mpage M S) = 0 ∧ mgetM (mpage M S) = M := get_page h.ok h.right h.lo h.hi
theorem Good.is {M : Mt} {S : Nat} (h : Good M S) (s : Nat) : isOf s (mpage M S) = decide (M.t % 2 = s) := by
  unfold isOf; rw [h.get.1, h.get.2]; simp
theorem Good.len {M : Mt} {S : Nat} (h : Good M S) : (mpage M S).length = S := mpage_len (by have := h.lo; omega)
/-- Two pages, each in its place. -/
theorem ch_two {M N : Mt} {S : Nat} (hM : Good M S) (hN : Good N S) (h0 : M.t % 2 = 0) (h1 : N.t % 2 = 1) :
    chM (mpage M S) (mpage N S) = (if M.t < N.t then N else M) ∧ chE (mpage M S) (mpage N S) = 0 := by
  have a1 : isOf 0 (mpage M S) = true := by rw [hM.is]; simp [h0]
  have b1 : isOf 1 (mpage N S) = true := by rw [hN.is]; simp [h1]
  have e : chM (mpage M S) (mpage N S) = if M.t < N.t then N else M := by
    unfold chM firstM
    rw [if_pos a1, hM.get.2, hN.get.2]
    by_cases h : M.t < N.t
    · rw [if_pos ⟨b1, h⟩, if_pos h]
    · rw [if_neg (fun k => h k.2), if_neg h]
  refine ⟨e, ?_⟩
  have hm := mright_t hM.right
  have hn := mright_t hN.right
  unfold chE
  rw [e, if_neg]
  split <;> omega
/-- A page in its place, and bytes that tell nothing in the other. -/
theorem ch_left {M : Mt} {b : List Int} {S : Nat} (hM : Good M S) (h0 : M.t % 2 = 0) (hb : isOf 1 b = false) : chM (mpage M S) b = M ∧ chE (mpage M S) b = 0 := by
  have a1 : isOf 0 (mpage M S) = true := by rw [hM.is]; simp [h0]
  have e : chM (mpage M S) b = M := by
    unfold chM firstM
    rw [if_neg (by simp [hb]), if_pos a1, hM.get.2]
  have hm := mright_t hM.right
  exact ⟨e, by unfold chE; rw [e, if_neg (by omega)]⟩
theorem ch_right {M : Mt} {a : List Int} {S : Nat} (hM : Good M S) (h1 : M.t % 2 = 1) (ha : isOf 0 a = false) : chM a (mpage M S) = M ∧ chE a (mpage M S) = 0 := by
  have b1 : isOf 1 (mpage M S) = true := by rw [hM.is]; simp [h1]
  have hm := mright_t hM.right
  have e : chM a (mpage M S) = M := by
    unfold chM firstM
    rw [if_neg (by simp [ha] : ¬ isOf 0 a = true), hM.get.2, if_pos ⟨b1, by show 0 < M.t; omega⟩]
  exact ⟨e, by unfold chE; rw [e, if_neg (by omega)]⟩
/-- Two pages, each in the other's place. -/
theorem ch_wrong {M N : Mt} {S : Nat} (hM : Good M S) (hN : Good N S) (h0 : M.t % 2 = 0) (h1 : N.t % 2 = 1) : chM (mpage N S) (mpage M S) = mt0 ∧ chE (mpage N S) (mpage M S) = 24 := by
  have a1 : isOf 0 (mpage N S) = false := by rw [hN.is]; simp [h1]
  have b1 : isOf 1 (mpage M S) = false := by rw [hM.is]; simp [h0]
  have e : chM (mpage N S) (mpage M S) = mt0 := by
    unfold chM firstM
    rw [if_neg (by simp [b1]), if_neg (by simp [a1])]
  exact ⟨e, by unfold chE; rw [e, if_pos (by decide)]⟩

theorem Seq.cap {B n c : Nat} {w : World} {a : Option Addr} {bs : List Int} (h : Seq B w (.slice a n c) bs) : n ≤ c := by obtain ⟨_, _, hv, h1, _⟩ := h; cases hv; exact h1
theorem slot5 (w : World) : Calls Try.prog 16 #[.int .u64 5] w fun r w' => r = .returned (.int .i64 1) ∧ w = w' := mslot_any 5 (by decide) w

def A4 : Mt := ⟨4, 9, 3, 0⟩
def A5 : Mt := ⟨5, 10, 4, 5⟩
theorem a4_good : Good A4 512 := ⟨⟨by decide, by decide, by decide, by decide⟩, by decide, by decide, by decide⟩
theorem a5_good : Good A5 512 := ⟨⟨by decide, by decide, by decide, by decide⟩, by decide, by decide, by decide⟩
theorem ch_45 : chM (mpage A4 512) (mpage A5 512) = A5 ∧ chE (mpage A4 512) (mpage A5 512) = 0 := ch_two a4_good a5_good rfl rfl
theorem ch_44 : chM (mpage A4 512) (mpage A4 512) = A4 ∧ chE (mpage A4 512) (mpage A4 512) = 0 := ch_left a4_good rfl (by rw [a4_good.is]; decide)
theorem told_at (M : Mt) (S k : Nat) (h : k < 28) : (mpage M S).getD k 0 = (told M S).getD k 0 := by
  rw [← page_take28 M S, getD_take _ _ _ h]
theorem a4_6 : (mpage A4 512).getD 6 0 = 2 := by rw [told_at _ _ _ (by decide)]; decide +kernel
theorem a4_15 : (mpage A4 512).getD 15 0 = 4 := by rw [told_at _ _ _ (by decide)]; decide +kernel

/-- Choose of pages that are known. -/
theorem choose_as {W : World} {a0 a1 : Option Addr} {n0 c0 n1 c1 : Nat} {a b : List Int} (ha : Seq W.heap.size W (.slice a0 n0 c0) a) (hb : Seq W.heap.size W (.slice a1 n1 c1) b) (hba : Byt a) (hbb : Byt b) {X : Mt} {E : Int} (h : chM a b = X ∧ chE a b = E) :
    Calls Try.prog 21 #[.slice a0 n0 c0, .slice a1 n1 c1] W fun r w' => r = .returned (.tuple #[.agg #[.int .u64 (X.t : Int), .int .u32 (X.e : Int), .int .u32 (X.m : Int), .int .u32 (X.f : Int)], .int .i64 E]) ∧ W.grownBy w' none := by
  have K := choose_any W a0 n0 c0 a a1 n1 c1 b ha hb hba hbb
  unfold ChoseM at K
  rw [h.1, h.2] at K
  exact K

set_option maxRecDepth 30000 in
set_option maxHeartbeats 4000000 in
theorem awake7_any (w : World) :
    Calls Try.prog 10 #[] w fun r w' => r = .returned (.bool true) ∧ w.grownBy w' none := by
  have HP4 : Hid (∀ W : World, Calls Try.prog 12 #[.agg #[.int .u64 4, .int .u32 9, .int .u32 3, .int .u32 0], .int .i64 512] W fun r w' => ∃ ao c, r = .returned (.tuple #[.slice ao 512 c, .int .i64 0]) ∧
      w'.ownsRow W.heap.size 5 1 (.slice ao 512 c) 512 ((mpage A4 512).map (.int .u8)) ∧ W.grownBy w' none) := Lib.hid (fun W => mput_ok W A4 a4_good.ok a4_good.right 512 (by decide) (by decide))
  have HP5 : Hid (∀ W : World, Calls Try.prog 12 #[.agg #[.int .u64 5, .int .u32 10, .int .u32 4, .int .u32 5], .int .i64 512] W fun r w' => ∃ ao c, r = .returned (.tuple #[.slice ao 512 c, .int .i64 0]) ∧
      w'.ownsRow W.heap.size 5 1 (.slice ao 512 c) 512 ((mpage A5 512).map (.int .u8)) ∧ W.grownBy w' none) := Lib.hid (fun W => mput_ok W A5 a5_good.ok a5_good.right 512 (by decide) (by decide))
  have HL4 := Lib.hid a4_good.len
  have HL5 := Lib.hid a5_good.len
  have H6 := Lib.hid a4_6
  have H15 := Lib.hid a4_15
  have HC1 : Hid (chM (mpage A4 512) (mpage A5 512) = ⟨5, 10, 4, 5⟩ ∧ chE (mpage A4 512) (mpage A5 512) = 0) := Lib.hid ch_45
  have HC2 : Hid (chM (mpage A4 512) (mpage A4 512) = ⟨4, 9, 3, 0⟩ ∧ chE (mpage A4 512) (mpage A4 512) = 0) := Lib.hid ch_44
  have HB4 := Lib.hid (mpage_byt A4 512)
  have HB5 := Lib.hid (mpage_byt A5 512)
  have HRB := Lib.hid (rub_yes (page_rub A4 512))
  generalize mpage A4 512 = p4 at *
  generalize mpage A5 512 = p5 at *
  go_enter Try.func10, Try.ntmps10
  go_wp2_with (first
    | (go_at_call 12; have K := HP4.out w; ((with_reducible refine K.mono ?_); clear K; rintro r w1 ⟨a0, c0, rfl, ho, hg⟩); have S1 := Lib.hid (Seq.owned1 HL4.out ho); have hcap := S1.out.cap; have hc4 : (4 : Int) ≤ (c0 : Int) := (by omega); have G1 := Lib.hid hg; clear ho hg hcap)
    | (go_at_call 12; have K := HP5.out w1; ((with_reducible refine K.mono ?_); clear K; rintro r w2 ⟨a1, c1, rfl, ho, hg⟩); have S2 := Lib.hid (S1.out.grown hg); have R2 := Lib.hid (Seq.owned1 HL5.out ho); have G2 := Lib.hid (gtrans G1.out hg); clear ho hg)
    | (go_at_call 21; have K := choose_as (W := w2) S2.out R2.out HB4.out HB5.out HC1.out; ((with_reducible refine K.mono ?_); clear K; rintro r w3 ⟨rfl, hg⟩); have hg3 := gtrans hg (World.grownBy_alloc w3 (.cells #[.int .u64 5, .int .u32 10, .int .u32 4, .int .u32 5] 29) none); have S3 := Lib.hid (S2.out.grown hg3); have G3 := Lib.hid (gtrans G2.out hg3); have M3 := Lib.hid (heap_alloc_new w3 (.cells #[.int .u64 5, .int .u32 10, .int .u32 4, .int .u32 5] 29)); clear hg hg3)
    | (go_at_call 21; have K := choose_as (W := w3.alloc (.cells #[.int .u64 5, .int .u32 10, .int .u32 4, .int .u32 5] 29)) S3.out S3.out HB4.out HB4.out HC2.out; ((with_reducible refine K.mono ?_); clear K; rintro r w4 ⟨rfl, hg⟩); have hg4 := gtrans hg (World.grownBy_alloc w4 (.cells #[.int .u64 4, .int .u32 9, .int .u32 3, .int .u32 0] 29) none); have S4 := Lib.hid (S3.out.grown hg4); have G4 := Lib.hid (gtrans G3.out hg4); have M4 := Lib.hid ((hg4.block _ (lt_of_block M3.out) (by simp)).trans M3.out); have N4 := Lib.hid (heap_alloc_new w4 (.cells #[.int .u64 4, .int .u32 9, .int .u32 3, .int .u32 0] 29)); obtain ⟨y0, y1, y2, y3⟩ := mt_cells M4.out; obtain ⟨z0, z1, z2, z3⟩ := mt_cells N4.out; obtain ⟨b, o, ha0, hc6⟩ := S4.out.cellAt 6 (by rw [HL4.out]; decide); obtain ⟨b', o', ha0', hc15⟩ := S4.out.cellAt 15 (by rw [HL4.out]; decide); rw [ha0] at ha0'; injection ha0' with ha0'; injection ha0' with e1 e2; subst e1 e2; rw [H6.out] at hc6; rw [H15.out] at hc15; have hcv := seq_string (S4.out.pre 4 (by rw [HL4.out]; decide)); have hrub := HRB.out; generalize strOfNums (p4.take 4) = T at hcv hrub; subst ha0; clear hg hg4)
    | (go_at_call 16; have K := slot5 (w4.alloc (.cells #[.int .u64 4, .int .u32 9, .int .u32 3, .int .u32 0] 29)); ((with_reducible refine K.mono ?_); clear K; rintro r w5 ⟨rfl, rfl⟩)))
  go_ret
  exact ⟨rfl, G4.out⟩

end Go.Proofs.Ytnggebohefbopaa
