/-
  Layer 4: the contract of leaf's Put. Own work.
-/
import Derived.Test.YtnodclijlhoobaaLefE
import Derived.Deep.LoopGhost
namespace Go.Proofs.Ytnodclijlhoobaa
open Go.RowKit

theorem right_yes {w : World} {B : Nat} {ao : Option Addr} {n c : Nat} {l : List En} {size : Int} (h : Ents B w (.slice ao n c) l) (hB : B ≤ w.heap.size) (hr : RightP l size) :
    Calls Try.prog 37 #[.slice ao n c, .int .i64 size] w fun r w' => r = .returned (.bool true) ∧ w.grownBy w' none :=
  (right_any w B ao n c l size h hB).mono fun r w' ⟨b, e, hb, hg⟩ => ⟨by rw [e, hb.2 hr], hg⟩
theorem right_no {w : World} {B : Nat} {ao : Option Addr} {n c : Nat} {l : List En} {size : Int} (h : Ents B w (.slice ao n c) l) (hB : B ≤ w.heap.size) (hr : ¬ RightP l size) :
    Calls Try.prog 37 #[.slice ao n c, .int .i64 size] w fun r w' => r = .returned (.bool false) ∧ w.grownBy w' none :=
  (right_any w B ao n c l size h hB).mono fun r w' ⟨b, e, hb, hg⟩ => ⟨by
    have : b = false := by
      cases b with
      | false => rfl
      | true => exact absurd (hb.1 rfl) hr
    rw [e, this], hg⟩

set_option maxHeartbeats 1000000 in
theorem put_arg (w : World) (B : Nat) (ao : Option Addr) (n c : Nat) (l : List En) (size : Int) (h : Ents B w (.slice ao n c) l) (hB : B ≤ w.heap.size) (hr : ¬ RightP l size) :
    Calls Try.prog 35 #[.slice ao n c, .int .i64 size] w fun r w' => r = .returned (.tuple #[.slice none 0 0, .int .i64 1]) ∧ w.grownBy w' none := by
  have H := Lib.hid h
  have HR := Lib.hid hr
  clear h hr
  go_enter Try.func35, Try.ntmps35
  go_wp2_with (go_at_call 37; refine (right_no H.out hB HR.out).mono ?_; rintro r w1 ⟨rfl, hg⟩)
  go_ret2
  exact ⟨rfl, hg⟩
set_option maxHeartbeats 1000000 in
theorem put_full (w : World) (B : Nat) (ao : Option Addr) (n c : Nat) (l : List En) (size : Int) (h : Ents B w (.slice ao n c) l) (hB : B ≤ w.heap.size) (hr : RightP l size) (hf : size < (fillL l : Int)) :
    Calls Try.prog 35 #[.slice ao n c, .int .i64 size] w fun r w' => r = .returned (.tuple #[.slice none 0 0, .int .i64 21]) ∧ w.grownBy w' none := by
  have H := Lib.hid h
  have HR := Lib.hid hr
  clear h hr
  go_enter Try.func35, Try.ntmps35
  go_wp2_with (first
    | (go_at_call 37; refine (right_yes H.out hB HR.out).mono ?_; rintro r w1 ⟨rfl, hg⟩; have HE := Lib.hid (H.out.grown hg hB); have hs1 := hg.size)
    | (go_at_call 39; refine (fill_any _ B _ _ _ l HE.out (by omega)).mono ?_; rintro r w2 ⟨rfl, hg2⟩))
  go_ret2
  exact ⟨rfl, gtrans hg hg2⟩

theorem OkOne.long {m : Int} {x : En} (h : OkOne m x) : 0 ≤ x.long := by
  have hr := h.2.2.1
  unfold rvB at hr
  split at hr
  · simp at hr; omega
  · simp at hr; omega

theorem new3 (w : World) (o : Obj) : (((w.alloc o).alloc o).alloc o).heap[w.heap.size]? = some o := by
  have h := (gtrans (World.grownBy_alloc (w.alloc o) o none) (World.grownBy_alloc _ o _)).block w.heap.size (by simp) (by simp)
  exact h.trans (heap_alloc_new w o)
theorem made_heap {q m : Nat} {w : World} (h : w.ownsRow q 5 1 (.slice (some ⟨q, 0, none⟩) m m) m (madeCells (Value.int .u8 0).cells (m * 1)).toList) : w.heap[q]? = some (.cells ((List.replicate m (0 : Int)).map (Value.int .u8)).toArray 5 (0, 0)) := by
  have e : (madeCells (Value.int .u8 0).cells (m * 1)).toList = (List.replicate m (0 : Int)).map (Value.int .u8) := by
    rw [Nat.mul_one, show (Value.int .u8 0).cells = #[Value.int .u8 0] from rfl, toList_madeCells_one, List.map_replicate]
  rw [e] at h
  rcases h.2 with ⟨hv, _⟩ | ⟨g, cap, cur, hv, hb, hh, h1, h2, h3, h4⟩
  · cases hv
  · cases hv
    rw [hh]
    have : cur.toList = (List.replicate m (0 : Int)).map (Value.int .u8) := by
      rw [← h4, List.take_of_length_le (by simp; omega)]
    rw [← this]

set_option maxRecDepth 100000 in
set_option maxHeartbeats 8000000 in
theorem put_ok (w : World) (B : Nat) (ao : Option Addr) (n c : Nat) (l : List En) (S : Nat) (h : Ents B w (.slice ao n c) l) (hB : B ≤ w.heap.size) (hr : RightP l S) (hf : fillL l ≤ S) :
    Calls Try.prog 35 #[.slice ao n c, .int .i64 S] w fun r w' => ∃ b, r = .returned (.tuple #[.slice (some ⟨b, 0, none⟩) S S, .int .i64 0]) ∧ w.heap.size ≤ b ∧
      w'.heap[b]? = some (.cells ((pageB l S).map (Value.int .u8)).toArray 5 (0, 0)) ∧ w.grownBy w' none := by
  obtain ⟨i0, hi, hz0, hz1, hz2⟩ := info_parts infoU8
  have hS1 : 512 ≤ S := by have := hr.1; omega
  have hS2 : S ≤ 4096 := by have := hr.2.1; omega
  have hn : n = l.length := h.len
  have hn1 : n ≤ 100000 := by have := h.few; omega
  have hff : (fillL l : Int) ≤ (S : Int) := by omega
  have HN := Lib.hid hn
  have H := Lib.hid h
  have HR := Lib.hid hr
  have HF := Lib.hid hf
  clear hn h hr hf
  go_enter Try.func35, Try.ntmps35
  go_wp2_with (first
    | (go_at_call 37; refine (right_yes H.out hB HR.out).mono ?_; rintro r w1 ⟨rfl, hg⟩; have HE := Lib.hid (H.out.grown hg hB); have hs1 := hg.size; have HG1 := Lib.hid hg; clear hg)
    | (go_at_call 39; refine (fill_any _ B _ _ _ l HE.out (by omega)).mono ?_; rintro r w2 ⟨rfl, hg2⟩; have HG2 := Lib.hid (gtrans HG1.out hg2); have HE2 := Lib.hid (HE.out.grown hg2 (by omega)); clear hg2)
    | (at_make; refine wpList_make_full _ rfl _ _ 22 rfl w2.heap.size 5 i0 (.int .u8 0) 1 Try.underlying22 hi hz0 hz1 .i64 .i64 _ _ S rfl rfl ?c1 ?c2 ?c3 ?c4 (Nat.le_refl _) ?_; (case c1 => rfl); (case c2 => rfl); (case c3 => rw [hz2]; omega); (case c4 => unfold maxLen; omega); intro wM hown hgM; have HO := Lib.hid (made_heap hown); have HGM := Lib.hid hgM; have hsM := hgM.size; clear hown hgM)
    | (go_at_call 61; refine (newW_any _).mono ?_; rintro r w3 ⟨rfl, hw3, hg3⟩; have hs2 := HG2.out.size; have HP : Hid (PS B w2.heap.size wM.heap.size w w3 (.slice ao n c) l (bdB l S 0) []) := Lib.hid ⟨(hg3.block _ (lt_of_block HO.out) (by simp)).trans (HO.out.trans (by simp [bdB, cs, tlB])), hw3, (HE2.out.grown HGM.out (by omega)).grown hg3 (by omega), by omega, by have := lt_of_block HO.out; omega, gbelow (gtrans HG2.out (gtrans HGM.out hg3)), hs2⟩; clear hw3 hg3)
    | (go_at_call 62; have K := HP.out.num 1 1 1 rfl (by omega) (by omega) (by omega) (by omega) (by simp [numB_len]); ((with_reducible refine K.mono ?_); clear K; rintro r wn ⟨rfl, hs⟩); clear HP; have HP := Lib.hid hs; clear hs)
    | (go_at_call 62; have K := HP.out.num 0 1 1 rfl (by omega) (by omega) (by omega) (by omega) (by simp [numB_len]); ((with_reducible refine K.mono ?_); clear K; rintro r wn ⟨rfl, hs⟩); clear HP; have HP := Lib.hid hs; clear hs)
    | (go_at_call 62; have K := HP.out.num (n : Int) 2 2 rfl (by omega) (by omega) (by omega) (by omega) (by simp [numB_len]); ((with_reducible refine K.mono ?_); clear K; rintro r wn ⟨rfl, hs⟩); clear HP; have HP := Lib.hid hs; clear hs))
  clear HO HGM HE HE2 HG1 HG2 hsM hs1 hs2
  have HQ0 := Lib.hid HP.out.q0
  have HP0 : Hid (PS B w2.heap.size wM.heap.size w wn (.slice ao n c) l (bdB l S 0) (hdB l S 0)) := Lib.hid (by have h := HP.out; rw [HN.out] at h ⊢; exact h)
  clear HP
  generalize w2.heap.size = gb at *
  generalize wM.heap.size = gh at *
  go_loopg [8, 34] n (fun g e i wr => ∃ (k E : Nat), k + g = n ∧ i = .int .i64 (k : Int) ∧ e = .int .i64 (E : Int) ∧ Hid (E = S - cs l k) ∧ PS B gb gh w wr (.slice ao n c) l (bdB l S k) (hdB l S k))
  case atStart => exact ⟨0, S, by omega, rfl, rfl, Lib.hid (by simp [cs]), HP0.out⟩
  case round =>
    obtain ⟨k, E, hkg, rfl, rfl, HE, hp⟩ := hrel
    have HP := Lib.hid hp
    clear hp HP0
    by_cases hlt : k < n
    · obtain ⟨g, rfl⟩ : ∃ g, gk = g + 1 := ⟨gk - 1, by omega⟩
      have hki : (k : Int) < (n : Int) := by omega
      obtain ⟨x, hx⟩ : ∃ x, l[k]? = some x := ⟨_, List.getElem?_eq_getElem (by have := HN.out; omega)⟩
      have hsc := cs_snoc hx
      have hcm := cs_mono l (show k + 1 ≤ n by omega)
      have hcp := cl_pos x
      obtain ⟨z, hz⟩ : ∃ z, z = cl x := ⟨_, rfl⟩
      have hzE : z ≤ E := by
        have h1 := HF.out
        have h2 := HE.out
        unfold fillL fillK at h1
        rw [← HN.out] at h1
        omega
      obtain ⟨E', rfl⟩ : ∃ E', E = E' + z := ⟨E - z, by omega⟩
      have HE' := Lib.hid (show E' = S - cs l (k + 1) by have := HE.out; omega)
      have HCZ := Lib.hid (show cs l k + cl x ≤ S by
        have h1 := HF.out
        unfold fillL fillK at h1
        rw [← HN.out] at h1
        omega)
      have HBD := Lib.hid (show (bdB l S k).take E' ++ cellB x ++ (bdB l S k).drop (E' + z) = bdB l S (k + 1) by rw [HE'.out, hz]; exact bdB_snoc hx HCZ.out)
      have hES : E' + z ≤ S := by have := HE.out; omega
      have hz4 : 4 ≤ z := by omega
      obtain ⟨b, o, rfl, hb, a1, c1, a2, c2, h1, h2, h3, q0, q1, q2, q3⟩ := HP.out.en.at k x hx
      have HX := Lib.hid hx
      have H1 := Lib.hid h1
      have H2 := Lib.hid h2
      have H3 := Lib.hid h3
      have HL := Lib.hid ((HR.out.2.2 k x (by have := HN.out; omega) hx).1.long)
      have HZ := Lib.hid hz
      have HBW := Lib.hid (show B ≤ wr.heap.size by have := HP.out.lt; have := HP.out.Bgb; have := HP.out.gg; omega)
      clear hsc hcm hcp hz hx h1 h2 h3
      go_wp2_with (go_at_call 41; refine (cell_any _ a1 a2 c1 c2 x H3.out).mono ?_; rintro r w5 ⟨rfl, rfl⟩; rw [← HZ.out])
      have hgz := g3 wr (.cells (ecs (.slice a1 x.key.length c1) (.slice a2 x.val.length c2) x.long x.first) 72)
      have hnz := new3 wr (.cells (ecs (.slice a1 x.key.length c1) (.slice a2 x.val.length c2) x.long x.first) 72)
      have HPz := Lib.hid (HP.out.grown hgz)
      have S1 := Lib.hid (H1.out.below (fun i hi => hgz.block i (by have := HBW.out; omega) (by simp)))
      have S2 := Lib.hid (H2.out.below (fun i hi => hgz.block i (by have := HBW.out; omega) (by simp)))
      have HBZ := Lib.hid (Nat.le_trans HBW.out hgz.size)
      generalize (((wr.alloc (.cells (ecs (.slice a1 x.key.length c1) (.slice a2 x.val.length c2) x.long x.first) 72)).alloc (.cells (ecs (.slice a1 x.key.length c1) (.slice a2 x.val.length c2) x.long x.first) 72)).alloc (.cells (ecs (.slice a1 x.key.length c1) (.slice a2 x.val.length c2) x.long x.first) 72)) = wz at *
      obtain ⟨z0, z1, z2, z3⟩ := four_cells hnz
      have hne : ¬ S = E' := by omega
      have e1 : (E' : Int) ≤ (S : Int) := by omega
      have hpz : 0 < z := by omega
      have hdl : z ≤ S - E' := by omega
      clear hgz hnz q0 q1 q2 q3
      go_region_law (first
        | (refine step_copy_at rfl (.tmp 44) (.tmp 46) 22 22 rfl _ _ z (by simp [go_sem]) (by simp [go_sem]) HCP.out ?_)
        | (go_simp; go_at_call 63; refine (cellOf_any wz.drew B a1 a2 c1 c2 x H3.out (S1.out.below (fun _ _ => rfl)) (S2.out.below (fun _ _ => rfl)) HBZ.out HL.out).mono ?_; rw [← HZ.out]; rintro r w5 ⟨ac, cc, rfl, ho, hg5⟩; have HP5 := Lib.hid (HPz.out.grown (gtrans (gdrew wz) hg5)); have HCP := Lib.hid (copy_run (off := E') (dLen := S - E') (dCap := S - E') HP5.out.hp ho hpz hdl (by rw [bdB_len (by have := HCZ.out; omega)]; omega)); rw [HBD.out] at HCP; have HP6 := Lib.hid (HP5.out.put (bdB l S (k + 1))); clear ho hg5))
      all_goals
        generalize w5.setRow gb ((bdB l S (k + 1)).map (Value.int .u8)).toArray = w6 at *
        go_wp2_with (go_at_call 62; have K := HP6.out.num (E' : Int) 2 2 rfl (by omega) (by omega) (by omega) (by omega) (by rw [hdB_len]; omega); ((with_reducible refine K.mono ?_); clear K; rintro r wn ⟨rfl, hs⟩); have HP7 := Lib.hid hs; clear hs)
        go_roundg g
        case measure => omega
        case rel => exact ⟨k + 1, E', by omega, by go_num, by go_num, HE', by have h := HP7.out; rw [HE'.out] at h; exact h⟩
    · obtain rfl : k = n := by omega
      have HK := Lib.hid (show k = l.length from HN.out)
      have HHL := Lib.hid (hdB_len l S k)
      have HPG := Lib.hid (show (bdB l S k).take 0 ++ hdB l S k ++ (bdB l S k).drop (0 + (4 + 2 * k)) = pageB l S by have h := page_last HF.out; rw [hdB_len, ← HK.out] at h; exact h)
      have h42 : 4 + 2 * k ≤ S := by
        have h1 := HF.out
        unfold fillL fillK at h1
        rw [← HN.out] at h1
        omega
      have hp42 : 0 < 4 + 2 * k := by omega
      have HBL := Lib.hid (show 0 + (4 + 2 * k) ≤ (bdB l S k).length by
        have h1 := HF.out
        unfold fillL fillK at h1
        rw [← HN.out] at h1
        rw [bdB_len (by omega)]; omega)
      obtain ⟨T, hT⟩ : ∃ T, T = 4 + 2 * k := ⟨_, rfl⟩
      rw [← hT] at HHL HPG h42 hp42 HBL
      clear hT
      go_wp2_with (first
        | (go_at_call 64; have K := out_len HP.out.wr HHL.out (by omega); ((with_reducible refine K.mono ?_); clear K; rintro r w5 ⟨ac, cc, rfl, ho, hg5⟩); have HP5 := Lib.hid (HP.out.grown hg5); have HCP := Lib.hid (copy_run (off := 0) (dLen := S) (dCap := S) HP5.out.hp ho hp42 h42 HBL.out); rw [HPG.out] at HCP; have HP6 := Lib.hid (HP5.out.put (pageB l S)); clear ho hg5)
        | (refine wpList_copy_at rfl (.tmp 53) (.tmp 55) 22 22 rfl (.slice (some ⟨gb, 0, none⟩) S S) (.slice ac T cc) T (by simp [go_sem]) (by simp [go_sem]) HCP.out ?_))
      go_ret2
      exact ⟨gb, rfl, HQ0.out, HP6.out.hp, gof HP6.out.bel none⟩

end Go.Proofs.Ytnodclijlhoobaa
