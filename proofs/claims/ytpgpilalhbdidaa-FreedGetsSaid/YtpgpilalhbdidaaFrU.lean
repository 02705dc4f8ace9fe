/-
  Layer 10, the document's own: Get. Own work.
-/
import Derived.Test.YtpgpilalhbdidaaFrQ
import Derived.Test.YtpgpilalhbdidaaFrJ
import Derived.OwnWalk
namespace Go.Proofs.Ytpgpilalhbdidaa
open Go.RowKit

theorem vput_yes (w : World) (R : Nat → Prop) (ao : Option Addr) (n c : Nat) (ps : List Pr) (x S : Nat) (Si : Int) (hSi : Si = (S : Int)) (hs : PrSq R w (.slice ao n c) ps) (hx : x ≤ 4294967295) (h1 : 512 ≤ (S : Int)) (h2 : (S : Int) ≤ 4096) (h3 : (n : Int) ≤ roomI S) (hr : Rise ps) :
    Calls Try.prog 25 #[.slice ao n c, .int .u32 (x : Int), .int .i64 Si] w fun r w' => r = .returned (.tuple #[.string (strOfNums (frB ps (x : Int) S)), .int .i64 0]) ∧ w.grownBy w' none :=
  (vput_fit w R ao n c ps x S Si hSi hs hx h1 h2 h3).mono fun r w' h => by
    rcases h.1 with ⟨_, e⟩ | ⟨hn, _⟩
    · exact ⟨e, h.2⟩
    · exact absurd hr hn
theorem vput_bad (w : World) (R : Nat → Prop) (ao : Option Addr) (n c : Nat) (ps : List Pr) (x S : Nat) (Si : Int) (hSi : Si = (S : Int)) (hs : PrSq R w (.slice ao n c) ps) (hx : x ≤ 4294967295) (h1 : 512 ≤ (S : Int)) (h2 : (S : Int) ≤ 4096) (h3 : (n : Int) ≤ roomI S) (hr : ¬ Rise ps) :
    Calls Try.prog 25 #[.slice ao n c, .int .u32 (x : Int), .int .i64 Si] w fun r w' => r = .returned (.tuple #[.string { data := #[] }, .int .i64 1]) ∧ w.grownBy w' none :=
  (vput_fit w R ao n c ps x S Si hSi hs hx h1 h2 h3).mono fun r w' h => by
    rcases h.1 with ⟨hn, _⟩ | ⟨_, e⟩
    · exact absurd hn hr
    · exact ⟨e, h.2⟩
theorem prs_drop {ps : List Pr} {z : List Int} {k : Nat} (hk : k ≤ ps.length) : (prsB ps ++ z).drop (12 * k) = prsB (ps.drop k) ++ z := by
  have e : prsB ps = prsB (ps.take k) ++ prsB (ps.drop k) := by rw [← prsB_app, List.take_append_drop]
  rw [e, List.append_assoc, List.drop_left' (by rw [prsB_len, List.length_take]; omega)]
theorem prs_at {bs z : List Int} {ps : List Pr} (h : bs.drop 8 = prsB ps ++ z) {k : Nat} {p : Pr} (hp : ps[k]? = some p) (ho : PrOk p) : beVal ((bs.drop (8 + 12 * k)).take 8) = (p.1 : Int) ∧ beVal ((bs.drop (16 + 12 * k)).take 4) = (p.2 : Int) := by
  have hk := (List.getElem?_eq_some_iff.1 hp).1
  have e : bs.drop (8 + 12 * k) = numB (p.1 : Int) 8 8 ++ (numB (p.2 : Int) 4 4 ++ (prsB (ps.drop (k + 1)) ++ z)) := by
    rw [← List.drop_drop, h, prs_drop (by omega), List.drop_eq_getElem_cons hk, prsB_cons]
    rw [List.getElem?_eq_getElem hk] at hp
    cases hp
    simp [prB]
  have e2 : bs.drop (16 + 12 * k) = numB (p.2 : Int) 4 4 ++ (prsB (ps.drop (k + 1)) ++ z) := by
    rw [show 16 + 12 * k = (8 + 12 * k) + 8 by omega, ← List.drop_drop, e, List.drop_left' (numB_len _ _ _)]
  rw [e, e2, List.take_left' (numB_len _ _ _), List.take_left' (numB_len _ _ _)]
  exact ⟨be8 ho.1, be4n ho.2⟩
theorem flaid_parts {b : List Int} {l : List Pr} {x : Int} (h : FLaid b l x) : beVal ((b.drop 2).take 2) = (l.length : Int) ∧ beVal ((b.drop 4).take 4) = x ∧ ∃ z, b.drop 8 = prsB l ++ z := by
  have hf := flaid_few h
  have hb := h.page
  unfold frB at hb
  rw [hdK_read (by decide) (by decide)] at hb
  generalize b.length = n at hb
  have e2 : b.drop 2 = numB (l.length : Int) 2 2 ++ (numB x 4 4 ++ (prsB l ++ List.replicate (n - 8 - 12 * l.length) 0)) := by rw [hb]; rfl
  have e4 : b.drop 4 = numB x 4 4 ++ (prsB l ++ List.replicate (n - 8 - 12 * l.length) 0) := by
    rw [show (4 : Nat) = 2 + 2 from rfl, ← List.drop_drop, e2]; exact List.drop_left' (numB_len _ _ _)
  have e8 : b.drop 8 = prsB l ++ List.replicate (n - 8 - 12 * l.length) 0 := by
    rw [show (8 : Nat) = 4 + 4 from rfl, ← List.drop_drop, e4]; exact List.drop_left' (numB_len _ _ _)
  rw [e2, e4, List.take_left' (numB_len _ _ _), List.take_left' (numB_len _ _ _)]
  exact ⟨be2 (by omega) (by omega), be4 h.x0 (by have := h.x1; omega), _, e8⟩

/-- What the document's Get tells. -/
def VGetR (b : List Int) (w w' : World) (r : Ending) : Prop :=
  (∃ (va : Option Addr) (vc : Nat) (ps : List Pr) (x : Int), r = .returned (.tuple #[.slice va ps.length vc, .int .u32 x, .int .i64 0]) ∧ FLaid b ps x ∧ POwn 75 w.heap.size w' (.slice va ps.length vc) ps ∧ w.grownBy w' none) ∨
  (r = .returned (.tuple #[.slice none 0 0, .int .u32 0, .int .i64 11]) ∧ (∀ ps x, ¬ FLaid b ps x) ∧ w.grownBy w' none)

set_option maxRecDepth 30000 in
set_option maxHeartbeats 8000000 in
theorem vget_any (w : World) (bs : List Int) (hb : Byt bs) (hl : bs.length ≤ 140737488355328) :
    Calls Try.prog 27 #[.string (strOfNums bs)] w fun r w' => VGetR bs w w' r := by
  obtain ⟨i0, hi, hz0, hz1, hz2⟩ := info_parts infoP10
  have hsz := strOfNums_size bs
  obtain ⟨N, hN⟩ : ∃ N, N = bs.length := ⟨_, rfl⟩
  rw [← hN] at hsz
  by_cases h1 : 512 ≤ N
  · have hd0 : decide ((N : Int) < 512) = false := by simp; omega
    have hd0' : decide (N < 512) = false := by simp; omega
    have h1i : 512 ≤ (N : Int) := by omega
    by_cases h2 : N ≤ 4096
    · have hd1 : decide ((4096 : Int) < (N : Int)) = false := by simp; omega
      have hd1' : decide (4096 < N) = false := by simp; omega
      have h2i : (N : Int) ≤ 4096 := by omega
      have KC := Lib.hid (fun w' => vnum_any w' bs hb hl 2 2 2 2 rfl rfl (by decide) (by decide) (by omega))
      have KY := Lib.hid (fun w' => vnum_any w' bs hb hl 4 4 4 4 rfl rfl (by decide) (by decide) (by omega))
      have hc2 : Byt ((bs.drop 2).take 2) := (hb.drop 2).take 2
      have hc4 : Byt ((bs.drop 4).take 4) := (hb.drop 4).take 4
      have v2 := beVal_bound _ hc2
      have u2 := beVal_lt _ hc2 2 (by rw [List.length_take]; omega)
      have v4 := beVal_bound _ hc4
      have u4 := beVal_lt _ hc4 4 (by rw [List.length_take]; omega)
      obtain ⟨C, hC⟩ : ∃ C : Nat, (C : Int) = beVal ((bs.drop 2).take 2) := ⟨(beVal ((bs.drop 2).take 2)).toNat, by omega⟩
      obtain ⟨y, hy⟩ : ∃ y : Nat, (y : Int) = beVal ((bs.drop 4).take 4) := ⟨(beVal ((bs.drop 4).take 4)).toNat, by omega⟩
      rw [← hC] at KC v2 u2
      rw [← hy] at KY v4 u4
      have hC9 : C ≤ 65535 := by omega
      have hy9 : y ≤ 4294967295 := by omega
      have hyw : IntKind.u32.wrap (y : Int) = (y : Int) := by rw [show IntKind.u32.wrap (y : Int) = (y : Int) % 4294967296 from rfl]; omega
      have hrb := room_bd h1i h2i
      obtain ⟨M, hM⟩ : ∃ M, M = roomI (N : Int) := ⟨_, rfl⟩
      rw [← hM] at hrb
      have HM := Lib.hid hM
      obtain ⟨B, hB⟩ : ∃ B, B = strOfNums bs := ⟨_, rfl⟩
      rw [← hB] at hsz KC KY
      by_cases hCM : (C : Int) ≤ M
      · have hCM' : ¬ M < (C : Int) := by omega
        have hfit := room_fits (show (C : Int) ≤ roomI (N : Int) by rw [← hM]; exact hCM)
        have hC3 : C ≤ 340 := by omega
        obtain ⟨ps, hpl, hok, hpz⟩ := prs_of C (hb.drop 8) (by rw [List.length_drop]; omega)
        have HAT := Lib.hid (fun (k : Nat) (p : Pr) (hp : ps[k]? = some p) => (show (∀ (w' : World) (pi ki : Int), pi = 8 + 12 * (k : Int) → ki = 8 → Calls Try.prog 51 #[.string B, .int .i64 pi, .int .i64 ki] w' fun r w'' => r = .returned (.int .u64 (p.1 : Int)) ∧ w'.grownBy w'' none) ∧
          (∀ (w' : World) (pi ki : Int), pi = 16 + 12 * (k : Int) → ki = 4 → Calls Try.prog 51 #[.string B, .int .i64 pi, .int .i64 ki] w' fun r w'' => r = .returned (.int .u64 (p.2 : Int)) ∧ w'.grownBy w'' none) by
          have hk := (List.getElem?_eq_some_iff.1 hp).1
          obtain ⟨e1, e2⟩ := prs_at hpz hp (hok p (List.mem_of_getElem? hp))
          rw [hB, ← e1, ← e2]
          exact ⟨fun w' pi ki h3 h4 => vnum_any w' bs hb hl (8 + 12 * k) 8 pi ki (by omega) (by omega) (by decide) (by decide) (by omega), fun w' pi ki h3 h4 => vnum_any w' bs hb hl (16 + 12 * k) 4 pi ki (by omega) (by omega) (by decide) (by decide) (by omega)⟩))
        have HU := Lib.hid (fun (qs : List Pr) (x : Int) (h : FLaid bs qs x) => (show qs = ps ∧ x = (y : Int) from by
          obtain ⟨a1, a2, z', a3⟩ := flaid_parts h
          have e : qs.length = C := by omega
          rw [hpz] at a3
          obtain ⟨g4, _⟩ := List.append_inj a3 (by rw [prsB_len, prsB_len, e, hpl])
          exact ⟨(prsB_inj (by rw [e, hpl]) hok h.ok g4).symm, by rw [← a2, hy]⟩))
        have HPL := Lib.hid hpl
        have HOKS := Lib.hid hok
        obtain ⟨P, hP⟩ : ∃ P, P = strOfNums (frB ps (y : Int) N) := ⟨_, rfl⟩
        have HP := Lib.hid hP
        by_cases hri : Rise ps
        · have HRI := Lib.hid hri
          by_cases he : frB ps (y : Int) N = bs
          · have HD := Lib.hid (show FLaid bs ps (y : Int) from ⟨by rw [← hN]; exact he.symm, ⟨by rw [← hN]; exact h1i, by rw [← hN]; exact h2i, by rw [hpl, ← hN, ← hM]; exact hCM, hri⟩, hok, by omega, by omega⟩)
            obtain rfl : P = B := by rw [hP, hB, he]
            rw [← hB]
            clear hb hl hN hC hy hB hP he hc2 hc4 v2 u2 v4 u4 hok hpl hpz hM hfit hri HU
            go_enter Try.func27, Try.ntmps27
            go_wp2_with (first
              | (go_at_call 51; ((with_reducible refine (KC.out _).mono ?_); rintro r w2 ⟨rfl, hg⟩); have G2 := Lib.hid hg; clear hg)
              | (go_at_call 34; refine (vroom_in _ _ h1i h2i).mono ?_; rw [← HM.out]; rintro r wq ⟨rfl, rfl⟩))
            go_loopw [6, 7] (fun v i wr => ∃ (k : Nat) (va : Option Addr) (vc : Nat), k ≤ C ∧ i = .int .i64 (k : Int) ∧ v = .slice va k vc ∧ Hid (POwn 75 w.heap.size wr (.slice va k vc) (ps.take k) ∧ w.grownBy wr none)) (fun _ i _ => C - (intOf i).toNat)
            case atStart => exact ⟨0, none, 0, Nat.zero_le _, rfl, rfl, Lib.hid ⟨POwn.nil _ _ _, G2.out⟩⟩
            case round =>
              obtain ⟨k, va, vc, hk, rfl, rfl, HI⟩ := hrel
              by_cases hlt : k < C
              · have hki : (k : Int) < (C : Int) := by omega
                have hkl : k < ps.length := by rw [HPL.out]; exact hlt
                obtain ⟨p, hp⟩ : ∃ p, ps[k]? = some p := ⟨ps[k], List.getElem?_eq_getElem hkl⟩
                obtain ⟨KA, KB⟩ := HAT.out k p hp
                have HKA := Lib.hid KA
                have HKB := Lib.hid KB
                have HOK := Lib.hid (HOKS.out p (List.mem_of_getElem? hp))
                have HT := Lib.hid (take_snoc hp)
                have HTL := Lib.hid (show (ps.take k).length = k by rw [List.length_take]; omega)
                obtain ⟨a1, a2⟩ := p
                simp only at HKA HKB
                have hw32 : IntKind.u32.wrap (a2 : Int) = (a2 : Int) := by have := HOK.out.2; simp only at this; rw [show IntKind.u32.wrap (a2 : Int) = (a2 : Int) % 4294967296 from rfl]; omega
                clear KA KB hp
                go_wp2_with (first
                  | (go_at_call 51; ((with_reducible refine (HKA.out _ _ _ rfl rfl).mono ?_); rintro r w3 ⟨rfl, hg⟩); have G3 := Lib.hid (gtrans HI.out.2 hg); have HO3 := Lib.hid (HI.out.1.grown hg); clear hg)
                  | (go_at_call 51; ((with_reducible refine (HKB.out _ _ _ rfl rfl).mono ?_); rintro r w4 ⟨rfl, hg⟩); have G4 := Lib.hid (gtrans G3.out hg); have HO4 := Lib.hid (HO3.out.grown hg); clear hg)
                  | (at_builtin; refine wpList_append_own _ rfl _ _ 23 rfl w.heap.size 75 i0 (.agg #[.int .u64 0, .int .u32 0]) 2 16 Try.underlying23 hi hz0 hz1 hz2 rfl (by decide) (.slice va k vc) k ((ps.take k).flatMap prc) rfl (by have h := (HO4.out.grown (World.grownBy_alloc w4 (.cells #[.int .u64 (a1 : Int), .int .u32 (a2 : Int)] 75) none)).1; rw [HTL.out] at h; exact h) ⟨w4.heap.size, 0, none⟩ 1 1 (prc (a1, a2)) rfl rfl (lit_pair w4 (a1, a2) 75) (one_pair (a1, a2)) (by unfold maxLen; omega) (by omega) (by have := G4.out.size; simp; omega) ?_; intro v' w5 hown hgrow _; obtain ⟨g', cap', rfl⟩ := ownsRow_succ hown; have HW5 := Lib.hid hown; have HG5 := Lib.hid hgrow; clear hown hgrow))
                have hga := World.grownBy_alloc w4 (.cells #[.int .u64 (a1 : Int), .int .u32 (a2 : Int)] 75) none
                have HPU := Lib.hid ((HO4.out.grown hga).push HOK.out HTL.out.symm HW5.out)
                have HGF := Lib.hid (grow_own (gtrans G4.out hga) (HO4.out.grown hga).1 HG5.out (Nat.le_refl _))
                clear hga
                go_roundw
                case rel => exact ⟨k + 1, _, _, by omega, by go_num, rfl, Lib.hid ⟨by rw [HT.out]; exact HPU.out, HGF.out⟩⟩
                case measure => simp [intOf]; omega
              · have hki : ¬ (k : Int) < (C : Int) := by omega
                have hkC : k = C := by omega
                subst hkC
                have HOF := Lib.hid (show POwn 75 w.heap.size wr (.slice va k vc) ps by have h := HI.out.1; rw [show ps.take k = ps by rw [← HPL.out, List.take_length]] at h; exact h)
                go_wp2_with (first
                  | (go_at_call 51; ((with_reducible refine (KY.out _).mono ?_); rintro r w6 ⟨rfl, hg⟩); have G6 := Lib.hid (gtrans HI.out.2 hg); have HP6 := Lib.hid (HOF.out.sq.grown hg); have HO6 := Lib.hid (HOF.out.grown hg); clear hg)
                  | (go_at_call 25; have Kc := vput_yes w6 _ va k vc ps y N (N : Int) rfl HP6.out hy9 h1i h2i (by rw [← HM.out]; exact hCM) HRI.out; rw [← HP.out] at Kc; ((with_reducible refine Kc.mono ?_); clear Kc; rintro r w7 ⟨rfl, hg⟩); have G7 := Lib.hid (gtrans G6.out hg); have HO7 := Lib.hid (HO6.out.grown hg); clear hg))
                go_ret3
                exact .inl ⟨va, vc, ps, y, by rw [HPL.out]; rfl, HD.out, by rw [HPL.out]; exact HO7.out, G7.out⟩
          · have HNO := Lib.hid (show ∀ q x, ¬ FLaid bs q x from fun q x h => by
              obtain ⟨e1, e2⟩ := HU.out q x h
              have k1 := h.page
              rw [← hN, e1, e2] at k1
              exact he k1.symm)
            have hne := eq_str (frB_byt ps (y : Int) N) hb
            rw [decide_eq_false (fun h => he (cmpL_eq _ _ h)), ← hP, ← hB] at hne
            have hne2 : ¬ P.toList = B.toList := fun e => by rw [e] at hne; simp at hne
            rw [← hB]
            clear hb hl hN hC hy hB hP he hc2 hc4 v2 u2 v4 u4 hok hpl hpz hM hfit hri HU
            go_enter Try.func27, Try.ntmps27
            go_wp2_with (first
              | (go_at_call 51; ((with_reducible refine (KC.out _).mono ?_); rintro r w2 ⟨rfl, hg⟩); have G2 := Lib.hid hg; clear hg)
              | (go_at_call 34; refine (vroom_in _ _ h1i h2i).mono ?_; rw [← HM.out]; rintro r wq ⟨rfl, rfl⟩))
            go_loopw [6, 7] (fun v i wr => ∃ (k : Nat) (va : Option Addr) (vc : Nat), k ≤ C ∧ i = .int .i64 (k : Int) ∧ v = .slice va k vc ∧ Hid (POwn 75 w.heap.size wr (.slice va k vc) (ps.take k) ∧ w.grownBy wr none)) (fun _ i _ => C - (intOf i).toNat)
            case atStart => exact ⟨0, none, 0, Nat.zero_le _, rfl, rfl, Lib.hid ⟨POwn.nil _ _ _, G2.out⟩⟩
            case round =>
              obtain ⟨k, va, vc, hk, rfl, rfl, HI⟩ := hrel
              by_cases hlt : k < C
              · have hki : (k : Int) < (C : Int) := by omega
                have hkl : k < ps.length := by rw [HPL.out]; exact hlt
                obtain ⟨p, hp⟩ : ∃ p, ps[k]? = some p := ⟨ps[k], List.getElem?_eq_getElem hkl⟩
                obtain ⟨KA, KB⟩ := HAT.out k p hp
                have HKA := Lib.hid KA
                have HKB := Lib.hid KB
                have HOK := Lib.hid (HOKS.out p (List.mem_of_getElem? hp))
                have HT := Lib.hid (take_snoc hp)
                have HTL := Lib.hid (show (ps.take k).length = k by rw [List.length_take]; omega)
                obtain ⟨a1, a2⟩ := p
                simp only at HKA HKB
                have hw32 : IntKind.u32.wrap (a2 : Int) = (a2 : Int) := by have := HOK.out.2; simp only at this; rw [show IntKind.u32.wrap (a2 : Int) = (a2 : Int) % 4294967296 from rfl]; omega
                clear KA KB hp
                go_wp2_with (first
                  | (go_at_call 51; ((with_reducible refine (HKA.out _ _ _ rfl rfl).mono ?_); rintro r w3 ⟨rfl, hg⟩); have G3 := Lib.hid (gtrans HI.out.2 hg); have HO3 := Lib.hid (HI.out.1.grown hg); clear hg)
                  | (go_at_call 51; ((with_reducible refine (HKB.out _ _ _ rfl rfl).mono ?_); rintro r w4 ⟨rfl, hg⟩); have G4 := Lib.hid (gtrans G3.out hg); have HO4 := Lib.hid (HO3.out.grown hg); clear hg)
                  | (at_builtin; refine wpList_append_own _ rfl _ _ 23 rfl w.heap.size 75 i0 (.agg #[.int .u64 0, .int .u32 0]) 2 16 Try.underlying23 hi hz0 hz1 hz2 rfl (by decide) (.slice va k vc) k ((ps.take k).flatMap prc) rfl (by have h := (HO4.out.grown (World.grownBy_alloc w4 (.cells #[.int .u64 (a1 : Int), .int .u32 (a2 : Int)] 75) none)).1; rw [HTL.out] at h; exact h) ⟨w4.heap.size, 0, none⟩ 1 1 (prc (a1, a2)) rfl rfl (lit_pair w4 (a1, a2) 75) (one_pair (a1, a2)) (by unfold maxLen; omega) (by omega) (by have := G4.out.size; simp; omega) ?_; intro v' w5 hown hgrow _; obtain ⟨g', cap', rfl⟩ := ownsRow_succ hown; have HW5 := Lib.hid hown; have HG5 := Lib.hid hgrow; clear hown hgrow))
                have hga := World.grownBy_alloc w4 (.cells #[.int .u64 (a1 : Int), .int .u32 (a2 : Int)] 75) none
                have HPU := Lib.hid ((HO4.out.grown hga).push HOK.out HTL.out.symm HW5.out)
                have HGF := Lib.hid (grow_own (gtrans G4.out hga) (HO4.out.grown hga).1 HG5.out (Nat.le_refl _))
                clear hga
                go_roundw
                case rel => exact ⟨k + 1, _, _, by omega, by go_num, rfl, Lib.hid ⟨by rw [HT.out]; exact HPU.out, HGF.out⟩⟩
                case measure => simp [intOf]; omega
              · have hki : ¬ (k : Int) < (C : Int) := by omega
                have hkC : k = C := by omega
                subst hkC
                have HOF := Lib.hid (show POwn 75 w.heap.size wr (.slice va k vc) ps by have h := HI.out.1; rw [show ps.take k = ps by rw [← HPL.out, List.take_length]] at h; exact h)
                go_wp2_with (first
                  | (go_at_call 51; ((with_reducible refine (KY.out _).mono ?_); rintro r w6 ⟨rfl, hg⟩); have G6 := Lib.hid (gtrans HI.out.2 hg); have HP6 := Lib.hid (HOF.out.sq.grown hg); have HO6 := Lib.hid (HOF.out.grown hg); clear hg)
                  | (go_at_call 25; have Kc := vput_yes w6 _ va k vc ps y N (N : Int) rfl HP6.out hy9 h1i h2i (by rw [← HM.out]; exact hCM) HRI.out; rw [← HP.out] at Kc; ((with_reducible refine Kc.mono ?_); clear Kc; rintro r w7 ⟨rfl, hg⟩); have G7 := Lib.hid (gtrans G6.out hg); have HO7 := Lib.hid (HO6.out.grown hg); clear hg))
                go_ret3
                exact .inr ⟨rfl, HNO.out, G7.out⟩
        · have HRI := Lib.hid hri
          have HNO := Lib.hid (show ∀ q x, ¬ FLaid bs q x from fun q x h => hri (by rw [← (HU.out q x h).1]; exact h.right.2.2.2))
          rw [← hB]
          clear hb hl hN hC hy hB hP hc2 hc4 v2 u2 v4 u4 hok hpl hpz hM hfit hri HU
          go_enter Try.func27, Try.ntmps27
          go_wp2_with (first
            | (go_at_call 51; ((with_reducible refine (KC.out _).mono ?_); rintro r w2 ⟨rfl, hg⟩); have G2 := Lib.hid hg; clear hg)
            | (go_at_call 34; refine (vroom_in _ _ h1i h2i).mono ?_; rw [← HM.out]; rintro r wq ⟨rfl, rfl⟩))
          go_loopw [6, 7] (fun v i wr => ∃ (k : Nat) (va : Option Addr) (vc : Nat), k ≤ C ∧ i = .int .i64 (k : Int) ∧ v = .slice va k vc ∧ Hid (POwn 75 w.heap.size wr (.slice va k vc) (ps.take k) ∧ w.grownBy wr none)) (fun _ i _ => C - (intOf i).toNat)
          case atStart => exact ⟨0, none, 0, Nat.zero_le _, rfl, rfl, Lib.hid ⟨POwn.nil _ _ _, G2.out⟩⟩
          case round =>
            obtain ⟨k, va, vc, hk, rfl, rfl, HI⟩ := hrel
            by_cases hlt : k < C
            · have hki : (k : Int) < (C : Int) := by omega
              have hkl : k < ps.length := by rw [HPL.out]; exact hlt
              obtain ⟨p, hp⟩ : ∃ p, ps[k]? = some p := ⟨ps[k], List.getElem?_eq_getElem hkl⟩
              obtain ⟨KA, KB⟩ := HAT.out k p hp
              have HKA := Lib.hid KA
              have HKB := Lib.hid KB
              have HOK := Lib.hid (HOKS.out p (List.mem_of_getElem? hp))
              have HT := Lib.hid (take_snoc hp)
              have HTL := Lib.hid (show (ps.take k).length = k by rw [List.length_take]; omega)
              obtain ⟨a1, a2⟩ := p
              simp only at HKA HKB
              have hw32 : IntKind.u32.wrap (a2 : Int) = (a2 : Int) := by have := HOK.out.2; simp only at this; rw [show IntKind.u32.wrap (a2 : Int) = (a2 : Int) % 4294967296 from rfl]; omega
              clear KA KB hp
              go_wp2_with (first
                | (go_at_call 51; ((with_reducible refine (HKA.out _ _ _ rfl rfl).mono ?_); rintro r w3 ⟨rfl, hg⟩); have G3 := Lib.hid (gtrans HI.out.2 hg); have HO3 := Lib.hid (HI.out.1.grown hg); clear hg)
                | (go_at_call 51; ((with_reducible refine (HKB.out _ _ _ rfl rfl).mono ?_); rintro r w4 ⟨rfl, hg⟩); have G4 := Lib.hid (gtrans G3.out hg); have HO4 := Lib.hid (HO3.out.grown hg); clear hg)
                | (at_builtin; refine wpList_append_own _ rfl _ _ 23 rfl w.heap.size 75 i0 (.agg #[.int .u64 0, .int .u32 0]) 2 16 Try.underlying23 hi hz0 hz1 hz2 rfl (by decide) (.slice va k vc) k ((ps.take k).flatMap prc) rfl (by have h := (HO4.out.grown (World.grownBy_alloc w4 (.cells #[.int .u64 (a1 : Int), .int .u32 (a2 : Int)] 75) none)).1; rw [HTL.out] at h; exact h) ⟨w4.heap.size, 0, none⟩ 1 1 (prc (a1, a2)) rfl rfl (lit_pair w4 (a1, a2) 75) (one_pair (a1, a2)) (by unfold maxLen; omega) (by omega) (by have := G4.out.size; simp; omega) ?_; intro v' w5 hown hgrow _; obtain ⟨g', cap', rfl⟩ := ownsRow_succ hown; have HW5 := Lib.hid hown; have HG5 := Lib.hid hgrow; clear hown hgrow))
              have hga := World.grownBy_alloc w4 (.cells #[.int .u64 (a1 : Int), .int .u32 (a2 : Int)] 75) none
              have HPU := Lib.hid ((HO4.out.grown hga).push HOK.out HTL.out.symm HW5.out)
              have HGF := Lib.hid (grow_own (gtrans G4.out hga) (HO4.out.grown hga).1 HG5.out (Nat.le_refl _))
              clear hga
              go_roundw
              case rel => exact ⟨k + 1, _, _, by omega, by go_num, rfl, Lib.hid ⟨by rw [HT.out]; exact HPU.out, HGF.out⟩⟩
              case measure => simp [intOf]; omega
            · have hki : ¬ (k : Int) < (C : Int) := by omega
              have hkC : k = C := by omega
              subst hkC
              have HOF := Lib.hid (show POwn 75 w.heap.size wr (.slice va k vc) ps by have h := HI.out.1; rw [show ps.take k = ps by rw [← HPL.out, List.take_length]] at h; exact h)
              go_wp2_with (first
                | (go_at_call 51; ((with_reducible refine (KY.out _).mono ?_); rintro r w6 ⟨rfl, hg⟩); have G6 := Lib.hid (gtrans HI.out.2 hg); have HP6 := Lib.hid (HOF.out.sq.grown hg); have HO6 := Lib.hid (HOF.out.grown hg); clear hg)
                | (go_at_call 25; have Kc := vput_bad w6 _ va k vc ps y N (N : Int) rfl HP6.out hy9 h1i h2i (by rw [← HM.out]; exact hCM) HRI.out; ((with_reducible refine Kc.mono ?_); clear Kc; rintro r w7 ⟨rfl, hg⟩); have G7 := Lib.hid (gtrans G6.out hg); have HO7 := Lib.hid (HO6.out.grown hg); clear hg))
              go_ret3
              exact .inr ⟨rfl, HNO.out, G7.out⟩
      · have hCM' : M < (C : Int) := by omega
        have HNO := Lib.hid (show ∀ q x, ¬ FLaid bs q x from fun q x h => hCM (by
          obtain ⟨a1, _, _⟩ := flaid_parts h
          have := h.right.2.2.1
          rw [← hN, ← hM] at this
          omega))
        rw [← hB]
        clear hb hl hN hC hy hB hc2 hc4 v2 u2 v4 u4 hM hCM
        go_enter Try.func27, Try.ntmps27
        go_wp2_with (first
          | (go_at_call 51; ((with_reducible refine (KC.out _).mono ?_); rintro r w2 ⟨rfl, hg⟩); have G2 := Lib.hid hg; clear hg)
          | (go_at_call 34; refine (vroom_in _ _ h1i h2i).mono ?_; rw [← HM.out]; rintro r wq ⟨rfl, rfl⟩))
        go_ret3
        exact .inr ⟨rfl, HNO.out, G2.out⟩
    · have hd1 : decide ((4096 : Int) < (N : Int)) = true := by simp; omega
      have hd1' : decide (4096 < N) = true := by simp; omega
      have HNO := Lib.hid (show ∀ q x, ¬ FLaid bs q x from fun q x h => by have := h.right.2.1; omega)
      obtain ⟨B, hB⟩ : ∃ B, B = strOfNums bs := ⟨_, rfl⟩
      rw [← hB] at hsz ⊢
      clear hb hl hN hB
      go_enter Try.func27, Try.ntmps27
      go_wp2
      go_ret3
      exact .inr ⟨rfl, HNO.out, grefl _ _⟩
  · have hd0 : decide ((N : Int) < 512) = true := by simp; omega
    have hd0' : decide (N < 512) = true := by simp; omega
    have HNO := Lib.hid (show ∀ q x, ¬ FLaid bs q x from fun q x h => by have := h.right.1; omega)
    obtain ⟨B, hB⟩ : ∃ B, B = strOfNums bs := ⟨_, rfl⟩
    rw [← hB] at hsz ⊢
    clear hb hl hN hB
    go_enter Try.func27, Try.ntmps27
    go_wp2
    go_ret3
    exact .inr ⟨rfl, HNO.out, grefl _ _⟩

end Go.Proofs.Ytpgpilalhbdidaa
