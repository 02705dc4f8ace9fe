/-
  Layer 10: the contract of freed's Get. Own work.
-/
import Derived.Test.YtpgpilalhbdidaaFrD
import Derived.Test.YtpgpilalhbdidaaOctP
namespace Go.Proofs.Ytpgpilalhbdidaa
open Go.RowKit

theorem RS.row {g base s n : Nat} {t : TypeId} {v : Value} {xs : List Value} {w0 w w' : World} {bs : List Int} {e : Int} (h : RS g w0 w bs e) (hr : w.ownsRow base t s v n xs) (hb : g < base) (k : w.grownBy w' v.ownBlock) : RS g w0 w' bs e :=
  ⟨h.rd.kept (fun i hi => k.block i (by have := h.rd.lt; omega) (fun e => by have := (hr.lt i e.symm).1; omega)), h.byt, h.len, h.g0, h.bel.grown k h.bel.size (fun j e => by have := (hr.lt j e).1; have := h.g0; omega)⟩
theorem POwn.rd {t : TypeId} {base g : Nat} {w w' : World} {v : Value} {ps : List Pr} {bs : List Int} {e : Int} (h : POwn t base w v ps) (k : w.grownBy w' (some g)) (hr : RdAt w g bs e) (ht : 123 ≠ t := by decide) : POwn t base w' v ps := by
  obtain ⟨cs, hcs⟩ := hr.tag
  exact h.far k hcs ht

set_option maxRecDepth 30000 in
set_option maxHeartbeats 4000000 in
theorem readPairs_any (w0 w : World) (g : Nat) (ps : List Pr) (r : List Int) (ni : Int) (n : Nat) (hni : ni = (n : Int)) (hn : ps.length = n) (hn9 : n ≤ 65535) (hok : ∀ p ∈ ps, PrOk p) (h : RS g w0 w (prsB ps ++ r) 0) :
    Calls Try.prog 47 #[.pointer (some ⟨g, 0, none⟩), .int .i64 ni] w fun e w' => ∃ ao c, e = .returned (.slice ao n c) ∧ POwn 65 w.heap.size w' (.slice ao n c) ps ∧ RS g w0 w' r 0 := by
  obtain ⟨i0, hi, hz0, hz1, hz2⟩ := info_parts infoPair
  subst hni
  have HN := Lib.hid hn
  have HOK := Lib.hid hok
  have H := Lib.hid h
  have hgw := h.rd.lt
  clear hn hok h
  go_enter Try.func47, Try.ntmps47
  go_wp2
  go_loopw [5, 9] (fun l i wr => ∃ k : Nat, k ≤ n ∧ i = .int .i64 (k : Int) ∧ POwn 65 w.heap.size wr l (ps.take k) ∧ RS g w0 wr (prsB (ps.drop k) ++ r) 0 ∧ w.heap.size ≤ wr.heap.size) (fun _ i _ => n - (intOf i).toNat)
  case atStart => exact ⟨0, Nat.zero_le _, rfl, POwn.nil _ _ _, by simpa using H.out, Nat.le_refl _⟩
  case round =>
    obtain ⟨k, hk, rfl, ho, hr, hz⟩ := hrel
    have HO := Lib.hid ho
    have HR := Lib.hid hr
    clear ho hr
    by_cases hlt : k < n
    · have hki : (k : Int) < (n : Int) := by omega
      have hkl : k < ps.length := by rw [HN.out]; exact hlt
      obtain ⟨p, hp⟩ : ∃ p, ps[k]? = some p := ⟨ps[k], List.getElem?_eq_getElem hkl⟩
      have HPO := Lib.hid (HOK.out p (List.mem_of_getElem? hp))
      have HT := Lib.hid (take_snoc hp)
      have HTL := Lib.hid (show (ps.take k).length = k by rw [List.length_take]; omega)
      have HD := Lib.hid (show prsB (ps.drop k) ++ r = numB (p.1 : Int) 8 8 ++ (numB (p.2 : Int) 4 4 ++ (prsB (ps.drop (k + 1)) ++ r)) by
        rw [List.drop_eq_getElem_cons hkl, prsB_cons]
        rw [List.getElem?_eq_getElem hkl] at hp
        cases hp
        simp [prB])
      have HB1 := Lib.hid (be8 HPO.out.1)
      have HB2 := Lib.hid (be4n HPO.out.2)
      obtain ⟨a1, a2⟩ := p
      simp only at HD HB1 HB2
      have ho2 : (a2 : Int) ≤ 4294967295 := by have := HPO.out.2; simp only at this; omega
      have hw32 : IntKind.u32.wrap (a2 : Int) = (a2 : Int) := by rw [show IntKind.u32.wrap (a2 : Int) = (a2 : Int) % 4294967296 from rfl]; omega
      rw [HD.out] at HR
      have X1 := Lib.hid (show nx (numB (a1 : Int) 8 8 ++ (numB (a2 : Int) 4 4 ++ (prsB (ps.drop (k + 1)) ++ r))) 0 8 true = (numB (a2 : Int) 4 4 ++ (prsB (ps.drop (k + 1)) ++ r), 0, numB (a1 : Int) 8 8) from nx_app (by rw [numB_len]; rfl))
      have X2 := Lib.hid (show nx (numB (a2 : Int) 4 4 ++ (prsB (ps.drop (k + 1)) ++ r)) 0 4 true = (prsB (ps.drop (k + 1)) ++ r, 0, numB (a2 : Int) 4 4) from nx_app (by rw [numB_len]; rfl))
      obtain ⟨la, lc, rfl⟩ := HO.out.shape
      rw [HTL.out] at HO ⊢
      clear hp
      go_wp2_with (first
        | (go_at_call 60; have Kc := HR.out.num 8 (by decide) (by decide) X1.out; rw [HB1.out] at Kc; ((with_reducible refine Kc.mono ?_); clear Kc; rintro e w2 ⟨rfl, hs, hg⟩); have HR2 := Lib.hid hs; have HO2 := Lib.hid (HO.out.rd hg HR.out.rd); have hz2' := Nat.le_trans hz hg.size; clear hs hg)
        | (go_at_call 60; have Kc := HR2.out.num 4 (by decide) (by decide) X2.out; rw [HB2.out] at Kc; ((with_reducible refine Kc.mono ?_); clear Kc; rintro e w3 ⟨rfl, hs, hg⟩); have HR3 := Lib.hid hs; have HO3 := Lib.hid (HO2.out.rd hg HR2.out.rd); have hz3' := Nat.le_trans hz2' hg.size; clear hs hg)
        | (at_builtin; refine wpList_append_own _ rfl _ _ 31 rfl w.heap.size 65 i0 (.agg #[.int .u64 0, .int .u32 0]) 2 16 Try.underlying31 hi hz0 hz1 hz2 rfl (by decide) (.slice la k lc) k ((ps.take k).flatMap prc) rfl (by have h := (HO3.out.grown (World.grownBy_alloc w3 (.cells #[.int .u64 (a1 : Int), .int .u32 (a2 : Int)] 65) none)).1; rw [HTL.out] at h; exact h) ⟨w3.heap.size, 0, none⟩ 1 1 (prc (a1, a2)) rfl rfl (lit_pair w3 (a1, a2) 65) (one_pair (a1, a2)) (by unfold maxLen; omega) (by omega) (by simp; omega) ?_; intro v' w4 hown hgrow _; have HW4 := Lib.hid hown; have HG4 := Lib.hid hgrow; clear hown hgrow))
      have HA := HO3.out.grown (World.grownBy_alloc w3 (.cells #[.int .u64 (a1 : Int), .int .u32 (a2 : Int)] 65) none)
      have h1 := HA.push HPO.out HTL.out.symm HW4.out
      have h2 := (HR3.out.far (World.grownBy_alloc w3 (.cells #[.int .u64 (a1 : Int), .int .u32 (a2 : Int)] 65) none)).row HA.1 hgw HG4.out
      have HF1 := Lib.hid h1
      have HF2 := Lib.hid h2
      have hz4 : w.heap.size ≤ w4.heap.size := by have := HG4.out.size; simp at this; omega
      clear HA h1 h2
      go_roundw
      case rel => exact ⟨k + 1, by omega, by go_num, by rw [HT.out]; exact HF1.out, HF2.out, hz4⟩
      case measure => simp [intOf]; omega
    · have hki : ¬ (k : Int) < (n : Int) := by omega
      have e : k = ps.length := by rw [HN.out]; omega
      have HO2 := Lib.hid (show POwn 65 w.heap.size wr u5 ps by have h := HO.out; rw [e, List.take_length] at h; exact h)
      have HR2 := Lib.hid (show RS g w0 wr r 0 by have h := HR.out; rw [e, List.drop_length] at h; exact h)
      clear e
      obtain ⟨la, lc, rfl⟩ := HO2.out.shape
      rw [HN.out] at HO2
      rw [HN.out]
      go_wp2
      go_ret
      exact ⟨_, _, rfl, HO2.out, HR2.out⟩

/-- What Get tells. -/
def FGetR (b : List Int) (w w' : World) (r : Ending) : Prop :=
  (∃ (pv : Value) (ps : List Pr) (x : Int), r = .returned (.tuple #[pv, .int .u32 x, .int .i64 0]) ∧ FLaid b ps x ∧ POwn 65 w.heap.size w' pv ps ∧ w.grownBy w' none) ∨
  (r = .returned (.tuple #[.slice none 0 0, .int .u32 0, .int .i64 11]) ∧ (∀ ps x, ¬ FLaid b ps x) ∧ w.grownBy w' none)

set_option maxRecDepth 30000 in
set_option maxHeartbeats 4000000 in
theorem zget_any (w : World) (B : Nat) (ao : Option Addr) (n c0 : Nat) (b : List Int) (h : Seq B w (.slice ao n c0) b) (hB : B ≤ w.heap.size) (hb : Byt b) (hl : b.length ≤ 140737488355328) :
    Calls Try.prog 26 #[.slice ao n c0] w fun r w' => FGetR b w w' r := by
  have hnl : n = b.length := by obtain ⟨_, _, hv, _⟩ := h; injection hv
  have hn9 : n ≤ 140737488355328 := by omega
  have H := Lib.hid h
  have HB := Lib.hid hb
  have HL := Lib.hid hl
  by_cases hq : ∃ (C : Nat) (y : Int) (r : List Int), C ≤ 65535 ∧ 0 ≤ y ∧ y ≤ 4294967295 ∧ b = hdK 4 C y ++ r
  · obtain ⟨C, y, r, hCl, hy0, hy1, he⟩ := hq
    have hbl : b.length = 8 + r.length := by rw [he, List.length_append, hdK_len]
    have HE := Lib.hid he
    by_cases hsz : 512 ≤ (n : Int) ∧ (n : Int) ≤ 4096
    · obtain ⟨hs1, hs2⟩ := hsz
      have hrb := room_bd hs1 hs2
      obtain ⟨M, hM⟩ : ∃ M, M = roomI (n : Int) := ⟨_, rfl⟩
      rw [← hM] at hrb
      have HM := Lib.hid hM
      by_cases hCM : (C : Int) ≤ M
      · have hCM' : ¬ M < (C : Int) := by omega
        have hfit := room_fits (show (C : Int) ≤ roomI (n : Int) by rw [← hM]; exact hCM)
        have hrb' : Byt r := fun v hv => hb v (by rw [he]; exact List.mem_append_right _ hv)
        obtain ⟨ps, hpl, hok, hrz⟩ := prs_of C hrb' (by omega)
        have hzl : (r.drop (12 * C)).length = b.length - 8 - 12 * C := by rw [List.length_drop]; omega
        obtain ⟨z, hz⟩ : ∃ z, z = r.drop (12 * C) := ⟨_, rfl⟩
        rw [← hz] at hrz hzl
        have HU := Lib.hid (fun (qs : List Pr) (x : Int) (hL : FLaid b qs x) => (show qs = ps ∧ allZ z = true by
          obtain ⟨g1, _, g3⟩ := flaid_at hCl hy0 hy1 he hL
          rw [hrz] at g3
          obtain ⟨g4, g5⟩ := List.append_inj g3 (by rw [prsB_len, prsB_len, g1, hpl])
          exact ⟨(prsB_inj (by rw [g1, hpl]) hok hL.ok g4).symm, by rw [g5]; exact rep_allZ _⟩))
        have HOKL := Lib.hid (fun (hri : Rise ps) (haz : allZ z = true) => (show FLaid b ps y from
          ⟨by
            have hz2 := allZ_rep _ haz
            rw [hzl] at hz2
            rw [frB, hpl, ← hz2, ← hrz]; exact he, ⟨by rw [← hnl]; exact hs1, by rw [← hnl]; exact hs2, by rw [hpl, ← hnl, ← hM]; exact hCM, hri⟩, hok, hy0, hy1⟩))
        have HRZ := Lib.hid hrz
        have HPL := Lib.hid hpl
        have HOK := Lib.hid hok
        have hZ9 : z.length ≤ 140737488355328 := by omega
        obtain ⟨Z, hZ⟩ : ∃ Z, Z = z.length := ⟨_, rfl⟩
        rw [← hZ] at hZ9
        have X6 := Lib.hid (show nx z 0 (Z : Int) true = ([], 0, z) by rw [hZ, nx_at (Nat.le_refl _)]; simp)
        have HZ := Lib.hid hZ
        have hZ4 : decide ((0 : Int) ≤ (Z : Int)) = true := by simp
        clear hnl h hb hl he hbl hM hfit hrb' hpl hok hrz hzl hz hZ
        by_cases hri : Rise ps
        · have HRI := Lib.hid (riseB_iff.2 hri)
          have HLL := Lib.hid (HOKL.out hri)
          clear hri HOKL
          by_cases haz : allZ z = true
          · have HAZ := Lib.hid haz
            have HD := Lib.hid (HLL.out haz)
            clear haz HLL HU
            go_enter Try.func26, Try.ntmps26
            go_wp2_with (first
              | (go_at_call 46; have Kc := rlinked_yes (kind := 4) (C := C) (x := y) (r := r) H.out hB HB.out HL.out (by decide) (by decide) hCl hy0 hy1 HE.out; ((with_reducible refine Kc.mono ?_); clear Kc; rintro e w4 ⟨g, rfl, hs⟩); have HR4 := Lib.hid hs; clear hs)
              | (go_at_call 31; refine (lsize_yes _ _ hs1 hs2).mono ?_; rintro e wq ⟨rfl, rfl⟩)
              | (go_at_call 33; refine (zroom_in _ _ hs1 hs2).mono ?_; rintro e wq ⟨rfl, rfl⟩; rw [← HM.out])
              | (go_at_call 47; have Kc := readPairs_any w w4 g ps z (C : Int) C rfl HPL.out hCl HOK.out (by have h := HR4.out; rw [HRZ.out] at h; exact h); ((with_reducible refine Kc.mono ?_); clear Kc; rintro e w5 ⟨al, cl, rfl, ho, hs⟩); have HR5 := Lib.hid hs; have HO5 := Lib.hid (ho.mono (show w.heap.size ≤ w4.heap.size from HR4.out.bel.size)); clear hs ho)
              | (go_at_call 40; have Kc := rise_any w5 _ al C cl ps (by have h := HO5.out.sq; exact h); rw [HRI.out] at Kc; ((with_reducible refine Kc.mono ?_); clear Kc; rintro e w6 ⟨rfl, hg⟩); have HR6 := Lib.hid (HR5.out.far hg); have HO6 := Lib.hid (HO5.out.grown hg); clear hg)
              | (go_at_call 50; have Kc := left_any w6 g z 0 HR6.out.rd; rw [← HZ.out] at Kc; ((with_reducible refine Kc.mono ?_); clear Kc; rintro e wq ⟨rfl, rfl⟩))
              | (go_at_call 49; have Kc := HR6.out.raw _ _ hZ4 X6.out; rw [← HZ.out] at Kc; ((with_reducible refine Kc.mono ?_); clear Kc; rintro e w7 ⟨ag, cg, rfl, ho, hs, hg⟩); have HR7 := Lib.hid hs; have HS7 := Lib.hid (Seq.owned (show w7.ownsRow w6.heap.size 5 1 (.slice ag z.length cg) z.length (z.map (Value.int .u8)) by rw [← HZ.out]; exact ho)); have HO7 := Lib.hid (HO6.out.rd hg HR6.out.rd); clear hs hg ho)
              | (go_at_call 48; have Kc := noughts_any w7 w7.heap.size ag Z cg z (by have h := HS7.out; rw [← HZ.out] at h; exact h); rw [HAZ.out] at Kc; ((with_reducible refine Kc.mono ?_); clear Kc; rintro e wq ⟨rfl, rfl⟩)))
            go_ret3
            exact .inl ⟨_, ps, y, rfl, HD.out, HO7.out, HR7.out.gr⟩
          · have hzf : allZ z = false := by simpa using haz
            have HAZ := Lib.hid hzf
            have HD := Lib.hid (show ∀ qs x, ¬ FLaid b qs x from fun qs x hL => haz (HU.out qs x hL).2)
            clear haz HLL HU hzf
            go_enter Try.func26, Try.ntmps26
            go_wp2_with (first
              | (go_at_call 46; have Kc := rlinked_yes (kind := 4) (C := C) (x := y) (r := r) H.out hB HB.out HL.out (by decide) (by decide) hCl hy0 hy1 HE.out; ((with_reducible refine Kc.mono ?_); clear Kc; rintro e w4 ⟨g, rfl, hs⟩); have HR4 := Lib.hid hs; clear hs)
              | (go_at_call 31; refine (lsize_yes _ _ hs1 hs2).mono ?_; rintro e wq ⟨rfl, rfl⟩)
              | (go_at_call 33; refine (zroom_in _ _ hs1 hs2).mono ?_; rintro e wq ⟨rfl, rfl⟩; rw [← HM.out])
              | (go_at_call 47; have Kc := readPairs_any w w4 g ps z (C : Int) C rfl HPL.out hCl HOK.out (by have h := HR4.out; rw [HRZ.out] at h; exact h); ((with_reducible refine Kc.mono ?_); clear Kc; rintro e w5 ⟨al, cl, rfl, ho, hs⟩); have HR5 := Lib.hid hs; have HO5 := Lib.hid (ho.mono (show w.heap.size ≤ w4.heap.size from HR4.out.bel.size)); clear hs ho)
              | (go_at_call 40; have Kc := rise_any w5 _ al C cl ps (by have h := HO5.out.sq; exact h); rw [HRI.out] at Kc; ((with_reducible refine Kc.mono ?_); clear Kc; rintro e w6 ⟨rfl, hg⟩); have HR6 := Lib.hid (HR5.out.far hg); have HO6 := Lib.hid (HO5.out.grown hg); clear hg)
              | (go_at_call 50; have Kc := left_any w6 g z 0 HR6.out.rd; rw [← HZ.out] at Kc; ((with_reducible refine Kc.mono ?_); clear Kc; rintro e wq ⟨rfl, rfl⟩))
              | (go_at_call 49; have Kc := HR6.out.raw _ _ hZ4 X6.out; rw [← HZ.out] at Kc; ((with_reducible refine Kc.mono ?_); clear Kc; rintro e w7 ⟨ag, cg, rfl, ho, hs, hg⟩); have HR7 := Lib.hid hs; have HS7 := Lib.hid (Seq.owned (show w7.ownsRow w6.heap.size 5 1 (.slice ag z.length cg) z.length (z.map (Value.int .u8)) by rw [← HZ.out]; exact ho)); have HO7 := Lib.hid (HO6.out.rd hg HR6.out.rd); clear hs hg ho)
              | (go_at_call 48; have Kc := noughts_any w7 w7.heap.size ag Z cg z (by have h := HS7.out; rw [← HZ.out] at h; exact h); rw [HAZ.out] at Kc; ((with_reducible refine Kc.mono ?_); clear Kc; rintro e wq ⟨rfl, rfl⟩)))
            go_ret3
            exact .inr ⟨rfl, HD.out, HR7.out.gr⟩
        · have HRI := Lib.hid (riseB_no.2 hri)
          have HD := Lib.hid (show ∀ qs x, ¬ FLaid b qs x from fun qs x hL => hri (by rw [← (HU.out qs x hL).1]; exact hL.right.2.2.2))
          clear hri HOKL HU
          go_enter Try.func26, Try.ntmps26
          go_wp2_with (first
            | (go_at_call 46; have Kc := rlinked_yes (kind := 4) (C := C) (x := y) (r := r) H.out hB HB.out HL.out (by decide) (by decide) hCl hy0 hy1 HE.out; ((with_reducible refine Kc.mono ?_); clear Kc; rintro e w4 ⟨g, rfl, hs⟩); have HR4 := Lib.hid hs; clear hs)
            | (go_at_call 31; refine (lsize_yes _ _ hs1 hs2).mono ?_; rintro e wq ⟨rfl, rfl⟩)
            | (go_at_call 33; refine (zroom_in _ _ hs1 hs2).mono ?_; rintro e wq ⟨rfl, rfl⟩; rw [← HM.out])
            | (go_at_call 47; have Kc := readPairs_any w w4 g ps z (C : Int) C rfl HPL.out hCl HOK.out (by have h := HR4.out; rw [HRZ.out] at h; exact h); ((with_reducible refine Kc.mono ?_); clear Kc; rintro e w5 ⟨al, cl, rfl, ho, hs⟩); have HR5 := Lib.hid hs; have HO5 := Lib.hid (ho.mono (show w.heap.size ≤ w4.heap.size from HR4.out.bel.size)); clear hs ho)
            | (go_at_call 40; have Kc := rise_any w5 _ al C cl ps (by have h := HO5.out.sq; exact h); rw [HRI.out] at Kc; ((with_reducible refine Kc.mono ?_); clear Kc; rintro e w6 ⟨rfl, hg⟩); have HR6 := Lib.hid (HR5.out.far hg); have HO6 := Lib.hid (HO5.out.grown hg); clear hg))
          go_ret3
          exact .inr ⟨rfl, HD.out, HR6.out.gr⟩
      · have hCM' : M < (C : Int) := by omega
        have HD := Lib.hid (show ∀ qs x, ¬ FLaid b qs x from fun qs x hL => hCM (by
          obtain ⟨g1, _, _⟩ := flaid_at hCl hy0 hy1 he hL
          have := hL.right.2.2.1
          rw [g1, ← hnl, ← hM] at this
          exact this))
        clear hnl h hb hl he hbl hM hCM
        go_enter Try.func26, Try.ntmps26
        go_wp2_with (first
          | (go_at_call 46; have Kc := rlinked_yes (kind := 4) (C := C) (x := y) (r := r) H.out hB HB.out HL.out (by decide) (by decide) hCl hy0 hy1 HE.out; ((with_reducible refine Kc.mono ?_); clear Kc; rintro e w4 ⟨g, rfl, hs⟩); have HR4 := Lib.hid hs; clear hs)
          | (go_at_call 31; refine (lsize_yes _ _ hs1 hs2).mono ?_; rintro e wq ⟨rfl, rfl⟩)
          | (go_at_call 33; refine (zroom_in _ _ hs1 hs2).mono ?_; rintro e wq ⟨rfl, rfl⟩; rw [← HM.out]))
        go_ret3
        exact .inr ⟨rfl, HD.out, HR4.out.gr⟩
    · have HD := Lib.hid (show ∀ qs x, ¬ FLaid b qs x from fun qs x hL => hsz (by rw [hnl]; exact ⟨hL.right.1, hL.right.2.1⟩))
      clear hnl h hb hl he hbl
      go_enter Try.func26, Try.ntmps26
      go_wp2_with (first
        | (go_at_call 46; have Kc := rlinked_yes (kind := 4) (C := C) (x := y) (r := r) H.out hB HB.out HL.out (by decide) (by decide) hCl hy0 hy1 HE.out; ((with_reducible refine Kc.mono ?_); clear Kc; rintro e w4 ⟨g, rfl, hs⟩); have HR4 := Lib.hid hs; clear hs)
        | (go_at_call 31; refine (lsize_no _ _ hsz).mono ?_; rintro e wq ⟨rfl, rfl⟩))
      go_ret3
      exact .inr ⟨rfl, HD.out, HR4.out.gr⟩
  · have HD := Lib.hid (show ∀ qs x, ¬ FLaid b qs x from fun qs x hL => hq ⟨qs.length, x, _, (flaid_few hL).1, hL.x0, hL.x1, hL.page⟩)
    have HH := Lib.hid (show ∀ (C : Nat) (x : Int) (r : List Int), C ≤ 65535 → 0 ≤ x → x ≤ 4294967295 → b ≠ hdK 4 C x ++ r from fun C x r h1 h2 h3 h4 => hq ⟨C, x, r, h1, h2, h3, h4⟩)
    clear hnl h hb hl hq
    go_enter Try.func26, Try.ntmps26
    go_wp2_with (go_at_call 46; have Kc := rlinked_no (kind := 4) H.out hB HB.out HL.out (by decide) (by decide) HH.out; ((with_reducible refine Kc.mono ?_); clear Kc; rintro e w4 ⟨rfl, hs⟩); have HR4 := Lib.hid hs; clear hs)
    go_ret3
    exact .inr ⟨rfl, HD.out, HR4.out⟩

/-- A page is got as it was put. -/
theorem zget_back {w : World} {B : Nat} {ao : Option Addr} {n c0 : Nat} {b : List Int} {ps : List Pr} {x : Int} (h : Seq B w (.slice ao n c0) b) (hB : B ≤ w.heap.size) (hb : Byt b) (hL : FLaid b ps x) :
    Calls Try.prog 26 #[.slice ao n c0] w fun r w' => ∃ ao c, r = .returned (.tuple #[.slice ao ps.length c, .int .u32 x, .int .i64 0]) ∧ POwn 65 w.heap.size w' (.slice ao ps.length c) ps ∧ w.grownBy w' none := by
  refine (zget_any w B ao n c0 b h hB hb (by have := hL.right.2.1; omega)).mono ?_
  rintro r w' (⟨pv, qs, y, e, hq, ho, hg⟩ | ⟨_, hno, _⟩)
  · obtain ⟨e1, e2⟩ := flaid_uniq hL hq
    subst e1; subst e2
    obtain ⟨a, c, rfl⟩ := ho.shape
    exact ⟨a, c, e, ho, hg⟩
  · exact absurd hL (hno ps x)

end Go.Proofs.Ytpgpilalhbdidaa
