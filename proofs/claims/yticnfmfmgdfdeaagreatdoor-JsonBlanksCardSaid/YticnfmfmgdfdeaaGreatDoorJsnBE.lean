/-
  Compare: objects. Own work.
-/
import Derived.Test.YticnfmfmgdfdeaaGreatDoorJsnBC
import Derived.Deep.DeepCutAuto
import Derived.Test.YticnfmfmgdfdeaaGreatDoorJsnBD
import Derived.Test.YticnfmfmgdfdeaaGreatDoorJsnBB

set_option linter.unusedVariables false
set_option linter.unusedSimpArgs false
namespace Go.Proofs.YticnfmfmgdfdeaaGreatDoor
open Go.RowKit

theorem cmpO_at (ns : List Bs) (l : List J) (ms : List Bs) (m : List J) (k : Nat) (h1 : k < l.length) (h2 : k < m.length) (e1 : ns.length = l.length) (e2 : ms.length = m.length) :
    cmpO (ns.drop k) (l.drop k) (ms.drop k) (m.drop k) = if cmpB (ns[k]'(by omega)) (ms[k]'(by omega)) = 0 then (if cmpJ l[k] m[k] = 0 then cmpO (ns.drop (k + 1)) (l.drop (k + 1)) (ms.drop (k + 1)) (m.drop (k + 1)) else cmpJ l[k] m[k]) else cmpB (ns[k]'(by omega)) (ms[k]'(by omega)) := by
  rw [List.drop_eq_getElem_cons h1, List.drop_eq_getElem_cons h2, List.drop_eq_getElem_cons (show k < ns.length by omega), List.drop_eq_getElem_cons (show k < ms.length by omega)]
  simp only [cmpO]
theorem cmpO_end (ns : List Bs) (l : List J) (ms : List Bs) (m : List J) (k : Nat) (e1 : ns.length = l.length) (e2 : ms.length = m.length) (h : k = l.length ∧ l.length ≤ m.length ∨ k = m.length ∧ m.length ≤ l.length) :
    cmpO (ns.drop k) (l.drop k) (ms.drop k) (m.drop k) = cmpI l.length m.length := by
  have key : ∀ (a : List Bs) (x : List J) (b : List Bs) (y : List J), a.length = x.length → b.length = y.length → (x = [] ∨ y = []) → cmpO a x b y = cmpI x.length y.length := by
    intro a x b y ea eb h
    cases a with
    | nil =>
      cases x with
      | cons _ _ => simp at ea
      | nil =>
        cases b with
        | nil =>
          cases y with
          | nil => rw [cmpO_nn]; rfl
          | cons _ _ => simp at eb
        | cons _ _ =>
          cases y with
          | nil => simp at eb
          | cons _ _ => rw [cmpO_nc]; unfold cmpI; simp only [List.length_nil, List.length_cons]; rw [if_pos (by omega)]
    | cons _ _ =>
      cases x with
      | nil => simp at ea
      | cons _ _ =>
        rcases h with h | h
        · cases h
        · subst h
          cases b with
          | nil => rw [cmpO_cn]; unfold cmpI; simp only [List.length_nil, List.length_cons]; rw [if_neg (by omega), if_pos (by omega)]
          | cons _ _ => simp at eb
  rw [key _ _ _ _ (by simp; omega) (by simp; omega) (by rcases h with h | h; exact .inl (List.drop_of_length_le (by omega)); exact .inr (List.drop_of_length_le (by omega)))]
  simp only [List.length_drop]
  unfold cmpI
  rcases h with h | h
  · split <;> split <;> (try split) <;> (try split) <;> omega
  · split <;> split <;> (try split) <;> (try split) <;> omega
theorem name_at {w wr : World} {ao : Option Addr} {c n : Nat} {L : List Bs} (hr : RowS anyB w (.slice ao n c) L) (g : Gr w wr) {k : Nat} (h : k < L.length) :
    ∃ b o, ao = some ⟨b, o, none⟩ ∧ wr.cell? ⟨b, o + k, none⟩ = some (.string (Sx L[k])) := by
  obtain ⟨ao', c', hv', h1, h2, h3⟩ := hr
  obtain ⟨b, o, ha, -, hcell⟩ := h3 (fun e => by rw [e] at h; simp at h)
  have hu := hcell k L[k] (List.getElem?_eq_getElem h)
  injection hv' with e1 e2 e3
  have hbl : b < w.heap.size := World.block_lt_of_cell? _ _ hu
  exact ⟨b, o, e1.trans ha, (World.cell?_of_block (w := w) (g.block b hbl (by simp))).trans hu⟩
theorem cells8_of {W : World} {q : Nat} {a b c d e f g h : Value} {t : TypeId} (H : W.heap[q]? = some (.cells #[a, b, c, d, e, f, g, h] t (0, 0))) {V : World} (G : Gr W V) :
    V.cell? ⟨q, 0, none⟩ = some a ∧ V.cell? ⟨q, 1, none⟩ = some b ∧ V.cell? ⟨q, 2, none⟩ = some c ∧ V.cell? ⟨q, 3, none⟩ = some d ∧ V.cell? ⟨q, 4, none⟩ = some e ∧ V.cell? ⟨q, 5, none⟩ = some f ∧ V.cell? ⟨q, 6, none⟩ = some g ∧ V.cell? ⟨q, 7, none⟩ = some h :=
  cells8 ((G.block q (lt_of_block H) (by simp)).trans H)

set_option maxRecDepth 100000 in
set_option maxHeartbeats 8000000 in
theorem cmpMembers_any (n : Nat) (hV : CV n) (ns : List Bs) (l : List J) (ms : List Bs) (m : List J) (w : World) (ao an bo bn : Option Addr) (c cn d dn : Nat) (hnl : ns.length = l.length) (hnm : ms.length = m.length)
    (hl : RowV (JV anyB (n + 1)) anyB w (.slice ao l.length c) l) (hm : RowV (JV anyB (n + 1)) anyB w (.slice bo m.length d) m) (hns : RowS anyB w (.slice an ns.length cn) ns) (hms : RowS anyB w (.slice bn ms.length dn) ms) (hL : ∀ x ∈ l, RJ n x) (hM : ∀ x ∈ m, RJ n x) :
    Calls Tryz.prog 45 #[.agg (obC (.slice ao l.length c) (.slice an ns.length cn)), .agg (obC (.slice bo m.length d) (.slice bn ms.length dn))] w fun r w' => r = .returned (.int .i64 (cmpO ns l ms m)) ∧ Gr w w' := by
  rw [hnl, hnm]
  rw [hnl] at hns
  rw [hnm] at hms
  generalize hel : l.length = ll at *
  generalize hem : m.length = mm at *
  have hA := two_lit0 w (.cells (obC (.slice ao ll c) (.slice an ll cn)) 28) (.cells (obC (.slice bo mm d) (.slice bn mm dn)) 28)
  have hB := two_lit1 w (.cells (obC (.slice ao ll c) (.slice an ll cn)) 28) (.cells (obC (.slice bo mm d) (.slice bn mm dn)) 28)
  have hg := two_grown w (.cells (obC (.slice ao ll c) (.slice an ll cn)) 28) (.cells (obC (.slice bo mm d) (.slice bn mm dn)) 28)
  have HL := Lib.hid hl
  have HM := Lib.hid hm
  have HNS := Lib.hid hns
  have HMS := Lib.hid hms
  have HRL := Lib.hid hL
  have HRM := Lib.hid hM
  have EL := Lib.hid hel
  have EM := Lib.hid hem
  have ENL := Lib.hid (hnl.trans hel.symm)
  have ENM := Lib.hid (hnm.trans hem.symm)
  have KA := Lib.hid (fun w' => members_any ao an ll c cn w')
  have KB := Lib.hid (fun w' => members_any bo bn mm d dn w')
  have KI := Lib.hid (fun w' => cmpI_any (ll : Int) (mm : Int) w')
  obtain ⟨q, hq⟩ : ∃ q : Nat, q = min ll mm := ⟨_, rfl⟩
  have hmin : (if (mm : Int) < (ll : Int) then (mm : Int) else (ll : Int)) = (q : Int) := by
    rw [hq]; split <;> omega
  have HQ := Lib.hid hq
  have hmx := mxl
  have HBL : Hid (ll ≤ 9223372036854775807) := Lib.hid (by obtain ⟨_, _, e, h1, h2, -⟩ := hl; injection e with _ e2 e3; omega)
  clear hl hm hns hms hL hM hel hem hnl hnm hq hmx
  go_enter Tryz.func45, Tryz.ntmps45
  go_wp2_with fail
  generalize (w.alloc (.cells (obC (.slice ao ll c) (.slice an ll cn)) 28)).alloc (.cells (obC (.slice bo mm d) (.slice bn mm dn)) 28) = W at *
  have HA := Lib.hid hA
  have HB := Lib.hid hB
  have HG := Lib.hid hg
  have HC := Lib.hid (fun V (G : Gr W V) => And.intro (cells8_of HA.out G) (cells8_of HB.out G))
  clear hA hB hg
  go_region_held3 (fun v => (v.cell? ⟨w.heap.size, 0, none⟩ = some (.int .i64 5) ∧ v.cell? ⟨w.heap.size, 1, none⟩ = some (.bool false) ∧ v.cell? ⟨w.heap.size, 2, none⟩ = some (.bool false) ∧ v.cell? ⟨w.heap.size, 3, none⟩ = some (.string ⟨#[]⟩) ∧ v.cell? ⟨w.heap.size, 4, none⟩ = some (.int .i64 0) ∧ v.cell? ⟨w.heap.size, 5, none⟩ = some (.string ⟨#[]⟩) ∧ v.cell? ⟨w.heap.size, 6, none⟩ = some (.slice ao ll c) ∧ v.cell? ⟨w.heap.size, 7, none⟩ = some (.slice an ll cn)) ∧
      v.cell? ⟨w.heap.size + 1, 0, none⟩ = some (.int .i64 5) ∧ v.cell? ⟨w.heap.size + 1, 1, none⟩ = some (.bool false) ∧ v.cell? ⟨w.heap.size + 1, 2, none⟩ = some (.bool false) ∧ v.cell? ⟨w.heap.size + 1, 3, none⟩ = some (.string ⟨#[]⟩) ∧ v.cell? ⟨w.heap.size + 1, 4, none⟩ = some (.int .i64 0) ∧ v.cell? ⟨w.heap.size + 1, 5, none⟩ = some (.string ⟨#[]⟩) ∧ v.cell? ⟨w.heap.size + 1, 6, none⟩ = some (.slice bo mm d) ∧ v.cell? ⟨w.heap.size + 1, 7, none⟩ = some (.slice bn mm dn))
    (first | (exact HC.out _ (gdrew W)) | (exact HC.out _ HG1.out) | (exact HC.out _ HG2.out))
    (first
      | (go_at_call 86; ((with_reducible refine (KA.out W.drew).mono ?_); rintro r w1 ⟨rfl, hg⟩); have HG1 := Lib.hid (gtrans (gdrew W) hg); clear hg)
      | (go_at_call 86; ((with_reducible refine (KB.out w1).mono ?_); rintro r w2 ⟨rfl, hg⟩); have HG2 := Lib.hid (gtrans HG1.out hg); clear hg))
  have HGW := Lib.hid (gtrans HG.out HG2.out)
  have HC2 := Lib.hid (fun V (G : Gr w2 V) => HC.out V (gtrans HG2.out G))
  clear HC HG1 HG2 HA HB HG
  go_wp2
  go_loopw [17] (fun vi wr => ∃ k : Nat, k ≤ q ∧ vi = .int .i64 k ∧ Hid (Gr w2 wr ∧ cmpO ns l ms m = cmpO (ns.drop k) (l.drop k) (ms.drop k) (m.drop k))) (fun vi _ => q - (intOf vi).toNat)
  case atStart => exact ⟨0, by omega, rfl, Lib.hid ⟨grefl _ _, rfl⟩⟩
  case round =>
    obtain ⟨k, hk, rfl, hh⟩ := hrel
    by_cases hlt : k < q
    · have hki : (k : Int) < (q : Int) := by omega
      have hkl : k < ll := by have := HQ.out; omega
      have hkm : k < mm := by have := HQ.out; omega
      have HKQ := Lib.hid (And.intro hlt hkl)
      have hkL : (k : Int) < (ll : Int) := by omega
      have hkM : (k : Int) < (mm : Int) := by omega
      obtain ⟨b, o, u, rfl, -, hb1, hb2, hu8, hj, hbl, hcell⟩ := row_at HL.out (gtrans HGW.out hh.out.1) (by rw [EL.out]; exact hkl)
      obtain ⟨b2, o2, u2, rfl, -, hd1, hd2, hv8, hj2, hbl2, hcell2⟩ := row_at HM.out (gtrans HGW.out hh.out.1) (by rw [EM.out]; exact hkm)
      obtain ⟨p1, s1, rfl, hn1⟩ := name_at HNS.out (gtrans HGW.out hh.out.1) (by rw [ENL.out, EL.out]; exact hkl)
      obtain ⟨p2, s2, rfl, hn2⟩ := name_at HMS.out (gtrans HGW.out hh.out.1) (by rw [ENM.out, EM.out]; exact hkm)
      have HJ := Lib.hid hj
      have HJ2 := Lib.hid hj2
      obtain ⟨a1, a2, c1, c2, rfl⟩ := jv_jC hj
      obtain ⟨e1, e2, f1, f2, rfl⟩ := jv_jC hj2
      have hst := cmpO_at ns l ms m k (by rw [EL.out]; exact hkl) (by rw [EM.out]; exact hkm) ENL.out ENM.out
      have KV := Lib.hid (fun V (G : Gr wr V) => hV (l[k]'(by rw [EL.out]; exact hkl)) (m[k]'(by rw [EM.out]; exact hkm)) _ _ V (HJ.out.gr (gtrans (gtrans HGW.out hh.out.1) G)) (HJ2.out.gr (gtrans (gtrans HGW.out hh.out.1) G)) (HRL.out _ (List.getElem_mem _)) (HRM.out _ (List.getElem_mem _)))
      have HST := Lib.hid hst
      have HN := Lib.hid (fun V (G : Gr wr V) => And.intro ((World.cell?_of_block (w := wr) (G.block p1 (World.block_lt_of_cell? _ _ hn1) (by simp))).trans hn1) ((World.cell?_of_block (w := wr) (G.block p2 (World.block_lt_of_cell? _ _ hn2) (by simp))).trans hn2))
      have HY := Lib.hid (fun V (G : Gr wr V) => And.intro (eight (cell8_grown hcell G)) (eight (cell8_grown hcell2 G)))
      have HCW := Lib.hid (fun V (G : Gr wr V) => HC2.out V (gtrans hh.out.1 G))
      clear hst hcell hcell2 HJ HJ2 hj hj2 hu8 hv8 hn1 hn2 hb1 hb2 hd1 hd2 hbl hbl2
      generalize l[k]'(by rw [EL.out]; exact hkl) = A at *
      generalize m[k]'(by rw [EM.out]; exact hkm) = B at *
      generalize ns[k]'(by rw [ENL.out, EL.out]; exact hkl) = NA at *
      generalize ms[k]'(by rw [ENM.out, EM.out]; exact hkm) = NB at *
      have KS := Lib.hid (fun w' => cmpS_any NA NB w')
      generalize Sx NA = SA at *
      generalize Sx NB = SB at *
      generalize cmpJ A B = x at *
      generalize cmpB NA NB = y at *
      clear hmin
      go_wp2_with fail
      go_region_held3 (fun v => (v.cell? ⟨w.heap.size, 7, none⟩ = some (.slice (some ⟨p1, s1, none⟩) ll cn) ∧ v.cell? ⟨w.heap.size + 1, 7, none⟩ = some (.slice (some ⟨p2, s2, none⟩) mm dn)) ∧ v.cell? ⟨p1, s1 + k, none⟩ = some (.string SA) ∧ v.cell? ⟨p2, s2 + k, none⟩ = some (.string SB))
        (first | (obtain ⟨⟨-, -, -, -, -, -, -, g1⟩, -, -, -, -, -, -, -, g2⟩ := HCW.out _ (gdrew wr); exact ⟨⟨g1, g2⟩, HN.out _ (gdrew wr)⟩) | (obtain ⟨⟨-, -, -, -, -, -, -, g1⟩, -, -, -, -, -, -, -, g2⟩ := HCW.out _ (grefl wr none); exact ⟨⟨g1, g2⟩, HN.out _ (grefl wr none)⟩))
        (first | (go_at_call 43; ((with_reducible refine (KS.out wr.drew).mono ?_); rintro r w3 ⟨rfl, rfl⟩)))
      have HDR := Lib.hid (gdrew wr)
      generalize wr.drew = V at *
      by_cases hy : y = 0
      · have hyb : (y != 0) = false := by simpa using hy
        have HYY := Lib.hid hy
        clear hy
        go_wp2_with fail
        go_region_held3 (fun v => (v.cell? ⟨w.heap.size, 6, none⟩ = some (.slice (some ⟨b, o, none⟩) ll c) ∧ v.cell? ⟨w.heap.size + 1, 6, none⟩ = some (.slice (some ⟨b2, o2, none⟩) mm d)) ∧
            (v.cell? ⟨b, o + k * 8, none⟩ = some (.int .i64 A.kind) ∧ v.cell? ⟨b, o + k * 8 + 1, none⟩ = some (.bool A.isB) ∧ v.cell? ⟨b, o + k * 8 + 2, none⟩ = some (.bool A.nm.down) ∧ v.cell? ⟨b, o + k * 8 + 3, none⟩ = some (.string (Sx A.nm.digs)) ∧ v.cell? ⟨b, o + k * 8 + 4, none⟩ = some (.int .i64 A.nm.exp) ∧ v.cell? ⟨b, o + k * 8 + 5, none⟩ = some (.string (Sx A.tx)) ∧ v.cell? ⟨b, o + k * 8 + 6, none⟩ = some (.slice a1 A.items.length c1) ∧ v.cell? ⟨b, o + k * 8 + 7, none⟩ = some (.slice a2 A.names.length c2)) ∧
            v.cell? ⟨b2, o2 + k * 8, none⟩ = some (.int .i64 B.kind) ∧ v.cell? ⟨b2, o2 + k * 8 + 1, none⟩ = some (.bool B.isB) ∧ v.cell? ⟨b2, o2 + k * 8 + 2, none⟩ = some (.bool B.nm.down) ∧ v.cell? ⟨b2, o2 + k * 8 + 3, none⟩ = some (.string (Sx B.nm.digs)) ∧ v.cell? ⟨b2, o2 + k * 8 + 4, none⟩ = some (.int .i64 B.nm.exp) ∧ v.cell? ⟨b2, o2 + k * 8 + 5, none⟩ = some (.string (Sx B.tx)) ∧ v.cell? ⟨b2, o2 + k * 8 + 6, none⟩ = some (.slice e1 B.items.length f1) ∧ v.cell? ⟨b2, o2 + k * 8 + 7, none⟩ = some (.slice e2 B.names.length f2))
          (first | (obtain ⟨⟨-, -, -, -, -, -, g1, -⟩, -, -, -, -, -, -, g2, -⟩ := HCW.out _ (gtrans HDR.out (gdrew V)); exact ⟨⟨g1, g2⟩, HY.out _ (gtrans HDR.out (gdrew V))⟩) | (obtain ⟨⟨-, -, -, -, -, -, g1, -⟩, -, -, -, -, -, -, g2, -⟩ := HCW.out _ HDR.out; exact ⟨⟨g1, g2⟩, HY.out _ HDR.out⟩) | (obtain ⟨⟨-, -, -, -, -, -, g1, -⟩, -, -, -, -, -, -, g2, -⟩ := HCW.out _ HG4.out; exact ⟨⟨g1, g2⟩, HY.out _ HG4.out⟩))
          (first | (go_at_call 19; ((with_reducible refine (KV.out V.drew (gtrans HDR.out (gdrew V))).mono ?_); rintro r w4 ⟨rfl, hg⟩); have HG4 := Lib.hid (gtrans HDR.out (gtrans (gdrew V) hg)); clear hg))
        by_cases hx : x = 0
        · have hxb : (x != 0) = false := by simpa using hx
          have HX := Lib.hid hx
          clear hx
          have hk63 : (k : Int) + 1 ≤ 9223372036854775807 := by have h63 := HBL.out; have h64 := HKQ.out; omega
          go_wp2
          go_round
          case rel => exact ⟨k + 1, by have := HKQ.out; omega, by have h63 := HBL.out; have h64 := HKQ.out; go_num, Lib.hid ⟨gtrans hh.out.1 HG4.out, hh.out.2.trans (HST.out.trans (by rw [if_pos HYY.out, if_pos HX.out]))⟩⟩
          case measure => have h64 := HKQ.out; have h63 := HBL.out; simp [intOf]; omega
        · have hxb : (x != 0) = true := by simpa using hx
          have HX := Lib.hid hx
          clear hx
          go_wp2
          go_ret
          exact ⟨by rw [hh.out.2, HST.out, if_pos HYY.out, if_neg HX.out]; rfl, gtrans HGW.out (gtrans hh.out.1 HG4.out)⟩
      · have hyb : (y != 0) = true := by simpa using hy
        have HYY := Lib.hid hy
        clear hy
        go_wp2
        go_ret
        exact ⟨by rw [hh.out.2, HST.out, if_neg HYY.out]; rfl, gtrans HGW.out (gtrans hh.out.1 HDR.out)⟩
    · obtain rfl : k = q := by omega
      have HE : Hid (cmpO ns l ms m = cmpI (ll : Int) (mm : Int)) := Lib.hid (by
        have := cmpO_end ns l ms m k ENL.out ENM.out (by have := HQ.out; have := EL.out; have := EM.out; omega)
        rw [hh.out.2, this, EL.out, EM.out])
      go_wp2_with (go_at_call 40; ((with_reducible refine (KI.out _).mono ?_); rintro r w3 ⟨rfl, rfl⟩))
      go_ret
      exact ⟨by rw [HE.out]; rfl, gtrans HGW.out hh.out.1⟩

end Go.Proofs.YticnfmfmgdfdeaaGreatDoor

namespace Go.Proofs.YticnfmfmgdfdeaaGreatDoor
open Go.RowKit

set_option maxRecDepth 100000 in
set_option maxHeartbeats 8000000 in
theorem cmp_null (w : World) (a1 a2 b1 b2 : Option Addr) (c1 c2 d1 d2 : Nat) : Calls Tryz.prog 19 #[.agg (jC .null a1 a2 c1 c2), .agg (jC .null b1 b2 d1 d2)] w fun r w' => r = .returned (.int .i64 (cmpJ .null .null)) ∧ Gr w w' := by
  have e0 : cmpJ .null .null = 0 := by unfold cmpJ; rfl
  rw [e0]
  have ej : ∀ x1 x2 y1 y2, jC .null x1 x2 y1 y2 = #[.int .i64 0, .bool false, .bool false, .string ⟨#[]⟩, .int .i64 0, .string ⟨#[]⟩, .slice x1 0 y1, .slice x2 0 y2] := fun _ _ _ _ => rfl
  rw [ej, ej]
  have hA := two_lit0 w (.cells #[.int .i64 0, .bool false, .bool false, .string ⟨#[]⟩, .int .i64 0, .string ⟨#[]⟩, .slice a1 0 c1, .slice a2 0 c2] 28) (.cells #[.int .i64 0, .bool false, .bool false, .string ⟨#[]⟩, .int .i64 0, .string ⟨#[]⟩, .slice b1 0 d1, .slice b2 0 d2] 28)
  have hB := two_lit1 w (.cells #[.int .i64 0, .bool false, .bool false, .string ⟨#[]⟩, .int .i64 0, .string ⟨#[]⟩, .slice a1 0 c1, .slice a2 0 c2] 28) (.cells #[.int .i64 0, .bool false, .bool false, .string ⟨#[]⟩, .int .i64 0, .string ⟨#[]⟩, .slice b1 0 d1, .slice b2 0 d2] 28)
  have HG := Lib.hid (two_grown w (.cells #[.int .i64 0, .bool false, .bool false, .string ⟨#[]⟩, .int .i64 0, .string ⟨#[]⟩, .slice a1 0 c1, .slice a2 0 c2] 28) (.cells #[.int .i64 0, .bool false, .bool false, .string ⟨#[]⟩, .int .i64 0, .string ⟨#[]⟩, .slice b1 0 d1, .slice b2 0 d2] 28))
  obtain ⟨x0, x1, x2, x3, x4, x5, x6, x7⟩ := cells8 hA
  obtain ⟨y0, y1, y2, y3, y4, y5, y6, y7⟩ := cells8 hB
  clear hA hB e0 ej
  go_enter Tryz.func19, Tryz.ntmps19
  go_wp2
  go_ret
  exact ⟨rfl, HG.out⟩

set_option maxRecDepth 100000 in
set_option maxHeartbeats 8000000 in
theorem cmp_bool (p q : Bool) (w : World) (a1 a2 b1 b2 : Option Addr) (c1 c2 d1 d2 : Nat) : Calls Tryz.prog 19 #[.agg (jC (.bool p) a1 a2 c1 c2), .agg (jC (.bool q) b1 b2 d1 d2)] w fun r w' => r = .returned (.int .i64 (cmpJ (.bool p) (.bool q))) ∧ Gr w w' := by
  have e0 : cmpJ (.bool p) (.bool q) = cmpBool p q := by unfold cmpJ; rfl
  rw [e0]
  have ej : ∀ p x1 x2 y1 y2, jC (.bool p) x1 x2 y1 y2 = #[.int .i64 1, .bool p, .bool false, .string ⟨#[]⟩, .int .i64 0, .string ⟨#[]⟩, .slice x1 0 y1, .slice x2 0 y2] := fun _ _ _ _ _ => rfl
  rw [ej, ej]
  have hA := two_lit0 w (.cells #[.int .i64 1, .bool p, .bool false, .string ⟨#[]⟩, .int .i64 0, .string ⟨#[]⟩, .slice a1 0 c1, .slice a2 0 c2] 28) (.cells #[.int .i64 1, .bool q, .bool false, .string ⟨#[]⟩, .int .i64 0, .string ⟨#[]⟩, .slice b1 0 d1, .slice b2 0 d2] 28)
  have hB := two_lit1 w (.cells #[.int .i64 1, .bool p, .bool false, .string ⟨#[]⟩, .int .i64 0, .string ⟨#[]⟩, .slice a1 0 c1, .slice a2 0 c2] 28) (.cells #[.int .i64 1, .bool q, .bool false, .string ⟨#[]⟩, .int .i64 0, .string ⟨#[]⟩, .slice b1 0 d1, .slice b2 0 d2] 28)
  have HG := Lib.hid (two_grown w (.cells #[.int .i64 1, .bool p, .bool false, .string ⟨#[]⟩, .int .i64 0, .string ⟨#[]⟩, .slice a1 0 c1, .slice a2 0 c2] 28) (.cells #[.int .i64 1, .bool q, .bool false, .string ⟨#[]⟩, .int .i64 0, .string ⟨#[]⟩, .slice b1 0 d1, .slice b2 0 d2] 28))
  have K := Lib.hid (fun w' => bools_any p q w')
  obtain ⟨x0, x1, x2, x3, x4, x5, x6, x7⟩ := cells8 hA
  obtain ⟨y0, y1, y2, y3, y4, y5, y6, y7⟩ := cells8 hB
  clear hA hB e0 ej
  go_enter Tryz.func19, Tryz.ntmps19
  go_wp2_with (go_at_call 41; ((with_reducible refine (K.out _).mono ?_); rintro r w3 ⟨rfl, rfl⟩))
  go_ret
  exact ⟨rfl, HG.out⟩

set_option maxRecDepth 100000 in
set_option maxHeartbeats 8000000 in
theorem cmp_num (p q : Nm) (hp : rightM p = true) (hq : rightM q = true) (w : World) (a1 a2 b1 b2 : Option Addr) (c1 c2 d1 d2 : Nat) : Calls Tryz.prog 19 #[.agg (jC (.num p) a1 a2 c1 c2), .agg (jC (.num q) b1 b2 d1 d2)] w fun r w' => r = .returned (.int .i64 (cmpJ (.num p) (.num q))) ∧ Gr w w' := by
  have e0 : cmpJ (.num p) (.num q) = cmpM p q := by unfold cmpJ; rfl
  rw [e0]
  obtain ⟨h1, h2, h3⟩ := right_len hp
  obtain ⟨k1, k2, k3⟩ := right_len hq
  obtain ⟨da, Aa, ea⟩ := p
  obtain ⟨db, Ab, eb⟩ := q
  simp only at h1 h2 h3 k1 k2 k3
  have ej : ∀ d A e x1 x2 y1 y2, jC (.num ⟨d, A, e⟩) x1 x2 y1 y2 = #[.int .i64 2, .bool false, .bool d, .string (Sx A), .int .i64 e, .string ⟨#[]⟩, .slice x1 0 y1, .slice x2 0 y2] := fun _ _ _ _ _ _ _ => rfl
  rw [ej, ej]
  have K := Lib.hid (fun w' => compare_any da Aa ea db Ab eb w' (by omega) (by omega) (by omega) (by omega) (by omega) (by omega))
  generalize Sx Aa = SA at *
  generalize Sx Ab = SB at *
  have hA := two_lit0 w (.cells #[.int .i64 2, .bool false, .bool da, .string SA, .int .i64 ea, .string ⟨#[]⟩, .slice a1 0 c1, .slice a2 0 c2] 28) (.cells #[.int .i64 2, .bool false, .bool db, .string SB, .int .i64 eb, .string ⟨#[]⟩, .slice b1 0 d1, .slice b2 0 d2] 28)
  have hB := two_lit1 w (.cells #[.int .i64 2, .bool false, .bool da, .string SA, .int .i64 ea, .string ⟨#[]⟩, .slice a1 0 c1, .slice a2 0 c2] 28) (.cells #[.int .i64 2, .bool false, .bool db, .string SB, .int .i64 eb, .string ⟨#[]⟩, .slice b1 0 d1, .slice b2 0 d2] 28)
  have HG := Lib.hid (two_grown w (.cells #[.int .i64 2, .bool false, .bool da, .string SA, .int .i64 ea, .string ⟨#[]⟩, .slice a1 0 c1, .slice a2 0 c2] 28) (.cells #[.int .i64 2, .bool false, .bool db, .string SB, .int .i64 eb, .string ⟨#[]⟩, .slice b1 0 d1, .slice b2 0 d2] 28))
  obtain ⟨x0, x1, x2, x3, x4, x5, x6, x7⟩ := cells8 hA
  obtain ⟨y0, y1, y2, y3, y4, y5, y6, y7⟩ := cells8 hB
  clear hA hB e0 ej h1 h2 h3 k1 k2 k3 hp hq
  go_enter Tryz.func19, Tryz.ntmps19
  go_wp2_with (go_at_call 42; ((with_reducible refine (K.out _).mono ?_); rintro r w3 ⟨rfl, hg⟩); have HG3 := Lib.hid (gtrans HG.out hg); clear hg)
  go_ret
  exact ⟨rfl, HG3.out⟩

set_option maxRecDepth 100000 in
set_option maxHeartbeats 8000000 in
theorem cmp_str (s t : Bs) (w : World) (a1 a2 b1 b2 : Option Addr) (c1 c2 d1 d2 : Nat) : Calls Tryz.prog 19 #[.agg (jC (.str s) a1 a2 c1 c2), .agg (jC (.str t) b1 b2 d1 d2)] w fun r w' => r = .returned (.int .i64 (cmpJ (.str s) (.str t))) ∧ Gr w w' := by
  have e0 : cmpJ (.str s) (.str t) = cmpB s t := by unfold cmpJ; rfl
  rw [e0]
  have ej : ∀ s x1 x2 y1 y2, jC (.str s) x1 x2 y1 y2 = #[.int .i64 3, .bool false, .bool false, .string ⟨#[]⟩, .int .i64 0, .string (Sx s), .slice x1 0 y1, .slice x2 0 y2] := fun _ _ _ _ _ => rfl
  rw [ej, ej]
  have K := Lib.hid (fun w' => cmpS_any s t w')
  generalize Sx s = SA at *
  generalize Sx t = SB at *
  have hA := two_lit0 w (.cells #[.int .i64 3, .bool false, .bool false, .string ⟨#[]⟩, .int .i64 0, .string SA, .slice a1 0 c1, .slice a2 0 c2] 28) (.cells #[.int .i64 3, .bool false, .bool false, .string ⟨#[]⟩, .int .i64 0, .string SB, .slice b1 0 d1, .slice b2 0 d2] 28)
  have hB := two_lit1 w (.cells #[.int .i64 3, .bool false, .bool false, .string ⟨#[]⟩, .int .i64 0, .string SA, .slice a1 0 c1, .slice a2 0 c2] 28) (.cells #[.int .i64 3, .bool false, .bool false, .string ⟨#[]⟩, .int .i64 0, .string SB, .slice b1 0 d1, .slice b2 0 d2] 28)
  have HG := Lib.hid (two_grown w (.cells #[.int .i64 3, .bool false, .bool false, .string ⟨#[]⟩, .int .i64 0, .string SA, .slice a1 0 c1, .slice a2 0 c2] 28) (.cells #[.int .i64 3, .bool false, .bool false, .string ⟨#[]⟩, .int .i64 0, .string SB, .slice b1 0 d1, .slice b2 0 d2] 28))
  obtain ⟨x0, x1, x2, x3, x4, x5, x6, x7⟩ := cells8 hA
  obtain ⟨y0, y1, y2, y3, y4, y5, y6, y7⟩ := cells8 hB
  clear hA hB e0 ej
  go_enter Tryz.func19, Tryz.ntmps19
  go_wp2_with (go_at_call 43; ((with_reducible refine (K.out _).mono ?_); rintro r w3 ⟨rfl, rfl⟩))
  go_ret
  exact ⟨rfl, HG.out⟩

theorem jv_rows {n : Nat} {j : J} {w : World} {a1 a2 : Option Addr} {c1 c2 : Nat} (h : JV anyB (n + 1) j w (.agg (jC j a1 a2 c1 c2))) :
    RowV (JV anyB n) anyB w (.slice a1 j.items.length c1) j.items ∧ RowS anyB w (.slice a2 j.names.length c2) j.names := by
  obtain ⟨iv, nv, e1, hrn, hrv⟩ := h
  injection e1 with e1
  simp only [J.cs, vc] at e1
  have h6 := congrArg (fun a : Array Value => a.getD 6 undef) e1
  have h7 := congrArg (fun a : Array Value => a.getD 7 undef) e1
  simp at h6 h7
  rw [← h6] at hrv
  rw [← h7] at hrn
  exact ⟨hrv, hrn⟩

set_option maxRecDepth 100000 in
set_option maxHeartbeats 8000000 in
theorem cmp_arr (n : Nat) (hV : CV n) (l m : List J) (w : World) (a1 a2 b1 b2 : Option Addr) (c1 c2 d1 d2 : Nat) (hj : JV anyB (n + 2) (.arr l) w (.agg (jC (.arr l) a1 a2 c1 c2))) (hk : JV anyB (n + 2) (.arr m) w (.agg (jC (.arr m) b1 b2 d1 d2)))
    (hL : ∀ x ∈ l, RJ n x) (hM : ∀ x ∈ m, RJ n x) :
    Calls Tryz.prog 19 #[.agg (jC (.arr l) a1 a2 c1 c2), .agg (jC (.arr m) b1 b2 d1 d2)] w fun r w' => r = .returned (.int .i64 (cmpJ (.arr l) (.arr m))) ∧ Gr w w' := by
  have e0 : cmpJ (.arr l) (.arr m) = cmpL l m := by unfold cmpJ; rfl
  rw [e0]
  have ej : ∀ l x1 x2 y1 y2, jC (.arr l) x1 x2 y1 y2 = #[.int .i64 4, .bool false, .bool false, .string ⟨#[]⟩, .int .i64 0, .string ⟨#[]⟩, .slice x1 l.length y1, .slice x2 0 y2] := fun _ _ _ _ _ => rfl
  have hg := two_grown w (.cells (jC (.arr l) a1 a2 c1 c2) 28) (.cells (jC (.arr m) b1 b2 d1 d2) 28)
  have K := cmpFunc_any n hV l m _ a1 b1 c1 d1 (jv_rows (hj.gr hg)).1 (jv_rows (hk.gr hg)).1 hL hM
  rw [ej, ej] at *
  have hA := two_lit0 w (.cells #[.int .i64 4, .bool false, .bool false, .string ⟨#[]⟩, .int .i64 0, .string ⟨#[]⟩, .slice a1 l.length c1, .slice a2 0 c2] 28) (.cells #[.int .i64 4, .bool false, .bool false, .string ⟨#[]⟩, .int .i64 0, .string ⟨#[]⟩, .slice b1 m.length d1, .slice b2 0 d2] 28)
  have hB := two_lit1 w (.cells #[.int .i64 4, .bool false, .bool false, .string ⟨#[]⟩, .int .i64 0, .string ⟨#[]⟩, .slice a1 l.length c1, .slice a2 0 c2] 28) (.cells #[.int .i64 4, .bool false, .bool false, .string ⟨#[]⟩, .int .i64 0, .string ⟨#[]⟩, .slice b1 m.length d1, .slice b2 0 d2] 28)
  have HG := Lib.hid hg
  have KK := Lib.hid K
  generalize cmpL l m = x at *
  generalize l.length = ll at *
  generalize m.length = mm at *
  obtain ⟨x0, x1, x2, x3, x4, x5, x6, x7⟩ := cells8 hA
  obtain ⟨y0, y1, y2, y3, y4, y5, y6, y7⟩ := cells8 hB
  clear hA hB e0 ej hj hk hL hM hg K
  go_enter Tryz.func19, Tryz.ntmps19
  go_wp2_with (go_at_call 44; ((with_reducible refine KK.out.mono ?_); rintro r w3 ⟨rfl, hg⟩); have HG3 := Lib.hid (gtrans HG.out hg); clear hg)
  go_ret
  exact ⟨rfl, HG3.out⟩

set_option maxRecDepth 100000 in
set_option maxHeartbeats 8000000 in
theorem cmp_obj (n : Nat) (hV : CV n) (ns : List Bs) (l : List J) (ms : List Bs) (m : List J) (w : World) (a1 a2 b1 b2 : Option Addr) (c1 c2 d1 d2 : Nat) (hnl : ns.length = l.length) (hnm : ms.length = m.length)
    (hj : JV anyB (n + 2) (.obj ns l) w (.agg (jC (.obj ns l) a1 a2 c1 c2))) (hk : JV anyB (n + 2) (.obj ms m) w (.agg (jC (.obj ms m) b1 b2 d1 d2))) (hL : ∀ x ∈ l, RJ n x) (hM : ∀ x ∈ m, RJ n x) :
    Calls Tryz.prog 19 #[.agg (jC (.obj ns l) a1 a2 c1 c2), .agg (jC (.obj ms m) b1 b2 d1 d2)] w fun r w' => r = .returned (.int .i64 (cmpJ (.obj ns l) (.obj ms m))) ∧ Gr w w' := by
  have e0 : cmpJ (.obj ns l) (.obj ms m) = cmpO ns l ms m := by unfold cmpJ; rfl
  rw [e0]
  have ej : ∀ ns l x1 x2 y1 y2, jC (.obj ns l) x1 x2 y1 y2 = obC (.slice x1 l.length y1) (.slice x2 ns.length y2) := fun _ _ _ _ _ _ => rfl
  have hg := two_grown w (.cells (jC (.obj ns l) a1 a2 c1 c2) 28) (.cells (jC (.obj ms m) b1 b2 d1 d2) 28)
  have K := cmpMembers_any n hV ns l ms m _ a1 a2 b1 b2 c1 c2 d1 d2 hnl hnm (jv_rows (hj.gr hg)).1 (jv_rows (hk.gr hg)).1 (jv_rows (hj.gr hg)).2 (jv_rows (hk.gr hg)).2 hL hM
  rw [ej, ej] at *
  have hA := two_lit0 w (.cells (obC (.slice a1 l.length c1) (.slice a2 ns.length c2)) 28) (.cells (obC (.slice b1 m.length d1) (.slice b2 ms.length d2)) 28)
  have hB := two_lit1 w (.cells (obC (.slice a1 l.length c1) (.slice a2 ns.length c2)) 28) (.cells (obC (.slice b1 m.length d1) (.slice b2 ms.length d2)) 28)
  have HG := Lib.hid hg
  have KK := Lib.hid K
  generalize cmpO ns l ms m = x at *
  generalize l.length = ll at *
  generalize m.length = mm at *
  generalize ns.length = nl at *
  generalize ms.length = nm at *
  obtain ⟨x0, x1, x2, x3, x4, x5, x6, x7⟩ := cells8 hA
  obtain ⟨y0, y1, y2, y3, y4, y5, y6, y7⟩ := cells8 hB
  clear hA hB e0 ej hj hk hL hM hg K hnl hnm
  go_enter Tryz.func19, Tryz.ntmps19
  go_wp2_with (go_at_call 45; ((with_reducible refine KK.out.mono ?_); rintro r w3 ⟨rfl, hg⟩); have HG3 := Lib.hid (gtrans HG.out hg); clear hg)
  go_ret
  exact ⟨rfl, HG3.out⟩

theorem CV_of (n : Nat) (hA : ∀ l m ca cb w, JV anyB (n + 1) (.arr l) w (.agg ca) → JV anyB (n + 1) (.arr m) w (.agg cb) → RJ n (.arr l) → RJ n (.arr m) → Calls Tryz.prog 19 #[.agg ca, .agg cb] w fun r w' => r = .returned (.int .i64 (cmpJ (.arr l) (.arr m))) ∧ Gr w w')
    (hO : ∀ ns l ms m ca cb w, JV anyB (n + 1) (.obj ns l) w (.agg ca) → JV anyB (n + 1) (.obj ms m) w (.agg cb) → RJ n (.obj ns l) → RJ n (.obj ms m) → Calls Tryz.prog 19 #[.agg ca, .agg cb] w fun r w' => r = .returned (.int .i64 (cmpJ (.obj ns l) (.obj ms m))) ∧ Gr w w') : CV n := by
  intro j k ca cb w hj hk rj rk
  by_cases hkd : j.kind = k.kind
  · cases j <;> cases k <;> first | (exfalso; simp [J.kind] at hkd; done) | skip
    · obtain ⟨a1, a2, c1, c2, rfl⟩ := jv_jC hj
      obtain ⟨b1, b2, d1, d2, rfl⟩ := jv_jC hk
      exact cmp_null w a1 a2 b1 b2 c1 c2 d1 d2
    · obtain ⟨a1, a2, c1, c2, rfl⟩ := jv_jC hj
      obtain ⟨b1, b2, d1, d2, rfl⟩ := jv_jC hk
      exact cmp_bool _ _ w a1 a2 b1 b2 c1 c2 d1 d2
    · obtain ⟨a1, a2, c1, c2, rfl⟩ := jv_jC hj
      obtain ⟨b1, b2, d1, d2, rfl⟩ := jv_jC hk
      exact cmp_num _ _ rj.flat rk.flat w a1 a2 b1 b2 c1 c2 d1 d2
    · obtain ⟨a1, a2, c1, c2, rfl⟩ := jv_jC hj
      obtain ⟨b1, b2, d1, d2, rfl⟩ := jv_jC hk
      exact cmp_str _ _ w a1 a2 b1 b2 c1 c2 d1 d2
    · exact hA _ _ ca cb w hj hk rj rk
    · exact hO _ _ _ _ ca cb w hj hk rj rk
  · obtain ⟨a1, a2, c1, c2, rfl⟩ := jv_jC hj
    obtain ⟨b1, b2, d1, d2, rfl⟩ := jv_jC hk
    rw [cmpJ_kinds hkd]
    exact compare_kinds j k a1 a2 b1 b2 c1 c2 d1 d2 w hkd
theorem CV_all : ∀ n, CV n
  | 0 => CV_of 0 (fun l m ca cb w _ _ h _ => by have := h.2; simp [J.kind] at this) (fun ns l ms m ca cb w _ _ h _ => by have := h.2; simp [J.kind] at this)
  | n + 1 => CV_of (n + 1)
    (fun l m ca cb w hj hk rj rk => by
      obtain ⟨a1, a2, c1, c2, rfl⟩ := jv_jC hj
      obtain ⟨b1, b2, d1, d2, rfl⟩ := jv_jC hk
      exact cmp_arr n (CV_all n) l m w a1 a2 b1 b2 c1 c2 d1 d2 hj hk rj.2 rk.2)
    (fun ns l ms m ca cb w hj hk rj rk => by
      obtain ⟨a1, a2, c1, c2, rfl⟩ := jv_jC hj
      obtain ⟨b1, b2, d1, d2, rfl⟩ := jv_jC hk
      exact cmp_obj n (CV_all n) ns l ms m w a1 a2 b1 b2 c1 c2 d1 d2 rj.1.1 rk.1.1 hj hk rj.2 rk.2)
/-- Compare. -/
theorem Compare_any (P Q : Nat → Prop) (j k : J) (ca cb : Array Value) (w : World) (hj : JV P 17 j w (.agg ca)) (hk : JV Q 17 k w (.agg cb)) (rj : RJ 16 j) (rk : RJ 16 k) :
    Calls Tryz.prog 19 #[.agg ca, .agg cb] w fun r w' => r = .returned (.int .i64 (cmpJ j k)) ∧ Gr w w' :=
  CV_all 16 j k ca cb w (hj.wide (fun _ _ => trivial) (Nat.le_refl _)) (hk.wide (fun _ _ => trivial) (Nat.le_refl _)) rj rk

end Go.Proofs.YticnfmfmgdfdeaaGreatDoor

namespace Go.Proofs.YticnfmfmgdfdeaaGreatDoor
open Go.RowKit

abbrev V8 (k : Int) (i d : Bool) (g : ByteArray) (x : Int) (t : ByteArray) (a6 : Option Addr) (n6 c6 : Nat) (a7 : Option Addr) (n7 c7 : Nat) : Array Value := #[.int .i64 k, .bool i, .bool d, .string g, .int .i64 x, .string t, .slice a6 n6 c6, .slice a7 n7 c7]
def VB (j : J) (u : Array Value) (q : Nat) (w : World) : Prop := w.heap[q]? = some (.cells u 28 (0, 0)) ∧ JV anyB 17 j w (.agg u)
theorem VB.gr {j : J} {u : Array Value} {q : Nat} {w w' : World} (h : VB j u q w) (g : Gr w w') : VB j u q w' :=
  ⟨(g.block q (lt_of_block h.1) (by simp)).trans h.1, h.2.gr g⟩
theorem VB.c {j : J} {a b c d e f g i : Value} {q : Nat} {w : World} (h : VB j #[a, b, c, d, e, f, g, i] q w) :
    w.cell? ⟨q, 0, none⟩ = some a ∧ w.cell? ⟨q, 1, none⟩ = some b ∧ w.cell? ⟨q, 2, none⟩ = some c ∧ w.cell? ⟨q, 3, none⟩ = some d ∧ w.cell? ⟨q, 4, none⟩ = some e ∧ w.cell? ⟨q, 5, none⟩ = some f ∧ w.cell? ⟨q, 6, none⟩ = some g ∧ w.cell? ⟨q, 7, none⟩ = some i := cells8 h.1
/-- What Parse answers, kept in a new box. -/
theorem parse_vb (s : Bs) (w : World) (hE : ES w) : Calls Tryz.prog 15 #[.string (Sx s)] w fun r w' => ∃ k i d g x t a6 n6 c6 a7 n7 c7,
    r = .returned (.tuple #[.agg (V8 k i d g x t a6 n6 c6 a7 n7 c7), .int .i64 (parseJ s).2]) ∧ VB (parseJ s).1 (V8 k i d g x t a6 n6 c6 a7 n7 c7) w'.heap.size (w'.alloc (.cells (V8 k i d g x t a6 n6 c6 a7 n7 c7) 28)) ∧ Gr w (w'.alloc (.cells (V8 k i d g x t a6 n6 c6 a7 n7 c7) 28)) := by
  refine (parse_is s (parseJ s).1 (parseJ s).2 rfl w hE).mono ?_
  rintro r w' ⟨a1, a2, c1, c2, rfl, hj, hg⟩
  exact ⟨_, _, _, _, _, _, _, _, _, _, _, _, rfl, ⟨heap_alloc_new w' _, (hj.wide (fun _ _ => trivial) (Nat.le_refl _)).gr (World.grownBy_alloc w' _ none)⟩, gtrans hg (World.grownBy_alloc w' _ none)⟩
/-- .. of a text of which it is known what it is parsed as. -/
theorem parse_vb' (s : Bs) (j : J) (e : Int) (hp : parseJ s = (j, e)) (w : World) (hE : ES w) : Calls Tryz.prog 15 #[.string (Sx s)] w fun r w' => ∃ k i d g x t a6 n6 c6 a7 n7 c7,
    r = .returned (.tuple #[.agg (V8 k i d g x t a6 n6 c6 a7 n7 c7), .int .i64 e]) ∧ VB j (V8 k i d g x t a6 n6 c6 a7 n7 c7) w'.heap.size (w'.alloc (.cells (V8 k i d g x t a6 n6 c6 a7 n7 c7) 28)) ∧ Gr w (w'.alloc (.cells (V8 k i d g x t a6 n6 c6 a7 n7 c7) 28)) := by
  have := parse_vb s w hE
  rw [hp] at this
  exact this
theorem text_vb {j : J} {u : Array Value} {q : Nat} {w : World} (h : VB j u q w) (hT : TB w) (hr : RJ 16 j) (hl : (textJ j).length ≤ 1000000) :
    Calls Tryz.prog 17 #[.agg u] w fun r w' => r = .returned (.string (Sx (textJ j))) ∧ Gr w w' := by
  obtain ⟨a1, a2, c1, c2, rfl⟩ := jv_jC h.2
  exact Text_any 17 anyB j a1 a2 c1 c2 w h.2 (okJ_of 16 j hr hl) hT (by omega) (textJ_ne j)
theorem cmp_vb {j k : J} {u v : Array Value} {p q : Nat} {w : World} (h : VB j u p w) (g : VB k v q w) (hr : RJ 16 j) (hk : RJ 16 k) :
    Calls Tryz.prog 19 #[.agg u, .agg v] w fun r w' => r = .returned (.int .i64 (cmpJ j k)) ∧ Gr w w' := Compare_any anyB anyB j k u v w h.2 g.2 hr hk
theorem parse_right (s : Bs) : RJ 16 (parseJ s).1 := (parseJ_ok s).1

end Go.Proofs.YticnfmfmgdfdeaaGreatDoor
