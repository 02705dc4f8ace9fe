/-
  The document's Records: in parts; its scan. Own work.
-/
import Derived.Test.YtoaglkbobndmeabSpcDA
import Derived.Deep.CutBlock
import Derived.BigQuiet

namespace Go.Proofs.Ytoaglkbobndmeab
open Go.RowKit

noncomputable def rrBody : Code := (Try.f20.body).getD .skip
noncomputable def rrFirst : Code := cR (cL (cR (cR (cR rrBody))))
noncomputable def rrLoop : Code := (blk 0 rrBody).getD .skip
noncomputable def rrScan : Code := (blk 2 rrBody).getD .skip
noncomputable def rrLast : Code := cR (cL (cR (cR (cR (cR (cR (cR (cR rrBody))))))))
def RRecs (w : World) (L : List Rc) (r : Ending) (w' : World) : Prop := ∃ v es, r = .returned v ∧ QOwns w.heap.size w' v es ∧ es.map (·.2) = L ∧ w.grownBy w' none
theorem far_of {base size n : Nat} {e : TypeId} {lv v : Value} {w : World} {xs : List Value} (hr : w.ownsRow base e size lv n xs) (h : ∀ k, base ≤ k → v.ownBlock = none ∨ v.ownBlock ≠ some k) : v.ownBlock = none ∨ v.ownBlock ≠ lv.ownBlock := by
  cases hl : lv.ownBlock with
  | none =>
    cases hv : v.ownBlock with
    | none => exact .inl rfl
    | some k => exact .inr fun e => by cases e
  | some k => exact h k (hr.lt k hl).1
theorem not_of {base size n q : Nat} {e : TypeId} {lv : Value} {w : World} {xs : List Value} (hr : w.ownsRow base e size lv n xs) (hq : q < base) : some q ≠ lv.ownBlock := fun k => by
  have := (hr.lt _ k.symm).1
  omega
theorem getD_at {l : List Nat} {k x : Nat} (h : l[k]? = some x) : l.getD k 0 = x := by simp [List.getD_eq_getElem?_getD, h]
set_option maxRecDepth 1000000 in
set_option maxHeartbeats 8000000 in
theorem rscan_any (w : World) (B q n : Nat) (wa ta : Option Addr) (wc tc : Nat) (lim : Int) (wh tx : List Nat) (last : Nat) (hb : w.heap[q]? = some (.cells (bx wa n wc ta n tc lim) 40 (0, 0))) (h : IRow B w (.slice wa n wc) wh) (ht : URow B w (.slice ta n tc) tx) (hn : n = wh.length) (hm : n = tx.length) (hl : n ≤ 100000)
    (u22 u23 u24 u25 u26 u27 u28 u29 u30 u31 u32 u33 u34 u35 u36 u37 u38 u39 u40 u41 u42 u43 u44 u45 u46 u47 u48 u49 u50 u51 u52 u53 u54 u55 u56 u57 u58 u59 u60 u61 v0 v1 v3 v4 v5 v6 v11 v12 v13 v14 v15 v16 v17 v18 v19 v20 v21 v62 v63 v64 v65 v66 v67 v68 v69 v70 v71 v72 v73 v74 v75 v76 v77 v78 v79 v80 v81 v82 v83 : Value) (Kc : Act → World → Prop) (Qc : Exit → Act → World → Prop)
    (hK : ∀ (x10 x22 x23 x24 x25 x26 x27 x28 x29 x30 x31 x32 x33 x34 x35 x36 x37 x38 x39 x40 x41 x42 x43 x44 x45 x46 x47 x48 x49 x50 x51 x52 x53 x54 x55 x56 x57 x58 x59 x60 x61 : Value) (mo : Bool) (nx : Nat), scanM wh tx last n = (if mo = true then some nx else none) → Kc ⟨#[v0, v1, .pointer (some ⟨q, 0, none⟩), v3, v4, v5, v6, .int .u64 (last : Int), .bool mo, .int .u64 (nx : Int), x10, v11, v12, v13, v14, v15, v16, v17, v18, v19, v20, v21, x22, x23, x24, x25, x26, x27, x28, x29, x30, x31, x32, x33, x34, x35, x36, x37, x38, x39, x40, x41, x42, x43, x44, x45, x46, x47, x48, x49, x50, x51, x52, x53, x54, x55, x56, x57, x58, x59, x60, x61, v62, v63, v64, v65, v66, v67, v68, v69, v70, v71, v72, v73, v74, v75, v76, v77, v78, v79, v80, v81, v82, v83], []⟩ w) :
    Code.wp Try.prog rrScan (Exit.then Kc Qc) ⟨#[v0, v1, .pointer (some ⟨q, 0, none⟩), v3, v4, v5, v6, .int .u64 (last : Int), .bool false, .int .u64 0, .int .i64 0, v11, v12, v13, v14, v15, v16, v17, v18, v19, v20, v21, u22, u23, u24, u25, u26, u27, u28, u29, u30, u31, u32, u33, u34, u35, u36, u37, u38, u39, u40, u41, u42, u43, u44, u45, u46, u47, u48, u49, u50, u51, u52, u53, u54, u55, u56, u57, u58, u59, u60, u61, v62, v63, v64, v65, v66, v67, v68, v69, v70, v71, v72, v73, v74, v75, v76, v77, v78, v79, v80, v81, v82, v83], []⟩ w := by
  conv => arg 2; whnf
  have HK := Lib.hid hK
  clear hK
  have HB := Lib.hid hb
  have H := Lib.hid h
  have HT := Lib.hid ht
  have HN := Lib.hid hn
  have HM := Lib.hid hm
  obtain ⟨k0, k1, k2, -⟩ := cells3 hb
  clear hb h ht hn hm
  go_wp2
  go_loopw [8, 9, 10] (fun mv nv i wr => ∃ (k : Nat) (mo : Bool) (nx : Nat), k ≤ n ∧ i = .int .i64 (k : Int) ∧ mv = .bool mo ∧ nv = .int .u64 (nx : Int) ∧ Hid (scanM wh tx last k = (if mo = true then some nx else none)) ∧ w = wr) (fun _ _ i _ => n - (intOf i).toNat)
  case atStart => exact ⟨0, false, 0, Nat.zero_le _, rfl, rfl, rfl, Lib.hid rfl, rfl⟩
  case round =>
    obtain ⟨k, mo, nx, hk, rfl, rfl, rfl, HSC, rfl⟩ := hrel
    by_cases hkn : k < n
    · have hki : (k : Int) < (n : Int) := by omega
      obtain ⟨x, hx⟩ : ∃ x, wh[k]? = some x := ⟨wh[k]'(by rw [← HN.out]; exact hkn), List.getElem?_eq_getElem _⟩
      obtain ⟨z, hz⟩ : ∃ z, tx[k]? = some z := ⟨tx[k]'(by rw [← HM.out]; exact hkn), List.getElem?_eq_getElem _⟩
      obtain ⟨g1, rfl, -, e0⟩ := H.out.at hx
      obtain ⟨g2, rfl, -, e1⟩ := HT.out.at hz
      have HDX := Lib.hid (getD_at hx)
      have HDZ := Lib.hid (getD_at hz)
      clear hx hz
      by_cases h2 : x = 2
      · subst h2
        by_cases hlz : last < z
        · have hlzi : (last : Int) < (z : Int) := by omega
          have HH := Lib.hid (show hitS wh tx last k = true by unfold hitS; rw [HDX.out, HDZ.out]; simp [hlz])
          cases mo with
          | false =>
            go_wp2
            go_roundw
            case rel => exact ⟨k + 1, true, z, by omega, by go_num, rfl, rfl, Lib.hid (by unfold scanM; rw [if_pos HH.out, HSC.out]; show some (tx.getD k 0) = some z; rw [HDZ.out]), trivial⟩
            case measure => simp [intOf]; omega
          | true =>
            by_cases hzn : z < nx
            · have hzni : (z : Int) < (nx : Int) := by omega
              go_wp2
              go_roundw
              case rel => exact ⟨k + 1, true, z, by omega, by go_num, rfl, rfl, Lib.hid (by unfold scanM; rw [if_pos HH.out, HSC.out]; simp only [if_true]; rw [HDZ.out, if_pos hzn]), trivial⟩
              case measure => simp [intOf]; omega
            · have hzni : ¬ (z : Int) < (nx : Int) := by omega
              go_wp2
              go_roundw
              case rel => exact ⟨k + 1, true, nx, by omega, by go_num, rfl, rfl, Lib.hid (by unfold scanM; rw [if_pos HH.out, HSC.out]; simp only [if_true]; rw [HDZ.out, if_neg hzn]), trivial⟩
              case measure => simp [intOf]; omega
        · have hlzi : ¬ (last : Int) < (z : Int) := by omega
          have HH := Lib.hid (show hitS wh tx last k = false by unfold hitS; rw [HDX.out, HDZ.out]; simp [hlz])
          go_wp2
          go_roundw
          case rel => exact ⟨k + 1, mo, nx, by omega, by go_num, rfl, rfl, Lib.hid (by unfold scanM; rw [HH.out]; exact HSC.out), trivial⟩
          case measure => simp [intOf]; omega
      · have h2i : ¬ (x : Int) = 2 := by omega
        have h2b : ((x : Int) == 2) = false := by simpa using h2i
        have HH := Lib.hid (show hitS wh tx last k = false by unfold hitS; rw [HDX.out]; simp [h2])
        go_wp2
        go_roundw
        case rel => exact ⟨k + 1, mo, nx, by omega, by go_num, rfl, rfl, Lib.hid (by unfold scanM; rw [HH.out]; exact HSC.out), trivial⟩
        case measure => simp [intOf]; omega
    · have hki : ¬ (k : Int) < (n : Int) := by omega
      have HKN := Lib.hid (show k = n by omega)
      go_wp2
      exact HK.out _ _ _ _ _ _ _ _ _ _ _ _ _ _ _ _ _ _ _ _ _ _ _ _ _ _ _ _ _ _ _ _ _ _ _ _ _ _ _ _ _ mo nx (by rw [← HKN.out]; exact HSC.out)

end Go.Proofs.Ytoaglkbobndmeab

namespace Go.Proofs.Ytoaglkbobndmeab
open Go.RowKit

set_option maxRecDepth 1000000 in
set_option maxHeartbeats 8000000 in
theorem rfirst_any (w : World) (base un uc : Nat) (ua : Option Addr) (US : List Nat) (b : Bool) (hb : b = decide (US ≠ [])) (hU : NRow 22 encP base w (.slice ua un uc) US) (h32 : ∀ p ∈ US, p < 4294967296) (hbase : base ≤ w.heap.size)
    (u16 u17 u18 u19 u20 v0 v1 v2 v3 v4 v7 v8 v9 v10 v11 v12 v13 v14 v21 v22 v23 v24 v25 v26 v27 v28 v29 v30 v31 v32 v33 v34 v35 v36 v37 v38 v39 v40 v41 v42 v43 v44 v45 v46 v47 v48 v49 v50 v51 v52 v53 v54 v55 v56 v57 v58 v59 v60 v61 v62 v63 v64 v65 v66 v67 v68 v69 v70 v71 v72 v73 v74 v75 v76 v77 v78 v79 v80 v81 v82 v83 : Value) (Kc : Act → World → Prop) (Qc : Exit → Act → World → Prop)
    (hK : ∀ (x16 x17 x18 x19 x20 : Value) (v' : Value) (es : List (Value × Rc)) (w5 : World), QOwns base w5 v' es → es.map (·.2) = recM US 0 → w.grownBy w5 none → Kc ⟨#[v0, v1, v2, v3, v4, v', .slice ua un uc, v7, v8, v9, v10, v11, v12, v13, v14, .bool b, x16, x17, x18, x19, x20, v21, v22, v23, v24, v25, v26, v27, v28, v29, v30, v31, v32, v33, v34, v35, v36, v37, v38, v39, v40, v41, v42, v43, v44, v45, v46, v47, v48, v49, v50, v51, v52, v53, v54, v55, v56, v57, v58, v59, v60, v61, v62, v63, v64, v65, v66, v67, v68, v69, v70, v71, v72, v73, v74, v75, v76, v77, v78, v79, v80, v81, v82, v83], []⟩ w5) :
    Code.wp Try.prog rrFirst (Exit.then Kc Qc) ⟨#[v0, v1, v2, v3, v4, .slice none 0 0, .slice ua un uc, v7, v8, v9, v10, v11, v12, v13, v14, .bool b, u16, u17, u18, u19, u20, v21, v22, v23, v24, v25, v26, v27, v28, v29, v30, v31, v32, v33, v34, v35, v36, v37, v38, v39, v40, v41, v42, v43, v44, v45, v46, v47, v48, v49, v50, v51, v52, v53, v54, v55, v56, v57, v58, v59, v60, v61, v62, v63, v64, v65, v66, v67, v68, v69, v70, v71, v72, v73, v74, v75, v76, v77, v78, v79, v80, v81, v82, v83], []⟩ w := by
  conv => arg 2; whnf
  have HK := Lib.hid hK
  clear hK
  have HU := Lib.hid hU
  have H32 := Lib.hid h32
  have hbs := hbase
  clear hU h32
  by_cases h0 : US = []
  · have hbf : b = false := by rw [hb]; simpa using h0
    have HE := Lib.hid (show recM US 0 = [] by unfold recM; rw [if_pos h0])
    clear hb h0
    subst hbf
    go_wp2
    exact HK.out _ _ _ _ _ (.slice none 0 0) [] w (QOwns.nil _ _) (by rw [HE.out]; rfl) (grefl _ _)
  · have hbt : b = true := by rw [hb]; simpa using h0
    have HE := Lib.hid (show recM US 0 = [(0, US)] by unfold recM; rw [if_neg h0])
    clear hb h0
    subst hbt
    go_wp2_with (first
      | (at_builtin; refine wpList_pushR w rfl _ _ rfl base (.slice none 0 0) [] 0 0 ua un uc US _ rfl rfl rfl rfl (QOwns.nil _ _) HU.out H32.out (by decide) (by simp) hbs ?_; intro v5 w5 ho5 hg5; have HO5 := Lib.hid ho5; have HG5 := Lib.hid (show w.grownBy w5 none from hg5); clear ho5 hg5)
      | go_in)
    exact HK.out _ _ _ _ _ v5 _ w5 HO5.out (by rw [HE.out]; rfl) HG5.out

set_option maxRecDepth 1000000 in
set_option maxHeartbeats 8000000 in
theorem rlast_any (W w : World) (base gn gc txn : Nat) (ga : Option Addr) (GO : List Nat) (b : Bool) (lv : Value) (es : List (Value × Rc)) (hb : b = decide (GO ≠ [])) (hU : NRow 22 encP base w (.slice ga gn gc) GO) (h32 : ∀ p ∈ GO, p < 4294967296) (htx : txn < 18446744073709551616) (ho : QOwns base w lv es) (hel : es.length ≤ 100000) (hg : W.grownBy w none) (hbase : base ≤ w.heap.size) (hW : W.heap.size ≤ base)
    (u77 u78 u79 u80 u81 u82 v0 v2 v3 v4 v7 v8 v9 v10 v11 v12 v13 v14 v15 v16 v17 v18 v19 v20 v21 v22 v23 v24 v25 v26 v27 v28 v29 v30 v31 v32 v33 v34 v35 v36 v37 v38 v39 v40 v41 v42 v43 v44 v45 v46 v47 v48 v49 v50 v51 v52 v53 v54 v55 v56 v57 v58 v59 v60 v61 v62 v63 v64 v65 v66 v67 v68 v69 v70 v71 v72 v73 v74 v75 v83 : Value) (Kc : Act → World → Prop) (Qc : Exit → Act → World → Prop)
    (hK : ∀ (x77 x78 x79 x80 x81 x82 : Value) (v' : Value) (es' : List (Value × Rc)) (w5 : World), QOwns base w5 v' es' → es'.map (·.2) = es.map (·.2) ++ recM GO txn → W.grownBy w5 none → Kc ⟨#[v0, .int .u64 (txn : Int), v2, v3, v4, v', .slice ga gn gc, v7, v8, v9, v10, v11, v12, v13, v14, v15, v16, v17, v18, v19, v20, v21, v22, v23, v24, v25, v26, v27, v28, v29, v30, v31, v32, v33, v34, v35, v36, v37, v38, v39, v40, v41, v42, v43, v44, v45, v46, v47, v48, v49, v50, v51, v52, v53, v54, v55, v56, v57, v58, v59, v60, v61, v62, v63, v64, v65, v66, v67, v68, v69, v70, v71, v72, v73, v74, v75, .bool b, x77, x78, x79, x80, x81, x82, v83], []⟩ w5) :
    Code.wp Try.prog rrLast (Exit.then Kc Qc) ⟨#[v0, .int .u64 (txn : Int), v2, v3, v4, lv, .slice ga gn gc, v7, v8, v9, v10, v11, v12, v13, v14, v15, v16, v17, v18, v19, v20, v21, v22, v23, v24, v25, v26, v27, v28, v29, v30, v31, v32, v33, v34, v35, v36, v37, v38, v39, v40, v41, v42, v43, v44, v45, v46, v47, v48, v49, v50, v51, v52, v53, v54, v55, v56, v57, v58, v59, v60, v61, v62, v63, v64, v65, v66, v67, v68, v69, v70, v71, v72, v73, v74, v75, .bool b, u77, u78, u79, u80, u81, u82, v83], []⟩ w := by
  conv => arg 2; whnf
  have HK := Lib.hid hK
  clear hK
  have HU := Lib.hid hU
  have H32 := Lib.hid h32
  have HO := Lib.hid ho
  have HG := Lib.hid hg
  have hbs := hbase
  clear hU h32 hg
  obtain ⟨la, lc, hlv⟩ := own_shape ho.row
  subst hlv
  clear ho
  by_cases h0 : GO = []
  · have hbf : b = false := by rw [hb]; simpa using h0
    have HE := Lib.hid (show recM GO txn = [] by unfold recM; rw [if_pos h0])
    clear hb h0
    subst hbf
    go_wp2
    exact HK.out _ _ _ _ _ _ _ es w HO.out (by rw [HE.out]; simp) HG.out
  · have hbt : b = true := by rw [hb]; simpa using h0
    have HE := Lib.hid (show recM GO txn = [(txn, GO)] by unfold recM; rw [if_neg h0])
    clear hb h0
    subst hbt
    go_wp2_with (first
      | (at_builtin; refine wpList_pushR w rfl _ _ rfl base (.slice la es.length lc) es txn (txn : Int) ga gn gc GO _ rfl rfl rfl rfl HO.out HU.out H32.out htx hel hbs ?_; intro v5 w5 ho5 hg5; have HO5 := Lib.hid ho5; have HG5 := Lib.hid (grow_own HG.out HO.out.row hg5 hW); clear ho5 hg5)
      | go_in)
    exact HK.out _ _ _ _ _ _ v5 _ w5 HO5.out (by rw [HE.out]; simp) HG5.out

end Go.Proofs.Ytoaglkbobndmeab

namespace Go.Proofs.Ytoaglkbobndmeab
open Go.RowKit

set_option maxRecDepth 1000000 in
set_option maxHeartbeats 8000000 in
theorem rloop_any (W w : World) (B base q n : Nat) (wa ta : Option Addr) (wc tc lim : Nat) (wh tx : List Nat) (NR : List Rc) (lv0 : Value) (es0 : List (Value × Rc)) (hb : w.heap[q]? = some (.cells (bx wa n wc ta n tc (lim : Int)) 40 (0, 0))) (h : IRow B w (.slice wa n wc) wh) (ht : URow B w (.slice ta n tc) tx) (hn : n = wh.length) (hm : n = tx.length) (hl : n ≤ 50000)
    (hq : q < base) (hwi : ∀ k, base ≤ k → (Value.slice wa n wc).ownBlock = none ∨ (Value.slice wa n wc).ownBlock ≠ some k) (hti : ∀ k, base ≤ k → (Value.slice ta n tc).ownBlock = none ∨ (Value.slice ta n tc).ownBlock ≠ some k)
    (hw : Waits wh tx NR) (hNR : NR.length ≤ 50000) (ho : QOwns base w lv0 es0) (he0 : es0.length ≤ 1) (hg : W.grownBy w none) (hW : W.heap.size ≤ base) (hbase : base ≤ w.heap.size)
    (u9 u10 u21 u22 u23 u24 u25 u26 u27 u28 u29 u30 u31 u32 u33 u34 u35 u36 u37 u38 u39 u40 u41 u42 u43 u44 u45 u46 u47 u48 u49 u50 u51 u52 u53 u54 u55 u56 u57 u58 u59 u60 u61 u62 u63 u64 u65 u66 u67 u68 u69 u70 u71 v0 v1 v3 v4 v6 v11 v12 v13 v14 v15 v16 v17 v18 v19 v20 v72 v73 v74 v75 v76 v77 v78 v79 v80 v81 v82 v83 : Value) (Kc : Act → World → Prop) (Qc : Exit → Act → World → Prop)
    (hK : ∀ (x7 x8 x9 x10 x21 x22 x23 x24 x25 x26 x27 x28 x29 x30 x31 x32 x33 x34 x35 x36 x37 x38 x39 x40 x41 x42 x43 x44 x45 x46 x47 x48 x49 x50 x51 x52 x53 x54 x55 x56 x57 x58 x59 x60 x61 x62 x63 x64 x65 x66 x67 x68 x69 x70 x71 : Value) (v' : Value) (es : List (Value × Rc)) (w5 : World), QOwns base w5 v' es → es.map (·.2) = es0.map (·.2) ++ NR → W.grownBy w5 none → w5.heap[q]? = some (.cells (bx wa n wc ta n tc (lim : Int)) 40 (0, 0)) → IRow B w5 (.slice wa n wc) wh → URow B w5 (.slice ta n tc) tx → base ≤ w5.heap.size → Kc ⟨#[v0, v1, .pointer (some ⟨q, 0, none⟩), v3, v4, v', v6, x7, x8, x9, x10, v11, v12, v13, v14, v15, v16, v17, v18, v19, v20, x21, x22, x23, x24, x25, x26, x27, x28, x29, x30, x31, x32, x33, x34, x35, x36, x37, x38, x39, x40, x41, x42, x43, x44, x45, x46, x47, x48, x49, x50, x51, x52, x53, x54, x55, x56, x57, x58, x59, x60, x61, x62, x63, x64, x65, x66, x67, x68, x69, x70, x71, v72, v73, v74, v75, v76, v77, v78, v79, v80, v81, v82, v83], []⟩ w5) :
    Code.wp Try.prog rrLoop (Exit.then Kc Qc) ⟨#[v0, v1, .pointer (some ⟨q, 0, none⟩), v3, v4, lv0, v6, .int .u64 0, .bool true, u9, u10, v11, v12, v13, v14, v15, v16, v17, v18, v19, v20, u21, u22, u23, u24, u25, u26, u27, u28, u29, u30, u31, u32, u33, u34, u35, u36, u37, u38, u39, u40, u41, u42, u43, u44, u45, u46, u47, u48, u49, u50, u51, u52, u53, u54, u55, u56, u57, u58, u59, u60, u61, u62, u63, u64, u65, u66, u67, u68, u69, u70, u71, v72, v73, v74, v75, v76, v77, v78, v79, v80, v81, v82, v83], []⟩ w := by
  conv => arg 2; whnf
  have HK := Lib.hid hK
  clear hK
  have HB := Lib.hid hb
  have H := Lib.hid h
  have HT := Lib.hid ht
  have HN := Lib.hid hn
  have HM := Lib.hid hm
  have HWI := Lib.hid hwi
  have HTI := Lib.hid hti
  have HWT := Lib.hid hw
  have HO := Lib.hid ho
  have HG := Lib.hid hg
  obtain ⟨N, hNN⟩ : ∃ N, N = NR.length := ⟨_, rfl⟩
  rw [← hNN] at hNR
  have HNN := Lib.hid hNN
  have hbs := hbase
  clear hb h ht hn hm hwi hti hw ho hg hNN
  go_wp2
  go_loopg [5, 7, 8] (N + 1) (fun g ov lv mv wr => ∃ (k : Nat) (mo : Bool) (es : List (Value × Rc)), k ≤ N ∧ (mo = false → k = N) ∧ (N - k) + mo.toNat = g ∧ mv = .bool mo ∧ lv = .int .u64 ((lastT NR k : Nat) : Int) ∧ QOwns base wr ov es ∧ Hid (es.map (·.2) = es0.map (·.2) ++ NR.take k) ∧ W.grownBy wr none ∧ base ≤ wr.heap.size ∧ wr.heap[q]? = some (.cells (bx wa n wc ta n tc (lim : Int)) 40 (0, 0)) ∧ IRow B wr (.slice wa n wc) wh ∧ URow B wr (.slice ta n tc) tx)
  case atStart => exact ⟨0, true, es0, Nat.zero_le _, (fun e => by cases e), by simp, rfl, rfl, HO.out, Lib.hid (by simp), HG.out, hbs, HB.out, H.out, HT.out⟩
  case round =>
    obtain ⟨k, mo, es, hk, hmk, hgk, rfl, rfl, ho2, HE2, hg2, hb2, hbx2, hi2, hu2⟩ := hrel
    have HO2 := Lib.hid ho2
    have HG2 := Lib.hid hg2
    have HBX2 := Lib.hid hbx2
    have HI2 := Lib.hid hi2
    have HU2 := Lib.hid hu2
    have hel : es.length ≤ 60000 := by
      have h5 := congrArg List.length HE2.out
      simp only [List.length_map, List.length_append, List.length_take] at h5
      omega
    obtain ⟨oa, oc, hov⟩ := own_shape ho2.row
    subst hov
    obtain ⟨k0, k1, k2, -⟩ := cells3 hbx2
    clear ho2 hg2 hbx2 hi2 hu2
    obtain ⟨last, hlast⟩ : ∃ x, x = lastT NR k := ⟨_, rfl⟩
    rw [← hlast]
    have HLT := Lib.hid hlast
    clear hlast
    cases mo with
    | false =>
      have HKN := Lib.hid (hmk rfl)
      clear hmk
      go_wp2
      exact HK.out _ _ _ _ _ _ _ _ _ _ _ _ _ _ _ _ _ _ _ _ _ _ _ _ _ _ _ _ _ _ _ _ _ _ _ _ _ _ _ _ _ _ _ _ _ _ _ _ _ _ _ _ _ _ _ _ es wr HO2.out (by rw [HE2.out, HKN.out, HNN.out, List.take_length]) HG2.out HBX2.out HI2.out HU2.out hb2
    | true =>
      have hgk1 : (N - k) + 1 = gk := hgk
      clear hmk hgk
      go_upto_block 2 with fail
      refine rscan_any wr B q n wa ta wc tc (lim : Int) wh tx last HBX2.out HI2.out HU2.out HN.out HM.out (by omega) _ _ _ _ _ _ _ _ _ _ _ _ _ _ _ _ _ _ _ _ _ _ _ _ _ _ _ _ _ _ _ _ _ _ _ _ _ _ _ _ _ _ _ _ _ _ _ _ _ _ _ _ _ _ _ _ _ _ _ _ _ _ _ _ _ _ _ _ _ _ _ _ _ _ _ _ _ _ _ _ _ (fun x10 x22 x23 x24 x25 x26 x27 x28 x29 x30 x31 x32 x33 x34 x35 x36 x37 x38 x39 x40 x41 x42 x43 x44 x45 x46 x47 x48 x49 x50 x51 x52 x53 x54 x55 x56 x57 x58 x59 x60 x61 mo nx hsc => ?_)
      have hsc2 := HWT.out.scan (k := k) (by rw [← HNN.out]; exact hk)
      rw [← HLT.out, ← HN.out, hsc] at hsc2
      clear hsc
      cases hr : NR[k]? with
      | none =>
        rw [hr] at hsc2
        have hmo : mo = false := by cases mo <;> simp at hsc2 ⊢
        have HKN := Lib.hid (show k = N by have := List.getElem?_eq_none_iff.1 hr; rw [← HNN.out] at this; omega)
        subst hmo
        clear hsc2 hr
        go_wp2
        go_roundg (N - k)
        case rel => exact ⟨k, false, es, hk, (fun _ => HKN.out), by simp, rfl, by rw [HLT.out], HO2.out, HE2, HG2.out, hb2, HBX2.out, HI2.out, HU2.out⟩
        case measure => omega
      | some r =>
        rw [hr] at hsc2
        have hmem := List.mem_of_getElem? hr
        have hmo : mo = true ∧ nx = r.1 := by cases mo <;> simp at hsc2 ⊢; exact hsc2
        obtain ⟨hmo, hnx⟩ := hmo
        subst hmo
        have hkN : k < N := by rw [HNN.out]; exact (List.getElem?_eq_some_iff.1 hr).1
        have HTK := Lib.hid (take_snoc hr)
        have HLS := Lib.hid (show nx = lastT NR (k + 1) by rw [lastT_succ hr, hnx])
        have HP := Lib.hid (HWT.out.pos r hmem).2
        have HS := Lib.hid (HWT.out.some_ r hmem).2
        obtain ⟨t, ps⟩ := r
        simp only at hnx
        subst hnx
        have HKP := Lib.hid (show someK (fun p => wh.getD p 0 == 2 && tx.getD p 0 == nx) wh.length = ps from HS.out)
        have h32 : ∀ p ∈ ps, p < 4294967296 := fun p hp => by
          have h1 : p ∈ someK (fun p => wh.getD p 0 == 2 && tx.getD p 0 == nx) wh.length := by rw [HKP.out]; exact hp
          have h2 := (mem_someK.1 h1).1
          rw [← HN.out] at h2
          omega
        have H32 := Lib.hid h32
        clear hsc2 hr hmem h32 HS
        go_wp2_with (first
          | (go_at_call 31; have K := rsome_of wr B wa ta wc tc lim wh tx (by rw [← HN.out]; exact HI2.out) (by rw [← HM.out]; exact HU2.out) (by rw [← HN.out]; omega) 2 nx (fun p => wh.getD p 0 == 2 && tx.getD p 0 == nx) (by rw [← HN.out, ← HM.out]) (fun p x z hx hz => by rw [getD_at hx, getD_at hz]) 2 rfl (nx : Int) rfl; rw [← HN.out, ← HM.out] at K; (with_reducible refine K.mono ?_); clear K; rintro r w6 ⟨v6, rfl, hv6, hg6⟩; rw [HN.out, HKP.out] at hv6; obtain ⟨a6, c6, hs6⟩ := hv6.shape; subst hs6; have HV6 := Lib.hid (hv6.mono hb2); have HG6 := Lib.hid hg6; have HO6 := Lib.hid (HO2.out.grown hg6); have hb6 := Nat.le_trans hb2 hg6.size; clear hv6 hg6)
          | (at_builtin; refine wpList_pushR w6 rfl _ _ rfl base (.slice oa es.length oc) es nx (nx : Int) a6 ps.length c6 ps _ rfl rfl rfl rfl HO6.out HV6.out H32.out HP.out (by omega) hb6 ?_; intro v7 w7 ho7 hg7; have HO7 := Lib.hid ho7; have HG7 := Lib.hid (grow_own (gtrans HG2.out HG6.out) HO6.out.row hg7 hW); have HS7 := Lib.hid hg7.size; have HI7 := Lib.hid ((HI2.out.grown HG6.out).far hg7 (far_of HO6.out.row HWI.out)); have HU7 := Lib.hid ((HU2.out.grown HG6.out).far hg7 (far_of HO6.out.row HTI.out)); have HX7 := Lib.hid ((hg7.block q (Nat.lt_of_lt_of_le hq hb6) (not_of HO6.out.row hq)).trans ((HG6.out.block _ (lt_of_block HBX2.out) (by simp)).trans HBX2.out)); clear ho7 hg7)
          | go_in)
        go_roundg (N - (k + 1) + 1)
        case rel => exact ⟨k + 1, true, _, by omega, (fun e => by cases e), by simp, rfl, by rw [HLS.out], HO7.out, Lib.hid (by rw [HTK.out, List.map_append, HE2.out, List.append_assoc]; rfl), HG7.out, Nat.le_trans hb6 HS7.out, HX7.out, HI7.out, HU7.out⟩
        case measure => omega

end Go.Proofs.Ytoaglkbobndmeab

namespace Go.Proofs.Ytoaglkbobndmeab
open Go.RowKit

set_option maxRecDepth 1000000 in
set_option maxHeartbeats 8000000 in
theorem rrecords_any (w : World) (B : Nat) (wa ta : Option Addr) (wc tc lim : Nat) (wh tx : List Nat) (NR : List Rc) (txn : Nat) (h : IRow B w (.slice wa wh.length wc) wh) (ht : URow B w (.slice ta tx.length tc) tx) (htl : tx.length = wh.length) (hl : wh.length ≤ 50000)
    (hw : Waits wh tx NR) (hNR : NR.length ≤ 50000) (htx : txn < 18446744073709551616) :
    Calls Try.prog 20 #[.agg #[.slice wa wh.length wc, .slice ta tx.length tc, .int .i64 (lim : Int)], .int .u64 (txn : Int)] w fun r w' => RRecs w (recM (someK (fun p => wh.getD p 0 == 1) wh.length) 0 ++ NR ++ recM (someK (fun p => wh.getD p 0 == 4) wh.length) txn) r w' := by
  have HTL := Lib.hid htl
  have HWT := Lib.hid hw
  have HWI := Lib.hid h.off'
  have HTI := Lib.hid ht.off'
  have hg := World.grownBy_alloc w (.cells (bx wa wh.length wc ta tx.length tc lim) 40) none
  have HB0 := Lib.hid (heap_alloc_new w (.cells (bx wa wh.length wc ta tx.length tc lim) 40))
  have H := Lib.hid (h.grown hg)
  have HT := Lib.hid (ht.grown hg)
  have HG := Lib.hid hg
  have hq : w.heap.size < (w.alloc (.cells (bx wa wh.length wc ta tx.length tc lim) 40)).heap.size := by simp
  clear h ht hg htl hw
  go_enter Try.func20, Try.ntmps20
  go_upto_region 2 with fail
  generalize w.alloc (.cells (bx wa wh.length wc ta tx.length tc lim) 40) = W at HB0 H HT HG hq ⊢
  obtain ⟨n, hn⟩ : ∃ n, n = wh.length := ⟨_, rfl⟩
  obtain ⟨m, hm⟩ : ∃ m, m = tx.length := ⟨_, rfl⟩
  rw [← hn, ← hm] at HB0
  rw [← hn] at H HWI
  rw [← hm] at HT HTI
  rw [← hn] at hl
  simp only [← hn, ← hm]
  have HN := Lib.hid hn
  have HM := Lib.hid hm
  have HMN := Lib.hid (show m = n by rw [hm, hn, HTL.out])
  clear hn hm
  obtain ⟨US, hUS⟩ : ∃ l, l = someK (fun p => wh.getD p 0 == 1) wh.length := ⟨_, rfl⟩
  obtain ⟨GO, hGO⟩ : ∃ l, l = someK (fun p => wh.getD p 0 == 4) wh.length := ⟨_, rfl⟩
  have h32 : ∀ (y : Nat), ∀ p ∈ someK (fun p => wh.getD p 0 == y) wh.length, p < 4294967296 := fun y p hp => by
    have h2 := (mem_someK.1 hp).1
    rw [← HN.out] at h2
    omega
  have H321 := Lib.hid (h32 1)
  have H324 := Lib.hid (h32 4)
  have HL1 := Lib.hid hUS.symm
  have HL4 := Lib.hid hGO.symm
  rw [← hUS] at H321
  rw [← hGO] at H324
  obtain ⟨un, hun⟩ : ∃ k, k = US.length := ⟨_, rfl⟩
  obtain ⟨gn, hgn⟩ : ∃ k, k = GO.length := ⟨_, rfl⟩
  have HU1 := Lib.hid hun
  have HU4 := Lib.hid hgn
  have hbs1 : W.heap.size ≤ W.heap.size := Nat.le_refl _
  clear hUS hGO hun hgn h32
  obtain ⟨k0, k1, k2, -⟩ := cells3 HB0.out
  go_upto_if 15 with (first
    | (go_at_call 31; have K := rsome_any W B wa ta wc tc lim wh tx (by rw [← HN.out]; exact H.out) (by rw [← HM.out]; exact HT.out) (by rw [← HN.out]; omega) 1 0 (fun p => wh.getD p 0 == 1) (fun p x hx => by rw [getD_at hx]) 1 rfl 0 rfl; rw [← HN.out, ← HM.out] at K; (with_reducible refine K.mono ?_); clear K; rintro r v1 ⟨u1, rfl, hv6, hg6⟩; rw [HN.out, HL1.out] at hv6; obtain ⟨a1, c1, hs6⟩ := hv6.shape; rw [← HU1.out] at hs6; subst hs6; have HV1 := Lib.hid (hv6.mono hbs1); have HG1 := Lib.hid hg6; clear hv6 hg6)
    | go_in)
  have hbv := HG1.out.size
  refine rfirst_any v1 W.heap.size un c1 a1 US _ ?hb HV1.out H321.out hbv _ _ _ _ _ _ _ _ _ _ _ _ _ _ _ _ _ _ _ _ _ _ _ _ _ _ _ _ _ _ _ _ _ _ _ _ _ _ _ _ _ _ _ _ _ _ _ _ _ _ _ _ _ _ _ _ _ _ _ _ _ _ _ _ _ _ _ _ _ _ _ _ _ _ _ _ _ _ _ _ _ _ _ (fun x16 x17 x18 x19 x20 v7 es1 w7 ho1 he1 hg1 => ?_)
  case hb =>
    refine decide_eq_decide.2 ?_
    rw [← List.length_pos_iff, ← HU1.out]
    (try omega)
  have HO1 := Lib.hid ho1
  have HE1 := Lib.hid he1
  have HGW := Lib.hid (gtrans HG1.out hg1)
  have hel1 : es1.length ≤ 1 := by
    have h5 := congrArg List.length HE1.out
    have h6 : (recM US 0).length ≤ 1 := by unfold recM; split <;> simp
    simp only [List.length_map] at h5
    omega
  clear ho1 he1 hg1
  go_upto_block 0 with fail
  have hB7 := (HGW.out.block _ (lt_of_block HB0.out) (by simp)).trans HB0.out
  rw [HMN.out] at hB7
  refine rloop_any w w7 B W.heap.size w.heap.size n wa ta wc tc lim wh tx NR v7 es1 hB7 (H.out.grown HGW.out) (by rw [← HMN.out]; exact HT.out.grown HGW.out) HN.out (by rw [← HMN.out]; exact HM.out) hl hq (fun k hk => HWI.out k (by omega)) (fun k hk => by rw [← HMN.out]; exact HTI.out k (by omega)) HWT.out hNR HO1.out hel1 (gtrans HG.out HGW.out) HG.out.size HGW.out.size _ _ _ _ _ _ _ _ _ _ _ _ _ _ _ _ _ _ _ _ _ _ _ _ _ _ _ _ _ _ _ _ _ _ _ _ _ _ _ _ _ _ _ _ _ _ _ _ _ _ _ _ _ _ _ _ _ _ _ _ _ _ _ _ _ _ _ _ _ _ _ _ _ _ _ _ _ _ _ _ _ _ (fun x7 x8 x9 x10 x21 x22 x23 x24 x25 x26 x27 x28 x29 x30 x31 x32 x33 x34 x35 x36 x37 x38 x39 x40 x41 x42 x43 x44 x45 x46 x47 x48 x49 x50 x51 x52 x53 x54 x55 x56 x57 x58 x59 x60 x61 x62 x63 x64 x65 x66 x67 x68 x69 x70 x71 v8 es2 w8 ho2 he2 hg2 hb2 hi2 hu2 hbs4 => ?_)
  have HO2 := Lib.hid ho2
  have HE2 := Lib.hid he2
  have HG2 := Lib.hid hg2
  have H2 := Lib.hid hi2
  have HT2 := Lib.hid (show URow B w8 (.slice ta m tc) tx by rw [HMN.out]; exact hu2)
  have hel2 : es2.length ≤ 100000 := by
    have h5 := congrArg List.length HE2.out
    simp only [List.length_map, List.length_append] at h5
    omega
  obtain ⟨k0, k1, k2, -⟩ := cells3 hb2
  rw [← HMN.out] at k1
  clear ho2 he2 hg2 hb2 hi2 hu2 hB7
  go_upto_if 76 with (first
    | (go_at_call 31; have K := rsome_any w8 B wa ta wc tc lim wh tx (by rw [← HN.out]; exact H2.out) (by rw [← HM.out]; exact HT2.out) (by rw [← HN.out]; omega) 4 0 (fun p => wh.getD p 0 == 4) (fun p x hx => by rw [getD_at hx]) 4 rfl 0 rfl; rw [← HN.out, ← HM.out] at K; (with_reducible refine K.mono ?_); clear K; rintro r v4 ⟨u4, rfl, hv6, hg6⟩; rw [HN.out, HL4.out] at hv6; obtain ⟨a4, c4, hs6⟩ := hv6.shape; rw [← HU4.out] at hs6; subst hs6; have HV4 := Lib.hid (hv6.mono hbs4); have HG4 := Lib.hid hg6; clear hv6 hg6)
    | go_in)
  refine rlast_any w v4 W.heap.size gn c4 txn a4 GO _ v8 es2 ?hb HV4.out H324.out htx (HO2.out.grown HG4.out) hel2 (gtrans HG2.out HG4.out) (Nat.le_trans hbs4 HG4.out.size) HG.out.size _ _ _ _ _ _ _ _ _ _ _ _ _ _ _ _ _ _ _ _ _ _ _ _ _ _ _ _ _ _ _ _ _ _ _ _ _ _ _ _ _ _ _ _ _ _ _ _ _ _ _ _ _ _ _ _ _ _ _ _ _ _ _ _ _ _ _ _ _ _ _ _ _ _ _ _ _ _ _ _ _ _ (fun x77 x78 x79 x80 x81 x82 v9 es3 w9 ho3 he3 hg3 => ?_)
  case hb =>
    refine decide_eq_decide.2 ?_
    rw [← List.length_pos_iff, ← HU4.out]
    (try omega)
  have HO3 := Lib.hid ho3
  have HE3 := Lib.hid he3
  have HG3 := Lib.hid hg3
  clear ho3 he3 hg3
  go_wp2
  go_ret
  exact ⟨v9, es3, rfl, ⟨own_base HO3.out.row HG.out.size, fun y hy => ⟨(HO3.out.each y hy).1.mono HG.out.size, (HO3.out.each y hy).2⟩⟩, by
    have e1 := HL1.out
    have e4 := HL4.out
    simp only [List.getD_eq_getElem?_getD] at e1 e4
    rw [HE3.out, HE2.out, HE1.out, e1, e4, List.append_assoc], HG3.out⟩

end Go.Proofs.Ytoaglkbobndmeab

namespace Go.Proofs.Ytoaglkbobndmeab
open Go.RowKit

set_option maxRecDepth 100000 in
set_option maxHeartbeats 4000000 in
theorem same8_any (w : World) (R1 R2 : Nat → Prop) (la ra : Option Addr) (n lc rc : Nat) (rs : List Rc) (h1 : RSq R1 w (.slice la n lc) rs) (h2 : RSq R2 w (.slice ra n rc) rs) :
    Calls Try.prog 18 #[.slice la n lc, .slice ra n rc] w fun r w' => r = .returned (.bool true) ∧ w.grownBy w' none := by
  obtain ⟨hn, hnm⟩ := h1.len
  have hn9 : (n : Int) ≤ 9223372036854775807 := by have h9 : maxLen ≤ 9223372036854775807 := by decide
                                                   omega
  have H1 := Lib.hid h1
  have H2 := Lib.hid h2
  have HN := Lib.hid hn
  clear h1 h2 hn hnm
  go_enter Try.func18, Try.ntmps18
  go_wp2
  go_loopw [5] (fun i wr => ∃ k : Nat, k ≤ n ∧ i = .int .i64 (k : Int) ∧ w.grownBy wr none) (fun i _ => n - (intOf i).toNat)
  case atStart => exact ⟨0, Nat.zero_le _, rfl, grefl _ _⟩
  case round =>
    obtain ⟨k, hk, rfl, hg⟩ := hrel
    have HG := Lib.hid hg
    by_cases hkn : k < n
    · have hki : (k : Int) < (n : Int) := by omega
      obtain ⟨r, hr⟩ : ∃ r, rs[k]? = some r := ⟨rs[k]'(by rw [← HN.out]; exact hkn), List.getElem?_eq_getElem _⟩
      obtain ⟨b1, o1, rfl, _, c0, _, a1, q1, c1, hp1⟩ := (H1.out.grown hg).at k r hr
      obtain ⟨b2, o2, rfl, _, d0, _, a2, q2, d1, hp2⟩ := (H2.out.grown hg).at k r hr
      obtain ⟨m, hm⟩ : ∃ m, m = r.2.length := ⟨_, rfl⟩
      have hm9 : (m : Int) ≤ 9223372036854775807 := by
        have h9 : maxLen ≤ 9223372036854775807 := by decide
        have h8 := hp1.len.2
        omega
      rw [← hm] at c1 d1
      have HM := Lib.hid hm
      have HR := Lib.hid hr
      clear hp1 hp2 hm hr hg
      go_wp2_with fail
      go_quiet (fail)
      have HG2 := Lib.hid (gtrans HG.out (gdrewN wr nq))
      clear c0 c1 d0 d1
      generalize wr.drewN nq = W2 at HG2 ⊢
      go_wp2
      go_loopw [6] (fun i wr => ∃ j : Nat, j ≤ m ∧ i = .int .i64 (j : Int) ∧ w.grownBy wr none) (fun i _ => m - (intOf i).toNat)
      case atStart => exact ⟨0, Nat.zero_le _, rfl, HG2.out⟩
      case round =>
        obtain ⟨j, hj, rfl, hg3⟩ := hrel
        have HG3 := Lib.hid hg3
        obtain ⟨b3, o3, he, _, c0, _, a1', q1', c1, hp1⟩ := (H1.out.grown hg3).at k r HR.out
        cases he
        obtain ⟨b4, o4, he, _, d0, _, a2', q2', d1, hp2⟩ := (H2.out.grown hg3).at k r HR.out
        cases he
        rw [← HM.out] at c1 d1 hp1 hp2
        by_cases hjm : j < m
        · have hji : (j : Int) < (m : Int) := by omega
          have hjl : j < r.2.length := by rw [← HM.out]; exact hjm
          obtain ⟨b5, o5, rfl, _, cp⟩ := hp1.at j hjl
          obtain ⟨b6, o6, rfl, _, dp⟩ := hp2.at j hjl
          obtain ⟨p, hpv⟩ : ∃ p, p = r.2.getD j 0 := ⟨_, rfl⟩
          rw [← hpv] at cp dp
          clear hp1 hp2 hpv c0 d0 hg3 hjl
          go_wp2_with fail
          go_quiet (fail)
          have HG4 := Lib.hid (gtrans HG3.out (gdrewN wr nq))
          clear c1 d1 cp dp
          generalize wr.drewN nq = W4 at HG4 ⊢
          go_wp2
          go_roundw
          case rel => exact ⟨j + 1, by omega, by go_num, HG4.out⟩
          case measure => simp [intOf]; omega
        · have hji : ¬ (j : Int) < (m : Int) := by omega
          clear hp1 hp2 hg3 c0 d0 d1
          go_wp2
          go_roundw
          case rel => exact ⟨k + 1, by omega, by go_num, HG3.out⟩
          case measure => simp [intOf]; omega
    · have hki : ¬ (k : Int) < (n : Int) := by omega
      go_wp2
      go_ret
      exact ⟨rfl, hg⟩

end Go.Proofs.Ytoaglkbobndmeab
