/-
  SpacePlays: of whatever records, whatever is taken and given, what is told, and all records behind it, are the document's, step by step. Proved for every input, no condition.
-/
import Derived.Test.YtoaglkbobndmeabSpcDE

namespace Go.Proofs.Ytoaglkbobndmeab
open Go.RowKit Go.Maps

set_option maxRecDepth 1000000 in
set_option maxHeartbeats 8000000 in
theorem spplays_skip (W : World) (en lim old txn n c sn sc : Nat) (ao so : Option Addr) (rs : List Rc) (acs : List (Nat × Nat)) (h : RSq (fun b => b < W.heap.size) W (.slice ao n c) rs) (hsm : Small8 rs) (hsa : ASq W (.slice so sn sc) acs) (he32 : en < 4294967296) (hl32 : lim < 4294967296) (ho64 : old < 18446744073709551616) (ht64 : txn < 18446744073709551616) (hfw : few8 rs = true → 3000 < en) :
    Calls Try.prog 3 #[.int .u32 (en : Int), .int .u32 (lim : Int), .slice ao n c, .int .u64 (old : Int), .slice so sn sc, .int .u64 (txn : Int)] W fun r w' => r = .returned (.bool true) ∧ Below W.heap.size W w' := by
  have Hs := Lib.hid h
  have HSM := Lib.hid hsm
  obtain ⟨N, hN⟩ : ∃ N, N = rs.length := ⟨_, rfl⟩
  have HNN := Lib.hid hN
  cases hf : few8 rs with
  | false =>
    have HFW := Lib.hid hf
    clear h hsm hsa hN hf hfw
    go_enter Try.func3, Try.ntmps3
    go_wp2_with (first
    | (go_at_call 5; (with_reducible refine (awake8_any W).mono ?_); rintro r w1 ⟨rfl, hg⟩; have HG1 := Lib.hid hg; have HR1 := Lib.hid (Hs.out.grown hg); clear hg)
    | (go_at_call 6; (with_reducible refine (few8_any w1 _ ao n c rs HR1.out).mono ?_); rw [HFW.out]; rintro r wq ⟨rfl, rfl⟩)
    | go_in)
    go_ret
    exact ⟨rfl, gbelow HG1.out⟩
  | true =>
    have HFW := Lib.hid hf
    have h3 : (3000 : Int) < (en : Int) := by have := hfw hf; omega
    clear h hsm hsa hN hf hfw
    go_enter Try.func3, Try.ntmps3
    go_wp2_with (first
    | (go_at_call 5; (with_reducible refine (awake8_any W).mono ?_); rintro r w1 ⟨rfl, hg⟩; have HG1 := Lib.hid hg; have HR1 := Lib.hid (Hs.out.grown hg); clear hg)
    | (go_at_call 6; (with_reducible refine (few8_any w1 _ ao n c rs HR1.out).mono ?_); rw [HFW.out]; rintro r wq ⟨rfl, rfl⟩)
    | go_in)
    go_ret
    exact ⟨rfl, gbelow HG1.out⟩

set_option maxRecDepth 1000000 in
set_option maxHeartbeats 8000000 in
theorem spplays_bad (W : World) (en lim old txn n c sn sc : Nat) (ao so : Option Addr) (rs : List Rc) (acs : List (Nat × Nat)) (h : RSq (fun b => b < W.heap.size) W (.slice ao n c) rs) (hsm : Small8 rs) (hsa : ASq W (.slice so sn sc) acs) (he32 : en < 4294967296) (hl32 : lim < 4294967296) (ho64 : old < 18446744073709551616) (ht64 : txn < 18446744073709551616) (hfw : few8 rs = true) (hen : en ≤ 3000) (hbad : ¬ (2 ≤ en ∧ en ≤ lim ∧ lim ≤ 65536 ∧ right rs en = true)) :
    Calls Try.prog 3 #[.int .u32 (en : Int), .int .u32 (lim : Int), .slice ao n c, .int .u64 (old : Int), .slice so sn sc, .int .u64 (txn : Int)] W fun r w' => r = .returned (.bool true) ∧ Below W.heap.size W w' := by
  have Hs := Lib.hid h
  have HSM := Lib.hid hsm
  have HA := Lib.hid hsa
  have HFW := Lib.hid hfw
  obtain ⟨N, hN⟩ : ∃ N, N = rs.length := ⟨_, rfl⟩
  have HNN := Lib.hid hN
  have HBD := Lib.hid hbad
  have hf8 := few8_iff.1 hfw
  have hN10 : N ≤ 10 := by rw [hN]; exact hf8.2
  have HF30 := Lib.hid hf8.1
  have h3i : ¬ (3000 : Int) < (en : Int) := by omega
  obtain ⟨rb, hrb⟩ : ∃ b, right rs en = b := ⟨_, rfl⟩
  have HRB := Lib.hid hrb
  have hrbb : (rb != rb) = false := by cases rb <;> rfl
  clear h hsm hsa hN hfw hf8 hbad hrb
  go_enter Try.func3, Try.ntmps3
  go_upto_block 0 with (first
    | (go_at_call 5; (with_reducible refine (awake8_any W).mono ?_); rintro r w1 ⟨rfl, hg⟩; have HG1 := Lib.hid hg; have HR1 := Lib.hid (Hs.out.grown hg); clear hg)
    | (go_at_call 6; (with_reducible refine (few8_any w1 _ ao n c rs HR1.out).mono ?_); rw [HFW.out]; rintro r wq ⟨rfl, rfl⟩)
    | (go_at_call 7; (with_reducible refine (records8_any w1 ao n c rs (HR1.out.imp (fun b _ hb => hb)) HSM.out).mono ?_); rintro r w2 ⟨ov, rv, es, es2, rfl, ho, he, hv, he2, hg⟩; have HT64 := Lib.hid (show ∀ r ∈ rs, r.1 < 18446744073709551616 from fun r hr => by rw [← he] at hr; obtain ⟨y, hy, rfl⟩ := List.mem_map.1 hr; exact (ho.each y hy).2); have hro := ho.rsq; rw [he] at hro; obtain ⟨oa, oc, rfl⟩ := hro.shape; have hrv := hv.rsq; rw [he2] at hrv; obtain ⟨va, vc, rfl⟩ := hrv.shape; rw [← HNN.out] at hro hrv; rw [← HNN.out]; have HRO := Lib.hid hro; have HRV := Lib.hid hrv; have HG2 := Lib.hid (gtrans HG1.out hg); clear ho he hv he2 hg hro hrv)
    | (go_at_call 8; (with_reducible refine (new_bad w2 _ oa N oc en lim old rs HRO.out he32 hl32 HBD.out).mono ?_); rintro r w3 ⟨rfl, hg⟩; have HG3 := Lib.hid (gtrans HG2.out hg); have HRO3 := Lib.hid (HRO.out.grown hg); have HRV3 := Lib.hid (HRV.out.grown hg); clear hg)
    | (go_at_call 9; (with_reducible refine (rnew8_bad w3 va N vc en lim old rs HRV3.out hN10 HF30.out (by omega) (by have := HBD.out; rcases Nat.lt_or_ge en 2 with e | e; exact .inl e; rcases Nat.lt_or_ge lim en with e2 | e2; exact .inr (.inl e2); rcases Nat.lt_or_ge 65536 lim with e3 | e3; exact .inr (.inr (.inl e3)); refine .inr (.inr (.inr ?_)); cases hb : right rs en with | false => rfl | true => exact absurd ⟨e, e2, e3, hb⟩ this)).mono ?_); rintro r w4 ⟨rfl, hg⟩; have hal := World.grownBy_alloc w4 (.cells (bx none 0 0 none 0 0 0) 40) none; have HG4 := Lib.hid (gtrans HG3.out (gtrans hg hal)); have HRO4 := Lib.hid ((HRO3.out.grown hg).grown hal); have HRV4 := Lib.hid ((HRV3.out.grown hg).grown hal); clear hg hal)
    | (go_at_call 10; (with_reducible refine (right_any _ _ oa N oc rs en HRO4.out he32).mono ?_); rw [HRB.out]; rintro r w5 ⟨rfl, hg⟩; have HG5 := Lib.hid (gtrans HG4.out hg); have HRV5 := Lib.hid (HRV4.out.grown hg); clear hg)
    | (go_at_call 11; (with_reducible refine (rright_any w5 _ va N vc rs en HRV5.out hN10 HF30.out (by omega)).mono ?_); rw [HRB.out]; rintro r w6 ⟨rfl, hg⟩; have HG6 := Lib.hid (gtrans HG5.out hg); clear hg)
    | go_in)
  have HR6 := Lib.hid (Hs.out.grown HG6.out)
  refine spmax_any w6 _ n c txn ao rs HR6.out ht64 _ _ _ _ _ _ _ _ _ _ _ _ _ _ _ _ _ _ _ _ _ _ _ _ _ _ _ _ _ _ _ _ _ _ _ _ _ _ _ _ _ _ _ _ _ _ _ _ _ _ _ _ _ _ _ _ _ _ _ _ _ _ _ _ _ _ _ _ _ _ _ _ _ _ _ _ _ _ _ _ _ _ _ _ _ _ _ _ _ _ _ _ _ _ _ _ _ _ _ _ _ _ _ _ _ _ _ _ _ _ _ _ _ _ _ _ _ _ _ _ _ _ _ _ _ _ _ _ _ _ _ _ _ _ _ _ _ _ _ _ _ _ _ _ _ _ _ _ _ _ _ _ _ _ _ _ _ _ _ _ _ _ _ _ _ _ _ _ _ _ _ _ _ _ _ _ _ _ _ _ _ _ _ _ _ _ _ _ _ _ _ _ _ _ _ _ _ _ _ _ _ _ _ _ _ _ _ _ _ _ _ _ _ _ _ _ _ _ _ _ _ _ _ _ _ _ _ _ _ _ _ _ _ _ _ _ (fun x21 x90 x91 x92 x93 x94 x95 x96 x97 x98 x99 x100 x101 x102 t ht => ?_)
  go_upto_block 2 with fail
  go_cut [] from 237 (fun wx => W.grownBy wx none)
  case first =>
    go_wp2_with fail
    go_loopw [22] (fun i wr => i = .int .i64 0 ∧ W.grownBy wr none) (fun _ _ => 0)
    case atStart => exact ⟨rfl, HG6.out⟩
    case round =>
      obtain ⟨rfl, hg⟩ := hrel
      have HG := Lib.hid hg
      clear hg
      by_cases h0 : (0 : Int) < (sn : Int)
      · go_wp2
        go_meet
        case rel => exact HG.out
      · go_wp2
        go_meet
        case rel => exact HG.out
  case rest =>
    have HGE := Lib.hid hcut
    clear hcut
    go_wp2_with (first
      | (go_at_call 12; (with_reducible refine (take_nil _).mono ?_); rintro r wa1 ⟨rfl, rfl⟩)
      | (go_at_call 14; (with_reducible refine (give_nil _ 2).mono ?_); rintro r wa2 ⟨rfl, rfl⟩)
      | (go_at_call 16; (with_reducible refine (fresh_nil _ 2).mono ?_); rintro r wa3 ⟨rfl, rfl⟩)
      | (go_at_call 17; (with_reducible refine (end_nil _).mono ?_); rintro r wa4 ⟨rfl, rfl⟩)
      | (go_at_call 21; (with_reducible refine (usable_nil _).mono ?_); rintro r wa5 ⟨rfl, rfl⟩)
      | (go_at_call 19; (with_reducible refine (records_nil _ 1).mono ?_); rintro r wa6 ⟨rfl, rfl⟩)
      | go_in)
    go_ret
    exact ⟨rfl, gbelow HGE.out⟩

set_option maxRecDepth 1000000 in
set_option maxHeartbeats 8000000 in
theorem spplays_good (W : World) (en lim old txn n c sn sc : Nat) (ao so : Option Addr) (rs : List Rc) (acs : List (Nat × Nat)) (h : RSq (fun b => b < W.heap.size) W (.slice ao n c) rs) (hsm : Small8 rs) (hsa : ASq W (.slice so sn sc) acs) (he32 : en < 4294967296) (hl32 : lim < 4294967296) (ho64 : old < 18446744073709551616) (ht64 : txn < 18446744073709551616) (hfw : few8 rs = true) (hen : en ≤ 3000) (h2 : 2 ≤ en) (hel : en ≤ lim) (hlim : lim ≤ 65536) (hok : right rs en = true) :
    Calls Try.prog 3 #[.int .u32 (en : Int), .int .u32 (lim : Int), .slice ao n c, .int .u64 (old : Int), .slice so sn sc, .int .u64 (txn : Int)] W fun r w' => r = .returned (.bool true) ∧ Below W.heap.size W w' := by
  have Hs := Lib.hid h
  have HSM := Lib.hid hsm
  have HA := Lib.hid hsa
  have HFW := Lib.hid hfw
  obtain ⟨N, hN⟩ : ∃ N, N = rs.length := ⟨_, rfl⟩
  have HNN := Lib.hid hN
  have hf8 := few8_iff.1 hfw
  have hN10 : N ≤ 10 := by rw [hN]; exact hf8.2
  have HF30 := Lib.hid hf8.1
  have h3i : ¬ (3000 : Int) < (en : Int) := by omega
  have HOK := Lib.hid hok
  have HOKR := Lib.hid (right_iff.1 hok)
  have HNR1 := Lib.hid (show (newRecs old rs).length ≤ 10 from Nat.le_trans (List.length_filter_le _ _) hf8.2)
  have HNR2 := Lib.hid (show ∀ r ∈ newRecs old rs, r.2.length ≤ 30 from fun r hr => hf8.1 r (List.mem_filter.1 hr).1)
  clear h hsm hsa hN hfw hf8 hok
  go_enter Try.func3, Try.ntmps3
  go_upto_block 0 with (first
    | (go_at_call 5; (with_reducible refine (awake8_any W).mono ?_); rintro r w1 ⟨rfl, hg⟩; have HG1 := Lib.hid hg; have HR1 := Lib.hid (Hs.out.grown hg); clear hg)
    | (go_at_call 6; (with_reducible refine (few8_any w1 _ ao n c rs HR1.out).mono ?_); rw [HFW.out]; rintro r wq ⟨rfl, rfl⟩)
    | (go_at_call 7; (with_reducible refine (records8_any w1 ao n c rs (HR1.out.imp (fun b _ hb => hb)) HSM.out).mono ?_); rintro r w2 ⟨ov, rv, es, es2, rfl, ho, he, hv, he2, hg⟩; have HT64 := Lib.hid (show ∀ r ∈ rs, r.1 < 18446744073709551616 from fun r hr => by rw [← he] at hr; obtain ⟨y, hy, rfl⟩ := List.mem_map.1 hr; exact (ho.each y hy).2); have hro := ho.rsq; rw [he] at hro; obtain ⟨oa, oc, rfl⟩ := hro.shape; have hrv := hv.rsq; rw [he2] at hrv; obtain ⟨va, vc, rfl⟩ := hrv.shape; rw [← HNN.out] at hro hrv; rw [← HNN.out]; have HRO := Lib.hid hro; have HRV := Lib.hid hrv; have HG2 := Lib.hid (gtrans HG1.out hg); clear ho he hv he2 hg hro hrv)
    | (go_at_call 8; (with_reducible refine (new_good w2 _ oa N oc en lim old rs HRO.out h2 hel hlim HOK.out ho64).mono ?_); rintro r w3 ⟨B, wv, es, rfl, hB, hN, hg⟩; have HSP := Lib.hid hN.at; have HB5 := Lib.hid hN.fiv.lt; have HBB := Lib.hid (Nat.le_trans HG2.out.size hB); have HG3 := Lib.hid (gtrans HG2.out hg); have HRO3 := Lib.hid (HRO.out.grown hg); have HRV3 := Lib.hid (HRV.out.grown hg); clear hg hN hB)
    | (go_at_call 9; (with_reducible refine (rnew8_good w3 va N vc en lim old rs HRV3.out hN10 HF30.out (by omega) h2 hel hlim HOK.out).mono ?_); rintro r w4 ⟨xv, yv, rfl, hi, hu, hg⟩; obtain ⟨xa, xc, e1⟩ := hi.shape; obtain ⟨ya, yc, e2⟩ := hu.shape; rw [mapR_len] at e1 e2; subst e1 e2; have hal := World.grownBy_alloc w4 (.cells (bx xa en xc ya en yc (lim : Int)) 40) none; have H8 := Lib.hid (show P8 W B w3.heap.size w3.heap.size w4.heap.size lim (spOf en lim old rs) (mapR (fillR old (fun _ => 0) rs) en) (mapR (fillX (fun _ => 0) rs) en) (w4.alloc (.cells (bx xa en xc ya en yc (lim : Int)) 40)) from ⟨⟨HBB.out, HB5.out, Nat.le_refl _, hg.size⟩, (HSP.out.grown hg).grown hal, ⟨xa, xc, ya, yc, by rw [mapR_len, mapR_len]; exact heap_alloc_new _ _, by rw [mapR_len]; exact hi.grown hal, by rw [mapR_len]; exact hu.grown hal⟩, gtrans HG3.out (gtrans hg hal)⟩); have HRO4 := Lib.hid ((HRO3.out.grown hg).grown hal); have HRV4 := Lib.hid ((HRV3.out.grown hg).grown hal); clear hg hal hi hu)
    | (go_at_call 10; (with_reducible refine (right_any _ _ oa N oc rs en HRO4.out he32).mono ?_); rw [HOK.out]; rintro r w5 ⟨rfl, hg⟩; have H85 := Lib.hid (H8.out.grown hg); have HRV5 := Lib.hid (HRV4.out.grown hg); clear hg)
    | (go_at_call 11; (with_reducible refine (rright_any w5 _ va N vc rs en HRV5.out hN10 HF30.out (by omega)).mono ?_); rw [HOK.out]; rintro r w6 ⟨rfl, hg⟩; have H86 := Lib.hid (H85.out.grown hg); clear hg)
    | go_in)
  have HPI := Lib.hid (plays_start (old := old) h2 hel HOKR.out HT64.out)
  have HR6 := Lib.hid (Hs.out.grown H86.out.gr)
  refine spmax_any w6 _ n c txn ao rs HR6.out ht64 _ _ _ _ _ _ _ _ _ _ _ _ _ _ _ _ _ _ _ _ _ _ _ _ _ _ _ _ _ _ _ _ _ _ _ _ _ _ _ _ _ _ _ _ _ _ _ _ _ _ _ _ _ _ _ _ _ _ _ _ _ _ _ _ _ _ _ _ _ _ _ _ _ _ _ _ _ _ _ _ _ _ _ _ _ _ _ _ _ _ _ _ _ _ _ _ _ _ _ _ _ _ _ _ _ _ _ _ _ _ _ _ _ _ _ _ _ _ _ _ _ _ _ _ _ _ _ _ _ _ _ _ _ _ _ _ _ _ _ _ _ _ _ _ _ _ _ _ _ _ _ _ _ _ _ _ _ _ _ _ _ _ _ _ _ _ _ _ _ _ _ _ _ _ _ _ _ _ _ _ _ _ _ _ _ _ _ _ _ _ _ _ _ _ _ _ _ _ _ _ _ _ _ _ _ _ _ _ _ _ _ _ _ _ _ _ _ _ _ _ _ _ _ _ _ _ _ _ _ _ _ _ _ _ _ _ (fun x21 x90 x91 x92 x93 x94 x95 x96 x97 x98 x99 x100 x101 x102 t ht => ?_)
  go_upto_block 2 with fail
  refine spacts_any W w6 B w3.heap.size w3.heap.size w4.heap.size lim t sn sc so acs _ _ _ _ H86.out HPI.out hlim (by rw [mapR_len]; exact hen) ht HNR1.out HNR2.out HA.out _ _ _ _ _ _ _ _ _ _ _ _ _ _ _ _ _ _ _ _ _ _ _ _ _ _ _ _ _ _ _ _ _ _ _ _ _ _ _ _ _ _ _ _ _ _ _ _ _ _ _ _ _ _ _ _ _ _ _ _ _ _ _ _ _ _ _ _ _ _ _ _ _ _ _ _ _ _ _ _ _ _ _ _ _ _ _ _ _ _ _ _ _ _ _ _ _ _ _ _ _ _ _ _ _ _ _ _ _ _ _ _ _ _ _ _ _ _ _ _ _ _ _ _ _ _ _ _ _ _ _ _ _ _ _ _ _ _ _ _ _ _ _ _ _ _ _ _ _ _ _ _ _ _ _ _ _ _ _ _ _ _ _ _ _ _ _ _ _ _ _ _ _ _ _ _ _ _ _ _ _ _ _ _ _ _ _ _ _ _ _ _ _ _ _ _ _ _ _ _ _ _ _ _ _ _ _ _ _ _ _ _ _ _ _ _ _ _ _ _ _ _ _ _ _ _ _ _ _ _ _ _ _ _ (fun x12 x22 x23 x24 x25 x26 x27 x28 x29 x30 x31 x32 x103 x104 x105 x106 x107 x108 x109 x110 x111 x112 x113 x114 x115 x116 x117 x118 x119 x120 x121 x122 x123 x124 x125 x126 x127 x128 x129 x130 x131 x132 x133 x134 x135 x136 x137 x138 x139 x140 x141 x142 x143 x144 x145 x146 x147 x148 x149 x150 x151 x152 x153 x154 x155 x156 x157 x158 x159 x160 x161 x162 x163 x164 x165 x166 x167 x168 x169 x170 x171 x172 x173 x174 x175 x176 x177 x178 x179 x180 x181 x182 x183 x184 x185 x186 x187 x188 x189 x190 x191 x192 x193 x194 x195 x196 x197 x198 x199 x200 x201 x202 x203 x204 x205 wE hgE => ?_)
  have HGE := Lib.hid hgE
  clear hgE
  go_wp2_with (first
    | (go_at_call 12; (with_reducible refine (take_nil _).mono ?_); rintro r wa1 ⟨rfl, rfl⟩)
    | (go_at_call 14; (with_reducible refine (give_nil _ 2).mono ?_); rintro r wa2 ⟨rfl, rfl⟩)
    | (go_at_call 16; (with_reducible refine (fresh_nil _ 2).mono ?_); rintro r wa3 ⟨rfl, rfl⟩)
    | (go_at_call 17; (with_reducible refine (end_nil _).mono ?_); rintro r wa4 ⟨rfl, rfl⟩)
    | (go_at_call 21; (with_reducible refine (usable_nil _).mono ?_); rintro r wa5 ⟨rfl, rfl⟩)
    | (go_at_call 19; (with_reducible refine (records_nil _ 1).mono ?_); rintro r wa6 ⟨rfl, rfl⟩)
    | go_in)
  go_ret
  exact ⟨rfl, gbelow HGE.out⟩

theorem spplays_any (W : World) (en : Int) (lim : Int) (ao : Option Addr) (n c : Nat) (rs : List Rc) (old : Int) (so : Option Addr) (sn sc : Nat) (acs : List (Nat × Nat)) (txn : Int) (h1 : 0 ≤ en) (h2 : en ≤ 4294967295) (h3 : 0 ≤ lim) (h4 : lim ≤ 4294967295)
    (h : RSq (fun b => b < W.heap.size) W (.slice ao n c) rs) (hsm : Small8 rs) (h5 : 0 ≤ old) (h6 : old ≤ 18446744073709551615) (hsa : ASq W (.slice so sn sc) acs) (h7 : 0 ≤ txn) (h8 : txn ≤ 18446744073709551615) :
    Calls Try.prog 3 #[.int .u32 en, .int .u32 lim, .slice ao n c, .int .u64 old, .slice so sn sc, .int .u64 txn] W fun r w' => r = .returned (.bool true) ∧ Below W.heap.size W w' := by
  obtain ⟨e, rfl⟩ : ∃ e : Nat, en = (e : Int) := ⟨en.toNat, by omega⟩
  obtain ⟨l, rfl⟩ : ∃ l : Nat, lim = (l : Int) := ⟨lim.toNat, by omega⟩
  obtain ⟨o, rfl⟩ : ∃ o : Nat, old = (o : Int) := ⟨old.toNat, by omega⟩
  obtain ⟨t, rfl⟩ : ∃ t : Nat, txn = (t : Int) := ⟨txn.toNat, by omega⟩
  by_cases hf : few8 rs = true ∧ e ≤ 3000
  · by_cases hg : 2 ≤ e ∧ e ≤ l ∧ l ≤ 65536 ∧ right rs e = true
    · exact spplays_good W e l o t n c sn sc ao so rs acs h hsm hsa (by omega) (by omega) (by omega) (by omega) hf.1 hf.2 hg.1 hg.2.1 hg.2.2.1 hg.2.2.2
    · exact spplays_bad W e l o t n c sn sc ao so rs acs h hsm hsa (by omega) (by omega) (by omega) (by omega) hf.1 hf.2 hg
  · exact spplays_skip W e l o t n c sn sc ao so rs acs h hsm hsa (by omega) (by omega) (by omega) (by omega) (fun k => by
      rcases Nat.lt_or_ge 3000 e with c | c
      · exact c
      · exact absurd ⟨k, c⟩ hf)

open Go.ChangeShapes Go.WideShapes Go.ChangeAt
set_option linter.unusedVariables false
set_option maxRecDepth 100000 in
theorem spplays_lifted (os : Os) (started : os.Started) (H : Type) (enc : TypeId × Value → H) :
    ReturnsInHanded {} Try.checked os 3 .any (Rows.spacePlaysSpec.pre6 enc Try.prog Try.f3 Rows.spacePlaysRow.domain false) (Rows.spacePlaysSpec.post enc Try.prog Try.f3 false true false false) := by
  refine returnsInHanded_of_change_sized (C := Try.checked) ownKnob0 started (by kernel_rfl) Try.func3
    (ChangeSpec.witness6 (enc := enc) (C := Try.checked) false ⟨#[], #[.int .u32 0, .int .u32 0, .slice none 0 0, .int .u64 0, .slice none 0 0, .int .u64 0], []⟩ 8 (by kernel_rfl) (by kernel_rfl) (by kernel_rfl) (by kernel_rfl)) ?_
  intro W base args ds gs before hval0 hW hcnd hsz0 _
  have hval : ∀ (j : Nat) t v, Try.f3.params[j]? = some t → args[j]? = some v → Value.okWide Try.prog W .any base t v := hval0
  have hW' := hW
  obtain ⟨p, q, hA0, hV, rfl, hfz, hnd⟩ := hW
  have hA : DataW.TrodAll enc Try.prog W 0 (fun _ => true) true Try.f3.params.toList args.toList ds p := hA0
  have hsz : (DataW.weightsEach Try.prog (Try.f3.params.toList ++ Rows.spacePlaysSpec.plain.varTypes Try.prog) (ds ++ gs)).all (· ≤ reachBytes) = true := hsz0
  rw [Try.params3] at hA hval hsz
  obtain ⟨v0, vs0, d0, ds0, p0, q0, hargs, rfl, rfl, h0, r0⟩ := trodAll_cons hA
  obtain ⟨v1, vs1, d1, ds1, p1, q1, rfl, rfl, rfl, h1, r1⟩ := trodAll_cons r0
  obtain ⟨v2, vs2, d2, ds2, p2, q2, rfl, rfl, rfl, h2, r2⟩ := trodAll_cons r1
  obtain ⟨v3, vs3, d3, ds3, p3, q3, rfl, rfl, rfl, h3, r3⟩ := trodAll_cons r2
  obtain ⟨v4, vs4, d4, ds4, p4, q4, rfl, rfl, rfl, h4, r4⟩ := trodAll_cons r3
  obtain ⟨v5, vs5, d5, ds5, p5, q5, rfl, rfl, rfl, h5, r5⟩ := trodAll_cons r4
  obtain ⟨rfl, rfl, rfl⟩ := trodAll_nil r5
  obtain rfl : args = #[v0, v1, v2, v3, v4, v5] := by cases args; simp_all
  obtain ⟨rfl, rfl⟩ := trodVars_none hV
  obtain ⟨a0, rfl, rfl, rfl, w0⟩ := open_int Try.underlying22 (hval 0 22 v0 rfl rfl) h0
  have b0 := bounds_u32 w0
  obtain ⟨a1, rfl, rfl, rfl, w1⟩ := open_int Try.underlying22 (hval 1 22 v1 rfl rfl) h1
  have b1 := bounds_u32 w1
  obtain ⟨a2, len2, cap2, rfl⟩ := okWide_slice Try.underlying23 (hval 2 23 v2 rfl rfl)
  have lt2 : ∀ x ∈ p2, x.block < W.heap.size := by obtain ⟨m, hm⟩ := h2; exact DataW.trod_lt m _ _ _ hm
  obtain ⟨z2, w2, s2⟩ := open_raws8 h2 hsz (j := 2) rfl rfl
  obtain ⟨a3, rfl, rfl, rfl, w3⟩ := open_int Try.underlying24 (hval 3 24 v3 rfl rfl) h3
  have b3 := bounds_u64 w3
  obtain ⟨a4, len4, cap4, rfl⟩ := okWide_slice Try.underlying25 (hval 4 25 v4 rfl rfl)
  have lt4 : ∀ x ∈ p4, x.block < W.heap.size := by obtain ⟨m, hm⟩ := h4; exact DataW.trod_lt m _ _ _ hm
  obtain ⟨z4, w4⟩ := open_acts8 h4
  obtain ⟨a5, rfl, rfl, rfl, w5⟩ := open_int Try.underlying24 (hval 5 24 v5 rfl rfl) h5
  have b5 := bounds_u64 w5
  clear hA0 hval0
  refine (spplays_any W a0 a1 a2 len2 cap2 z2 a3 a4 len4 cap4 z4 a5 b0.1 b0.2 b1.1 b1.2 w2 s2 b3.1 b3.2 w4 b5.1 b5.2).mono fun e W' ⟨he, bel⟩ => ?_
  subst he
  exact ⟨_, rfl, _, _, _, [], _, [], hW', trodAll_mk1 (shut_bool Try.underlying4 _), (trodAll_cons_mk (shut_int Try.underlying22 w0) (trodAll_cons_mk (shut_int Try.underlying22 w1) (trodAll_cons_mk (Below.trod laidOut0 (by kernel_rfl) (of_decide_eq_true (by kernel_rfl)) h2 bel lt2) (trodAll_cons_mk (shut_int Try.underlying24 w3) (trodAll_cons_mk (Below.trod laidOut0 (by kernel_rfl) (of_decide_eq_true (by kernel_rfl)) h4 bel lt4) (trodAll_cons_mk (shut_int Try.underlying24 w5) trodAll_mk0)))))), rfl, bel.frame _, fun h => by cases h⟩

/-- SpacePlays, for every input. -/
theorem spacePlays_holds : Rows.SpacePlaysSaid :=
  OpenClaim.holds_of_wide 3 Try.f3 rfl rfl rfl rfl rfl rfl rfl ⟨rfl, rfl, rfl, rfl, rfl⟩ rfl rfl rfl rfl rfl (by kernel_rfl) Try.func3 (by kernel_rfl)
    (of_decide_eq_true (by kernel_rfl)) (by unfold Func.isWrapper; first | (rw [if_pos (by decide +kernel)]; kernel_rfl) | (rw [if_neg (by decide +kernel)]; exact ⟨rfl, rfl⟩))
    (fun os started H enc _ => spplays_lifted os started H enc)
#print axioms spacePlays_holds

end Go.Proofs.Ytoaglkbobndmeab
