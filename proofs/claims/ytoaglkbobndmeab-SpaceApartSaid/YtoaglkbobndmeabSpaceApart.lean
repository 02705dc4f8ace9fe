/-
  SpaceApart: whatever is taken and given, no page is taken that is in use, waiting or gone; the records behind it may be, and have each page that is free once. Proved for every input, no condition.
-/
import Derived.Test.YtoaglkbobndmeabSpcBB
import Derived.Test.YtoaglkbobndmeabSpcBC
import Derived.Test.YtoaglkbobndmeabSpcBD
import Derived.Test.YtoaglkbobndmeabSpcBE
namespace Go.Proofs.Ytoaglkbobndmeab
open Go.RowKit Go.Maps

set_option maxRecDepth 1000000 in
set_option maxHeartbeats 16000000 in
theorem apart_any (W : World) (ao : Option Addr) (n c : Nat) (rs : List Rc) (a : Int) (so : Option Addr) (sn sc : Nat) (acs : List (Nat × Nat)) (h : RSq (fun b => b < W.heap.size) W (.slice ao n c) rs) (hsm : Small8 rs) (ha0 : 0 ≤ a) (ha1 : a ≤ 18446744073709551615) (hsa : ASq W (.slice so sn sc) acs) :
    Calls Try.prog 4 #[.slice ao n c, .int .u64 a, .slice so sn sc] W fun r w' => r = .returned (.bool true) ∧ Below W.heap.size W w' := by
  have Hs := Lib.hid h
  have HSM := Lib.hid hsm
  have HA := Lib.hid hsa
  obtain ⟨hsn, hsm2⟩ := hsa.len
  have HSN := Lib.hid hsn
  have hsn5 : (sn : Int) ≤ 9223372036854775807 := by have h9 : maxLen ≤ 9223372036854775807 := by decide
                                                     omega
  clear h hsm hsa hsn hsm2
  obtain ⟨f, hf⟩ : ∃ f, few8 rs = f := ⟨_, rfl⟩
  obtain ⟨g, hg⟩ : ∃ g, right rs 50 = g := ⟨_, rfl⟩
  have HFW := Lib.hid hf
  have HRT := Lib.hid hg
  clear hf hg
  cases f with
  | false =>
    go_enter Try.func4, Try.ntmps4
    go_wp2_with (first
      | (go_at_call 5; (with_reducible refine (awake8_any W).mono ?_); rintro r w1 ⟨rfl, hg⟩; have HG1 := Lib.hid hg; have HR1 := Lib.hid (Hs.out.grown hg); clear hg)
      | (go_at_call 6; (with_reducible refine (few8_any w1 _ ao n c rs HR1.out).mono ?_); rw [HFW.out]; rintro r wq ⟨rfl, rfl⟩)
      | (go_at_call 7; (with_reducible refine (records8_any w1 ao n c rs (HR1.out.imp (fun b _ hb => hb)) HSM.out).mono ?_); rintro r w2 ⟨ov, rv, es, es2, rfl, ho, he, hv, he2, hg⟩; have HG2 := Lib.hid (gtrans HG1.out hg); clear ho he hv he2 hg))
    go_ret
    exact ⟨rfl, gbelow HG2.out⟩
  | true =>
    cases g with
    | false =>
      go_enter Try.func4, Try.ntmps4
      go_wp2_with (first
        | (go_at_call 5; (with_reducible refine (awake8_any W).mono ?_); rintro r w1 ⟨rfl, hg⟩; have HG1 := Lib.hid hg; have HR1 := Lib.hid (Hs.out.grown hg); clear hg)
        | (go_at_call 6; (with_reducible refine (few8_any w1 _ ao n c rs HR1.out).mono ?_); rw [HFW.out]; rintro r wq ⟨rfl, rfl⟩)
        | (go_at_call 7; (with_reducible refine (records8_any w1 ao n c rs (HR1.out.imp (fun b _ hb => hb)) HSM.out).mono ?_); rintro r w2 ⟨ov, rv, es, es2, rfl, ho, he, hv, he2, hg⟩; have hro := ho.rsq; rw [he] at hro; obtain ⟨oa, oc, rfl⟩ := hro.shape; have HRO := Lib.hid hro; have HG2 := Lib.hid (gtrans HG1.out hg); clear ho he hv he2 hg hro)
        | (go_at_call 10; (with_reducible refine (right50 w2 _ oa _ oc rs HRO.out false HRT.out).mono ?_); rintro r w3 ⟨rfl, hg⟩; have HG3 := Lib.hid (gtrans HG2.out hg); clear hg))
      go_ret
      exact ⟨rfl, gbelow HG3.out⟩
    | true =>
      have hok := right_iff.1 HRT.out
      have HOK := Lib.hid hok
      have HLL := Lib.hid (okr_len hok)
      have hrl := okr_len hok
      have HST := Lib.hid (apart_start (old := a.toNat) hok)
      obtain ⟨i0, hi, hz0, hz1, hz2⟩ := info_parts infoInt
      clear hok
      go_enter Try.func4, Try.ntmps4
      go_upto_block 0 with (first
        | (go_at_call 5; (with_reducible refine (awake8_any W).mono ?_); rintro r w1 ⟨rfl, hg⟩; have HG1 := Lib.hid hg; have HR1 := Lib.hid (Hs.out.grown hg); clear hg)
        | (go_at_call 6; (with_reducible refine (few8_any w1 _ ao n c rs HR1.out).mono ?_); rw [HFW.out]; rintro r wq ⟨rfl, rfl⟩)
        | (go_at_call 7; (with_reducible refine (records8_any w1 ao n c rs (HR1.out.imp (fun b _ hb => hb)) HSM.out).mono ?_); rintro r w2 ⟨ov, rv, es, es2, rfl, ho, he, hv, he2, hg⟩; have hro := ho.rsq; rw [he] at hro; obtain ⟨oa, oc, rfl⟩ := hro.shape; have HRO := Lib.hid hro; have HT64 := Lib.hid (show ∀ r ∈ rs, r.1 < 18446744073709551616 from fun r hr => by rw [← he] at hr; obtain ⟨y, hy, rfl⟩ := List.mem_map.1 hr; exact (ho.each y hy).2); have HG2 := Lib.hid (gtrans HG1.out hg); clear ho he hv he2 hg hro)
        | (go_at_call 10; (with_reducible refine (right50 w2 _ oa _ oc rs HRO.out true HRT.out).mono ?_); rintro r w3 ⟨rfl, hg⟩; have HG3 := Lib.hid (gtrans HG2.out hg); have HR3 := Lib.hid (HRO.out.grown hg); clear hg)
        | (go_at_call 8; (with_reducible refine (new50 w3 _ oa _ oc a rs HR3.out HRT.out ha0 ha1).mono ?_); rintro r w4 ⟨B, rfl, hB1, hs1, hg⟩; have HG4 := Lib.hid (gtrans HG3.out hg); have HS1 := Lib.hid hs1; have HR4 := Lib.hid ((HR3.out.imp (S := fun b => b < B) (fun b _ hb => Nat.lt_of_lt_of_le hb hB1)).grown hg); have hWB := Lib.hid (Nat.le_trans HG3.out.size hB1); clear hg hs1 hB1)
        | (at_make; refine wpList_make_full _ rfl _ _ 37 rfl w4.heap.size 3 i0 (.int .i64 0) 1 Try.underlying37 hi hz0 hz1 .i64 .i64 _ _ 60 rfl rfl ?c1 ?c2 ?c3 ?c4 (Nat.le_refl _) ?_; (case c1 => rfl); (case c2 => rfl); (case c3 => rw [hz2]; decide); (case c4 => decide); intro w5 hown hgM; have HC5 := Lib.hid (show ACore W B w4.heap.size (.slice oa rs.length oc) rs (spOf 50 60 a.toNat rs) (fun _ => 0) w5 from ⟨by obtain ⟨_, h1, _⟩ := HS1.out; exact h1.lt, hWB.out, gtrans HG4.out hgM, HS1.out.grown hgM, wh_made hown, HR4.out.grown hgM⟩); clear hown hgM))
      obtain ⟨H, hH⟩ : ∃ H, H = w4.heap.size := ⟨_, rfl⟩
      rw [← hH] at HC5
      simp only [← hH]
      clear hH
      obtain ⟨N, hN⟩ : ∃ N, N = rs.length := ⟨_, rfl⟩
      rw [← hN] at HC5 hrl ⊢
      have HNN := Lib.hid hN
      have hA5 : B + 5 ≤ H := HC5.out.hB
      clear hN
      refine afill_any W w5 B H N oa oc rs a ha0 (by omega) HNN.out HOK.out HT64.out HC5.out _ _ _ _ _ _ _ _ _ _ _ _ _ _ _ _ _ _ _ _ _ _ _ _ _ _ _ _ _ _ _ _ _ _ _ _ _ _ _ _ _ _ _ _ _ _ _ _ _ _ _ _ _ _ _ _ _ _ _ _ _ _ _ _ _ _ _ _ _ _ _ _ _ _ _ _ _ _ _ _ _ _ _ _ _ _ _ _ _ _ _ _ _ _ _ _ _ _ _ _ _ _ _ _ _ _ _ _ _ _ _ _ _ _ _ _ _ _ _ _ _ _ _ _ _ _ _ _ _ _ _ _ _ _ _ _ _ _ _ _ _ _ _ _ _ _ _ _ _ _ _ _ _ _ _ _ _ _ _ _ _ _ _ _ _ _ _ _ _ _ _ _ _ _ _ _ _ _ _ _ _ _ _ _ _ _ _ _ _ _ _ _ _ _ _ _ _ _ _ _ _ _ _ _ _ _ _ _ _ _ _ _ _ _ _ _ _ _ _ _ _ _ _ _ _ _ _ _ _ _ _ _ _ _ _ _ _ _ _ _ _ _ _ _ _ _ _ _ _ _ _ _ _ _ _ _ _ _ _ _ _ _ _ _ _ _ _ _ _ _ _ _ _ _ _ _ (fun x15 x16 x53 x54 x55 x56 x57 x58 x59 x60 x61 x62 x63 x64 x65 x66 x67 x68 x69 x70 x71 x72 x73 x74 x75 x76 x77 x78 x79 x80 x81 x82 x83 x84 x85 x86 x87 x88 x89 x90 x91 x92 x93 x94 x95 x96 x97 x98 x99 x100 x101 x102 tp V w6 htp hC6 hV6 hT6 => ?_)
      have HC := Lib.hid hC6
      have HAI := Lib.hid (show AInv (newRecs a.toNat rs) (spOf 50 60 a.toNat rs) V by rw [hV6]; exact HST.out)
      have HTOP := Lib.hid hT6
      clear hC6 hV6 hT6
      go_upto_block 4 with fail
      refine aacts_any W w6 B H N oa oc rs (newRecs a.toNat rs) (spOf 50 60 a.toNat rs) V so sn sc acs HA.out HSN.out hsn5 HC.out HAI.out _ _ _ _ _ _ _ _ _ _ _ _ _ _ _ _ _ _ _ _ _ _ _ _ _ _ _ _ _ _ _ _ _ _ _ _ _ _ _ _ _ _ _ _ _ _ _ _ _ _ _ _ _ _ _ _ _ _ _ _ _ _ _ _ _ _ _ _ _ _ _ _ _ _ _ _ _ _ _ _ _ _ _ _ _ _ _ _ _ _ _ _ _ _ _ _ _ _ _ _ _ _ _ _ _ _ _ _ _ _ _ _ _ _ _ _ _ _ _ _ _ _ _ _ _ _ _ _ _ _ _ _ _ _ _ _ _ _ _ _ _ _ _ _ _ _ _ _ _ _ _ _ _ _ _ _ _ _ _ _ _ _ _ _ _ _ _ _ _ _ _ _ _ _ _ _ _ _ _ _ _ _ _ _ _ _ _ _ _ _ _ _ _ _ _ _ _ _ _ _ _ _ _ _ _ _ _ _ _ _ _ _ _ _ _ _ _ _ _ _ _ _ _ _ _ _ _ _ _ _ _ _ _ _ _ _ _ _ _ _ _ _ _ _ _ _ _ _ _ _ _ _ _ _ _ _ _ _ _ _ _ _ _ _ _ _ _ _ _ _ _ _ _ _ _ _ _ (fun x6 x17 x18 x19 x20 x103 x104 x105 x106 x107 x108 x109 x110 x111 x112 x113 x114 x115 x116 x117 x118 x119 x120 x121 x122 x123 x124 x125 x126 x127 x128 x129 x130 x131 x132 x133 x134 x135 x136 x137 x138 x139 x140 x141 x142 x143 x144 x145 x146 x147 x148 x149 x150 x151 x152 x153 x154 x155 x156 x157 x158 x159 x160 x161 x162 x163 x164 x165 x166 x167 x168 x169 x170 x171 x172 x173 x174 x175 x176 x177 x178 x179 x180 x181 x182 x183 x184 x185 x186 x187 x188 x189 x190 M V2 w5 hC2 hI => ?_)
      have HC2 := Lib.hid hC2
      have HI := Lib.hid hI
      clear hC2 hI
      have hWS : Okr 50 (newRecs a.toNat rs) := okr_filter HOK.out _
      have HWS := Lib.hid hWS
      by_cases htm : tp = 18446744073709551615
      · subst htm
        go_wp2
        go_ret
        exact ⟨rfl, gbelow HC2.out.g⟩
      · have htmi : ¬ (tp : Int) = 18446744073709551615 := by omega
        have ht64 : tp + 1 < 18446744073709551616 := by omega
        have hrgV : ∀ x, V2 x ≠ 0 → x < 60 := fun x hx => by have := (HI.out.rg x hx).2; have := HI.out.en2; omega
        have hus : M.us.length ≤ 60 := srt_len 0 HI.out.su fun x hx => ⟨Nat.zero_le _, hrgV x (by have := (HI.out.k1 x).2 hx; omega)⟩
        have hgo : M.go.length ≤ 60 := srt_len 0 HI.out.sg fun x hx => ⟨Nat.zero_le _, hrgV x (by have := (HI.out.k4 x).2 hx; omega)⟩
        have hws1 : ∀ r ∈ M.ws, r.2 ≠ [] ∧ r.2.length ≤ 100000 := fun r hr => by
          rw [HI.out.ws] at hr
          exact ⟨(hWS.each r hr).2.2, Nat.le_trans (okr_each hWS hr) (by decide)⟩
        have hws2 : M.ws.length ≤ 100000 := by rw [HI.out.ws]; exact Nat.le_trans (okr_len hWS) (by decide)
        have h0 : ∀ r ∈ newRecs a.toNat rs, 0 < r.1 ∧ r.1 < tp + 1 := fun r hr => by
          obtain ⟨h1, h2⟩ := List.mem_filter.1 hr
          have h3 : ¬ r.1 ≤ a.toNat := by simpa [isOld] using h2
          have h4 := (topOf_le rs 0).2 r h1
          have h5 : r.1 ≤ tp := by rw [HTOP.out]; exact h4
          omega
        have HRIGHT := Lib.hid (recs_right HI.out hWS (tp + 1) h0 (by omega))
        have HCNT := Lib.hid (recs_count HI.out hWS (tp + 1))
        have HMEM := Lib.hid (fun p => recs_mem HI.out (tp + 1) p)
        have K := records_any 100000 sort_many (Nat.le_refl _) w5 B (tp + 1) M HC2.out.s (by omega) (by omega) hws1 hws2 ht64
        rw [show ((tp + 1 : Nat) : Int) = (tp : Int) + 1 by omega] at K
        have HK := Lib.hid K
        clear K h0 hws1 hws2 hus hgo hrgV hWS
        obtain ⟨RL, hRL⟩ : ∃ RL, RL = recsM M (tp + 1) := ⟨_, rfl⟩
        rw [← hRL] at HRIGHT HCNT HK
        simp only [← hRL] at HMEM
        clear hRL
        obtain ⟨rn, hrn⟩ : ∃ rn, rn = RL.length := ⟨_, rfl⟩
        have HRN := Lib.hid hrn
        obtain ⟨tot, htot⟩ : ∃ tot, tot = (allOf RL).length := ⟨_, rfl⟩
        have HTOT := Lib.hid htot
        have HTG := Lib.hid (show tot = goods V2 60 by rw [htot]; exact HCNT.out)
        have htot60 : tot ≤ 60 := by rw [HTG.out]; exact Nat.le_trans (List.length_filter_le _ _) (by simp)
        have hrn60 : rn ≤ 100000 := by
          have h1 := okr_len (right_iff.1 HRIGHT.out)
          have h2 := HI.out.en2
          omega
        obtain ⟨E, hE⟩ : ∃ E, E = M.en := ⟨_, rfl⟩
        have HE := Lib.hid hE.symm
        rw [← hE] at HRIGHT
        have hE60 : E ≤ 60 := by rw [hE]; exact HI.out.en2
        clear hrn htot hE
        go_upto_block 6 with (first
          | (go_at_call 19; (with_reducible refine HK.out.mono ?_); rintro r w6 ⟨v6, es6, rfl, ho6, he6, hg6⟩; have hro6 := ho6.rsq; rw [he6] at hro6; obtain ⟨ra6, rc6, rfl⟩ := hro6.shape; rw [← HRN.out] at hro6; rw [← HRN.out]; have HRO6 := Lib.hid hro6; have HC6 := Lib.hid (HC2.out.grown hg6); clear ho6 he6 hg6 hro6))
        refine acount_any W w6 B H N oa oc rs (newRecs a.toNat rs) M V2 ra6 rn rc6 tot RL _ HC6.out HI.out HRO6.out HRN.out hrn60 HTOT.out htot60 HMEM.out _ _ _ _ _ _ _ _ _ _ _ _ _ _ _ _ _ _ _ _ _ _ _ _ _ _ _ _ _ _ _ _ _ _ _ _ _ _ _ _ _ _ _ _ _ _ _ _ _ _ _ _ _ _ _ _ _ _ _ _ _ _ _ _ _ _ _ _ _ _ _ _ _ _ _ _ _ _ _ _ _ _ _ _ _ _ _ _ _ _ _ _ _ _ _ _ _ _ _ _ _ _ _ _ _ _ _ _ _ _ _ _ _ _ _ _ _ _ _ _ _ _ _ _ _ _ _ _ _ _ _ _ _ _ _ _ _ _ _ _ _ _ _ _ _ _ _ _ _ _ _ _ _ _ _ _ _ _ _ _ _ _ _ _ _ _ _ _ _ _ _ _ _ _ _ _ _ _ _ _ _ _ _ _ _ _ _ _ _ _ _ _ _ _ _ _ _ _ _ _ _ _ _ _ _ _ _ _ _ _ _ _ _ _ _ _ _ _ _ _ _ _ _ _ _ _ _ _ _ _ _ _ _ _ _ _ _ _ _ _ _ _ _ _ _ _ _ _ _ _ _ _ _ _ _ _ _ _ _ _ _ _ _ _ _ _ _ _ _ _ _ _ _ _ _ _ _ (fun x6 x23 x24 x25 x197 x198 x199 x200 x201 x202 x203 x204 x205 x206 x207 x208 x209 x210 x211 x212 x213 x214 x215 x216 x217 x218 x219 x220 x221 x222 x223 x224 x225 x226 x227 x228 x229 x230 x231 x232 x233 x234 x235 x236 x237 x238 x239 x240 x241 x242 x243 x244 x245 => ?_)
        go_upto_block 10 with fail
        refine asum_any W w6 B H N oa oc rs (newRecs a.toNat rs) M V2 tot HC6.out HI.out htot60 HTG.out _ _ _ _ _ _ _ _ _ _ _ _ _ _ _ _ _ _ _ _ _ _ _ _ _ _ _ _ _ _ _ _ _ _ _ _ _ _ _ _ _ _ _ _ _ _ _ _ _ _ _ _ _ _ _ _ _ _ _ _ _ _ _ _ _ _ _ _ _ _ _ _ _ _ _ _ _ _ _ _ _ _ _ _ _ _ _ _ _ _ _ _ _ _ _ _ _ _ _ _ _ _ _ _ _ _ _ _ _ _ _ _ _ _ _ _ _ _ _ _ _ _ _ _ _ _ _ _ _ _ _ _ _ _ _ _ _ _ _ _ _ _ _ _ _ _ _ _ _ _ _ _ _ _ _ _ _ _ _ _ _ _ _ _ _ _ _ _ _ _ _ _ _ _ _ _ _ _ _ _ _ _ _ _ _ _ _ _ _ _ _ _ _ _ _ _ _ _ _ _ _ _ _ _ _ _ _ _ _ _ _ _ _ _ _ _ _ _ _ _ _ _ _ _ _ _ _ _ _ _ _ _ _ _ _ _ _ _ _ _ _ _ _ _ _ _ _ _ _ _ _ _ _ _ _ _ _ _ _ _ _ _ _ _ _ _ _ _ _ _ _ _ _ _ _ _ _ _ (fun x26 x246 x247 x248 x249 x250 x251 x252 x253 x254 x255 x256 x257 x258 x259 x260 x261 x262 x263 x264 x265 x266 x267 x268 x269 x270 => ?_)
        go_wp2_with (first
          | (go_at_call 17; (with_reducible refine (end_at w6 B M E HC6.out.s HE.out).mono ?_); rintro r wq ⟨rfl, rfl⟩)
          | (go_at_call 10; have K := right_any w6 _ ra6 rn rc6 RL E HRO6.out (by omega); rw [HRIGHT.out] at K; (with_reducible refine K.mono ?_); clear K; rintro r w7 ⟨rfl, hg7⟩; have HC7 := Lib.hid (HC6.out.grown hg7); clear hg7))
        go_ret
        exact ⟨rfl, gbelow HC7.out.g⟩

open Go.ChangeShapes Go.WideShapes Go.ChangeAt
set_option linter.unusedVariables false
set_option maxRecDepth 100000 in
theorem apart_lifted (os : Os) (started : os.Started) (H : Type) (enc : TypeId × Value → H) :
    ReturnsInHanded {} Try.checked os 4 .any (Rows.spaceApartSpec.pre6 enc Try.prog Try.f4 Rows.spaceApartRow.domain false) (Rows.spaceApartSpec.post enc Try.prog Try.f4 false true false false) := by
  refine returnsInHanded_of_change_sized (C := Try.checked) ownKnob0 started (by kernel_rfl) Try.func4
    (ChangeSpec.witness6 (enc := enc) (C := Try.checked) false ⟨#[], #[.slice none 0 0, .int .u64 0, .slice none 0 0], []⟩ 8 (by kernel_rfl) (by kernel_rfl) (by kernel_rfl) (by kernel_rfl)) ?_
  intro W base args ds gs before hval0 hW hcnd hsz0 _
  have hval : ∀ (j : Nat) t v, Try.f4.params[j]? = some t → args[j]? = some v → Value.okWide Try.prog W .any base t v := hval0
  have hW' := hW
  obtain ⟨p, q, hA0, hV, rfl, hfz, hnd⟩ := hW
  have hA : DataW.TrodAll enc Try.prog W 0 (fun _ => true) true Try.f4.params.toList args.toList ds p := hA0
  have hsz : (DataW.weightsEach Try.prog (Try.f4.params.toList ++ Rows.spaceApartSpec.plain.varTypes Try.prog) (ds ++ gs)).all (· ≤ reachBytes) = true := hsz0
  rw [Try.params4] at hA hval hsz
  obtain ⟨v0, vs0, d0, ds0, p0, q0, hargs, rfl, rfl, h0, r0⟩ := trodAll_cons hA
  obtain ⟨v1, vs1, d1, ds1, p1, q1, rfl, rfl, rfl, h1, r1⟩ := trodAll_cons r0
  obtain ⟨v2, vs2, d2, ds2, p2, q2, rfl, rfl, rfl, h2, r2⟩ := trodAll_cons r1
  obtain ⟨rfl, rfl, rfl⟩ := trodAll_nil r2
  obtain rfl : args = #[v0, v1, v2] := by cases args; simp_all
  obtain ⟨rfl, rfl⟩ := trodVars_none hV
  obtain ⟨a0, len0, cap0, rfl⟩ := okWide_slice Try.underlying23 (hval 0 23 v0 rfl rfl)
  have lt0 : ∀ x ∈ p0, x.block < W.heap.size := by obtain ⟨m, hm⟩ := h0; exact DataW.trod_lt m _ _ _ hm
  obtain ⟨z0, w0, s0⟩ := open_raws8 h0 hsz (j := 0) rfl rfl
  obtain ⟨a1, rfl, rfl, rfl, w1⟩ := open_int Try.underlying24 (hval 1 24 v1 rfl rfl) h1
  have b1 := bounds_u64 w1
  obtain ⟨a2, len2, cap2, rfl⟩ := okWide_slice Try.underlying25 (hval 2 25 v2 rfl rfl)
  have lt2 : ∀ x ∈ p2, x.block < W.heap.size := by obtain ⟨m, hm⟩ := h2; exact DataW.trod_lt m _ _ _ hm
  obtain ⟨z2, w2⟩ := open_acts8 h2
  clear hA0 hval0
  refine (apart_any W a0 len0 cap0 z0 a1 a2 len2 cap2 z2 w0 s0 b1.1 b1.2 w2).mono fun e W' ⟨he, bel⟩ => ?_
  subst he
  exact ⟨_, rfl, _, _, _, [], _, [], hW', trodAll_mk1 (shut_bool Try.underlying4 _), (trodAll_cons_mk (Below.trod laidOut0 (by kernel_rfl) (of_decide_eq_true (by kernel_rfl)) h0 bel lt0) (trodAll_cons_mk (shut_int Try.underlying24 w1) (trodAll_cons_mk (Below.trod laidOut0 (by kernel_rfl) (of_decide_eq_true (by kernel_rfl)) h2 bel lt2) trodAll_mk0))), rfl, bel.frame _, fun h => by cases h⟩

/-- SpaceApart, for every input. -/
theorem spaceApart_holds : Rows.SpaceApartSaid :=
  OpenClaim.holds_of_wide 4 Try.f4 rfl rfl rfl rfl rfl rfl rfl ⟨rfl, rfl, rfl, rfl, rfl⟩ rfl rfl rfl rfl rfl (by kernel_rfl) Try.func4 (by kernel_rfl)
    (of_decide_eq_true (by kernel_rfl)) (by unfold Func.isWrapper; first | (rw [if_pos (by decide +kernel)]; kernel_rfl) | (rw [if_neg (by decide +kernel)]; exact ⟨rfl, rfl⟩))
    (fun os started H enc _ => apart_lifted os started H enc)
#print axioms spaceApart_holds

end Go.Proofs.Ytoaglkbobndmeab
