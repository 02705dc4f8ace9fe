/-
  ReadersPlays where there are readers: the loop. Own work; printed by tools/rd/mkplays.py.
-/
import Derived.Test.YtoaglkbobndmeaaRdV
import Derived.Test.YtoaglkbobndmeaaRdW0
import Derived.Test.YtoaglkbobndmeaaRdW1
import Derived.Test.YtoaglkbobndmeaaRdW2
import Derived.Test.YtoaglkbobndmeaaRdW3
import Derived.Test.YtoaglkbobndmeaaRdW4
import Derived.Test.YtoaglkbobndmeaaRdW5
import Derived.Test.YtoaglkbobndmeaaRdW6
import Derived.Test.YtoaglkbobndmeaaRdW7
namespace Go.Proofs.Ytoaglkbobndmeaa
open Go.RowKit

set_option maxRecDepth 1000000 in
set_option maxHeartbeats 8000000 in
theorem plays_good (W : World) (N : Nat) (hN1 : 1 ≤ N) (hN2 : N ≤ 126) (ao : Option Addr) (n c : Nat) (acs : List A9) (h : A9q W.heap.size W (.slice ao n c) acs) :
    Calls Try.prog 3 #[.int .i64 (N : Int), .slice ao n c] W fun r w' => r = .returned (.bool true) ∧ Below W.heap.size W w' := by
  obtain ⟨hnl, hnm⟩ := h.len
  have hn64 : (n : Int) ≤ 9223372036854775807 := by unfold maxLen at hnm; omega
  have H := Lib.hid h
  have HNL := Lib.hid hnl
  clear h hnl hnm
  go_enter Try.func3, Try.ntmps3
  go_upto_block 0 with (first
    | (go_at_call 8; (with_reducible refine (awake9_any W).mono ?_); rintro r w1 ⟨rfl, hg⟩; have HG1 := Lib.hid hg; clear hg)
    | (go_at_call 9; (with_reducible refine (new9_ex w1 N hN1 hN2).mono ?_); rintro r w2 ⟨b, rfl, hb, ht, hg⟩; have HT2 := Lib.hid ht; have HG2 := Lib.hid (gtrans HG1.out hg); have hbW : W.heap.size ≤ b := Nat.le_trans HG1.out.size hb; clear ht hg hb)
    | (go_at_call 10; (with_reducible refine (rnew_good w2 N hN1 hN2).mono ?_); rintro r w3 ⟨v, rfl, hs, hg⟩; have HT3 := Lib.hid (HT2.out.grown hg); have HS3 := Lib.hid (hs.base HG2.out.size); have HG3 := Lib.hid (gtrans HG2.out hg); clear hs hg)
    | go_in)
  go_cut [] from 293 (fun wx => W.grownBy wx none)
  case first =>
    go_wp2_with fail
    go_loopw [8, 10, 11] (fun sv lv i wr => ∃ (k : Nat) (L : List Sl) (hs : List (Nat × Nat)), k ≤ n ∧ k ≤ 60 ∧ i = .int .i64 (k : Int) ∧ L.length = N ∧ hs.length ≤ k ∧ TabAt b wr L ∧ SO W.heap.size wr sv L ∧ HOwn W.heap.size wr lv hs ∧ W.grownBy wr none) (fun _ _ i _ => 60 - (intOf i).toNat)
    case atStart => exact ⟨0, _, [], Nat.zero_le _, by decide, rfl, List.length_replicate, Nat.le_refl _, HT3.out, HS3.out, HOwn.nil _ _, HG3.out⟩
    case round =>
      obtain ⟨k, L, hs, hk, hk60, rfl, hLN, hhk, ht, hso, ho, hg⟩ := hrel
      have HT := Lib.hid ht
      have HS := Lib.hid hso
      have HO := Lib.hid ho
      have HG := Lib.hid hg
      have HLN := Lib.hid hLN
      obtain ⟨la, lc, hv⟩ := ho.shape
      subst hv
      obtain ⟨sa, sc, hv⟩ := hso.shape
      rw [hLN] at hv
      subst hv
      clear ht hso ho hg HT2 HT3 HS3 hLN
      by_cases hlt : k < n ∧ k < 60
      · have hki : (k : Int) < (n : Int) := by omega
        have hk6 : (k : Int) < 60 := by omega
        obtain ⟨a, ha⟩ : ∃ a, acs[k]? = some a := ⟨acs[k]'(by have := HNL.out; omega), List.getElem?_eq_getElem _⟩
        obtain ⟨ba, oa, rfl, -, c0, c1, c2, c3, hx64, ht64⟩ := (H.out.below (fun i hi => HG.out.block i hi (by simp))).at k a ha
        have HX64 := Lib.hid hx64
        have HT64 := Lib.hid ht64
        have hap := fun q e => (own_tag HO.out q e).2.1
        have HAP := Lib.hid hap
        have HRP := Lib.hid (RP.begin (a := a) HT.out HS.out HO.out HG.out)
        clear ha hap hx64 ht64
        go_upto_region 14 with fail
        generalize (wr.alloc (.cells #[.int .i64 a.kind, .int .i64 a.at_, .int .u64 (a.txn : Int), .int .u64 (a.turn : Int)] 34)).alloc (.cells #[.int .i64 a.at_, .int .u64 (a.turn : Int)] 36) = w1' at HRP ⊢
        have hqW := HG.out.size
        generalize wr.heap.size = q at HRP HAP hqW ⊢
        have HQW := Lib.hid hqW
        clear c0 c1 c2 c3 hqW
        obtain ⟨p, hp⟩ : ∃ p, p = hs.length := ⟨_, rfl⟩
        rw [← hp] at hhk HRP HAP ⊢
        have HP := Lib.hid hp
        obtain ⟨cc, hcc⟩ : ∃ cc : Bool, (decide (0 < p) && decide (3 < a.turn)) = cc := ⟨_, rfl⟩
        have HCC := Lib.hid hcc
        clear hcc hp
        go_cut [90] from 293 (fun bv wx => bv = .bool cc ∧ wx = w1')
        case first =>
          obtain ⟨k0, k1, k2, k3⟩ := cells4' HRP.out.act
          have hcc := HCC.out
          by_cases h1 : 0 < p
          · have h1i : (0 : Int) < (p : Int) := by omega
            by_cases h2 : 3 < a.turn
            · have h2i : (3 : Int) < (a.turn : Int) := by omega
              have HCQ := Lib.hid (show cc = true by rw [← HCC.out]; simp [h1, h2])
              clear hcc
              go_wp2
              go_meet
              case rel => exact ⟨by rw [HCQ.out], rfl⟩
            · have h2i : ¬ (3 : Int) < (a.turn : Int) := by omega
              have HCQ := Lib.hid (show cc = false by rw [← HCC.out]; simp [h2])
              clear hcc
              go_wp2
              go_meet
              case rel => exact ⟨by rw [HCQ.out], rfl⟩
          · have h1i : ¬ (0 : Int) < (p : Int) := by omega
            have HCQ := Lib.hid (show cc = false by rw [← HCC.out]; simp [h1])
            clear hcc
            go_wp2
            go_meet
            case rel => exact ⟨by rw [HCQ.out], rfl⟩
        case rest =>
          obtain ⟨rfl, hwc⟩ := hcut
          subst hwc
          go_upto_if 90 with fail
          go_cut [] from 293 (fun wx => ∃ (sl : Int) (tu : Nat), RP W b q a sl tu wx L (.slice sa N sc) (.slice la p lc) hs)
          case first =>
            cases cc with
            | false =>
              go_wp2
              go_meet
              case rel => exact ⟨_, _, HRP.out⟩
            | true =>
              have hc2 := HCC.out
              simp at hc2
              obtain ⟨p1, p2⟩ := hc2
              obtain ⟨j, hj⟩ : ∃ j, j = a.turn % p := ⟨_, rfl⟩
              have hjp : j < p := by rw [hj]; exact Nat.mod_lt _ p1
              obtain ⟨y, hy⟩ : ∃ y, hs[j]? = some y := ⟨hs[j]'(by have := HP.out; omega), List.getElem?_eq_getElem _⟩
              obtain ⟨g, c', hv, e0, e1⟩ := HRP.out.ho.at hy
              rw [← HP.out] at hv
              injection hv with hv1 _ hv3
              subst hv1 hv3
              obtain ⟨k0, k1, k2, k3⟩ := cells4' HRP.out.act
              obtain ⟨z0, z1⟩ := two_free HRP.out.hd
              obtain ⟨m0, m1⟩ := cells2 HRP.out.hd
              have hp0 : ¬ (p : Int) = 0 := by omega
              have hjpi : (j : Int) < (p : Int) := by omega
              have hw1 : IntKind.u64.wrap (p : Int) = (p : Int) := IntWalk.u64_in _ (by omega)
              have hmod : (a.turn : Int).tmod (p : Int) = (j : Int) := by rw [hj]; rfl
              have hw2 : IntKind.i64.wrap (j : Int) = (j : Int) := IntWalk.i64_in _ (by omega)
              have hmod2 : (a.turn : Int) % (p : Int) = (j : Int) := by rw [hj]; rfl
              clear hj hy
              go_wp2
              go_meet
              case rel => exact ⟨_, _, HRP.out.store HAP.out HQW.out (y.1 : Int) y.2⟩
          case rest =>
            obtain ⟨sl, tu, hrp⟩ := hcut
            have HRP2 := Lib.hid hrp
            have HbW := Lib.hid hbW
            have HL126 := Lib.hid (show L.length ≤ 126 by rw [HLN.out]; exact hN2)
            obtain ⟨kd, hkd, hk8⟩ : ∃ kd : Nat, a.kind % 8 = (kd : Int) ∧ kd < 8 := ⟨(a.kind % 8).toNat, by omega, by omega⟩
            have hand : bits .and .i64 a.kind 7 = (kd : Int) := by rw [and7, hkd]
            obtain ⟨k0, k1, k2, k3⟩ := cells4' hrp.act
            obtain ⟨m0, m1⟩ := cells2 hrp.hd
            clear hrp HRP hkd HCC
            go_upto_block 2 with fail
            go_cut [8, 10] from 293 (fun sv' lv' wx => ∃ (L' : List Sl) (hs' : List (Nat × Nat)), L'.length = N ∧ hs'.length ≤ k + 1 ∧ RP W b q a sl tu wx L' sv' lv' hs')
            case first =>
              rename_i J0 K0 hJ0 hK0
              rcases (show kd = 0 ∨ kd = 1 ∨ kd = 2 ∨ kd = 3 ∨ kd = 4 ∨ kd = 5 ∨ kd = 6 ∨ kd = 7 by omega) with rfl | rfl | rfl | rfl | rfl | rfl | rfl | rfl
              · exact arm9_0 W _ b q N p a sl tu L hs _ _ _ _ HRP2.out HLN.out hN2 HbW.out HP.out (by omega) HAP.out HX64.out _ _ _ _ _ _ _ _ _ _ _ _ _ _ _ _ _ _ _ _ _ _ _ _ _ _ _ _ _ _ _ _ _ _ _ _ _ _ _ _ _ _ _ _ _ _ _ _ _ _ _ _ _ _ _ _ _ _ _ _ _ _ _ _ _ _ _ _ _ _ _ _ _ _ _ _ _ _ _ _ _ _ _ _ _ _ _ _ _ _ _ _ _ _ _ _ _ _ _ _ _ _ _ _ _ _ _ _ _ _ _ _ _ _ _ _ _ _ _ _ _ _ _ _ _ _ _ _ _ _ _ _ _ _ _ _ _ _ _ _ _ _ _ _ _ _ _ _ _ _ _ _ _ _ _ _ _ _ _ _ _ _ _ _ _ _ _ _ _ _ _ _ _ _ _ _ _ _ _ _ _ _ _ _ _ _ _ _ _ _ _ _ _ _ _ _ _ _ _ _ _ _ _ _ _ _ _ _ _ _ _ _ _ _ _ _ _ _ _ _ _ _ _ _ _ _ _ _ _ _ _ _ _ _ _ _ _ _ _ _ _ _ _ _ _ _ _ _ _ _ _ _ _ _ _ _ _ _ _ _ _ _ _ _ _ _ _ _ _ _ _ _ _ _ _ _ _ _ _ _ _ _ _ _ _ _ _ _ _ (fun x4 x14 x15 x16 x17 x18 x19 x20 x21 x22 x23 x24 x25 x26 x27 x28 x104 x105 x106 x107 x108 x109 x110 x111 x112 x113 x114 x115 x116 x117 x118 x119 x120 x121 x122 x123 x124 x125 x126 x127 x128 x129 x130 x131 x132 x133 x134 x135 x136 x137 x138 x139 x140 x141 x142 x143 x144 x145 x146 x147 x148 x149 x150 x151 x152 x153 x154 x155 x156 x157 x158 x159 x160 x161 x162 x163 x164 x165 x166 x167 x168 x169 x170 x171 x172 x173 x174 x175 x176 x177 x178 x179 x180 x181 x182 x183 x184 x185 x186 x187 x188 x189 x190 x191 x192 x193 x194 sv' lv' w5 L' hs' h1 h2 h3 => hK0 _ _ (Met.intro (hJ0 _ _ ⟨x4, sv', lv', x14, x15, x16, x17, x18, x19, x20, x21, x22, x23, x24, x25, x26, x27, x28, x104, x105, x106, x107, x108, x109, x110, x111, x112, x113, x114, x115, x116, x117, x118, x119, x120, x121, x122, x123, x124, x125, x126, x127, x128, x129, x130, x131, x132, x133, x134, x135, x136, x137, x138, x139, x140, x141, x142, x143, x144, x145, x146, x147, x148, x149, x150, x151, x152, x153, x154, x155, x156, x157, x158, x159, x160, x161, x162, x163, x164, x165, x166, x167, x168, x169, x170, x171, x172, x173, x174, x175, x176, x177, x178, x179, x180, x181, x182, x183, x184, x185, x186, x187, x188, x189, x190, x191, x192, x193, x194, ⟨L', hs', h1, by omega, h3⟩, rfl⟩)))
              · exact arm9_1 W _ b q N p a sl tu L hs _ _ _ _ HRP2.out HLN.out hN2 HbW.out HP.out (by omega) HAP.out HX64.out _ _ _ _ _ _ _ _ _ _ _ _ _ _ _ _ _ _ _ _ _ _ _ _ _ _ _ _ _ _ _ _ _ _ _ _ _ _ _ _ _ _ _ _ _ _ _ _ _ _ _ _ _ _ _ _ _ _ _ _ _ _ _ _ _ _ _ _ _ _ _ _ _ _ _ _ _ _ _ _ _ _ _ _ _ _ _ _ _ _ _ _ _ _ _ _ _ _ _ _ _ _ _ _ _ _ _ _ _ _ _ _ _ _ _ _ _ _ _ _ _ _ _ _ _ _ _ _ _ _ _ _ _ _ _ _ _ _ _ _ _ _ _ _ _ _ _ _ _ _ _ _ _ _ _ _ _ _ _ _ _ _ _ _ _ _ _ _ _ _ _ _ _ _ _ _ _ _ _ _ _ _ _ _ _ _ _ _ _ _ _ _ _ _ _ _ _ _ _ _ _ _ _ _ _ _ _ _ _ _ _ _ _ _ _ _ _ _ _ _ _ _ _ _ _ _ _ _ _ _ _ _ _ _ _ _ _ _ _ _ _ _ _ _ _ _ _ _ _ _ _ _ _ _ _ _ _ _ _ _ _ _ _ _ _ _ _ _ _ _ _ _ _ _ _ _ _ _ _ _ _ _ _ _ _ _ _ _ _ (fun x4 x14 x15 x16 x17 x18 x19 x20 x21 x22 x23 x24 x25 x26 x27 x28 x104 x105 x106 x107 x108 x109 x110 x111 x112 x113 x114 x115 x116 x117 x118 x119 x120 x121 x122 x123 x124 x125 x126 x127 x128 x129 x130 x131 x132 x133 x134 x135 x136 x137 x138 x139 x140 x141 x142 x143 x144 x145 x146 x147 x148 x149 x150 x151 x152 x153 x154 x155 x156 x157 x158 x159 x160 x161 x162 x163 x164 x165 x166 x167 x168 x169 x170 x171 x172 x173 x174 x175 x176 x177 x178 x179 x180 x181 x182 x183 x184 x185 x186 x187 x188 x189 x190 x191 x192 x193 x194 sv' lv' w5 L' hs' h1 h2 h3 => hK0 _ _ (Met.intro (hJ0 _ _ ⟨x4, sv', lv', x14, x15, x16, x17, x18, x19, x20, x21, x22, x23, x24, x25, x26, x27, x28, x104, x105, x106, x107, x108, x109, x110, x111, x112, x113, x114, x115, x116, x117, x118, x119, x120, x121, x122, x123, x124, x125, x126, x127, x128, x129, x130, x131, x132, x133, x134, x135, x136, x137, x138, x139, x140, x141, x142, x143, x144, x145, x146, x147, x148, x149, x150, x151, x152, x153, x154, x155, x156, x157, x158, x159, x160, x161, x162, x163, x164, x165, x166, x167, x168, x169, x170, x171, x172, x173, x174, x175, x176, x177, x178, x179, x180, x181, x182, x183, x184, x185, x186, x187, x188, x189, x190, x191, x192, x193, x194, ⟨L', hs', h1, by omega, h3⟩, rfl⟩)))
              · exact arm9_2 W _ b q N p a sl tu L hs _ _ _ _ HRP2.out HLN.out hN2 HbW.out HP.out (by omega) HAP.out HX64.out _ _ _ _ _ _ _ _ _ _ _ _ _ _ _ _ _ _ _ _ _ _ _ _ _ _ _ _ _ _ _ _ _ _ _ _ _ _ _ _ _ _ _ _ _ _ _ _ _ _ _ _ _ _ _ _ _ _ _ _ _ _ _ _ _ _ _ _ _ _ _ _ _ _ _ _ _ _ _ _ _ _ _ _ _ _ _ _ _ _ _ _ _ _ _ _ _ _ _ _ _ _ _ _ _ _ _ _ _ _ _ _ _ _ _ _ _ _ _ _ _ _ _ _ _ _ _ _ _ _ _ _ _ _ _ _ _ _ _ _ _ _ _ _ _ _ _ _ _ _ _ _ _ _ _ _ _ _ _ _ _ _ _ _ _ _ _ _ _ _ _ _ _ _ _ _ _ _ _ _ _ _ _ _ _ _ _ _ _ _ _ _ _ _ _ _ _ _ _ _ _ _ _ _ _ _ _ _ _ _ _ _ _ _ _ _ _ _ _ _ _ _ _ _ _ _ _ _ _ _ _ _ _ _ _ _ _ _ _ _ _ _ _ _ _ _ _ _ _ _ _ _ _ _ _ _ _ _ _ _ _ _ _ _ _ _ _ _ _ _ _ _ _ _ _ _ _ _ _ _ _ _ _ _ _ _ _ _ _ (fun x4 x14 x15 x16 x17 x18 x19 x20 x21 x22 x23 x24 x25 x26 x27 x28 x104 x105 x106 x107 x108 x109 x110 x111 x112 x113 x114 x115 x116 x117 x118 x119 x120 x121 x122 x123 x124 x125 x126 x127 x128 x129 x130 x131 x132 x133 x134 x135 x136 x137 x138 x139 x140 x141 x142 x143 x144 x145 x146 x147 x148 x149 x150 x151 x152 x153 x154 x155 x156 x157 x158 x159 x160 x161 x162 x163 x164 x165 x166 x167 x168 x169 x170 x171 x172 x173 x174 x175 x176 x177 x178 x179 x180 x181 x182 x183 x184 x185 x186 x187 x188 x189 x190 x191 x192 x193 x194 sv' lv' w5 L' hs' h1 h2 h3 => hK0 _ _ (Met.intro (hJ0 _ _ ⟨x4, sv', lv', x14, x15, x16, x17, x18, x19, x20, x21, x22, x23, x24, x25, x26, x27, x28, x104, x105, x106, x107, x108, x109, x110, x111, x112, x113, x114, x115, x116, x117, x118, x119, x120, x121, x122, x123, x124, x125, x126, x127, x128, x129, x130, x131, x132, x133, x134, x135, x136, x137, x138, x139, x140, x141, x142, x143, x144, x145, x146, x147, x148, x149, x150, x151, x152, x153, x154, x155, x156, x157, x158, x159, x160, x161, x162, x163, x164, x165, x166, x167, x168, x169, x170, x171, x172, x173, x174, x175, x176, x177, x178, x179, x180, x181, x182, x183, x184, x185, x186, x187, x188, x189, x190, x191, x192, x193, x194, ⟨L', hs', h1, by omega, h3⟩, rfl⟩)))
              · exact arm9_3 W _ b q N p a sl tu L hs _ _ _ _ HRP2.out HLN.out hN2 HbW.out HP.out (by omega) HAP.out HX64.out _ _ _ _ _ _ _ _ _ _ _ _ _ _ _ _ _ _ _ _ _ _ _ _ _ _ _ _ _ _ _ _ _ _ _ _ _ _ _ _ _ _ _ _ _ _ _ _ _ _ _ _ _ _ _ _ _ _ _ _ _ _ _ _ _ _ _ _ _ _ _ _ _ _ _ _ _ _ _ _ _ _ _ _ _ _ _ _ _ _ _ _ _ _ _ _ _ _ _ _ _ _ _ _ _ _ _ _ _ _ _ _ _ _ _ _ _ _ _ _ _ _ _ _ _ _ _ _ _ _ _ _ _ _ _ _ _ _ _ _ _ _ _ _ _ _ _ _ _ _ _ _ _ _ _ _ _ _ _ _ _ _ _ _ _ _ _ _ _ _ _ _ _ _ _ _ _ _ _ _ _ _ _ _ _ _ _ _ _ _ _ _ _ _ _ _ _ _ _ _ _ _ _ _ _ _ _ _ _ _ _ _ _ _ _ _ _ _ _ _ _ _ _ _ _ _ _ _ _ _ _ _ _ _ _ _ _ _ _ _ _ _ _ _ _ _ _ _ _ _ _ _ _ _ _ _ _ _ _ _ _ _ _ _ _ _ _ _ _ _ _ _ _ _ _ _ _ _ _ _ _ _ _ _ _ _ _ _ _ (fun x4 x14 x15 x16 x17 x18 x19 x20 x21 x22 x23 x24 x25 x26 x27 x28 x104 x105 x106 x107 x108 x109 x110 x111 x112 x113 x114 x115 x116 x117 x118 x119 x120 x121 x122 x123 x124 x125 x126 x127 x128 x129 x130 x131 x132 x133 x134 x135 x136 x137 x138 x139 x140 x141 x142 x143 x144 x145 x146 x147 x148 x149 x150 x151 x152 x153 x154 x155 x156 x157 x158 x159 x160 x161 x162 x163 x164 x165 x166 x167 x168 x169 x170 x171 x172 x173 x174 x175 x176 x177 x178 x179 x180 x181 x182 x183 x184 x185 x186 x187 x188 x189 x190 x191 x192 x193 x194 sv' lv' w5 L' hs' h1 h2 h3 => hK0 _ _ (Met.intro (hJ0 _ _ ⟨x4, sv', lv', x14, x15, x16, x17, x18, x19, x20, x21, x22, x23, x24, x25, x26, x27, x28, x104, x105, x106, x107, x108, x109, x110, x111, x112, x113, x114, x115, x116, x117, x118, x119, x120, x121, x122, x123, x124, x125, x126, x127, x128, x129, x130, x131, x132, x133, x134, x135, x136, x137, x138, x139, x140, x141, x142, x143, x144, x145, x146, x147, x148, x149, x150, x151, x152, x153, x154, x155, x156, x157, x158, x159, x160, x161, x162, x163, x164, x165, x166, x167, x168, x169, x170, x171, x172, x173, x174, x175, x176, x177, x178, x179, x180, x181, x182, x183, x184, x185, x186, x187, x188, x189, x190, x191, x192, x193, x194, ⟨L', hs', h1, by omega, h3⟩, rfl⟩)))
              · exact arm9_4 W _ b q N p a sl tu L hs _ _ _ _ HRP2.out HLN.out hN2 HbW.out HP.out (by omega) HAP.out HX64.out _ _ _ _ _ _ _ _ _ _ _ _ _ _ _ _ _ _ _ _ _ _ _ _ _ _ _ _ _ _ _ _ _ _ _ _ _ _ _ _ _ _ _ _ _ _ _ _ _ _ _ _ _ _ _ _ _ _ _ _ _ _ _ _ _ _ _ _ _ _ _ _ _ _ _ _ _ _ _ _ _ _ _ _ _ _ _ _ _ _ _ _ _ _ _ _ _ _ _ _ _ _ _ _ _ _ _ _ _ _ _ _ _ _ _ _ _ _ _ _ _ _ _ _ _ _ _ _ _ _ _ _ _ _ _ _ _ _ _ _ _ _ _ _ _ _ _ _ _ _ _ _ _ _ _ _ _ _ _ _ _ _ _ _ _ _ _ _ _ _ _ _ _ _ _ _ _ _ _ _ _ _ _ _ _ _ _ _ _ _ _ _ _ _ _ _ _ _ _ _ _ _ _ _ _ _ _ _ _ _ _ _ _ _ _ _ _ _ _ _ _ _ _ _ _ _ _ _ _ _ _ _ _ _ _ _ _ _ _ _ _ _ _ _ _ _ _ _ _ _ _ _ _ _ _ _ _ _ _ _ _ _ _ _ _ _ _ _ _ _ _ _ _ _ _ _ _ _ _ _ _ _ _ _ _ _ _ _ _ (fun x4 x14 x15 x16 x17 x18 x19 x20 x21 x22 x23 x24 x25 x26 x27 x28 x104 x105 x106 x107 x108 x109 x110 x111 x112 x113 x114 x115 x116 x117 x118 x119 x120 x121 x122 x123 x124 x125 x126 x127 x128 x129 x130 x131 x132 x133 x134 x135 x136 x137 x138 x139 x140 x141 x142 x143 x144 x145 x146 x147 x148 x149 x150 x151 x152 x153 x154 x155 x156 x157 x158 x159 x160 x161 x162 x163 x164 x165 x166 x167 x168 x169 x170 x171 x172 x173 x174 x175 x176 x177 x178 x179 x180 x181 x182 x183 x184 x185 x186 x187 x188 x189 x190 x191 x192 x193 x194 sv' lv' w5 L' hs' h1 h2 h3 => hK0 _ _ (Met.intro (hJ0 _ _ ⟨x4, sv', lv', x14, x15, x16, x17, x18, x19, x20, x21, x22, x23, x24, x25, x26, x27, x28, x104, x105, x106, x107, x108, x109, x110, x111, x112, x113, x114, x115, x116, x117, x118, x119, x120, x121, x122, x123, x124, x125, x126, x127, x128, x129, x130, x131, x132, x133, x134, x135, x136, x137, x138, x139, x140, x141, x142, x143, x144, x145, x146, x147, x148, x149, x150, x151, x152, x153, x154, x155, x156, x157, x158, x159, x160, x161, x162, x163, x164, x165, x166, x167, x168, x169, x170, x171, x172, x173, x174, x175, x176, x177, x178, x179, x180, x181, x182, x183, x184, x185, x186, x187, x188, x189, x190, x191, x192, x193, x194, ⟨L', hs', h1, by omega, h3⟩, rfl⟩)))
              · exact arm9_5 W _ b q N p a sl tu L hs _ _ _ _ HRP2.out HLN.out hN2 HbW.out HP.out (by omega) HAP.out HX64.out _ _ _ _ _ _ _ _ _ _ _ _ _ _ _ _ _ _ _ _ _ _ _ _ _ _ _ _ _ _ _ _ _ _ _ _ _ _ _ _ _ _ _ _ _ _ _ _ _ _ _ _ _ _ _ _ _ _ _ _ _ _ _ _ _ _ _ _ _ _ _ _ _ _ _ _ _ _ _ _ _ _ _ _ _ _ _ _ _ _ _ _ _ _ _ _ _ _ _ _ _ _ _ _ _ _ _ _ _ _ _ _ _ _ _ _ _ _ _ _ _ _ _ _ _ _ _ _ _ _ _ _ _ _ _ _ _ _ _ _ _ _ _ _ _ _ _ _ _ _ _ _ _ _ _ _ _ _ _ _ _ _ _ _ _ _ _ _ _ _ _ _ _ _ _ _ _ _ _ _ _ _ _ _ _ _ _ _ _ _ _ _ _ _ _ _ _ _ _ _ _ _ _ _ _ _ _ _ _ _ _ _ _ _ _ _ _ _ _ _ _ _ _ _ _ _ _ _ _ _ _ _ _ _ _ _ _ _ _ _ _ _ _ _ _ _ _ _ _ _ _ _ _ _ _ _ _ _ _ _ _ _ _ _ _ _ _ _ _ _ _ _ _ _ _ _ _ _ _ _ _ _ _ _ _ _ _ _ _ (fun x4 x14 x15 x16 x17 x18 x19 x20 x21 x22 x23 x24 x25 x26 x27 x28 x104 x105 x106 x107 x108 x109 x110 x111 x112 x113 x114 x115 x116 x117 x118 x119 x120 x121 x122 x123 x124 x125 x126 x127 x128 x129 x130 x131 x132 x133 x134 x135 x136 x137 x138 x139 x140 x141 x142 x143 x144 x145 x146 x147 x148 x149 x150 x151 x152 x153 x154 x155 x156 x157 x158 x159 x160 x161 x162 x163 x164 x165 x166 x167 x168 x169 x170 x171 x172 x173 x174 x175 x176 x177 x178 x179 x180 x181 x182 x183 x184 x185 x186 x187 x188 x189 x190 x191 x192 x193 x194 sv' lv' w5 L' hs' h1 h2 h3 => hK0 _ _ (Met.intro (hJ0 _ _ ⟨x4, sv', lv', x14, x15, x16, x17, x18, x19, x20, x21, x22, x23, x24, x25, x26, x27, x28, x104, x105, x106, x107, x108, x109, x110, x111, x112, x113, x114, x115, x116, x117, x118, x119, x120, x121, x122, x123, x124, x125, x126, x127, x128, x129, x130, x131, x132, x133, x134, x135, x136, x137, x138, x139, x140, x141, x142, x143, x144, x145, x146, x147, x148, x149, x150, x151, x152, x153, x154, x155, x156, x157, x158, x159, x160, x161, x162, x163, x164, x165, x166, x167, x168, x169, x170, x171, x172, x173, x174, x175, x176, x177, x178, x179, x180, x181, x182, x183, x184, x185, x186, x187, x188, x189, x190, x191, x192, x193, x194, ⟨L', hs', h1, by omega, h3⟩, rfl⟩)))
              · exact arm9_6 W _ b q N p a sl tu L hs _ _ _ _ HRP2.out HLN.out hN2 HbW.out HP.out (by omega) HAP.out HX64.out _ _ _ _ _ _ _ _ _ _ _ _ _ _ _ _ _ _ _ _ _ _ _ _ _ _ _ _ _ _ _ _ _ _ _ _ _ _ _ _ _ _ _ _ _ _ _ _ _ _ _ _ _ _ _ _ _ _ _ _ _ _ _ _ _ _ _ _ _ _ _ _ _ _ _ _ _ _ _ _ _ _ _ _ _ _ _ _ _ _ _ _ _ _ _ _ _ _ _ _ _ _ _ _ _ _ _ _ _ _ _ _ _ _ _ _ _ _ _ _ _ _ _ _ _ _ _ _ _ _ _ _ _ _ _ _ _ _ _ _ _ _ _ _ _ _ _ _ _ _ _ _ _ _ _ _ _ _ _ _ _ _ _ _ _ _ _ _ _ _ _ _ _ _ _ _ _ _ _ _ _ _ _ _ _ _ _ _ _ _ _ _ _ _ _ _ _ _ _ _ _ _ _ _ _ _ _ _ _ _ _ _ _ _ _ _ _ _ _ _ _ _ _ _ _ _ _ _ _ _ _ _ _ _ _ _ _ _ _ _ _ _ _ _ _ _ _ _ _ _ _ _ _ _ _ _ _ _ _ _ _ _ _ _ _ _ _ _ _ _ _ _ _ _ _ _ _ _ _ _ _ _ _ _ _ _ _ _ _ (fun x4 x14 x15 x16 x17 x18 x19 x20 x21 x22 x23 x24 x25 x26 x27 x28 x104 x105 x106 x107 x108 x109 x110 x111 x112 x113 x114 x115 x116 x117 x118 x119 x120 x121 x122 x123 x124 x125 x126 x127 x128 x129 x130 x131 x132 x133 x134 x135 x136 x137 x138 x139 x140 x141 x142 x143 x144 x145 x146 x147 x148 x149 x150 x151 x152 x153 x154 x155 x156 x157 x158 x159 x160 x161 x162 x163 x164 x165 x166 x167 x168 x169 x170 x171 x172 x173 x174 x175 x176 x177 x178 x179 x180 x181 x182 x183 x184 x185 x186 x187 x188 x189 x190 x191 x192 x193 x194 sv' lv' w5 L' hs' h1 h2 h3 => hK0 _ _ (Met.intro (hJ0 _ _ ⟨x4, sv', lv', x14, x15, x16, x17, x18, x19, x20, x21, x22, x23, x24, x25, x26, x27, x28, x104, x105, x106, x107, x108, x109, x110, x111, x112, x113, x114, x115, x116, x117, x118, x119, x120, x121, x122, x123, x124, x125, x126, x127, x128, x129, x130, x131, x132, x133, x134, x135, x136, x137, x138, x139, x140, x141, x142, x143, x144, x145, x146, x147, x148, x149, x150, x151, x152, x153, x154, x155, x156, x157, x158, x159, x160, x161, x162, x163, x164, x165, x166, x167, x168, x169, x170, x171, x172, x173, x174, x175, x176, x177, x178, x179, x180, x181, x182, x183, x184, x185, x186, x187, x188, x189, x190, x191, x192, x193, x194, ⟨L', hs', h1, by omega, h3⟩, rfl⟩)))
              · exact arm9_7 W _ b q N p a sl tu L hs _ _ _ _ HRP2.out HLN.out hN2 HbW.out HP.out (by omega) HAP.out HX64.out _ _ _ _ _ _ _ _ _ _ _ _ _ _ _ _ _ _ _ _ _ _ _ _ _ _ _ _ _ _ _ _ _ _ _ _ _ _ _ _ _ _ _ _ _ _ _ _ _ _ _ _ _ _ _ _ _ _ _ _ _ _ _ _ _ _ _ _ _ _ _ _ _ _ _ _ _ _ _ _ _ _ _ _ _ _ _ _ _ _ _ _ _ _ _ _ _ _ _ _ _ _ _ _ _ _ _ _ _ _ _ _ _ _ _ _ _ _ _ _ _ _ _ _ _ _ _ _ _ _ _ _ _ _ _ _ _ _ _ _ _ _ _ _ _ _ _ _ _ _ _ _ _ _ _ _ _ _ _ _ _ _ _ _ _ _ _ _ _ _ _ _ _ _ _ _ _ _ _ _ _ _ _ _ _ _ _ _ _ _ _ _ _ _ _ _ _ _ _ _ _ _ _ _ _ _ _ _ _ _ _ _ _ _ _ _ _ _ _ _ _ _ _ _ _ _ _ _ _ _ _ _ _ _ _ _ _ _ _ _ _ _ _ _ _ _ _ _ _ _ _ _ _ _ _ _ _ _ _ _ _ _ _ _ _ _ _ _ _ _ _ _ _ _ _ _ _ _ _ _ _ _ _ _ _ _ _ _ _ (fun x4 x14 x15 x16 x17 x18 x19 x20 x21 x22 x23 x24 x25 x26 x27 x28 x104 x105 x106 x107 x108 x109 x110 x111 x112 x113 x114 x115 x116 x117 x118 x119 x120 x121 x122 x123 x124 x125 x126 x127 x128 x129 x130 x131 x132 x133 x134 x135 x136 x137 x138 x139 x140 x141 x142 x143 x144 x145 x146 x147 x148 x149 x150 x151 x152 x153 x154 x155 x156 x157 x158 x159 x160 x161 x162 x163 x164 x165 x166 x167 x168 x169 x170 x171 x172 x173 x174 x175 x176 x177 x178 x179 x180 x181 x182 x183 x184 x185 x186 x187 x188 x189 x190 x191 x192 x193 x194 sv' lv' w5 L' hs' h1 h2 h3 => hK0 _ _ (Met.intro (hJ0 _ _ ⟨x4, sv', lv', x14, x15, x16, x17, x18, x19, x20, x21, x22, x23, x24, x25, x26, x27, x28, x104, x105, x106, x107, x108, x109, x110, x111, x112, x113, x114, x115, x116, x117, x118, x119, x120, x121, x122, x123, x124, x125, x126, x127, x128, x129, x130, x131, x132, x133, x134, x135, x136, x137, x138, x139, x140, x141, x142, x143, x144, x145, x146, x147, x148, x149, x150, x151, x152, x153, x154, x155, x156, x157, x158, x159, x160, x161, x162, x163, x164, x165, x166, x167, x168, x169, x170, x171, x172, x173, x174, x175, x176, x177, x178, x179, x180, x181, x182, x183, x184, x185, x186, x187, x188, x189, x190, x191, x192, x193, x194, ⟨L', hs', h1, by omega, h3⟩, rfl⟩)))
            case rest =>
              obtain ⟨L', hs', hL', hh', hrp3⟩ := hcut
              have HRP3 := Lib.hid hrp3
              have HLN' := Lib.hid hL'
              obtain ⟨sa2, sc2, hv⟩ := hrp3.so.shape
              rw [hL'] at hv
              subst hv
              clear hrp3 hL'
              rename ∀ (a : Act) (w : World), Code.wp _ (Code.region 11 _ _) _ a w → _ => hK1
              rename ∀ (a : Act) (w : World), Code.wp _ _ (Exit.inBlock 1 _) a w → _ => hK0
              refine hK0 _ _ ?_
              cases hgm : goodM L' sl tu with
              | none =>
                refine tail9_none W wc b q N a sl tu L' hs' sa2 sc2 u10 HRP3.out HLN'.out hN2 hgm _ _ _ _ _ _ _ _ _ _ _ _ _ _ _ _ _ _ _ _ _ _ _ _ _ _ _ _ _ _ _ _ _ _ _ _ _ _ _ _ _ _ _ _ _ _ _ _ _ _ _ _ _ _ _ _ _ _ _ _ _ _ _ _ _ _ _ _ _ _ _ _ _ _ _ _ _ _ _ _ _ _ _ _ _ _ _ _ _ _ _ _ _ _ _ _ _ _ _ _ _ _ _ _ _ _ _ _ _ _ _ _ _ _ _ _ _ _ _ _ _ _ _ _ _ _ _ _ _ _ _ _ _ _ _ _ _ _ _ _ _ _ _ _ _ _ _ _ _ _ _ _ _ _ _ _ _ _ _ _ _ _ _ _ _ _ _ _ _ _ _ _ _ _ _ _ _ _ _ _ _ _ _ _ _ _ _ _ _ _ _ _ _ _ _ _ _ _ _ _ _ _ _ _ _ _ _ _ _ _ _ _ _ _ _ _ _ _ _ _ _ _ _ _ _ _ _ _ _ _ _ _ _ _ _ _ _ _ _ _ _ _ _ _ _ _ _ _ _ _ _ _ _ _ _ _ _ _ _ _ _ _ _ _ _ _ _ _ _ _ _ _ _ _ _ _ _ _ _ _ _ _ _ _ _ _ _ _ _ _ _ (fun x29 x30 x31 x195 x196 x197 x198 x199 x200 x201 x202 x203 x204 x205 x206 x207 x208 x209 x210 x211 x212 x213 x214 x215 x216 x217 x218 x219 x220 x221 x222 x223 x224 x225 x226 x227 x228 x229 x230 x231 x232 x233 x234 x235 x236 x237 x238 x239 x240 x241 x242 x243 x244 x245 x246 x247 x248 x249 x250 x251 w7 hrp6 => hK1 _ _ ?_)
                have HRP6 := Lib.hid hrp6
                clear hrp6
                go_wp2
                go_roundw
                case rel => exact ⟨k + 1, L', hs', by omega, by omega, by go_num, HLN'.out, hh', HRP6.out.tab, HRP6.out.so, HRP6.out.ho, HRP6.out.gr⟩
                case measure => simp [intOf]; omega
              | some s =>
                refine tail9_some W wc b q N a sl tu L' hs' sa2 sc2 u10 s HRP3.out HLN'.out hN2 hgm _ _ _ _ _ _ _ _ _ _ _ _ _ _ _ _ _ _ _ _ _ _ _ _ _ _ _ _ _ _ _ _ _ _ _ _ _ _ _ _ _ _ _ _ _ _ _ _ _ _ _ _ _ _ _ _ _ _ _ _ _ _ _ _ _ _ _ _ _ _ _ _ _ _ _ _ _ _ _ _ _ _ _ _ _ _ _ _ _ _ _ _ _ _ _ _ _ _ _ _ _ _ _ _ _ _ _ _ _ _ _ _ _ _ _ _ _ _ _ _ _ _ _ _ _ _ _ _ _ _ _ _ _ _ _ _ _ _ _ _ _ _ _ _ _ _ _ _ _ _ _ _ _ _ _ _ _ _ _ _ _ _ _ _ _ _ _ _ _ _ _ _ _ _ _ _ _ _ _ _ _ _ _ _ _ _ _ _ _ _ _ _ _ _ _ _ _ _ _ _ _ _ _ _ _ _ _ _ _ _ _ _ _ _ _ _ _ _ _ _ _ _ _ _ _ _ _ _ _ _ _ _ _ _ _ _ _ _ _ _ _ _ _ _ _ _ _ _ _ _ _ _ _ _ _ _ _ _ _ _ _ _ _ _ _ _ _ _ _ _ _ _ _ _ _ _ _ _ _ _ _ _ _ _ _ _ _ _ _ _ _ (fun x29 x30 x31 x195 x196 x197 x198 x199 x200 x201 x202 x203 x204 x205 x206 x207 x208 x209 x210 x211 x212 x213 x214 x215 x216 x217 x218 x219 x220 x221 x222 x223 x224 x225 x226 x227 x228 x229 x230 x231 x232 x233 x234 x235 x236 x237 x238 x239 x240 x241 x242 x243 x244 x245 x246 x247 x248 x249 x250 x251 w7 hrp6 => hK1 _ _ ?_)
                have HRP6 := Lib.hid hrp6
                clear hrp6
                go_wp2
                go_roundw
                case rel => exact ⟨k + 1, L', hs', by omega, by omega, by go_num, HLN'.out, hh', HRP6.out.tab, HRP6.out.so, HRP6.out.ho, HRP6.out.gr⟩
                case measure => simp [intOf]; omega
      · by_cases hk1 : (k : Int) < (n : Int)
        · have hk2 : ¬ (k : Int) < 60 := by omega
          go_wp2
          go_meet
          case rel => exact HG.out
        · go_wp2
          go_meet
          case rel => exact HG.out
  case rest =>
    have HG := Lib.hid hcut
    clear hcut
    go_wp2_with (first
      | (go_at_call 11; (with_reducible refine (begin_nil _ 1).mono ?_); rintro r w5 ⟨rfl, hg5⟩; have HG5 := Lib.hid (gtrans (gtrans HG.out hg5) (World.grownBy_alloc w5 (.cells #[.int .i64 0, .int .u64 0] 36) none)); clear hg5)
      | (go_at_call 19; have K : Calls Try.prog 19 #[.pointer none, .agg #[.int .i64 0, .int .u64 0]] _ _ := txn_nil (w5.alloc (.cells #[.int .i64 0, .int .u64 0] 36)) 0 0; (with_reducible refine K.mono ?_); clear K; rintro r w6 ⟨rfl, hg6⟩; have HG6 := Lib.hid (gtrans HG5.out hg6); clear hg6)
      | (go_at_call 13; have K : Calls Try.prog 13 #[.pointer none, .agg #[.int .i64 0, .int .u64 0]] _ _ := end9_nil w6 0 0; (with_reducible refine K.mono ?_); clear K; rintro r w7 ⟨rfl, hg7⟩; have HG7 := Lib.hid (gtrans HG6.out hg7); clear hg7)
      | (go_at_call 15; (with_reducible refine (dead_nil _ 0).mono ?_); rintro r w8 ⟨rfl, rfl⟩)
      | (go_at_call 17; (with_reducible refine (clear_nil _).mono ?_); rintro r w9 ⟨rfl, rfl⟩)
      | (go_at_call 23; (with_reducible refine (live_nil _).mono ?_); rintro r w10 ⟨rfl, rfl⟩)
      | (go_at_call 21; (with_reducible refine (oldest_nil _ 4).mono ?_); rintro r w11 ⟨rfl, rfl⟩)
      | go_in)
    go_ret
    exact ⟨rfl, gbelow HG7.out⟩


end Go.Proofs.Ytoaglkbobndmeaa
