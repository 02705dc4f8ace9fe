/-
  DiskPlays where there is a disk: the loop, an act a round. Own work.
-/
import Derived.Test.YtnodclijlhoobaaDskE2
import Derived.Test.YtnodclijlhoobaaDskE3
import Derived.Test.YtnodclijlhoobaaDskE4
import Derived.Test.YtnodclijlhoobaaDskE5
namespace Go.Proofs.Ytnodclijlhoobaa
open Go.RowKit

set_option maxRecDepth 1000000 in
set_option maxHeartbeats 8000000 in
theorem plays_main (W : World) (s l k : Nat) (ao1 ao2 : Option Addr) (n c1 m c2 : Nat) (bs : List Int) (hs : Seq W.heap.size W (.slice ao1 n c1) bs) (hn : n ≤ 9000) (hsc : Acts W (.slice ao2 m c2) m) (hm9 : m ≤ 9223372036854775807)
    (hmay : May (s : Int) (l : Int)) (hk : n = k * s) (hkl : k ≤ l) :
    Calls Try.prog 3 #[.int .i64 s, .int .i64 l, .slice ao1 n c1, .slice ao2 m c2] W fun r w' => r = .returned (.bool true) ∧ Below W.heap.size W w' := by
  have hnot : ∀ (x : Bool) (w : World), (Op.unary .not (.bool x)).run Try.prog w = .ok (.bool (!x)) w := fun _ _ => rfl
  have hni : ¬ (9000 : Int) < (n : Int) := by omega
  have hlen : n = bs.length := by obtain ⟨_, _, hv, _⟩ := hs; injection hv
  have HS := Lib.hid hs
  have HSC := Lib.hid hsc
  have HM := Lib.hid hmay
  have HK := Lib.hid hk
  have HN := Lib.hid hlen
  clear hs hsc hmay hk hlen
  go_enter Try.func3, Try.ntmps3
  go_wp2_with (first
    | (go_at_call 10; refine (awake3_any _).mono ?_; rintro e wA ⟨rfl, hA⟩; have HA := Lib.hid hA; clear hA)
    | (go_at_call 11; refine (from_ok _ ao1 n c1 bs s l k HM.out ((HS.out.below (fun i hi => HA.out.block i hi (by simp))).mono HA.out.size) HK.out hkl).mono ?_; rintro e w1 ⟨rfl, hd, hg⟩; have HD1 := Lib.hid hd; have HG1 := Lib.hid (gtrans HA.out hg); have hcv : (convert 22 9 (.slice ao1 n c1)).run Try.prog w1 = .ok (.string (strOfNums bs)) w1 := seq_string ((HS.out.below (fun i hi => HG1.out.block i hi (by simp))).mono HG1.out.size); clear hd hg)
    | (go_at_call 12; refine (rfrom_ok _ (strOfNums bs) s l k HM.out (by rw [str_sz, ← HN.out]; exact HK.out) hkl).mono ?_; rintro e w2 ⟨ga0, gc0, rfl, hr, hg⟩; have HR2 := Lib.hid hr; have HG2 := Lib.hid (gtrans HG1.out hg); have HD2 := Lib.hid (HD1.out.new hg); clear hr hg hcv))
  obtain ⟨pb, hpb⟩ : ∃ q, q = w2.heap.size := ⟨_, rfl⟩
  have hq0 := heap_alloc_new w2 (.cells (dcs s l ga0 k gc0 none 0 0 (-1) 0) 32)
  have hga := World.grownBy_alloc w2 (.cells (dcs s l ga0 k gc0 none 0 0 (-1) 0) 32) none
  have HDa := Lib.hid (HD2.out.new hga)
  have HBa := Lib.hid (gbelow (gtrans HG2.out hga))
  have HRa : Hid (RIn (w2.alloc (.cells (dcs s l ga0 k gc0 none 0 0 (-1) 0) 32)) (st0 bs s l k) ga0 gc0 none 0) := Lib.hid ⟨by
    show Row _ _ (.slice ga0 (chunks bs s k).length gc0) (mgO (chunks bs s k)).length _
    rw [mgO_len, chunks_len, from_same]
    exact HR2.out.grown hga, Row.nil _ _⟩
  have HQa : Hid ((w2.alloc (.cells (dcs s l ga0 k gc0 none 0 0 (-1) 0) 32)).heap[pb]? = some (.cells (dM (st0 bs s l k) s l ga0 gc0 none 0 (-1)) 32 (0, 0))) := Lib.hid (by
    rw [dM, show (st0 bs s l k).pg.length = k from chunks_len bs s k, hpb]; exact hq0)
  have HWp := Lib.hid (show W.heap.size ≤ pb by rw [hpb]; exact HG2.out.size)
  have HWs := Lib.hid (HA.out.size)
  rw [← hpb]
  obtain ⟨mm, hmm⟩ : ∃ x, x = min m 30 := ⟨_, rfl⟩
  clear hq0 hga hpb
  go_loopg [14] mm (fun g v wr => ∃ (i : Nat) (M : SM) (f : Int) (ga : Option Addr) (gc : Nat) (la : Option Addr) (lc : Nat), i + g = mm ∧ v = .int .i64 (i : Int) ∧ DskAt wA.heap.size wr wA.heap.size M ∧ wr.heap[pb]? = some (.cells (dM M s l ga gc la lc f) 32 (0, 0)) ∧ RIn wr M ga gc la lc ∧ PSt M f s l i ∧ Below W.heap.size W wr)
  case atStart => exact ⟨0, st0 bs s l k, -1, ga0, gc0, none, 0, by omega, rfl, HDa.out, HQa.out, HRa.out, pst0 bs HM.out hkl, HBa.out⟩
  case round =>
    rename_i J0 K0 hJ0 hK0
    obtain ⟨i, M, f, ga, gc, la, lc, hi, rfl, hd, hq, hr, hp, hb⟩ := hrel
    have HDi := Lib.hid hd
    have HQi := Lib.hid hq
    have HRi := Lib.hid hr
    have HPi := Lib.hid hp
    have HBi := Lib.hid hb
    clear hd hq hr hp HDa HBa HRa HQa HD1 HD2 HR2
    by_cases hlt : i < mm
    · obtain ⟨g, rfl⟩ : ∃ g, gk = g + 1 := ⟨gk - 1, by omega⟩
      have hki : (i : Int) < (m : Int) := by omega
      have hk30 : (i : Int) < 30 := by omega
      have hi30 : i ≤ 30 := by omega
      have him : i < m := by omega
      obtain ⟨ao, c, hv, hcs⟩ := HSC.out
      obtain ⟨b, o, rfl, hbB, hacts⟩ := hcs (by omega)
      injection hv with hv1 hv2 hv3
      subst hv1
      obtain ⟨K, X, N, ya, yn, yc, ys, q0, q1, q2, q3, hKb, hXb, hNb, hys, hyb⟩ := hacts i him
      have cc0 := (hb.cell (p := ⟨b, o + i * 4, none⟩) hbB).trans q0
      have cc1 := (hb.cell (p := ⟨b, o + i * 4 + 1, none⟩) hbB).trans q1
      have cc2 := (hb.cell (p := ⟨b, o + i * 4 + 2, none⟩) hbB).trans q2
      have cc3 := (hb.cell (p := ⟨b, o + i * 4 + 3, none⟩) hbB).trans q3
      have HYs := Lib.hid hys
      have HYb := Lib.hid hyb
      have HNb := Lib.hid hNb
      have hyl : yn = ys.length := by obtain ⟨_, _, hv, _⟩ := hys; injection hv
      have HYl := Lib.hid hyl
      have hmi := hm9
      clear q0 q1 q2 q3 hacts hcs hv2 hv3 hys hyb hNb hb hyl hXb
      by_cases hsm : yn ≤ 100 ∧ X ≤ 100
      · obtain ⟨hs1, hs2⟩ := hsm
        rcases (show ((K % 16 = 0 ∨ K % 16 = 1 ∨ K % 16 = 2 ∨ K % 16 = 3) ∨ (K % 16 = 4 ∨ K % 16 = 5 ∨ K % 16 = 6) ∨ (K % 16 = 7 ∨ K % 16 = 8) ∨ (K % 16 = 9 ∨ K % 16 = 10 ∨ K % 16 = 11) ∨ (K % 16 = 12 ∨ K % 16 = 13) ∨ (K % 16 = 14 ∨ K % 16 = 15)) by omega) with hg | hg | hg | hg | hg | hg
        · exact arm_write W wA wr s l m pb i b o c2 M f ga gc la lc HDi.out HQi.out HRi.out HPi.out HBi.out HWp.out HWs.out HM.out him hm9 (by omega) K X N ya yn yc ys cc0 cc1 cc2 cc3 HNb.out HYs.out HYb.out hs1 hs2 hg _ _ _ _ _ _ _ _ _ _ _ _ _ _ _ _ _ _ _ _ _ _ _ _ _ _ _ _ _ _ _ _ _ _ _ _ _ _ _ _ _ _ _ _ _ _ _ _ _ _ _ _ _ _ _ _ _ _ _ _ _ _ _ _ _ _ _ _ _ _ _ _ _ _ _ _ _ _ _ _ _ _ _ _ _ _ _ _ _ _ _ _ _ _ _ _ _ _ _ _ _ _ _ _ _ _ _ _ _ _ _ _ _ _ _ _ _ _ _ _ _ _ _ _ _ _ _ _ _ _ _ _ _ _ _ _ _ _ _ _ _ _ _ _ _ _ _ _ _ _ _ _ _ _ _ _ _ _ _ _ _ _ _ _ _ _ _ _ _ _ _ _ _ _ _ _ _ _ _ _ _ _ _ _ _ _ _ _ _ _ _ _ _ _ _ _ _ _ _ _ _ _ _ _ _ _ _ _ _ _ _ _ _ _ _ _ _ _ _ _ _ _ _ _ _ _ _ _ _ _ _ _ _ _ (fun x8 x11 x13 x15 x16 x17 x18 x19 x20 x21 x22 x57 x58 x59 x60 x61 x62 x63 x64 x65 x66 x67 x68 x69 x70 x71 x72 x73 x74 x75 x76 x77 x78 x79 x80 x81 x82 x83 x84 x85 x86 x87 x88 x89 x90 x91 x92 x93 x94 x95 x96 x97 x98 x99 x100 x101 x102 x103 x104 x105 x106 x107 x108 x109 x110 x111 x112 x113 x114 x115 x116 x117 x118 x119 x120 x121 x122 x123 x124 x125 x126 x127 x128 x129 x130 x131 x132 x133 x134 x135 x136 x137 x138 x139 x140 x141 x142 x143 x144 x145 x146 x147 x148 x149 x150 x151 x152 x153 x154 x155 x156 x157 x158 x159 x160 x161 x162 x163 x164 x165 x166 x167 x168 x169 x170 x171 x172 x173 x174 x175 x176 x177 x178 x179 x180 x181 x182 x183 x184 x185 x186 x187 x188 x189 x190 x191 x192 x193 w5 M' f' ga' gc' la' lc' h1 h2 h3 h4 h5 => hK0 _ _ (Handed.intro g (by omega) (hJ0 _ _ _ ⟨x8, x11, x13, .int .i64 ((i : Int) + 1), x15, x16, x17, x18, x19, x20, x21, x22, x57, x58, x59, x60, x61, x62, x63, x64, x65, x66, x67, x68, x69, x70, x71, x72, x73, x74, x75, x76, x77, x78, x79, x80, x81, x82, x83, x84, x85, x86, x87, x88, x89, x90, x91, x92, x93, x94, x95, x96, x97, x98, x99, x100, x101, x102, x103, x104, x105, x106, x107, x108, x109, x110, x111, x112, x113, x114, x115, x116, x117, x118, x119, x120, x121, x122, x123, x124, x125, x126, x127, x128, x129, x130, x131, x132, x133, x134, x135, x136, x137, x138, x139, x140, x141, x142, x143, x144, x145, x146, x147, x148, x149, x150, x151, x152, x153, x154, x155, x156, x157, x158, x159, x160, x161, x162, x163, x164, x165, x166, x167, x168, x169, x170, x171, x172, x173, x174, x175, x176, x177, x178, x179, x180, x181, x182, x183, x184, x185, x186, x187, x188, x189, x190, x191, x192, x193, ⟨i + 1, M', f', ga', gc', la', lc', by omega, by go_num, h1, h2, h3, h4, h5⟩, rfl⟩)))
        · exact arm_read W wA wr s l m pb i b o c2 M f ga gc la lc HDi.out HQi.out HRi.out HPi.out HBi.out HWp.out HWs.out HM.out him hm9 (by omega) K X N ya yn yc ys cc0 cc1 cc2 cc3 HNb.out HYs.out HYb.out hs1 hs2 hg _ _ _ _ _ _ _ _ _ _ _ _ _ _ _ _ _ _ _ _ _ _ _ _ _ _ _ _ _ _ _ _ _ _ _ _ _ _ _ _ _ _ _ _ _ _ _ _ _ _ _ _ _ _ _ _ _ _ _ _ _ _ _ _ _ _ _ _ _ _ _ _ _ _ _ _ _ _ _ _ _ _ _ _ _ _ _ _ _ _ _ _ _ _ _ _ _ _ _ _ _ _ _ _ _ _ _ _ _ _ _ _ _ _ _ _ _ _ _ _ _ _ _ _ _ _ _ _ _ _ _ _ _ _ _ _ _ _ _ _ _ _ _ _ _ _ _ _ _ _ _ _ _ _ _ _ _ _ _ _ _ _ _ _ _ _ _ _ _ _ _ _ _ _ _ _ _ _ _ _ _ _ _ _ _ _ _ _ _ _ _ _ _ _ _ _ _ _ _ _ _ _ _ _ _ _ _ _ _ _ _ _ _ _ _ _ _ _ _ _ _ _ _ _ _ _ _ _ _ _ _ _ _ _ (fun x8 x11 x13 x15 x16 x17 x18 x19 x20 x21 x22 x57 x58 x59 x60 x61 x62 x63 x64 x65 x66 x67 x68 x69 x70 x71 x72 x73 x74 x75 x76 x77 x78 x79 x80 x81 x82 x83 x84 x85 x86 x87 x88 x89 x90 x91 x92 x93 x94 x95 x96 x97 x98 x99 x100 x101 x102 x103 x104 x105 x106 x107 x108 x109 x110 x111 x112 x113 x114 x115 x116 x117 x118 x119 x120 x121 x122 x123 x124 x125 x126 x127 x128 x129 x130 x131 x132 x133 x134 x135 x136 x137 x138 x139 x140 x141 x142 x143 x144 x145 x146 x147 x148 x149 x150 x151 x152 x153 x154 x155 x156 x157 x158 x159 x160 x161 x162 x163 x164 x165 x166 x167 x168 x169 x170 x171 x172 x173 x174 x175 x176 x177 x178 x179 x180 x181 x182 x183 x184 x185 x186 x187 x188 x189 x190 x191 x192 x193 w5 M' f' ga' gc' la' lc' h1 h2 h3 h4 h5 => hK0 _ _ (Handed.intro g (by omega) (hJ0 _ _ _ ⟨x8, x11, x13, .int .i64 ((i : Int) + 1), x15, x16, x17, x18, x19, x20, x21, x22, x57, x58, x59, x60, x61, x62, x63, x64, x65, x66, x67, x68, x69, x70, x71, x72, x73, x74, x75, x76, x77, x78, x79, x80, x81, x82, x83, x84, x85, x86, x87, x88, x89, x90, x91, x92, x93, x94, x95, x96, x97, x98, x99, x100, x101, x102, x103, x104, x105, x106, x107, x108, x109, x110, x111, x112, x113, x114, x115, x116, x117, x118, x119, x120, x121, x122, x123, x124, x125, x126, x127, x128, x129, x130, x131, x132, x133, x134, x135, x136, x137, x138, x139, x140, x141, x142, x143, x144, x145, x146, x147, x148, x149, x150, x151, x152, x153, x154, x155, x156, x157, x158, x159, x160, x161, x162, x163, x164, x165, x166, x167, x168, x169, x170, x171, x172, x173, x174, x175, x176, x177, x178, x179, x180, x181, x182, x183, x184, x185, x186, x187, x188, x189, x190, x191, x192, x193, ⟨i + 1, M', f', ga', gc', la', lc', by omega, by go_num, h1, h2, h3, h4, h5⟩, rfl⟩)))
        · exact arm_grow W wA wr s l m pb i b o c2 M f ga gc la lc HDi.out HQi.out HRi.out HPi.out HBi.out HWp.out HWs.out HM.out him hm9 (by omega) K X N ya yn yc ys cc0 cc1 cc2 cc3 HNb.out HYs.out HYb.out hs1 hs2 hg _ _ _ _ _ _ _ _ _ _ _ _ _ _ _ _ _ _ _ _ _ _ _ _ _ _ _ _ _ _ _ _ _ _ _ _ _ _ _ _ _ _ _ _ _ _ _ _ _ _ _ _ _ _ _ _ _ _ _ _ _ _ _ _ _ _ _ _ _ _ _ _ _ _ _ _ _ _ _ _ _ _ _ _ _ _ _ _ _ _ _ _ _ _ _ _ _ _ _ _ _ _ _ _ _ _ _ _ _ _ _ _ _ _ _ _ _ _ _ _ _ _ _ _ _ _ _ _ _ _ _ _ _ _ _ _ _ _ _ _ _ _ _ _ _ _ _ _ _ _ _ _ _ _ _ _ _ _ _ _ _ _ _ _ _ _ _ _ _ _ _ _ _ _ _ _ _ _ _ _ _ _ _ _ _ _ _ _ _ _ _ _ _ _ _ _ _ _ _ _ _ _ _ _ _ _ _ _ _ _ _ _ _ _ _ _ _ _ _ _ _ _ _ _ _ _ _ _ _ _ _ _ _ _ (fun x8 x11 x13 x15 x16 x17 x18 x19 x20 x21 x22 x57 x58 x59 x60 x61 x62 x63 x64 x65 x66 x67 x68 x69 x70 x71 x72 x73 x74 x75 x76 x77 x78 x79 x80 x81 x82 x83 x84 x85 x86 x87 x88 x89 x90 x91 x92 x93 x94 x95 x96 x97 x98 x99 x100 x101 x102 x103 x104 x105 x106 x107 x108 x109 x110 x111 x112 x113 x114 x115 x116 x117 x118 x119 x120 x121 x122 x123 x124 x125 x126 x127 x128 x129 x130 x131 x132 x133 x134 x135 x136 x137 x138 x139 x140 x141 x142 x143 x144 x145 x146 x147 x148 x149 x150 x151 x152 x153 x154 x155 x156 x157 x158 x159 x160 x161 x162 x163 x164 x165 x166 x167 x168 x169 x170 x171 x172 x173 x174 x175 x176 x177 x178 x179 x180 x181 x182 x183 x184 x185 x186 x187 x188 x189 x190 x191 x192 x193 w5 M' f' ga' gc' la' lc' h1 h2 h3 h4 h5 => hK0 _ _ (Handed.intro g (by omega) (hJ0 _ _ _ ⟨x8, x11, x13, .int .i64 ((i : Int) + 1), x15, x16, x17, x18, x19, x20, x21, x22, x57, x58, x59, x60, x61, x62, x63, x64, x65, x66, x67, x68, x69, x70, x71, x72, x73, x74, x75, x76, x77, x78, x79, x80, x81, x82, x83, x84, x85, x86, x87, x88, x89, x90, x91, x92, x93, x94, x95, x96, x97, x98, x99, x100, x101, x102, x103, x104, x105, x106, x107, x108, x109, x110, x111, x112, x113, x114, x115, x116, x117, x118, x119, x120, x121, x122, x123, x124, x125, x126, x127, x128, x129, x130, x131, x132, x133, x134, x135, x136, x137, x138, x139, x140, x141, x142, x143, x144, x145, x146, x147, x148, x149, x150, x151, x152, x153, x154, x155, x156, x157, x158, x159, x160, x161, x162, x163, x164, x165, x166, x167, x168, x169, x170, x171, x172, x173, x174, x175, x176, x177, x178, x179, x180, x181, x182, x183, x184, x185, x186, x187, x188, x189, x190, x191, x192, x193, ⟨i + 1, M', f', ga', gc', la', lc', by omega, by go_num, h1, h2, h3, h4, h5⟩, rfl⟩)))
        · exact arm_sync W wA wr s l m pb i b o c2 M f ga gc la lc HDi.out HQi.out HRi.out HPi.out HBi.out HWp.out HWs.out HM.out him hm9 (by omega) K X N ya yn yc ys cc0 cc1 cc2 cc3 HNb.out HYs.out HYb.out hs1 hs2 hg _ _ _ _ _ _ _ _ _ _ _ _ _ _ _ _ _ _ _ _ _ _ _ _ _ _ _ _ _ _ _ _ _ _ _ _ _ _ _ _ _ _ _ _ _ _ _ _ _ _ _ _ _ _ _ _ _ _ _ _ _ _ _ _ _ _ _ _ _ _ _ _ _ _ _ _ _ _ _ _ _ _ _ _ _ _ _ _ _ _ _ _ _ _ _ _ _ _ _ _ _ _ _ _ _ _ _ _ _ _ _ _ _ _ _ _ _ _ _ _ _ _ _ _ _ _ _ _ _ _ _ _ _ _ _ _ _ _ _ _ _ _ _ _ _ _ _ _ _ _ _ _ _ _ _ _ _ _ _ _ _ _ _ _ _ _ _ _ _ _ _ _ _ _ _ _ _ _ _ _ _ _ _ _ _ _ _ _ _ _ _ _ _ _ _ _ _ _ _ _ _ _ _ _ _ _ _ _ _ _ _ _ _ _ _ _ _ _ _ _ _ _ _ _ _ _ _ _ _ _ _ _ _ _ (fun x8 x11 x13 x15 x16 x17 x18 x19 x20 x21 x22 x57 x58 x59 x60 x61 x62 x63 x64 x65 x66 x67 x68 x69 x70 x71 x72 x73 x74 x75 x76 x77 x78 x79 x80 x81 x82 x83 x84 x85 x86 x87 x88 x89 x90 x91 x92 x93 x94 x95 x96 x97 x98 x99 x100 x101 x102 x103 x104 x105 x106 x107 x108 x109 x110 x111 x112 x113 x114 x115 x116 x117 x118 x119 x120 x121 x122 x123 x124 x125 x126 x127 x128 x129 x130 x131 x132 x133 x134 x135 x136 x137 x138 x139 x140 x141 x142 x143 x144 x145 x146 x147 x148 x149 x150 x151 x152 x153 x154 x155 x156 x157 x158 x159 x160 x161 x162 x163 x164 x165 x166 x167 x168 x169 x170 x171 x172 x173 x174 x175 x176 x177 x178 x179 x180 x181 x182 x183 x184 x185 x186 x187 x188 x189 x190 x191 x192 x193 w5 M' f' ga' gc' la' lc' h1 h2 h3 h4 h5 => hK0 _ _ (Handed.intro g (by omega) (hJ0 _ _ _ ⟨x8, x11, x13, .int .i64 ((i : Int) + 1), x15, x16, x17, x18, x19, x20, x21, x22, x57, x58, x59, x60, x61, x62, x63, x64, x65, x66, x67, x68, x69, x70, x71, x72, x73, x74, x75, x76, x77, x78, x79, x80, x81, x82, x83, x84, x85, x86, x87, x88, x89, x90, x91, x92, x93, x94, x95, x96, x97, x98, x99, x100, x101, x102, x103, x104, x105, x106, x107, x108, x109, x110, x111, x112, x113, x114, x115, x116, x117, x118, x119, x120, x121, x122, x123, x124, x125, x126, x127, x128, x129, x130, x131, x132, x133, x134, x135, x136, x137, x138, x139, x140, x141, x142, x143, x144, x145, x146, x147, x148, x149, x150, x151, x152, x153, x154, x155, x156, x157, x158, x159, x160, x161, x162, x163, x164, x165, x166, x167, x168, x169, x170, x171, x172, x173, x174, x175, x176, x177, x178, x179, x180, x181, x182, x183, x184, x185, x186, x187, x188, x189, x190, x191, x192, x193, ⟨i + 1, M', f', ga', gc', la', lc', by omega, by go_num, h1, h2, h3, h4, h5⟩, rfl⟩)))
        · exact arm_fail W wA wr s l m pb i b o c2 M f ga gc la lc HDi.out HQi.out HRi.out HPi.out HBi.out HWp.out HWs.out HM.out him hm9 (by omega) K X N ya yn yc ys cc0 cc1 cc2 cc3 HNb.out HYs.out HYb.out hs1 hs2 hg _ _ _ _ _ _ _ _ _ _ _ _ _ _ _ _ _ _ _ _ _ _ _ _ _ _ _ _ _ _ _ _ _ _ _ _ _ _ _ _ _ _ _ _ _ _ _ _ _ _ _ _ _ _ _ _ _ _ _ _ _ _ _ _ _ _ _ _ _ _ _ _ _ _ _ _ _ _ _ _ _ _ _ _ _ _ _ _ _ _ _ _ _ _ _ _ _ _ _ _ _ _ _ _ _ _ _ _ _ _ _ _ _ _ _ _ _ _ _ _ _ _ _ _ _ _ _ _ _ _ _ _ _ _ _ _ _ _ _ _ _ _ _ _ _ _ _ _ _ _ _ _ _ _ _ _ _ _ _ _ _ _ _ _ _ _ _ _ _ _ _ _ _ _ _ _ _ _ _ _ _ _ _ _ _ _ _ _ _ _ _ _ _ _ _ _ _ _ _ _ _ _ _ _ _ _ _ _ _ _ _ _ _ _ _ _ _ _ _ _ _ _ _ _ _ _ _ _ _ _ _ _ _ _ (fun x8 x11 x13 x15 x16 x17 x18 x19 x20 x21 x22 x57 x58 x59 x60 x61 x62 x63 x64 x65 x66 x67 x68 x69 x70 x71 x72 x73 x74 x75 x76 x77 x78 x79 x80 x81 x82 x83 x84 x85 x86 x87 x88 x89 x90 x91 x92 x93 x94 x95 x96 x97 x98 x99 x100 x101 x102 x103 x104 x105 x106 x107 x108 x109 x110 x111 x112 x113 x114 x115 x116 x117 x118 x119 x120 x121 x122 x123 x124 x125 x126 x127 x128 x129 x130 x131 x132 x133 x134 x135 x136 x137 x138 x139 x140 x141 x142 x143 x144 x145 x146 x147 x148 x149 x150 x151 x152 x153 x154 x155 x156 x157 x158 x159 x160 x161 x162 x163 x164 x165 x166 x167 x168 x169 x170 x171 x172 x173 x174 x175 x176 x177 x178 x179 x180 x181 x182 x183 x184 x185 x186 x187 x188 x189 x190 x191 x192 x193 w5 M' f' ga' gc' la' lc' h1 h2 h3 h4 h5 => hK0 _ _ (Handed.intro g (by omega) (hJ0 _ _ _ ⟨x8, x11, x13, .int .i64 ((i : Int) + 1), x15, x16, x17, x18, x19, x20, x21, x22, x57, x58, x59, x60, x61, x62, x63, x64, x65, x66, x67, x68, x69, x70, x71, x72, x73, x74, x75, x76, x77, x78, x79, x80, x81, x82, x83, x84, x85, x86, x87, x88, x89, x90, x91, x92, x93, x94, x95, x96, x97, x98, x99, x100, x101, x102, x103, x104, x105, x106, x107, x108, x109, x110, x111, x112, x113, x114, x115, x116, x117, x118, x119, x120, x121, x122, x123, x124, x125, x126, x127, x128, x129, x130, x131, x132, x133, x134, x135, x136, x137, x138, x139, x140, x141, x142, x143, x144, x145, x146, x147, x148, x149, x150, x151, x152, x153, x154, x155, x156, x157, x158, x159, x160, x161, x162, x163, x164, x165, x166, x167, x168, x169, x170, x171, x172, x173, x174, x175, x176, x177, x178, x179, x180, x181, x182, x183, x184, x185, x186, x187, x188, x189, x190, x191, x192, x193, ⟨i + 1, M', f', ga', gc', la', lc', by omega, by go_num, h1, h2, h3, h4, h5⟩, rfl⟩)))
        · exact arm_crash W wA wr s l m pb i b o c2 M f ga gc la lc HDi.out HQi.out HRi.out HPi.out HBi.out HWp.out HWs.out HM.out him hm9 (by omega) K X N ya yn yc ys cc0 cc1 cc2 cc3 HNb.out HYs.out HYb.out hs1 hs2 hg _ _ _ _ _ _ _ _ _ _ _ _ _ _ _ _ _ _ _ _ _ _ _ _ _ _ _ _ _ _ _ _ _ _ _ _ _ _ _ _ _ _ _ _ _ _ _ _ _ _ _ _ _ _ _ _ _ _ _ _ _ _ _ _ _ _ _ _ _ _ _ _ _ _ _ _ _ _ _ _ _ _ _ _ _ _ _ _ _ _ _ _ _ _ _ _ _ _ _ _ _ _ _ _ _ _ _ _ _ _ _ _ _ _ _ _ _ _ _ _ _ _ _ _ _ _ _ _ _ _ _ _ _ _ _ _ _ _ _ _ _ _ _ _ _ _ _ _ _ _ _ _ _ _ _ _ _ _ _ _ _ _ _ _ _ _ _ _ _ _ _ _ _ _ _ _ _ _ _ _ _ _ _ _ _ _ _ _ _ _ _ _ _ _ _ _ _ _ _ _ _ _ _ _ _ _ _ _ _ _ _ _ _ _ _ _ _ _ _ _ _ _ _ _ _ _ _ _ _ _ _ _ _ _ (fun x8 x11 x13 x15 x16 x17 x18 x19 x20 x21 x22 x57 x58 x59 x60 x61 x62 x63 x64 x65 x66 x67 x68 x69 x70 x71 x72 x73 x74 x75 x76 x77 x78 x79 x80 x81 x82 x83 x84 x85 x86 x87 x88 x89 x90 x91 x92 x93 x94 x95 x96 x97 x98 x99 x100 x101 x102 x103 x104 x105 x106 x107 x108 x109 x110 x111 x112 x113 x114 x115 x116 x117 x118 x119 x120 x121 x122 x123 x124 x125 x126 x127 x128 x129 x130 x131 x132 x133 x134 x135 x136 x137 x138 x139 x140 x141 x142 x143 x144 x145 x146 x147 x148 x149 x150 x151 x152 x153 x154 x155 x156 x157 x158 x159 x160 x161 x162 x163 x164 x165 x166 x167 x168 x169 x170 x171 x172 x173 x174 x175 x176 x177 x178 x179 x180 x181 x182 x183 x184 x185 x186 x187 x188 x189 x190 x191 x192 x193 w5 M' f' ga' gc' la' lc' h1 h2 h3 h4 h5 => hK0 _ _ (Handed.intro g (by omega) (hJ0 _ _ _ ⟨x8, x11, x13, .int .i64 ((i : Int) + 1), x15, x16, x17, x18, x19, x20, x21, x22, x57, x58, x59, x60, x61, x62, x63, x64, x65, x66, x67, x68, x69, x70, x71, x72, x73, x74, x75, x76, x77, x78, x79, x80, x81, x82, x83, x84, x85, x86, x87, x88, x89, x90, x91, x92, x93, x94, x95, x96, x97, x98, x99, x100, x101, x102, x103, x104, x105, x106, x107, x108, x109, x110, x111, x112, x113, x114, x115, x116, x117, x118, x119, x120, x121, x122, x123, x124, x125, x126, x127, x128, x129, x130, x131, x132, x133, x134, x135, x136, x137, x138, x139, x140, x141, x142, x143, x144, x145, x146, x147, x148, x149, x150, x151, x152, x153, x154, x155, x156, x157, x158, x159, x160, x161, x162, x163, x164, x165, x166, x167, x168, x169, x170, x171, x172, x173, x174, x175, x176, x177, x178, x179, x180, x181, x182, x183, x184, x185, x186, x187, x188, x189, x190, x191, x192, x193, ⟨i + 1, M', f', ga', gc', la', lc', by omega, by go_num, h1, h2, h3, h4, h5⟩, rfl⟩)))
      · rcases (show 100 < yn ∨ (yn ≤ 100 ∧ 100 < X) by omega) with h | ⟨h, hX⟩
        · have hy1 : (100 : Int) < (yn : Int) := by omega
          have hd1 : decide (100 < yn) = true := by simp; omega
          go_wp2
          go_ret
          exact ⟨rfl, HBi.out.trans ((gbelow (World.grownBy_alloc _ _ _)).mono HBi.out.size)⟩
        · have hy1 : ¬ (100 : Int) < (yn : Int) := by omega
          have hd1 : decide (100 < yn) = false := by simp; omega
          go_wp2
          go_ret
          exact ⟨rfl, HBi.out.trans ((gbelow (World.grownBy_alloc _ _ _)).mono HBi.out.size)⟩
    · rcases (show (i = m ∧ m ≤ 30) ∨ (i = 30 ∧ 30 < m) by omega) with ⟨h1, h2⟩ | ⟨h1, h2⟩
      · subst h1
        go_wp2_with (first
        | (go_at_call 22; refine (fail_nil _ 1).mono ?_; rintro e w' ⟨rfl, rfl⟩)
        | (go_at_call 24; refine (crash_nil _ _).mono ?_; rintro e w' ⟨rfl, rfl⟩)
        | (go_at_call 16; refine (read_nil _ 0).mono ?_; rintro e w' ⟨rfl, rfl⟩)
        | (go_at_call 14; refine (write_nil _ 0 _).mono ?_; rintro e w' ⟨rfl, rfl⟩)
        | (go_at_call 20; refine (sync_nil _).mono ?_; rintro e w' ⟨rfl, rfl⟩)
        | (go_at_call 18; refine (grow_nil _ 1).mono ?_; rintro e w' ⟨rfl, rfl⟩)
        | (go_at_call 27; refine (nil_gets _ 27 (by decide)).mono ?_; rintro e w' ⟨rfl, rfl⟩)
        | (go_at_call 28; refine (nil_gets _ 28 (by decide)).mono ?_; rintro e w' ⟨rfl, rfl⟩)
        | (go_at_call 29; refine (nil_gets _ 29 (by decide)).mono ?_; rintro e w' ⟨rfl, rfl⟩)
        | (go_at_call 30; refine (nil_gets _ 30 (by decide)).mono ?_; rintro e w' ⟨rfl, rfl⟩)
        | (go_at_call 31; refine (nil_gets _ 31 (by decide)).mono ?_; rintro e w' ⟨rfl, rfl⟩))
        all_goals
          go_ret
          exact ⟨rfl, HBi.out⟩
      · subst h1
        have h3 : (30 : Int) < (m : Int) := by omega
        go_wp2_with (first
        | (go_at_call 22; refine (fail_nil _ 1).mono ?_; rintro e w' ⟨rfl, rfl⟩)
        | (go_at_call 24; refine (crash_nil _ _).mono ?_; rintro e w' ⟨rfl, rfl⟩)
        | (go_at_call 16; refine (read_nil _ 0).mono ?_; rintro e w' ⟨rfl, rfl⟩)
        | (go_at_call 14; refine (write_nil _ 0 _).mono ?_; rintro e w' ⟨rfl, rfl⟩)
        | (go_at_call 20; refine (sync_nil _).mono ?_; rintro e w' ⟨rfl, rfl⟩)
        | (go_at_call 18; refine (grow_nil _ 1).mono ?_; rintro e w' ⟨rfl, rfl⟩)
        | (go_at_call 27; refine (nil_gets _ 27 (by decide)).mono ?_; rintro e w' ⟨rfl, rfl⟩)
        | (go_at_call 28; refine (nil_gets _ 28 (by decide)).mono ?_; rintro e w' ⟨rfl, rfl⟩)
        | (go_at_call 29; refine (nil_gets _ 29 (by decide)).mono ?_; rintro e w' ⟨rfl, rfl⟩)
        | (go_at_call 30; refine (nil_gets _ 30 (by decide)).mono ?_; rintro e w' ⟨rfl, rfl⟩)
        | (go_at_call 31; refine (nil_gets _ 31 (by decide)).mono ?_; rintro e w' ⟨rfl, rfl⟩))
        all_goals
          go_ret
          exact ⟨rfl, HBi.out⟩

end Go.Proofs.Ytnodclijlhoobaa
