/-
  Layer 4: the law's entries: the whole. Own work.
-/
import Derived.Test.YtfencmidjolgfaaEntG
import Derived.Test.YtfencmidjolgfaaEntH
import Derived.Deep.LoopGhost
namespace Go.Proofs.Ytfencmidjolgfaa
open Go.RowKit

set_option maxRecDepth 1000000 in
set_option maxHeartbeats 8000000 in
theorem ents_any (w W : World) (ao : Option Addr) (n c : Nat) (l : List En) (s : Bool) (h : Raws w (.slice ao n c) l) (hW : Below w.heap.size w W) (hf : FewP l) :
    Calls Try.prog 16 #[.slice ao n c, .bool s] W fun r w' => EntsR s W w' r := by
  have hn30 : n ≤ 30 := by have := hf.2; have := h.len.1; omega
  have HN := Lib.hid h.len.1
  have H := Lib.hid h
  have HF := Lib.hid hf
  have HWB := Lib.hid hW
  clear h hf hW
  go_enter Try.func16, Try.ntmps16
  go_wp2
  go_loopg [7, 8] n (fun q v i wr => ∃ (k : Nat) (X : List En), k + q = n ∧ i = .int .i64 (k : Int) ∧ Fine s k X ∧ VRow W.heap.size wr v X.length X ∧ W.grownBy wr none)
  case atStart => exact ⟨0, [], by omega, rfl, Fine.nil _, VRow.nil _ _ _, grefl _ _⟩
  case round =>
    rename_i J0 K0 hJ0 hK0
    obtain ⟨k, X, hkq, rfl, hfi, hvr, hgr⟩ := hrel
    obtain ⟨m, hm⟩ : ∃ m, m = X.length := ⟨_, rfl⟩
    rw [← hm] at hvr
    obtain ⟨va, vc, rfl⟩ := hvr.shape
    have hm30 : m ≤ 30 := by have := hfi.len; omega
    have hbw := below_go HWB.out hgr
    by_cases hlt : k < n
    · obtain ⟨q, rfl⟩ : ∃ q, gk = q + 1 := ⟨gk - 1, by omega⟩
      obtain ⟨x, hx⟩ : ∃ x, l[k]? = some x := ⟨_, List.getElem?_eq_getElem (by have := HN.out; omega)⟩
      cases s with
      | false =>
        obtain ⟨f, hfd⟩ : ∃ f : Bool, FoundB f X x.key (firstP X x.key) := by
          by_cases hh : FoundAt X x.key (firstP X x.key)
          · exact ⟨true, by simp [FoundB, hh]⟩
          · exact ⟨false, by simp [FoundB, hh]⟩
        exact ent_layF w W wr ao n c k m vc va l X x H.out hbw HF.out hlt hn30 hx hm hm30 hfi hvr hgr _ f rfl hfd trivial _ _ _ _ _ _ _ _ _ _ _ _ _ _ _ _ _ _ _ _ _ _ _ _ _ _ _ _ _ _ _ _ _ _ _ _ _ _ _ _ _ _ _ _ _ _ _ _ _ _ _ _ _ _ _ _ _ _ _ _ _ _ _ _ _ _ _ _ _ _ _ _ _ _ _ _ _ _ _ _ _ _ _ _ _ _ _ _ _ _ _ _ _ _ _ _ _ _ _ _ _ _ _ _ _ _ _ _ _ _ _ _ _ _ _ _ _ (fun x9 x10 x11 x12 x13 x15 x16 x17 x18 x19 x20 x21 x22 x23 x24 x25 x26 x27 x28 x29 x30 x31 x32 x33 x34 x35 x36 x37 x38 x39 x40 x41 x42 x43 x44 x45 x46 x47 x48 x49 x50 x51 x52 x53 x54 x55 x56 x57 x58 x59 x60 x61 x62 x63 x64 x65 x66 x67 x68 x69 x70 x71 x72 x73 x74 x75 x76 x77 x78 x79 x80 x81 x82 x83 x84 q7 w5 X' h1 h2 h3 => hK0 _ _ (Handed.intro q (by omega) (hJ0 _ _ _ ⟨q7, .int .i64 ((k : Int) + 1), x9, x10, x11, x12, x13, x15, x16, x17, x18, x19, x20, x21, x22, x23, x24, x25, x26, x27, x28, x29, x30, x31, x32, x33, x34, x35, x36, x37, x38, x39, x40, x41, x42, x43, x44, x45, x46, x47, x48, x49, x50, x51, x52, x53, x54, x55, x56, x57, x58, x59, x60, x61, x62, x63, x64, x65, x66, x67, x68, x69, x70, x71, x72, x73, x74, x75, x76, x77, x78, x79, x80, x81, x82, x83, x84, ⟨k + 1, X', by omega, by go_num, h1, h2, h3⟩, rfl⟩)))
      | true =>
        by_cases hh : FoundAt X x.key (firstP X x.key)
        · exact ent_skip w W wr ao n c k m vc va l X x H.out hbw HF.out hlt hn30 hx hm hm30 hfi hvr hgr _ rfl (by simp [FoundB, hh]) _ _ _ _ _ _ _ _ _ _ _ _ _ _ _ _ _ _ _ _ _ _ _ _ _ _ _ _ _ _ _ _ _ _ _ _ _ _ _ _ _ _ _ _ _ _ _ _ _ _ _ _ _ _ _ _ _ _ _ _ _ _ _ _ _ _ _ _ _ _ _ _ _ _ _ _ _ _ _ _ _ _ _ _ _ _ _ _ _ _ _ _ _ _ _ _ _ _ _ _ _ _ _ _ _ _ _ _ _ _ _ _ _ _ _ _ _ (fun x9 x10 x11 x12 x13 x15 x16 x17 x18 x19 x20 x21 x22 x23 x24 x25 x26 x27 x28 x29 x30 x31 x32 x33 x34 x35 x36 x37 x38 x39 x40 x41 x42 x43 x44 x45 x46 x47 x48 x49 x50 x51 x52 x53 x54 x55 x56 x57 x58 x59 x60 x61 x62 x63 x64 x65 x66 x67 x68 x69 x70 x71 x72 x73 x74 x75 x76 x77 x78 x79 x80 x81 x82 x83 x84 q7 w5 X' h1 h2 h3 => hK0 _ _ (Handed.intro q (by omega) (hJ0 _ _ _ ⟨q7, .int .i64 ((k : Int) + 1), x9, x10, x11, x12, x13, x15, x16, x17, x18, x19, x20, x21, x22, x23, x24, x25, x26, x27, x28, x29, x30, x31, x32, x33, x34, x35, x36, x37, x38, x39, x40, x41, x42, x43, x44, x45, x46, x47, x48, x49, x50, x51, x52, x53, x54, x55, x56, x57, x58, x59, x60, x61, x62, x63, x64, x65, x66, x67, x68, x69, x70, x71, x72, x73, x74, x75, x76, x77, x78, x79, x80, x81, x82, x83, x84, ⟨k + 1, X', by omega, by go_num, h1, h2, h3⟩, rfl⟩)))
        · exact ent_layT w W wr ao n c k m vc va l X x H.out hbw HF.out hlt hn30 hx hm hm30 hfi hvr hgr _ rfl (by simp [FoundB, hh]) (by rw [hm]; exact firstP_le _ _) ⟨firstP_pos (hfi.rise rfl) _, hh⟩ _ _ _ _ _ _ _ _ _ _ _ _ _ _ _ _ _ _ _ _ _ _ _ _ _ _ _ _ _ _ _ _ _ _ _ _ _ _ _ _ _ _ _ _ _ _ _ _ _ _ _ _ _ _ _ _ _ _ _ _ _ _ _ _ _ _ _ _ _ _ _ _ _ _ _ _ _ _ _ _ _ _ _ _ _ _ _ _ _ _ _ _ _ _ _ _ _ _ _ _ _ _ _ _ _ _ _ _ _ _ _ _ _ _ _ _ _ (fun x9 x10 x11 x12 x13 x15 x16 x17 x18 x19 x20 x21 x22 x23 x24 x25 x26 x27 x28 x29 x30 x31 x32 x33 x34 x35 x36 x37 x38 x39 x40 x41 x42 x43 x44 x45 x46 x47 x48 x49 x50 x51 x52 x53 x54 x55 x56 x57 x58 x59 x60 x61 x62 x63 x64 x65 x66 x67 x68 x69 x70 x71 x72 x73 x74 x75 x76 x77 x78 x79 x80 x81 x82 x83 x84 q7 w5 X' h1 h2 h3 => hK0 _ _ (Handed.intro q (by omega) (hJ0 _ _ _ ⟨q7, .int .i64 ((k : Int) + 1), x9, x10, x11, x12, x13, x15, x16, x17, x18, x19, x20, x21, x22, x23, x24, x25, x26, x27, x28, x29, x30, x31, x32, x33, x34, x35, x36, x37, x38, x39, x40, x41, x42, x43, x44, x45, x46, x47, x48, x49, x50, x51, x52, x53, x54, x55, x56, x57, x58, x59, x60, x61, x62, x63, x64, x65, x66, x67, x68, x69, x70, x71, x72, x73, x74, x75, x76, x77, x78, x79, x80, x81, x82, x83, x84, ⟨k + 1, X', by omega, by go_num, h1, h2, h3⟩, rfl⟩)))
    · obtain rfl : k = n := by omega
      have HR := Lib.hid (hvr.rrow hm (by omega))
      have HM := Lib.hid hm
      have HG := Lib.hid hgr
      have HFI := Lib.hid (show Fine s 30 X from ⟨by have := hfi.len; omega, hfi.ok, hfi.rise⟩)
      clear hJ0 hK0 hfi hvr hgr hm hbw H HF HWB HN
      go_wp2
      obtain ⟨wz, hwz⟩ : ∃ wz, wz = wr := ⟨wr, rfl⟩
      subst hwz
      go_loopg [6, 14] m (fun q v i w2 => ∃ (k3 : Nat), k3 + q = m ∧ i = .int .i64 (k3 : Int) ∧ SOut wz.heap.size w2 v k3 X ∧ wz.grownBy w2 none)
      case atStart => exact ⟨0, by omega, rfl, ⟨[], SOwns.nil _ _, rfl, rfl⟩, grefl _ _⟩
      case round =>
        rename_i J1 K1 hJ1 hK1
        obtain ⟨k3, hkq3, rfl, ⟨es, hso, hel, hes⟩, hg2⟩ := hrel
        have hrw := hso.row
        rw [hel] at hrw
        obtain ⟨la, lc, rfl⟩ := own_shape hrw
        by_cases hlt3 : k3 < m
        · obtain ⟨q, rfl⟩ : ∃ q, gk = q + 1 := ⟨gk - 1, by omega⟩
          obtain ⟨y, hy⟩ : ∃ y, X[k3]? = some y := ⟨_, List.getElem?_eq_getElem (by have := HM.out; omega)⟩
          obtain ⟨b2, o2, rfl, _⟩ := HR.out.at k3 y hy
          exact ent_out wz wr m k3 b2 o2 vc lc la X es HR.out HFI.out.ok HM.out hm30 hlt3 hso hel hes hg2 _ _ _ _ _ _ _ _ _ _ _ _ _ _ _ _ _ _ _ _ _ _ _ _ _ _ _ _ _ _ _ _ _ _ _ _ _ _ _ _ _ _ _ _ _ _ _ _ _ _ _ _ _ _ _ _ _ _ _ _ _ _ _ _ _ _ _ _ _ _ _ _ _ _ _ _ _ _ _ _ _ _ _ _ _ _ _ _ _ _ _ _ _ _ _ _ _ _ _ _ _ _ _ _ _ _ _ _ _ _ _ _ _ _ _ _ _ _ (fun x85 x86 x87 x88 x89 x90 x91 x92 x93 x94 x95 x96 x97 x98 x99 x100 x101 x102 x103 x104 x105 x106 x107 x108 x109 x110 x111 x112 x113 x114 x115 x116 q6 w5 h1 h2 => hK1 _ _ (Handed.intro q (by omega) (hJ1 _ _ _ ⟨q6, .int .i64 ((k3 : Int) + 1), x85, x86, x87, x88, x89, x90, x91, x92, x93, x94, x95, x96, x97, x98, x99, x100, x101, x102, x103, x104, x105, x106, x107, x108, x109, x110, x111, x112, x113, x114, x115, x116, ⟨k3 + 1, by omega, by go_num, h1, h2⟩, rfl⟩)))
        · obtain rfl : k3 = m := by omega
          have HSO := Lib.hid hso
          have HES := Lib.hid (show xsOf es = X by rw [hes, HM.out, List.take_length])
          have HG2 := Lib.hid hg2
          clear hJ1 hK1 hso hes hg2 hrw hel
          go_wp2
          go_ret2
          exact ⟨_, _, es, rfl, by rw [HES.out]; exact HFI.out, ⟨own_base HSO.out.row HG.out.size, HSO.out.each⟩, by rw [HES.out]; exact HR.out.grown HG2.out, gtrans HG.out HG2.out⟩

end Go.Proofs.Ytfencmidjolgfaa
