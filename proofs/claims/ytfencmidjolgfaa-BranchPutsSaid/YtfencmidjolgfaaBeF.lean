/-
  Layer 5: the law's entries: the whole. Own work.
-/
import Derived.Test.YtfencmidjolgfaaBeC
import Derived.Test.YtfencmidjolgfaaBeE
import Derived.Test.YtfencmidjolgfaaBeG
import Derived.Test.YtfencmidjolgfaaBeH
import Derived.Test.YtfencmidjolgfaaBeI
import Derived.Deep.LoopGhost
namespace Go.Proofs.Ytfencmidjolgfaa
open Go.RowKit

/-- What the law's entries are: slices of the call's own, and the model's. -/
def EntsR5 (s : Bool) (W w' : World) (r : Ending) : Prop :=
  ∃ (lv rv : Value) (es : List (Value × En)), r = .returned (.tuple #[lv, rv]) ∧ Fine5 s 30 (bxsOf es) ∧ SOwns5 W.heap.size w' lv es ∧ RRow5 w' rv (bxsOf es) ∧ W.grownBy w' none

set_option maxRecDepth 1000000 in
set_option maxHeartbeats 8000000 in
theorem ents5_any (w W : World) (ao : Option Addr) (n c : Nat) (l : List En) (s : Bool) (h : Raws5 w (.slice ao n c) l) (hW : Below w.heap.size w W) (hf : FewP5 l) :
    Calls Try.prog 32 #[.slice ao n c, .bool s] W fun r w' => EntsR5 s W w' r := by
  have hn30 : n ≤ 30 := by have := hf.2; have := h.len.1; omega
  have HN := Lib.hid h.len.1
  have H := Lib.hid h
  have HF := Lib.hid hf
  have HWB := Lib.hid hW
  clear h hf hW
  go_enter Try.func32, Try.ntmps32
  go_wp2
  go_loopg [7, 8] n (fun q v i wr => ∃ (k : Nat) (X : List En), k + q = n ∧ i = .int .i64 (k : Int) ∧ Fine5 s k X ∧ ERow W.heap.size wr v X ∧ W.grownBy wr none)
  case atStart => exact ⟨0, [], by omega, rfl, Fine5.nil _, World.ownsRow_nil _ _ _ _, grefl _ _⟩
  case round =>
    rename_i J0 K0 hJ0 hK0
    obtain ⟨k, X, hkq, rfl, hfi, hvr, hgr⟩ := hrel
    obtain ⟨m, hm⟩ : ∃ m, m = X.length := ⟨_, rfl⟩
    obtain ⟨va, vc, hv⟩ := hvr.shape
    rw [← hm] at hv
    subst hv
    have hm30 : m ≤ 30 := by have := hfi.len; omega
    have hbw := below_go HWB.out hgr
    by_cases hlt : k < n
    · obtain ⟨q, rfl⟩ : ∃ q, gk = q + 1 := ⟨gk - 1, by omega⟩
      obtain ⟨x, hx⟩ : ∃ x, l[k]? = some x := ⟨_, List.getElem?_eq_getElem (by have := HN.out; omega)⟩
      cases s with
      | false => exact ent5_layF w W wr ao n c k m vc va l X x H.out hbw HF.out hlt hn30 hx hm hm30 hfi hvr hgr _ _ _ _ _ _ _ _ _ _ _ _ _ _ _ _ _ _ _ _ _ _ _ _ _ _ _ _ _ _ _ _ _ _ _ _ _ _ _ _ _ _ _ _ _ _ _ _ _ _ _ _ _ _ _ _ _ _ _ _ _ _ _ _ _ _ _ _ _ _ _ _ _ _ _ _ _ _ _ _ _ _ _ _ _ _ _ _ _ _ _ _ _ _ _ _ _ _ _ _ _ _ _ _ _ _ _ _ _ _ _ _ _ _ _ (fun x9 x10 x11 x12 x14 x15 x16 x17 x18 x19 x20 x21 x22 x23 x24 x25 x26 x27 x28 x29 x30 x31 x32 x33 x34 x35 x36 x37 x38 x39 x40 x41 x42 x43 x44 x45 x46 x47 x48 x49 x50 x51 x52 x53 x54 x55 x56 x57 x58 x59 x60 x61 x62 x63 x64 x65 x66 x67 x68 x69 x70 x71 x72 x73 x74 x75 x76 x77 x78 x79 x80 x81 x82 x83 x84 x85 x86 x87 x88 x89 x90 x91 x92 x93 q7 w5 X' h1 h2 h3 => hK0 _ _ (Handed.intro q (by omega) (hJ0 _ _ _ ⟨q7, .int .i64 ((k : Int) + 1), x9, x10, x11, x12, x14, x15, x16, x17, x18, x19, x20, x21, x22, x23, x24, x25, x26, x27, x28, x29, x30, x31, x32, x33, x34, x35, x36, x37, x38, x39, x40, x41, x42, x43, x44, x45, x46, x47, x48, x49, x50, x51, x52, x53, x54, x55, x56, x57, x58, x59, x60, x61, x62, x63, x64, x65, x66, x67, x68, x69, x70, x71, x72, x73, x74, x75, x76, x77, x78, x79, x80, x81, x82, x83, x84, x85, x86, x87, x88, x89, x90, x91, x92, x93, ⟨k + 1, X', by omega, by go_num, h1, h2, h3⟩, rfl⟩)))
      | true =>
        by_cases hk0 : k = 0
        · exact ent5_layZ w W wr ao n c k m vc va l X x H.out hbw HF.out hlt hn30 hx hm hm30 hfi hvr hgr hk0 _ _ _ _ _ _ _ _ _ _ _ _ _ _ _ _ _ _ _ _ _ _ _ _ _ _ _ _ _ _ _ _ _ _ _ _ _ _ _ _ _ _ _ _ _ _ _ _ _ _ _ _ _ _ _ _ _ _ _ _ _ _ _ _ _ _ _ _ _ _ _ _ _ _ _ _ _ _ _ _ _ _ _ _ _ _ _ _ _ _ _ _ _ _ _ _ _ _ _ _ _ _ _ _ _ _ _ _ _ _ _ _ _ _ _ (fun x9 x10 x11 x12 x14 x15 x16 x17 x18 x19 x20 x21 x22 x23 x24 x25 x26 x27 x28 x29 x30 x31 x32 x33 x34 x35 x36 x37 x38 x39 x40 x41 x42 x43 x44 x45 x46 x47 x48 x49 x50 x51 x52 x53 x54 x55 x56 x57 x58 x59 x60 x61 x62 x63 x64 x65 x66 x67 x68 x69 x70 x71 x72 x73 x74 x75 x76 x77 x78 x79 x80 x81 x82 x83 x84 x85 x86 x87 x88 x89 x90 x91 x92 x93 q7 w5 X' h1 h2 h3 => hK0 _ _ (Handed.intro q (by omega) (hJ0 _ _ _ ⟨q7, .int .i64 ((k : Int) + 1), x9, x10, x11, x12, x14, x15, x16, x17, x18, x19, x20, x21, x22, x23, x24, x25, x26, x27, x28, x29, x30, x31, x32, x33, x34, x35, x36, x37, x38, x39, x40, x41, x42, x43, x44, x45, x46, x47, x48, x49, x50, x51, x52, x53, x54, x55, x56, x57, x58, x59, x60, x61, x62, x63, x64, x65, x66, x67, x68, x69, x70, x71, x72, x73, x74, x75, x76, x77, x78, x79, x80, x81, x82, x83, x84, x85, x86, x87, x88, x89, x90, x91, x92, x93, ⟨k + 1, X', by omega, by go_num, h1, h2, h3⟩, rfl⟩)))
        · by_cases hh : FoundAt X x.key (firstP X x.key)
          · exact ent5_skip w W wr ao n c k m vc va l X x H.out hbw HF.out hlt hn30 hx hm hm30 hfi hvr hgr (Nat.pos_of_ne_zero hk0) hh _ _ _ _ _ _ _ _ _ _ _ _ _ _ _ _ _ _ _ _ _ _ _ _ _ _ _ _ _ _ _ _ _ _ _ _ _ _ _ _ _ _ _ _ _ _ _ _ _ _ _ _ _ _ _ _ _ _ _ _ _ _ _ _ _ _ _ _ _ _ _ _ _ _ _ _ _ _ _ _ _ _ _ _ _ _ _ _ _ _ _ _ _ _ _ _ _ _ _ _ _ _ _ _ _ _ _ _ _ _ _ _ _ _ _ (fun x9 x10 x11 x12 x14 x15 x16 x17 x18 x19 x20 x21 x22 x23 x24 x25 x26 x27 x28 x29 x30 x31 x32 x33 x34 x35 x36 x37 x38 x39 x40 x41 x42 x43 x44 x45 x46 x47 x48 x49 x50 x51 x52 x53 x54 x55 x56 x57 x58 x59 x60 x61 x62 x63 x64 x65 x66 x67 x68 x69 x70 x71 x72 x73 x74 x75 x76 x77 x78 x79 x80 x81 x82 x83 x84 x85 x86 x87 x88 x89 x90 x91 x92 x93 q7 w5 X' h1 h2 h3 => hK0 _ _ (Handed.intro q (by omega) (hJ0 _ _ _ ⟨q7, .int .i64 ((k : Int) + 1), x9, x10, x11, x12, x14, x15, x16, x17, x18, x19, x20, x21, x22, x23, x24, x25, x26, x27, x28, x29, x30, x31, x32, x33, x34, x35, x36, x37, x38, x39, x40, x41, x42, x43, x44, x45, x46, x47, x48, x49, x50, x51, x52, x53, x54, x55, x56, x57, x58, x59, x60, x61, x62, x63, x64, x65, x66, x67, x68, x69, x70, x71, x72, x73, x74, x75, x76, x77, x78, x79, x80, x81, x82, x83, x84, x85, x86, x87, x88, x89, x90, x91, x92, x93, ⟨k + 1, X', by omega, by go_num, h1, h2, h3⟩, rfl⟩)))
          · exact ent5_layT w W wr ao n c k m vc va l X x H.out hbw HF.out hlt hn30 hx hm hm30 hfi hvr hgr (Nat.pos_of_ne_zero hk0) hh _ _ _ _ _ _ _ _ _ _ _ _ _ _ _ _ _ _ _ _ _ _ _ _ _ _ _ _ _ _ _ _ _ _ _ _ _ _ _ _ _ _ _ _ _ _ _ _ _ _ _ _ _ _ _ _ _ _ _ _ _ _ _ _ _ _ _ _ _ _ _ _ _ _ _ _ _ _ _ _ _ _ _ _ _ _ _ _ _ _ _ _ _ _ _ _ _ _ _ _ _ _ _ _ _ _ _ _ _ _ _ _ _ _ _ (fun x9 x10 x11 x12 x14 x15 x16 x17 x18 x19 x20 x21 x22 x23 x24 x25 x26 x27 x28 x29 x30 x31 x32 x33 x34 x35 x36 x37 x38 x39 x40 x41 x42 x43 x44 x45 x46 x47 x48 x49 x50 x51 x52 x53 x54 x55 x56 x57 x58 x59 x60 x61 x62 x63 x64 x65 x66 x67 x68 x69 x70 x71 x72 x73 x74 x75 x76 x77 x78 x79 x80 x81 x82 x83 x84 x85 x86 x87 x88 x89 x90 x91 x92 x93 q7 w5 X' h1 h2 h3 => hK0 _ _ (Handed.intro q (by omega) (hJ0 _ _ _ ⟨q7, .int .i64 ((k : Int) + 1), x9, x10, x11, x12, x14, x15, x16, x17, x18, x19, x20, x21, x22, x23, x24, x25, x26, x27, x28, x29, x30, x31, x32, x33, x34, x35, x36, x37, x38, x39, x40, x41, x42, x43, x44, x45, x46, x47, x48, x49, x50, x51, x52, x53, x54, x55, x56, x57, x58, x59, x60, x61, x62, x63, x64, x65, x66, x67, x68, x69, x70, x71, x72, x73, x74, x75, x76, x77, x78, x79, x80, x81, x82, x83, x84, x85, x86, x87, x88, x89, x90, x91, x92, x93, ⟨k + 1, X', by omega, by go_num, h1, h2, h3⟩, rfl⟩)))
    · obtain rfl : k = n := by omega
      have HR := Lib.hid (hvr.rrow (by omega))
      have HM := Lib.hid hm
      have HG := Lib.hid hgr
      have HFI := Lib.hid (show Fine5 s 30 X from ⟨by have := hfi.len; omega, hfi.ok, hfi.rise⟩)
      clear hJ0 hK0 hfi hvr hgr hm hbw H HF HWB HN
      go_wp2
      obtain ⟨wz, hwz⟩ : ∃ wz, wz = wr := ⟨wr, rfl⟩
      subst hwz
      go_loopg [6, 13] m (fun q v i w2 => ∃ (k3 : Nat), k3 + q = m ∧ i = .int .i64 (k3 : Int) ∧ SOut5 wz.heap.size w2 v k3 X ∧ wz.grownBy w2 none)
      case atStart => exact ⟨0, by omega, rfl, ⟨[], SOwns5.nil _ _, rfl, rfl⟩, grefl _ _⟩
      case round =>
        rename_i J1 K1 hJ1 hK1
        obtain ⟨k3, hkq3, rfl, ⟨es, hso, hel, hes⟩, hg2⟩ := hrel
        have hrw := hso.row
        rw [hel] at hrw
        obtain ⟨la, lc, rfl⟩ := own_shape hrw
        by_cases hlt3 : k3 < m
        · obtain ⟨q, rfl⟩ : ∃ q, gk = q + 1 := ⟨gk - 1, by omega⟩
          obtain ⟨y, hy⟩ : ∃ y, X[k3]? = some y := ⟨_, List.getElem?_eq_getElem (by have := HM.out; omega)⟩
          obtain ⟨b2, o2, rfl, _⟩ := HR.out.at k3 y hy
          exact ent5_out wz wr m k3 b2 o2 vc lc la X es HR.out HFI.out.ok HM.out hm30 hlt3 hso hel hes hg2 _ _ _ _ _ _ _ _ _ _ _ _ _ _ _ _ _ _ _ _ _ _ _ _ _ _ _ _ _ _ _ _ _ _ _ _ _ _ _ _ _ _ _ _ _ _ _ _ _ _ _ _ _ _ _ _ _ _ _ _ _ _ _ _ _ _ _ _ _ _ _ _ _ _ _ _ _ _ _ _ _ _ _ _ _ _ _ _ _ _ _ _ _ _ _ _ _ _ _ _ _ _ _ _ _ _ _ _ _ _ _ _ _ _ _ _ (fun x94 x95 x96 x97 x98 x99 x100 x101 x102 x103 x104 x105 x106 x107 x108 x109 x110 x111 x112 x113 x114 q6 w5 h1 h2 => hK1 _ _ (Handed.intro q (by omega) (hJ1 _ _ _ ⟨q6, .int .i64 ((k3 : Int) + 1), x94, x95, x96, x97, x98, x99, x100, x101, x102, x103, x104, x105, x106, x107, x108, x109, x110, x111, x112, x113, x114, ⟨k3 + 1, by omega, by go_num, h1, h2⟩, rfl⟩)))
        · obtain rfl : k3 = m := by omega
          have HSO := Lib.hid hso
          have HES := Lib.hid (show bxsOf es = X by rw [hes, HM.out, List.take_length])
          have HG2 := Lib.hid hg2
          clear hJ1 hK1 hso hes hg2 hrw hel
          go_wp2
          go_ret2
          exact ⟨_, _, es, rfl, by rw [HES.out]; exact HFI.out, ⟨own_base HSO.out.row HG.out.size, HSO.out.each⟩, by rw [HES.out]; exact HR.out.grown HG2.out, gtrans HG.out HG2.out⟩

/-- What the law's entries are, for a law. -/
def EntsS5 (s : Bool) (W w' : World) (r : Ending) : Prop :=
  ∃ (la : Option Addr) (n lc : Nat) (rv : Value) (X : List En), r = .returned (.tuple #[.slice la n lc, rv]) ∧ n = X.length ∧ n ≤ 30 ∧ Fine5 s 30 X ∧ BEnts w'.heap.size w' (.slice la n lc) X ∧ RRow5 w' rv X ∧ W.grownBy w' none
theorem ents5_s {w W : World} {ao : Option Addr} {n c : Nat} {l : List En} {s : Bool} (h : Raws5 w (.slice ao n c) l) (hW : Below w.heap.size w W) (hf : FewP5 l) :
    Calls Try.prog 32 #[.slice ao n c, .bool s] W fun r w' => EntsS5 s W w' r := by
  refine (ents5_any w W ao n c l s h hW hf).mono ?_
  rintro r w' ⟨lv, rv, es, rfl, h1, h2, h3, h4⟩
  have hl : es.length ≤ 30 := by have := h1.len; rw [List.length_map] at this; exact this
  have he := h2.ents (by omega)
  obtain ⟨la, lc, rfl⟩ := own_shape h2.row
  exact ⟨la, es.length, lc, rv, bxsOf es, rfl, by simp, hl, h1, he, h3, h4⟩

end Go.Proofs.Ytfencmidjolgfaa
