/-
  Layers 4 and 5: a copy into a row of the call's own. Own work.
-/
import Derived.Test.YtnnmpaenainogaaGreatPrnAC
import Derived.Laws.CopyRow
import Derived.Laws.CopyOwn
import Derived.Deep.RegionLaw
import Derived.OwnWalk

set_option linter.unusedVariables false
set_option linter.unusedSimpArgs false
namespace Go.Proofs.YtnnmpaenainogaaGreat
open Go.RowKit
theorem fw_seq {g B : Nat} {w w' : World} {bs xs : List Int} {v : Value} (hf : Fw g w w') (hw : WrAt w g bs) (hb : B≤g) (hs : Seq B w v xs) : Seq B w' v xs :=
  hs.below fun i hi => (hf.below hw).block i (by omega)
theorem fw_heap {g q : Nat} {w w' : World} {bs : List Int} {x : Obj} (hf : Fw g w w') (hw : WrAt w g bs) (hq : q < g) (h : w.heap[q]? = some x) : w'.heap[q]? = some x := ((hf.below hw).block q hq).trans h
theorem out_len {w : World} {g n : Nat} {bs : List Int} (h : WrAt w g bs) (hn : bs.length = n) (hl : n≤140737488355328) :
    Calls Tryz.prog 79 #[.pointer (some ⟨g,0,none⟩)] w fun r w' => ∃ ao c,r = .returned (.slice ao n c) ∧
      w'.ownsRow w.heap.size 5 1 (.slice ao n c) n (bs.map (Value.int .u8))∧w.grownBy w' none := by
  subst hn
  exact out_any w g bs h hl
end Go.Proofs.YtnnmpaenainogaaGreat

namespace Go.Proofs.YtnnmpaenainogaaGreat
open Go.RowKit
structure HW (w0 : World) (g : Nat) (hd : List Int) (w : World) : Prop where
  wr : WrAt w g hd
  bel : Below w0.heap.size w0 w
  g0 : w0.heap.size≤g
theorem HW.num {w0 w : World} {g : Nat} {hd : List Int} (h : HW w0 g hd w) (X : Int) (n : Nat) (m : Int) (hm : m = (n : Int)) (h0 : 0≤X) (h1 : X≤18446744073709551615) (hn1 : 1≤n) (hn8 : n≤8) (hl : hd.length≤1000000) :
    Calls Tryz.prog 77 #[.pointer (some ⟨g,0,none⟩),.int .u64 X,.int .i64 m] w fun r w' => r = .returned (.tuple #[])∧HW w0 g (hd++numB X n n) w' := by
  subst hm
  refine (wnum_in w g n X hd h.wr h0 h1 hn1 hn8 (by omega)).mono fun r w' ⟨e,hw,hf⟩ => ⟨e,hw,h.bel.trans ((hf.below h.wr).mono h.g0),h.g0⟩
set_option maxHeartbeats 1000000 in
theorem whead_any (w : World) (kind : Int) (n : Nat) (hk0 : 0≤kind) (hk1 : kind≤255) (hn : n≤1000000) :
    Calls Tryz.prog 249 #[.int .u8 kind,.int .i64 (n : Int)] w fun r w' => ∃ g,r = .returned (.pointer (some ⟨g,0,none⟩))∧HW w g ((([]++numB kind 1 1)++numB 0 1 1)++numB (n : Int) 2 2) w' := by
  go_enter Tryz.func249,Tryz.ntmps249
  go_wp2_with (first
    | (go_at_call 75; refine (newW_any _).mono ?_; rintro r w3 ⟨rfl,hw3,hg3⟩; have HP : Hid (HW w w.heap.size [] w3) := Lib.hid ⟨hw3,gbelow hg3,Nat.le_refl _⟩; clear hw3 hg3)
    | (go_at_call 77; have K := HP.out.num kind 1 1 rfl (by omega) (by omega) (by omega) (by omega) (by simp [numB_len]); ((with_reducible refine K.mono ?_); clear K; rintro r wn ⟨rfl,hs⟩); clear HP; have HP := Lib.hid hs; clear hs)
    | (go_at_call 77; have K := HP.out.num 0 1 1 rfl (by omega) (by omega) (by omega) (by omega) (by simp [numB_len]); ((with_reducible refine K.mono ?_); clear K; rintro r wn ⟨rfl,hs⟩); clear HP; have HP := Lib.hid hs; clear hs)
    | (go_at_call 77; have K := HP.out.num (n : Int) 2 2 rfl (by omega) (by omega) (by omega) (by omega) (by simp [numB_len]); ((with_reducible refine K.mono ?_); clear K; rintro r wn ⟨rfl,hs⟩); clear HP; have HP := Lib.hid hs; clear hs))
  go_ret
  exact ⟨_,rfl,HP.out⟩
section
variable {w : World} {B : Nat} {ao : Option Addr} {n c0 : Nat} {b b1 b2 b3 o1 o2 o3 : List Int} {e1 e2 e3 : Int} {C : Nat} {kind : Int}
def NoHead (w w' : World) (r : Ending) : Prop := r = .returned (.tuple #[.pointer none,.int .i64 0,.bool false])∧w.grownBy w' none
def IsHead (C : Nat) (b3 : List Int) (w w' : World) (r : Ending) : Prop := ∃ g,r = .returned (.tuple #[.pointer (some ⟨g,0,none⟩),.int .i64 (C : Int),.bool true])∧RS g w w' b3 0
theorem RS.gr {g : Nat} {w0 w : World} {bs : List Int} {e : Int} (h : RS g w0 w bs e) : w0.grownBy w none := gof h.bel none
theorem be1_255 {o : List Int} {bs b' : List Int} {e e' : Int} (hb : Byt bs) (x : nx bs e 1 true = (b',e',o)) : 0≤beVal o∧beVal o≤255 := by
  obtain ⟨_,bo,_,_⟩ := nx_both x hb
  have := beVal_lt o bo 1 (by have := nx_outlen x (by decide); omega)
  have := (beVal_bound o bo).1
  omega
set_option maxHeartbeats 2000000 in
theorem rhead_yes (h : Seq B w (.slice ao n c0) b) (hB : B≤w.heap.size) (hb : Byt b) (hl : b.length≤140737488355328) (hk0 : 0≤kind) (hk1 : kind≤255)
    (x1 : nx b 0 1 true = (b1,e1,o1)) (x2 : nx b1 e1 1 true = (b2,e2,o2)) (x3 : nx b2 e2 2 true = (b3,0,o3)) (h1 : beVal o1 = kind) (h2 : beVal o2 = 0) (hC : (C : Int) = beVal o3) (hCl : C≤65535) :
    Calls Tryz.prog 148 #[.int .u8 kind,.slice ao n c0] w fun r w' => IsHead C b3 w w' r := by
  have H := Lib.hid h
  have HB := Lib.hid hb
  have HL := Lib.hid hl
  have X1 := Lib.hid x1
  have X2 := Lib.hid x2
  have X3 := Lib.hid x3
  have HA1 := Lib.hid h1
  have HA2 := Lib.hid h2
  have HC := Lib.hid hC
  clear h hb hl x1 x2 x3 h1 h2 hC
  go_enter Tryz.func148,Tryz.ntmps148
  go_wp2_with (first
    | (go_at_call 152; refine (newR_any w B _ b H.out hB (by have := HL.out; omega)).mono ?_; rintro r wr ⟨g,rfl,hgg,hrd,hgr⟩; have HR := Lib.hid (show RS g w wr b 0 from ⟨hrd,HB.out,HL.out,hgg,gbelow hgr⟩); clear hrd hgr hgg)
    | (go_at_call 149; have Kc := HR.out.num 1 (by decide) (by decide) X1.out; ((with_reducible refine Kc.mono ?_); clear Kc; rintro r wn ⟨rfl,hs,hg⟩); rw [HA1.out]; have HR1 := Lib.hid hs; clear hs hg HR)
    | (go_at_call 149; have Kc := HR1.out.num 1 (by decide) (by decide) X2.out; ((with_reducible refine Kc.mono ?_); clear Kc; rintro r wn2 ⟨rfl,hs,hg⟩); rw [HA2.out]; have HR2 := Lib.hid hs; clear hs hg HR1)
    | (go_at_call 149; have Kc := HR2.out.num 2 (by decide) (by decide) X3.out; ((with_reducible refine Kc.mono ?_); clear Kc; rintro r wn3 ⟨rfl,hs,hg⟩); rw [← HC.out]; have HR3 := Lib.hid hs; clear hs hg HR2)
    | (go_at_call 151; refine (err_any _ g b3 0 HR3.out.rd).mono ?_; rintro r w5 ⟨rfl,rfl⟩))
  go_ret3
  exact ⟨g,rfl,HR3.out⟩
set_option maxHeartbeats 2000000 in
theorem rhead_no (h : Seq B w (.slice ao n c0) b) (hB : B≤w.heap.size) (hb : Byt b) (hl : b.length≤140737488355328) (hk0 : 0≤kind) (hk1 : kind≤255)
    (x1 : nx b 0 1 true = (b1,e1,o1)) (x2 : nx b1 e1 1 true = (b2,e2,o2)) (x3 : nx b2 e2 2 true = (b3,e3,o3)) (hno : ¬ (e3 = 0∧beVal o1 = kind∧beVal o2 = 0)) :
    Calls Tryz.prog 148 #[.int .u8 kind,.slice ao n c0] w fun r w' => NoHead w w' r := by
  obtain ⟨c1,_,_,_⟩ := nx_both x1 hb
  obtain ⟨p0,p1⟩ := be1_255 hb x1
  obtain ⟨q0,q1⟩ := be1_255 c1 x2
  obtain ⟨A1,hA1⟩ : ∃ x,x = beVal o1 := ⟨_,rfl⟩
  obtain ⟨A2,hA2⟩ : ∃ x,x = beVal o2 := ⟨_,rfl⟩
  obtain ⟨A3,hA3⟩ : ∃ x,x = beVal o3 := ⟨_,rfl⟩
  rw [← hA1,← hA2] at hno
  rw [← hA1] at p0 p1
  rw [← hA2] at q0 q1
  have H := Lib.hid h
  have HB := Lib.hid hb
  have HL := Lib.hid hl
  have X1 := Lib.hid x1
  have X2 := Lib.hid x2
  have X3 := Lib.hid x3
  have HA1 := Lib.hid hA1
  have HA2 := Lib.hid hA2
  have HA3 := Lib.hid hA3
  clear h hb hl x1 x2 x3 hA1 hA2 hA3 c1
  by_cases he : e3 = 0
  · subst he
    by_cases hk : A1 = kind
    · subst hk
      have hz : ¬ A2 = 0 := fun e => hno ⟨rfl,rfl,e⟩
      have hb2 : (A2 != 0) = true := by simpa using hz
      clear hno
      go_enter Tryz.func148,Tryz.ntmps148
      go_wp2_with (first
        | (go_at_call 152; refine (newR_any w B _ b H.out hB (by have := HL.out; omega)).mono ?_; rintro r wr ⟨g,rfl,hgg,hrd,hgr⟩; have HR := Lib.hid (show RS g w wr b 0 from ⟨hrd,HB.out,HL.out,hgg,gbelow hgr⟩); clear hrd hgr hgg)
        | (go_at_call 149; have Kc := HR.out.num 1 (by decide) (by decide) X1.out; ((with_reducible refine Kc.mono ?_); clear Kc; rintro r wn ⟨rfl,hs,hg⟩); rw [← HA1.out]; have HR1 := Lib.hid hs; clear hs hg HR)
        | (go_at_call 149; have Kc := HR1.out.num 1 (by decide) (by decide) X2.out; ((with_reducible refine Kc.mono ?_); clear Kc; rintro r wn2 ⟨rfl,hs,hg⟩); rw [← HA2.out]; have HR2 := Lib.hid hs; clear hs hg HR1)
        | (go_at_call 149; have Kc := HR2.out.num 2 (by decide) (by decide) X3.out; ((with_reducible refine Kc.mono ?_); clear Kc; rintro r wn3 ⟨rfl,hs,hg⟩); rw [← HA3.out]; have HR3 := Lib.hid hs; clear hs hg HR2)
        | (go_at_call 151; refine (err_any _ g b3 0 HR3.out.rd).mono ?_; rintro r w5 ⟨rfl,rfl⟩))
      go_ret3
      exact ⟨rfl,HR3.out.gr⟩
    · have hb1 : (A1 != kind) = true := by simpa using hk
      clear hno
      go_enter Tryz.func148,Tryz.ntmps148
      go_wp2_with (first
        | (go_at_call 152; refine (newR_any w B _ b H.out hB (by have := HL.out; omega)).mono ?_; rintro r wr ⟨g,rfl,hgg,hrd,hgr⟩; have HR := Lib.hid (show RS g w wr b 0 from ⟨hrd,HB.out,HL.out,hgg,gbelow hgr⟩); clear hrd hgr hgg)
        | (go_at_call 149; have Kc := HR.out.num 1 (by decide) (by decide) X1.out; ((with_reducible refine Kc.mono ?_); clear Kc; rintro r wn ⟨rfl,hs,hg⟩); rw [← HA1.out]; have HR1 := Lib.hid hs; clear hs hg HR)
        | (go_at_call 149; have Kc := HR1.out.num 1 (by decide) (by decide) X2.out; ((with_reducible refine Kc.mono ?_); clear Kc; rintro r wn2 ⟨rfl,hs,hg⟩); rw [← HA2.out]; have HR2 := Lib.hid hs; clear hs hg HR1)
        | (go_at_call 149; have Kc := HR2.out.num 2 (by decide) (by decide) X3.out; ((with_reducible refine Kc.mono ?_); clear Kc; rintro r wn3 ⟨rfl,hs,hg⟩); rw [← HA3.out]; have HR3 := Lib.hid hs; clear hs hg HR2)
        | (go_at_call 151; refine (err_any _ g b3 0 HR3.out.rd).mono ?_; rintro r w5 ⟨rfl,rfl⟩))
      go_ret3
      exact ⟨rfl,HR3.out.gr⟩
  · have heb : (e3 != 0) = true := by simpa using he
    clear hno
    go_enter Tryz.func148,Tryz.ntmps148
    go_wp2_with (first
      | (go_at_call 152; refine (newR_any w B _ b H.out hB (by have := HL.out; omega)).mono ?_; rintro r wr ⟨g,rfl,hgg,hrd,hgr⟩; have HR := Lib.hid (show RS g w wr b 0 from ⟨hrd,HB.out,HL.out,hgg,gbelow hgr⟩); clear hrd hgr hgg)
      | (go_at_call 149; have Kc := HR.out.num 1 (by decide) (by decide) X1.out; ((with_reducible refine Kc.mono ?_); clear Kc; rintro r wn ⟨rfl,hs,hg⟩); rw [← HA1.out]; have HR1 := Lib.hid hs; clear hs hg HR)
      | (go_at_call 149; have Kc := HR1.out.num 1 (by decide) (by decide) X2.out; ((with_reducible refine Kc.mono ?_); clear Kc; rintro r wn2 ⟨rfl,hs,hg⟩); rw [← HA2.out]; have HR2 := Lib.hid hs; clear hs hg HR1)
      | (go_at_call 149; have Kc := HR2.out.num 2 (by decide) (by decide) X3.out; ((with_reducible refine Kc.mono ?_); clear Kc; rintro r wn3 ⟨rfl,hs,hg⟩); rw [← HA3.out]; have HR3 := Lib.hid hs; clear hs hg HR2)
      | (go_at_call 151; refine (err_any _ g b3 e3 HR3.out.rd).mono ?_; rintro r w5 ⟨rfl,rfl⟩))
    go_ret3
    exact ⟨rfl,HR3.out.gr⟩
end
end Go.Proofs.YtnnmpaenainogaaGreat
