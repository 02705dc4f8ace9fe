/-
  Layer 7: the contract of meta's Put. Own work.
-/
import Derived.Test.YtnnmpaenainogaaGreatPrnAY
import Derived.Test.YtnnmpaenainogaaGreatPrnAI
import Derived.Test.YtnnmpaenainogaaGreatPrnBB

set_option linter.unusedVariables false
set_option linter.unusedSimpArgs false
namespace Go.Proofs.YtnnmpaenainogaaGreat
open Go.RowKit
structure PSt7 (g : Nat) (w0 w : World) (v : Value) (xs bs : List Int) : Prop where
  wr : WrAt w g bs
  sq : Seq g w v xs
  bel : Below w0.heap.size w0 w
  g0 : w0.heap.size≤g
theorem PSt7.step {g : Nat} {w0 w w' : World} {v : Value} {xs bs bs' : List Int} (h : PSt7 g w0 w v xs bs) (hw : WrAt w' g bs') (hf : Fw g w w') : PSt7 g w0 w' v xs bs' :=
  ⟨hw,fw_seq hf h.wr (Nat.le_refl _) h.sq,h.bel.trans ((hf.below h.wr).mono h.g0),h.g0⟩
theorem PSt7.far {g : Nat} {w0 w w' : World} {v : Value} {xs bs : List Int} (h : PSt7 g w0 w v xs bs) (k : w.grownBy w' none) : PSt7 g w0 w' v xs bs :=
  ⟨h.wr.kept k,h.sq.below (fun i hi => k.block i (by have := h.wr.lt; omega) (by simp)),h.bel.trans ((gbelow k).mono h.bel.size),h.g0⟩
theorem PSt7.num {g : Nat} {w0 w : World} {v : Value} {xs bs : List Int} (h : PSt7 g w0 w v xs bs) (X : Int) (n : Nat) (m : Int) (hm : m = (n : Int)) (h0 : 0≤X) (h1 : X≤18446744073709551615) (hn1 : 1≤n) (hn8 : n≤8) (hl : bs.length≤1000000) :
    Calls Tryz.prog 77 #[.pointer (some ⟨g,0,none⟩),.int .u64 X,.int .i64 m] w fun r w' => r = .returned (.tuple #[])∧PSt7 g w0 w' v xs (bs++numB X n n) := by
  subst hm
  exact (wnum_in w g n X bs h.wr h0 h1 hn1 hn8 (by omega)).mono fun r w' ⟨e,hw,hf⟩ => ⟨e,h.step hw hf⟩
theorem PSt7.raw {g B : Nat} {w0 w : World} {v u : Value} {xs bs ys : List Int} (h : PSt7 g w0 w v xs bs) (hs : Seq B w u ys) (hl : bs.length≤1000000) (hk : ys.length≤100000) :
    Calls Tryz.prog 76 #[.pointer (some ⟨g,0,none⟩),u] w fun r w' => r = .returned (.tuple #[])∧PSt7 g w0 w' v xs (bs++ys) :=
  (wraw_any w g B bs ys u h.wr hs (by omega)).mono fun r w' ⟨e,hw,hf⟩ => ⟨e,h.step hw hf⟩
set_option maxHeartbeats 4000000 in
theorem mput_ok (w : World) (M : Mt) (h : MtOk M) (hr : mright M = true) (S : Nat) (h1 : 512≤S) (h2 : S≤4096) :
    Calls Tryz.prog 31 #[.agg (mtC M),.int .i64 (S : Int)] w fun r w' => ∃ ao c,r = .returned (.tuple #[.slice ao S c,.int .i64 0]) ∧
      w'.ownsRow w.heap.size 5 1 (.slice ao S c) S ((mpage M S).map (.int .u8))∧w.grownBy w' none := by
  obtain ⟨i0,hi,hz0,hz1,hz2⟩ := info_parts infoU8
  have HM := Lib.hid h
  have HT := Lib.hid (told_byt M S)
  have HTL := Lib.hid (told_len M S)
  have HPL := Lib.hid (mpage_len (M := M) (size := S) (by omega))
  have hpe : mpage M S = (([]++told M S)++numB ((crcN (told M S) : Nat) : Int) 4 4)++List.replicate (S - 32) 0 := by simp [mpage]
  have hcl := crcN_lt (l := told M S) (told_byt M S)
  obtain ⟨C,hC⟩ : ∃ C,C = crcN (told M S) := ⟨_,rfl⟩
  rw [← hC] at hpe hcl
  obtain ⟨Z,hZ⟩ : ∃ Z,Z = S - 32 := ⟨_,rfl⟩
  rw [← hZ] at hpe
  have HPE := Lib.hid hpe
  have HC := Lib.hid hC
  have HZI := Lib.hid (show (S : Int) - 32 = (Z : Int) by omega)
  have hZ4 : Z≤4096 := by omega
  have HG := Lib.hid (World.grownBy_alloc w (.cells (mtC M) 44) none)
  clear h hpe hC hZ
  have hmc : mtC M = #[.int .u64 (M.t : Int),.int .u32 (M.e : Int),.int .u32 (M.m : Int),.int .u32 (M.f : Int)] := rfl
  obtain ⟨ts,hts⟩ : ∃ ts,ts = told M S := ⟨_,rfl⟩
  rw [← hts] at HT HTL HPE HC
  have HTS := Lib.hid hts
  clear hts
  go_enter Tryz.func31,Tryz.ntmps31
  go_wp2_with (first
    | (go_at_call 35; refine (mright_any M _).mono ?_; rintro r w1 ⟨rfl,hg1⟩; rw [hr]; have HG1 := Lib.hid (gtrans HG.out hg1); have q0 := Lib.hid ((hg1.block w.heap.size (by simp) (by simp)).trans (heap_alloc_new _ _)); obtain ⟨z0,z1,z2,z3⟩ := mt_cells q0.out; clear hg1)
    | (go_at_call 73; refine (lsize_yes _ _ (by omega) (by omega)).mono ?_; rintro r w2 ⟨rfl,rfl⟩)
    | (go_at_call 74; have K := tell_any w1 M HM.out S h2; rw [← HTS.out,hmc] at K; ((with_reducible refine K.mono ?_); clear K; rintro r w3 ⟨at',ct,rfl,hot,hgt⟩); have HO3 := Lib.hid (Seq.owned1 HTL.out hot); have HG3 := Lib.hid (gtrans HG1.out hgt); clear hot hgt)
    | (go_at_call 75; refine (newW_any _).mono ?_; rintro r w4 ⟨rfl,hw4,hg4⟩; have HP := Lib.hid (show PSt7 w3.heap.size w w4 (.slice at' 28 ct) ts [] from ⟨hw4,HO3.out.below (fun i hi => hg4.block i hi (by simp)),gbelow (gtrans HG3.out hg4),HG3.out.size⟩); clear hw4 hg4 z0 z1 z2 z3)
    | (go_at_call 76; have K := HP.out.raw HP.out.sq (by simp) (by rw [HTL.out]; decide); ((with_reducible refine K.mono ?_); clear K; rintro r w5 ⟨rfl,hs⟩); have HP5 := Lib.hid hs; clear hs HP)
    | (go_at_call 78; have K := of1 (w := w5) (t := 32) (q := w5.heap.size) rfl (HP5.out.sq.mono (Nat.le_of_lt HP5.out.wr.lt)) HT.out; rw [← HC.out] at K; ((with_reducible refine K.mono ?_); clear K; rintro r w6 ⟨rfl,hg⟩); have HP6 := Lib.hid (HP5.out.far hg); clear hg HP5)
    | (go_at_call 77; have K := HP6.out.num (C : Int) 4 4 rfl (by omega) (by omega) (by omega) (by omega) (by simp [HTL.out]); ((with_reducible refine K.mono ?_); clear K; rintro r w7 ⟨rfl,hs⟩); have HP7 := Lib.hid hs; clear hs HP6)
    | (at_make; refine wpList_make_full _ rfl _ _ 32 rfl 0 5 i0 (.int .u8 0) 1 Tryz.underlying32 hi hz0 hz1 .i64 .i64 _ _ Z rfl rfl ?c1 ?c2 ?c3 ?c4 (Nat.zero_le _) ?_; (case c1 => have := HZI.out; omega); (case c2 => have := HZI.out; omega); (case c3 => rw [hz2]; omega); (case c4 => unfold maxLen; omega); intro wM hown hgM; have HSM := Lib.hid (seq_made hown); have HPM := Lib.hid (HP7.out.far hgM); clear hown hgM HP7)
    | (go_at_call 76; have K := HPM.out.raw HSM.out (by simp [HTL.out,numB_len]) (by simp; omega); ((with_reducible refine K.mono ?_); clear K; rintro r w8 ⟨rfl,hs⟩); have HP8 := Lib.hid hs; clear hs HPM HSM; rw [← HPE.out] at HP8)
    | (go_at_call 79; have K := out_len HP8.out.wr HPL.out (by omega); ((with_reducible refine K.mono ?_); clear K; rintro r wn ⟨ao,c,rfl,ho,hgo⟩; have HO := Lib.hid ho; have HGO := Lib.hid hgo; clear ho hgo)))
  go_ret2
  exact ⟨ao,c,rfl,own_base HO.out HP8.out.bel.size,gof (HP8.out.bel.trans ((gbelow HGO.out).mono HP8.out.bel.size)) none⟩
end Go.Proofs.YtnnmpaenainogaaGreat
