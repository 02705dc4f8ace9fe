/-
  Layer 8: slices.Clone of pages; a record in new memory. Own work.
-/
import Derived.Test.YtnnmpaenainogaaGreatPrnAE
import Derived.Deep.RegionWith

set_option linter.unusedVariables false
set_option linter.unusedSimpArgs false
namespace Go.Proofs.YtnnmpaenainogaaGreat
open Go.RowKit Go.Maps
def OwnP (base : Nat) (w : World) (v : Value) (ps : List Nat) : Prop := w.ownsRow base 42 1 v ps.length (ps.map encP)∧∀ p∈ps,p < 4294967296
theorem OwnP.grown {base : Nat} {w w' : World} {v : Value} {ps : List Nat} (h : OwnP base w v ps) (k : w.grownBy w' none) : OwnP base w' v ps := ⟨World.ownsRow.kept h.1 k (by cases v.ownBlock <;> simp),h.2⟩
theorem OwnP.mono {base base' : Nat} {w : World} {v : Value} {ps : List Nat} (h : OwnP base w v ps) (k : base'≤base) : OwnP base' w v ps := by
  refine ⟨⟨h.1.1,?_⟩,h.2⟩
  rcases h.1.2 with hn | ⟨g,cap,cur,rfl,hb,r⟩
  · exact .inl hn
  · exact .inr ⟨g,cap,cur,rfl,by omega,r⟩
theorem OwnP.set {base q : Nat} {w : World} {v : Value} {ps : List Nat} (h : OwnP base w v ps) (hq : q < base) (k : Nat) (u : Value) : OwnP base (w.setCell ⟨q,k,none⟩ u) v ps := by
  refine ⟨World.ownsRow.kept h.1 (gset w ⟨q,k,none⟩ u) ?_,h.2⟩
  cases hv : v.ownBlock with
  | none => exact .inl rfl
  | some g => have := (h.1.lt g hv).1; right; intro e; injection e with e; simp at e; omega
theorem OwnP.psq {base : Nat} {w : World} {v : Value} {ps : List Nat} (h : OwnP base w v ps) : PSq (fun b => base≤b) w v ps := (PSq.owned h.1 h.2).imp fun _ k _ => k.1
set_option maxHeartbeats 400000 in
theorem pclone_any (w : World) (R : Nat→Prop) (ao : Option Addr) (n c : Nat) (ps : List Nat) (hs : PSq R w (.slice ao n c) ps) (hne : ps≠[]) (hl : ps.length≤35184372088831) :
    Calls Tryz.prog 81 #[.slice ao n c] w fun r w' => ∃ ao c,r = .returned (.slice ao n c)∧OwnP w.heap.size w' (.slice ao n c) ps∧w.grownBy w' none := by
  obtain ⟨i0,hi,hz0,hz1,hz2⟩ := info_parts infoPg
  obtain ⟨rfl,_⟩ := hs.len
  have h32 := hs.u32
  obtain ⟨b,o,rfl,_,_⟩ := hs.at 0 (List.length_pos_iff.2 hne)
  have hc : ∀ j u,(ps.map encP)[j]? = some u→w.cell? ((⟨b,o,none⟩ : Addr).add j) = some u := by
    intro j u hu
    have hj : j < ps.length := by have := (List.getElem?_eq_some_iff.1 hu).1; simpa using this
    obtain ⟨b',o',e,_,h3⟩ := hs.at j hj
    cases e
    rw [show (⟨b,o,none⟩ : Addr).add j = ⟨b,o + j,none⟩ by unfold Addr.add; split <;> simp_all,h3]
    simp only [List.getElem?_map,List.getElem?_eq_getElem hj,Option.map_some,Option.some.injEq] at hu
    rw [← hu]
    simp [encP,hj]
  clear hs
  have heq : ∀ w : World,(binOp .eql 31 (.slice (some ⟨b,o,none⟩) ps.length c) (.slice none 0 0)).run Tryz.prog w = .ok (.bool false) w := fun w => Lib.run_eql_slice_nil w _ _ _ _ _ _ _ Tryz.underlying31
  go_enter Tryz.func81,Tryz.ntmps81
  go_wp2_with (at_builtin; refine wpList_append_own _ rfl _ _ 31 rfl w.heap.size 42 i0 (.int .u32 0) 1 4 Tryz.underlying31 hi hz0 hz1 hz2 rfl (by decide) _ _ _ rfl (World.ownsRow_lit w #[] 0 (Nat.le_refl _) (by simp [maxLen]) rfl) ⟨b,o,none⟩ ps.length c (ps.map encP) rfl (by simp) ?c1 pcell1 ?c3 ?c4 ?c5 ?_)
  case c1 =>
    intro j u hu
    exact cell_alloc (hc j u hu)
  case c3 => unfold maxLen; omega
  case c4 => omega
  case c5 => simp
  · intro v' w1 hown hgrow _
    obtain ⟨ao,c',rfl⟩ := own_shape hown
    go_wp2
    go_ret
    refine ⟨ao,c',rfl,⟨?_,h32⟩,gof (((Below.refl w.heap.size w).alloc (Nat.le_refl _) _).grown hgrow (by simp) (fun k h => by simp [Value.ownBlock] at h; omega)) _⟩
    simpa using hown
theorem results_Rec {fn : Func} {p : Tmp} (h : fn.results = #[.cell p 158]) (tmps : Array Value) (W : World) (q : Nat) (cs : Array Value) (hp : tmps.getD p undef = .pointer (some ⟨q,0,none⟩))
    (hq : W.heap[q]? = some (.cells cs 158 (0,0))) (hs : cs.size = 2) : (results fn tmps).run Tryz.prog W = .ok (.agg cs) W :=
  results_cell_row h tmps W q 158 cs (0,0) _ hp hq Tryz.underlying158 rfl (by rw [hs]; kernel_rfl)
theorem cells2 {W : World} {q : Nat} {a b : Value} {t : TypeId} (h : W.heap[q]? = some (.cells #[a,b] t (0,0))) : W.cell? ⟨q,0,none⟩ = some a∧W.cell? ⟨q,1,none⟩ = some b∧W.frozen? ⟨q,0,none⟩ = false∧W.frozen? ⟨q,1,none⟩ = false := by
  simp [World.cell?,World.frozen?,h]
theorem store2 {W : World} {q : Nat} {x0 x1 : Value} {t : TypeId} (h : W.heap[q]? = some (.cells #[x0,x1] t (0,0))) (a b : Value) :
    ((W.setCell ⟨q,0,none⟩ a).setCell ⟨q,1,none⟩ b).heap[q]? = some (.cells #[a,b] t (0,0)) := by
  simp [World.setCell,Array.getElem?_modify,h]
set_option maxHeartbeats 1000000 in
theorem copied_any (w : World) (R : Nat→Prop) (t : Nat) (ao : Option Addr) (n c : Nat) (ps : List Nat) (hs : PSq R w (.slice ao n c) ps) (hne : ps≠[]) (hl : ps.length≤35184372088831) :
    Calls Tryz.prog 115 #[.agg #[.int .u64 (t : Int),.slice ao n c]] w fun r w' => ∃ ao c,r = .returned (.agg #[.int .u64 (t : Int),.slice ao n c])∧OwnP w.heap.size w' (.slice ao n c) ps∧w.grownBy w' none := by
  have Hs := Lib.hid ((hs.grown (two_grown w (.cells #[.int .u64 (t : Int),.slice ao n c] 158) (.cells #[.int .u64 0,.slice none 0 0] 158))).grown (gdrew _))
  clear hs
  go_enter Tryz.func115,Tryz.ntmps115
  go_wp2
  go_region_with (go_at_call 81; (with_reducible refine (pclone_any _ R ao n c ps Hs.out hne hl).mono ?_); rintro r w1 ⟨a1,c1,rfl,ho1,hg1⟩; have b1 := (hg1.block (w.heap.size + 1) (by simp [World.drew]) (by simp)).trans (two_lit1 _ _ _); obtain ⟨d0,d1,f0,f1⟩ := cells2 b1; have b0 := (hg1.block w.heap.size (by simp [World.drew]; omega) (by simp)).trans (two_lit0 _ _ _); obtain ⟨e0,e1,-,-⟩ := cells2 b0; have HB := Lib.hid b1; have HO := Lib.hid ho1; have HG := Lib.hid hg1; clear b0 b1 ho1 hg1)
  all_goals
    go_wp2
    refine bodyPost_ret (results_Rec rfl _ _ (w.heap.size + 1) _ rfl (store2 HB.out _ _) rfl) rfl ⟨a1,c1,rfl,((HO.out.set (by simp [World.drew]) 0 _).set (by simp [World.drew]) 1 _).mono (by simp [World.drew]; omega),?_⟩
    have hw : w.grownBy w1 none := gtrans (gtrans (two_grown _ _ _) (gdrew _)) HG.out
    exact gnew (gnew hw (gset _ ⟨w.heap.size + 1,0,none⟩ _) (by simp)) (gset _ ⟨w.heap.size + 1,1,none⟩ _) (by simp)
end Go.Proofs.YtnnmpaenainogaaGreat

namespace Go.Proofs.YtnnmpaenainogaaGreat
open Go.RowKit Go.Maps
theorem rise_cons (stop least p : Nat) (r : List Nat) : rise stop least (p :: r) = (decide (least≤p) && decide (p < stop) && rise stop (p + 1) r) := rfl
set_option maxHeartbeats 1000000 in
theorem rightPages_any (w : World) (R : Nat→Prop) (ao : Option Addr) (n c : Nat) (ps : List Nat) (stop : Nat) (hs : PSq R w (.slice ao n c) ps) (hst : stop < 4294967296) :
    Calls Tryz.prog 83 #[.slice ao n c,.int .u32 (stop : Int)] w fun r w' => r = .returned (.bool (okPages ps stop))∧w = w' := by
  obtain ⟨hn,hm⟩ := hs.len
  have hN := Lib.hid hn
  have Hs := Lib.hid hs
  have hm2 : (n : Int) ≤ 9223372036854775807 := by have h9 : maxLen ≤ 9223372036854775807 := by decide
                                                   omega
  clear hn hm hs
  go_enter Tryz.func83,Tryz.ntmps83
  go_wp2
  go_loopw [5,10] (fun l i wr => ∃ k least : Nat,k≤n∧i = .int .i64 (k : Int)∧l = .int .u32 (least : Int)∧rise stop 2 ps = rise stop least (ps.drop k)∧w = wr) (fun _ i _ => n - (intOf i).toNat)
  case atStart => exact ⟨0,2,Nat.zero_le _,rfl,rfl,by simp,rfl⟩
  case round =>
    obtain ⟨k,least,hk,rfl,rfl,hr,rfl⟩ := hrel
    have Hr := Lib.hid hr
    clear hr
    by_cases hlt : k < n
    · have hki : (k : Int) < (n : Int) := by omega
      have hkl : k < ps.length := by rw [← hN.out]; exact hlt
      obtain ⟨b',o,rfl,_,hc⟩ := Hs.out.at k hkl
      have hdk : ps.drop k = ps.getD k 0 :: ps.drop (k + 1) := by
        rw [List.drop_eq_getElem_cons hkl,List.getD_eq_getElem?_getD,List.getElem?_eq_getElem hkl]; rfl
      have HD := Lib.hid hdk
      clear hdk
      generalize ps.getD k 0 = q at hc HD
      by_cases h1 : q < least
      · have h1i : (q : Int) < (least : Int) := by omega
        have HF := Lib.hid (show okPages ps stop = false by unfold okPages; rw [Hr.out,HD.out,rise_cons]; simp [show ¬ least≤q by omega])
        go_wp2
        go_ret
        exact ⟨by rw [HF.out]; rfl,rfl⟩
      · have h1i : ¬ (q : Int) < (least : Int) := by omega
        by_cases h2 : stop≤q
        · have h2i : (stop : Int)≤(q : Int) := by omega
          have HF := Lib.hid (show okPages ps stop = false by unfold okPages; rw [Hr.out,HD.out,rise_cons]; simp [show ¬ q < stop by omega])
          go_wp2
          go_ret
          exact ⟨by rw [HF.out]; rfl,rfl⟩
        · have h2i : ¬ (stop : Int)≤(q : Int) := by omega
          have hq1 : (q : Int) + 1≤4294967295 := by omega
          go_wp2
          go_roundw
          case rel => exact ⟨k + 1,q + 1,by omega,by go_num,by go_num,by rw [Hr.out,HD.out,rise_cons]; simp [show least≤q by omega,show q < stop by omega],trivial⟩
          case measure => simp [intOf]; omega
    · have hki : ¬ (k : Int) < (n : Int) := by omega
      have HF := Lib.hid (show okPages ps stop = decide (0 < n) by
        unfold okPages
        rw [Hr.out,List.drop_eq_nil_of_le (by rw [← hN.out]; omega),← hN.out]
        simp [rise])
      go_wp2
      go_ret
      exact ⟨by rw [HF.out]; rfl,rfl⟩
set_option maxHeartbeats 1000000 in
theorem pindex_any (w : World) (R : Nat→Prop) (ao : Option Addr) (n c b : Nat) (ps L : List Nat) (hs : PSq R w (.slice ao n c) ps) (hS : SetAt w b L) :
    Calls Tryz.prog 124 #[.slice ao n c,.func (.func 85) #[.map (some b)] #[]] w fun r w' => ∃ i : Int,r = .returned (.int .i64 i)∧(decide (0≤i) = !noneIn ps L)∧w.grownBy w' none := by
  obtain ⟨hn,hm⟩ := hs.len
  have hN := Lib.hid hn
  have Hs := Lib.hid hs
  have HS := Lib.hid hS
  have hm2 : (n : Int) ≤ 9223372036854775807 := by have h9 : maxLen ≤ 9223372036854775807 := by decide
                                                   omega
  clear hn hm hs hS
  go_enter Tryz.func124,Tryz.ntmps124
  go_wp2
  go_loopw [8] (fun i wr => ∃ k : Nat,k≤n∧i = .int .i64 (k : Int)∧(∀ p∈ps.take k,p ∉ L)∧w.grownBy wr none) (fun i _ => n - (intOf i).toNat)
  case atStart => exact ⟨0,Nat.zero_le _,rfl,by simp,grefl _ _⟩
  case round =>
    obtain ⟨k,hk,rfl,hr,hg⟩ := hrel
    have Hr := Lib.hid hr
    have Hg := Lib.hid hg
    clear hr hg
    by_cases hlt : k < n
    · have hki : (k : Int) < (n : Int) := by omega
      have hkl : k < ps.length := by rw [← hN.out]; exact hlt
      obtain ⟨b',o,rfl,_,hc0⟩ := Hs.out.at k hkl
      have hc : wr.cell? ⟨b',o + k,none⟩ = _ := Hg.out.cell hc0 (by simp)
      have htk : ps.take (k + 1) = ps.take k++[ps.getD k 0] := by
        rw [List.take_succ_eq_append_getElem hkl,List.getD_eq_getElem?_getD,List.getElem?_eq_getElem hkl]; rfl
      have hmem : ps.getD k 0∈ps := by rw [List.getD_eq_getElem?_getD,List.getElem?_eq_getElem hkl]; exact List.getElem_mem hkl
      have hq32 := Hs.out.u32 _ hmem
      have HT := Lib.hid htk
      have HM := Lib.hid hmem
      clear htk hmem hc0
      generalize ps.getD k 0 = q at hc HT HM hq32
      by_cases hin : q∈L
      · have hd : decide (q∈L) = true := by simpa using hin
        have HIN := Lib.hid hin
        clear hin
        go_wp2_with (first
          | (go_at_call 85; refine (has_any wr b q L (HS.out.grown Hg.out) hq32).mono ?_; rw [hd]; rintro r w1 ⟨rfl,rfl⟩))
        go_ret
        refine ⟨(k : Int),rfl,?_,gtrans Hg.out (World.grownBy_alloc _ _ _)⟩
        have : noneIn ps L = false := by
          unfold noneIn
          rw [List.all_eq_false]
          exact ⟨q,HM.out,by simp [HIN.out]⟩
        rw [this]
        simp
      · have hd : decide (q∈L) = false := by simpa using hin
        have HIN := Lib.hid hin
        clear hin
        go_wp2_with (first
          | (go_at_call 85; refine (has_any wr b q L (HS.out.grown Hg.out) hq32).mono ?_; rw [hd]; rintro r w1 ⟨rfl,rfl⟩))
        go_roundw
        case rel =>
          refine ⟨k + 1,by omega,by go_num,?_,gtrans Hg.out (World.grownBy_alloc _ _ _)⟩
          rw [HT.out]
          intro p hp
          rcases List.mem_append.1 hp with h | h
          · exact Hr.out p h
          · have : p = q := by simpa using h
            rw [this]; exact HIN.out
        case measure => simp [intOf]; omega
    · have hki : ¬ (k : Int) < (n : Int) := by omega
      go_wp2
      go_ret
      refine ⟨-1,rfl,?_,Hg.out⟩
      have e : ps.take k = ps := by rw [show k = n by omega,hN.out]; exact List.take_length
      have h := Hr.out
      rw [e] at h
      have : noneIn ps L = true := by
        unfold noneIn
        rw [List.all_eq_true]
        intro p hp
        simpa using h p hp
      rw [this]
      simp
set_option maxHeartbeats 1000000 in
theorem contains_any (w : World) (R : Nat→Prop) (ao : Option Addr) (n c b : Nat) (ps L : List Nat) (hs : PSq R w (.slice ao n c) ps) (hS : SetAt w b L) :
    Calls Tryz.prog 84 #[.slice ao n c,.func (.func 85) #[.map (some b)] #[]] w fun r w' => r = .returned (.bool (!noneIn ps L))∧w.grownBy w' none := by
  go_enter Tryz.func84,Tryz.ntmps84
  go_wp2_with (first
    | (go_at_call 124; refine (pindex_any w R ao n c b ps L hs hS).mono ?_; rintro r w1 ⟨i,rfl,hi,hg⟩; have HI := Lib.hid hi; have HG := Lib.hid hg; clear hi hg))
  go_ret
  exact ⟨by rw [← HI.out]; rfl,HG.out⟩
end Go.Proofs.YtnnmpaenainogaaGreat
