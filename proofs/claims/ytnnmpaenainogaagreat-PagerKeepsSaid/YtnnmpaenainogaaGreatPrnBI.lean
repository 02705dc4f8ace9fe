/-
  slices.Sort at pages: what it is to do, up to a length; up to twelve it is insertionSort. Own work.
-/
import Derived.Test.YtnnmpaenainogaaGreatPrnAN
import Derived.Test.YtnnmpaenainogaaGreatPrnBH
import Derived.Test.YtnnmpaenainogaaGreatPrnAB

set_option linter.unusedVariables false
set_option linter.unusedSimpArgs false
namespace Go.Proofs.YtnnmpaenainogaaGreat
open Go.RowKit Go.Maps
def SortOk (N : Nat) : Prop := ∀ (w : World) (base n : Nat) (v : Value) (ss L : List Nat),w.ownsRow base 42 1 v n (ss.map encP)→ss.Perm L→Srt L→0 < n→n≤N →
  Calls Tryz.prog 218 #[v] w fun r w' => r = .returned (.tuple #[])∧w'.ownsRow base 42 1 v n (L.map encP)∧w.grownBy w' v.ownBlock
theorem sorted_is {d d' : Array Nat} {L : List Nat} (hp : Sort.PermIn 0 d.size d d') (hs : Sort.SortedIn ltN 0 d.size d') (hL : d.toList.Perm L) (hr : Srt L) : d'.toList = L := by
  have hsz := hp.1
  have hperm : d'.toList.Perm d.toList := by
    have h := hp.2.2
    have e1 : (d'.extract 0 d.size).toList = d'.toList := by rw [← hsz]; simp
    have e2 : (d.extract 0 d.size).toList = d.toList := by simp
    rwa [e1,e2] at h
  have hnd : d'.toList.Nodup := (hperm.trans hL).nodup_iff.2 (srt_nodup hr)
  have hsrt : Srt d'.toList := by
    unfold Srt
    rw [List.pairwise_iff_getElem]
    intro i j hi hj hij
    have hi' : i < d'.size := by simpa using hi
    have hj' : j < d'.size := by simpa using hj
    have h := hs i j (Nat.zero_le _) hij (by omega)
    rw [getElem!_pos d' i hi',getElem!_pos d' j hj'] at h
    simp only [ltN,decide_eq_false_iff_not] at h
    have hne : d'.toList[i]≠d'.toList[j] := List.pairwise_iff_getElem.1 hnd i j hi hj hij
    simp at hne ⊢
    omega
  exact srt_ext hsrt hr fun x => (hperm.trans hL).mem_iff
theorem rowAt_own {w : World} {base n blk cap : Nat} {ss : List Nat} (h : w.ownsRow base 42 1 (.slice (some ⟨blk,0,none⟩) n cap) n (ss.map encP)) : RowAt w blk cap w ss.toArray∧ss.length = n∧n≤cap∧cap≤maxLen∧base≤blk := by
  have hl : ss.length = n := by have := h.1; simpa using this
  rcases h.2 with ⟨hv,_⟩ | ⟨g,cap',cur,hv,hb,hg,hnc,hcm,hcs,ht⟩
  · cases hv
  · injection hv with e1 e2 e3
    injection e1 with e1
    injection e1 with e1 _ _
    subst e1; subst e3
    refine ⟨⟨⟨cur,hg,by simpa using hcs,fun j hj => ?_⟩,grefl _ _,lt_of_block hg,by simp; omega⟩,hl,hnc,hcm,hb⟩
    have hj' : j < ss.length := by simpa using hj
    have h2 : (ss.map encP)[j]? = some (encP ss[j]) := by simp [hj']
    rw [← ht,List.getElem?_take] at h2
    rw [if_pos (by omega)] at h2
    rw [getElem!_pos ss.toArray j hj]
    simpa using h2
theorem own_rowAt {w0 w : World} {base n blk cap : Nat} {d : Array Nat} (h : RowAt w0 blk cap w d) (hb : base≤blk) (hn : d.size = n) (hm : cap≤maxLen) : w.ownsRow base 42 1 (.slice (some ⟨blk,0,none⟩) n cap) n (d.toList.map encP) := by
  obtain ⟨c,hc,hs,hk⟩ := h.row
  have hf := h.fit
  refine ⟨by simpa using hn,.inr ⟨blk,cap,c,rfl,hb,hc,by omega,hm,by simpa using hs,?_⟩⟩
  apply List.ext_getElem?
  intro j
  rw [List.getElem?_take]
  by_cases hj : j < n * 1
  · rw [if_pos hj]
    have hjd : j < d.size := by omega
    have := hk j hjd
    rw [getElem!_pos d j hjd] at this
    simpa [hjd] using this
  · rw [if_neg hj,List.getElem?_eq_none (by simp; omega)]
set_option maxHeartbeats 1000000 in
theorem len_any (x : Nat) (hx : x≤18446744073709551615) (w : World) : Calls Tryz.prog 248 #[.int .u64 (x : Int)] w fun r w' => r = .returned (.int .i64 (Lib.bitLen x : Int))∧w = w' := by
  go_enter Tryz.func248,Tryz.ntmps248
  go_wp2_with (first
    | (go_at_call 275; refine (Tryz.bits_Len64 (x : Int) w (by omega) (by omega)).mono ?_; rintro r w1 ⟨rfl,rfl⟩))
  go_ret
  exact ⟨by simp,rfl⟩
end Go.Proofs.YtnnmpaenainogaaGreat

namespace Go.Proofs.YtnnmpaenainogaaGreat
open Go.RowKit Go.Maps
set_option maxHeartbeats 1000000 in
theorem sorted_any (N : Nat) (hN : SortOk N) (hN9 : N≤100000) (w : World) (Bm b : Nat) (L : List Nat) (hm : w.cell? ⟨Bm,0,none⟩ = some (.map (some b))) (hS : SetAt w b L) (hL : L.length≤N) (h0 : L≠[]) :
    Calls Tryz.prog 177 #[.func (.func 283) #[] #[.pointer (some ⟨Bm,0,none⟩)]] w fun r w' => ∃ a c,r = .returned (.slice a L.length c)∧OwnP w.heap.size w' (.slice a L.length c) L∧w.grownBy w' none := by
  have hsr := hS.2.1
  have h32 := hS.2.2
  have hpos := List.length_pos_iff.2 h0
  go_enter Tryz.func177,Tryz.ntmps177
  go_wp2_with (first
    | (go_at_call 217; (with_reducible refine (collect_any w Bm b L hm hS (Nat.le_trans hL hN9)).mono ?_); rintro r w1 ⟨v,ss,rfl,hp,ho,hg⟩; have hl := hp.length_eq; have K := hN w1 w.heap.size ss.length v ss L ho.1 hp hsr (by omega) (by omega); obtain ⟨a1,c1,rfl⟩ := own_shape ho.1; have HG := Lib.hid hg; have HK := Lib.hid K; have HL := Lib.hid hl; have HO := Lib.hid ho; clear hp ho hg K hl)
    | (go_at_call 218; refine HK.out.mono ?_; rintro r w2 ⟨rfl,h2,hg2⟩; have H2 := Lib.hid h2; have HG2 := Lib.hid hg2; clear h2 hg2))
  go_ret
  refine ⟨a1,c1,by rw [← HL.out]; rfl,⟨by rw [← HL.out]; exact H2.out,h32⟩,grow_own HG.out HO.out.1 HG2.out (Nat.le_refl _)⟩
set_option maxHeartbeats 2000000 in
theorem record_any (N : Nat) (hN : SortOk N) (hN9 : N≤100000) (w : World) (base b t : Nat) (L : List Nat) (lv : Value) (es : List (Value × Rc)) (hS : SetAt w b L) (hL : L.length≤N) (hes : RcOwns base w lv es) (hel : es.length≤200000) (hb : base≤w.heap.size) (ht : t < 18446744073709551616) :
    Calls Tryz.prog 244 #[.map (some b),lv,.int .u64 (t : Int)] w fun r w' => ∃ v' es',r = .returned v'∧RcOwns base w' v' es'∧es'.map (·.2) = es.map (·.2)++recM L t∧w.grownBy w' lv.ownBlock := by
  obtain ⟨j0,hj,hw0,hw1,hw2⟩ := info_parts infoRec
  have hown := hS.1
  by_cases h0 : L = []
  · have hsz : Maps.size (setD L) = 0 := by rw [size_setD,h0]; rfl
    have HE := Lib.hid (show recM L t = [] by unfold recM; rw [if_pos h0])
    have HES := Lib.hid hes
    clear hes h0
    go_enter Tryz.func244,Tryz.ntmps244
    go_wp2_with (first
      | (at_len; refine wpList_len_own _ rfl _ 174 rfl 42 114 Tryz.underlying174 _ b _ _ rfl hown ?_)
      | go_in)
    go_ret
    exact ⟨lv,es,rfl,HES.out,by rw [HE.out]; simp,grefl _ _⟩
  · have hsz : ¬ Maps.size (setD L) = 0 := by rw [size_setD]; exact fun e => h0 (List.eq_nil_of_length_eq_zero e)
    have hszb : ((Maps.size (setD L) : Int) == 0) = false := by simp; omega
    have HE := Lib.hid (show recM L t = [(t,L)] by unfold recM; rw [if_neg h0])
    have HES := Lib.hid hes
    have HS := Lib.hid hS
    have HNE := Lib.hid h0
    have HNN := Lib.hid hN
    have HNL := Lib.hid hL
    clear hes h0 hS hN hL
    go_enter Tryz.func244,Tryz.ntmps244
    go_wp2_with (first
      | (at_len; refine wpList_len_own _ rfl _ 174 rfl 42 114 Tryz.underlying174 _ b _ _ rfl hown ?_)
      | (go_at_call 264; (with_reducible refine (keys_any w (some b)).mono ?_); rintro r w1 ⟨rfl,rfl⟩)
      | (go_at_call 177; have K := sorted_any N HNN.out hN9 (w.alloc (.cells #[.map (some b)] 174)) w.heap.size b L (by rw [World.cell?_alloc_mark]; rfl) (HS.out.grown (World.grownBy_alloc _ _ _)) HNL.out HNE.out; (with_reducible refine K.mono ?_); clear K; rintro r w2 ⟨a2,c2,rfl,ho,hg⟩; have hg2 := gtrans (World.grownBy_alloc w (.cells #[.map (some b)] 174) none) hg; have HG2 := Lib.hid hg2; have HO2 := Lib.hid (ho.mono (show w.heap.size≤(w.alloc (.cells #[.map (some b)] 174)).heap.size by simp)); have HR2 := Lib.hid (HES.out.grown hg2); clear ho hg hg2)
      | (at_builtin; refine wpList_append_own _ rfl _ _ 68 rfl base 158 j0 (.agg #[.int .u64 0,.slice none 0 0]) 2 32 Tryz.underlying68 hj hw0 hw1 hw2 rfl (by decide) lv es.length (es.flatMap rcl) rfl (HR2.out.row.alloc _) ⟨w2.heap.size,0,none⟩ 1 1 (rcl (.slice a2 L.length c2,(t,[]))) rfl rfl (lit2 w2 t (.slice a2 L.length c2)) (one2 a2 L.length c2 t) (by unfold maxLen; omega) (by omega) (by have := HG2.out.size; simp; omega) ?_; intro v' w4 hown' hgrow _; have HO4 := Lib.hid hown'; have HG4 := Lib.hid hgrow; clear hown' hgrow)
      | go_in)
    go_ret
    have hR3 := HR2.out.grown (World.grownBy_alloc w2 (.cells #[.int .u64 (t : Int),.slice a2 L.length c2] 158) none)
    have hp3 : OwnP base (w2.alloc (.cells #[.int .u64 (t : Int),.slice a2 L.length c2] 158)) (.slice a2 L.length c2) L := (HO2.out.grown (World.grownBy_alloc w2 _ none)).mono hb
    exact ⟨v',es++[(.slice a2 L.length c2,(t,L))],rfl,hR3.push (y := (.slice a2 L.length c2,(t,L))) hp3 ht HO4.out HG4.out,by rw [HE.out]; simp,gtrans (gwide (gtrans HG2.out (World.grownBy_alloc w2 _ none))) HG4.out⟩
end Go.Proofs.YtnnmpaenainogaaGreat

namespace Go.Proofs.YtnnmpaenainogaaGreat
open Go.RowKit Go.Maps
def RecsR (w : World) (l : List Rc) (r : Ending) (w' : World) : Prop := ∃ v es,r = .returned v∧RcOwns w.heap.size w' v es∧es.map (·.2) = l∧w.grownBy w' none
set_option maxHeartbeats 2000000 in
theorem records_any (N : Nat) (hN : SortOk N) (hN9 : N≤100000) {H : Nat→Prop} (w : World) (B t : Nat) (M : Sp) (h : SpAt B H w M) (h1 : M.us.length≤N) (h2 : M.go.length≤N) (h3 : ∀ r∈M.ws,r.2≠[]∧r.2.length≤100000) (h4 : M.ws.length≤100000) (ht : t < 18446744073709551616) :
    Calls Tryz.prog 214 #[.pointer (some ⟨B + 4,0,none⟩),.int .u64 (t : Int)] w fun r w' => RecsR w (recsM M t) r w' := by
  obtain ⟨j0,hj,hw0,hw1,hw2⟩ := info_parts infoRec
  obtain ⟨wv,hf,hr⟩ := h
  obtain ⟨ao,c,rfl⟩ := hr.shape
  obtain ⟨n,hn⟩ : ∃ n,n = M.ws.length := ⟨_,rfl⟩
  rw [← hn] at hf hr h4
  obtain ⟨f0,f1,f2,f3,f4,f5,f6,f7⟩ := hf.cells
  have HF := Lib.hid hf
  have HR := Lib.hid hr
  have HN := Lib.hid hn
  have HS := Lib.hid hN
  have H3 := Lib.hid h3
  have H1 := Lib.hid h1
  have H2 := Lib.hid h2
  have hn7 : (n : Int)≤100000 := by omega
  clear hf hr hn hN h3 h1 h2 f0 f1 f2 f4 f5 f6
  go_enter Tryz.func214,Tryz.ntmps214
  go_wp2_with (first
    | (go_at_call 244; have K := record_any N HS.out hN9 w w.heap.size B 0 M.us (.slice none 0 0) [] HF.out.us H1.out (RcOwns.nil _ _) (by simp) (Nat.le_refl _) (by omega); rw [show ((0 : Nat) : Int) = 0 from rfl] at K; (with_reducible refine K.mono ?_); clear K; rintro r w1 ⟨v1,es1,rfl,ho1,he1,hg1⟩; obtain ⟨-,-,-,-,-,-,-,g7⟩ := (HF.out.grown hg1).cells; have HO1 := Lib.hid ho1; have HE1 := Lib.hid he1; have HG1 := Lib.hid hg1; clear ho1 he1 hg1))
  go_loopg [5,20] n (fun g lv i wr => ∃ (k : Nat) (es : List (Value × Rc)),k + g = n∧i = .int .i64 (k : Int)∧RcOwns w.heap.size wr lv es∧w.grownBy wr none∧Hid (es.map (·.2) = recM M.us 0++M.ws.take k))
  case atStart => exact ⟨0,es1,by omega,rfl,HO1.out,HG1.out,Lib.hid (by rw [HE1.out]; simp)⟩
  case round =>
    obtain ⟨k,es,hk,rfl,ho,hg,HE⟩ := hrel
    have HO := Lib.hid ho
    have HG := Lib.hid hg
    have hel : es.length≤100001 := by
      have h5 := congrArg List.length HE.out
      have h6 : (recM M.us 0).length≤1 := by unfold recM; split <;> simp
      have h7 : (M.ws.take k).length≤M.ws.length := by rw [List.length_take]; omega
      have h8 := HN.out
      simp only [List.length_map,List.length_append] at h5
      omega
    clear ho hg
    by_cases hlt : k < n
    · have hki : (k : Int) < (n : Int) := by omega
      have hkl : k < M.ws.length := by rw [← HN.out]; exact hlt
      obtain ⟨r,hr⟩ : ∃ r,M.ws[k]? = some r := ⟨M.ws[k],List.getElem?_eq_getElem hkl⟩
      obtain ⟨b,o,rfl,hRb,c0,hT64,a1,q1,c1,hp⟩ := HR.out.at k r hr
      have d0 := HG.out.cell c0 (by simp)
      have d1 := HG.out.cell c1 (by simp)
      have HTK := Lib.hid (take_snoc hr)
      have hmem : r∈M.ws := List.mem_of_getElem? hr
      obtain ⟨hpn,hpl⟩ := H3.out r hmem
      obtain ⟨T,ps⟩ := r
      have HPN := Lib.hid (show ps≠[] from hpn)
      simp only at d0 d1 hp hpl hT64
      have HPL := Lib.hid (show ps.length≤35184372088831 by omega)
      have HP := Lib.hid (hp.grown (gtrans HG.out (World.grownBy_alloc wr (.cells #[.int .u64 (T : Int),.slice a1 ps.length q1] 158) none)))
      clear hp hr c0 c1 hmem hpn
      generalize hm : ps.length = m at d1
      rw [hm] at HP hpl
      have HM := Lib.hid hm
      clear hm
      go_wp2_with (first
        | (go_at_call 115; (with_reducible refine (copied_any _ _ T a1 m q1 ps HP.out HPN.out HPL.out).mono ?_); rintro r w3 ⟨a2,c2,rfl,ho3,hg3⟩; have hg4 := gtrans (World.grownBy_alloc wr (.cells #[.int .u64 (T : Int),.slice a1 m q1] 158) none) hg3; have HO3 := Lib.hid (ho3.mono (show w.heap.size≤(wr.alloc (.cells #[.int .u64 (T : Int),.slice a1 m q1] 158)).heap.size by have := HG.out.size; simp; omega)); have HR3 := Lib.hid (HO.out.grown hg4); have HG3 := Lib.hid (gtrans HG.out hg4); clear ho3 hg3 hg4)
        | (at_builtin; refine wpList_append_own _ rfl _ _ 68 rfl w.heap.size 158 j0 (.agg #[.int .u64 0,.slice none 0 0]) 2 32 Tryz.underlying68 hj hw0 hw1 hw2 rfl (by decide) _ es.length (es.flatMap rcl) rfl (HR3.out.row.alloc _) ⟨w3.heap.size,0,none⟩ 1 1 (rcl (.slice a2 m c2,(T,[]))) rfl rfl (lit2 w3 T (.slice a2 m c2)) (one2 a2 m c2 T) (by unfold maxLen; omega) (by omega) (by have := HG3.out.size; simp; omega) ?_; intro v' w4 hown' hgrow _; have HO4 := Lib.hid hown'; have HG4 := Lib.hid hgrow; clear hown' hgrow))
      have hR3 := HR3.out.grown (World.grownBy_alloc w3 (.cells #[.int .u64 (T : Int),.slice a2 m c2] 158) none)
      have hp3 : OwnP w.heap.size (w3.alloc (.cells #[.int .u64 (T : Int),.slice a2 m c2] 158)) (.slice a2 m c2) ps := HO3.out.grown (World.grownBy_alloc w3 _ none)
      have hp4 := hR3.push (y := (.slice a2 m c2,(T,ps))) hp3 hT64 HO4.out HG4.out
      have hg4 := grow_own (gtrans HG3.out (World.grownBy_alloc w3 _ none)) hR3.row HG4.out (Nat.le_refl _)
      have HP4 := Lib.hid hp4
      have HG5 := Lib.hid hg4
      clear hR3 hp3 hp4 hg4
      go_roundg (n - (k + 1))
      case rel => exact ⟨k + 1,es++[(.slice a2 m c2,(T,ps))],by omega,by simp,HP4.out,HG5.out,Lib.hid (by rw [HTK.out,List.map_append,HE.out,List.append_assoc]; rfl)⟩
      case measure => omega
    · have hki : ¬ (k : Int) < (n : Int) := by omega
      have e : k = n := by omega
      have HE2 := Lib.hid (show es.map (·.2) = recM M.us 0++M.ws by rw [HE.out,e,HN.out,List.take_length])
      obtain ⟨-,-,-,-,-,k5,-,-⟩ := (HF.out.grown HG.out).cells
      clear e
      go_wp2_with (first
        | (go_at_call 244; have K := record_any N HS.out hN9 wr w.heap.size (B + 2) t M.go _ es (HF.out.grown HG.out).go H2.out HO.out (by omega) HG.out.size ht; (with_reducible refine K.mono ?_); clear K; rintro r w5 ⟨v5,es5,rfl,ho5,he5,hg5⟩; have HO5 := Lib.hid ho5; have HE5 := Lib.hid he5; have HG5 := Lib.hid (grow_own HG.out HO.out.row hg5 (Nat.le_refl _)); clear ho5 he5 hg5))
      go_ret
      exact ⟨v5,es5,rfl,HO5.out,by rw [HE5.out,HE2.out]; rfl,HG5.out⟩
end Go.Proofs.YtnnmpaenainogaaGreat

namespace Go.Proofs.YtnnmpaenainogaaGreat
open Go.RowKit Go.Maps
structure CtrAt (w0 : World) (blk cap : Nat) (w : World) (d : Array Nat) (g s : Nat) : Prop where
  row : RowAt w0 blk cap w d
  hg : w0.heap.size≤g
  box : w.heap[g]? = some (.cells #[.int .i64 (s : Int)] 3 (0,0))
theorem CtrAt.cell {w0 w : World} {blk cap g s : Nat} {d : Array Nat} (h : CtrAt w0 blk cap w d g s) : w.cell? ⟨g,0,none⟩ = some (.int .i64 (s : Int)) := by
  simp only [World.cell?,h.box]
  rfl
theorem CtrAt.froz {w0 w : World} {blk cap g s : Nat} {d : Array Nat} (h : CtrAt w0 blk cap w d g s) : w.frozen? ⟨g,0,none⟩ = false := free_row h.box 0
theorem CtrAt.drewN {w0 w : World} {blk cap g s : Nat} {d : Array Nat} (h : CtrAt w0 blk cap w d g s) (n : Nat) : CtrAt w0 blk cap (w.drewN n) d g s := ⟨h.row.drewN n,h.hg,h.box⟩
theorem CtrAt.put {w0 w : World} {blk cap g s : Nat} {d : Array Nat} (h : CtrAt w0 blk cap w d g s) : CtrAt w0 blk cap (w.setCell ⟨g,0,none⟩ (.int .i64 ((s : Int) + 1))) d g (s + 1) := by
  refine ⟨h.row.beside h.hg 0 _,h.hg,?_⟩
  simp [World.setCell,Array.getElem?_modify,h.box]
def Ord2 (w0 : World) (blk cap : Nat) (d : Array Nat) (g s i j : Nat) (r : Ending) (w' : World) : Prop :=
  ∃ i' j' s' : Nat,r = .returned (.tuple #[.int .i64 (i' : Int),.int .i64 (j' : Int)])∧(i' = i∧j' = j∨i' = j∧j' = i)∧s≤s'∧s'≤s + 1∧CtrAt w0 blk cap w' d g s'
set_option maxHeartbeats 1000000 in
theorem order2_any (w0 w : World) (blk cap i j g s : Nat) (d : Array Nat) (h : CtrAt w0 blk cap w d g s) (hi : i < d.size) (hj : j < d.size) (hsz : d.size≤100000) (hs : s≤1000) :
    Calls Tryz.prog 293 #[.slice (some ⟨blk,0,none⟩) d.size cap,.int .i64 (i : Int),.int .i64 (j : Int),.pointer (some ⟨g,0,none⟩)] w fun r w' => Ord2 w0 blk cap d g s i j r w' := by
  obtain ⟨n,hn⟩ : ∃ n,n = d.size := ⟨_,rfl⟩
  have c1 := h.row.cell hi
  have c2 := h.row.cell hj
  rw [← hn] at hi hj hsz ⊢
  have H := Lib.hid h
  have HN := Lib.hid hn
  have hii : (i : Int) < (n : Int) := by omega
  have hji : (j : Int) < (n : Int) := by omega
  obtain ⟨x,hx⟩ : ∃ x,d[i]! = x := ⟨_,rfl⟩
  obtain ⟨y,hy⟩ : ∃ y,d[j]! = y := ⟨_,rfl⟩
  rw [hx] at c1
  rw [hy] at c2
  obtain ⟨lb,hlb⟩ : ∃ lb,ltN y x = lb := ⟨_,rfl⟩
  have HL := Lib.hid hlb
  clear h hn hx hy hlb
  go_enter Tryz.func293,Tryz.ntmps293
  go_wp2_with fail
  go_quiet (first | (go_at_call 271; refine Calls.quiet_of_same (less_any y x lb HL.out _)))
  have H2 := Lib.hid (H.out.drewN nq)
  have hc := H2.out.cell
  have hf := H2.out.froz
  clear c1 c2
  generalize w.drewN nq = W at H2 hc hf ⊢
  cases lb with
  | true =>
    go_wp2
    go_ret2
    exact ⟨j,i,s + 1,rfl,.inr ⟨rfl,rfl⟩,by omega,by omega,H2.out.put⟩
  | false =>
    go_wp2
    go_ret2
    exact ⟨i,j,s,rfl,.inl ⟨rfl,rfl⟩,by omega,by omega,H2.out⟩
def Med (w0 : World) (blk cap : Nat) (d : Array Nat) (g s a b c : Nat) (r : Ending) (w' : World) : Prop :=
  ∃ m s' : Nat,r = .returned (.int .i64 (m : Int))∧(m = a∨m = b∨m = c)∧s≤s'∧s'≤s + 3∧CtrAt w0 blk cap w' d g s'
set_option maxHeartbeats 1000000 in
theorem median_any (w0 w : World) (blk cap a b c g s : Nat) (d : Array Nat) (h : CtrAt w0 blk cap w d g s) (ha : a < d.size) (hb : b < d.size) (hc : c < d.size) (hsz : d.size≤100000) (hs : s≤900) :
    Calls Tryz.prog 288 #[.slice (some ⟨blk,0,none⟩) d.size cap,.int .i64 (a : Int),.int .i64 (b : Int),.int .i64 (c : Int),.pointer (some ⟨g,0,none⟩)] w fun r w' => Med w0 blk cap d g s a b c r w' := by
  have H := Lib.hid h
  have HA := Lib.hid ha
  have HB := Lib.hid hb
  have HC := Lib.hid hc
  have HS := Lib.hid hs
  have HZ := Lib.hid hsz
  clear h ha hb hc hs hsz
  go_enter Tryz.func288,Tryz.ntmps288
  go_wp2_with (first
    | (go_at_call 293; (with_reducible refine (order2_any w0 w blk cap a b g s d H.out HA.out HB.out HZ.out (by have := HS.out; omega)).mono ?_); rintro r w1 ⟨a1,b1,s1,rfl,h1⟩; have H1 := Lib.hid h1; have HA1 := Lib.hid (show a1 < d.size∧b1 < d.size∧s1≤901 by have := HA.out; have := HB.out; have := HS.out; omega); clear h1)
    | (go_at_call 293; (with_reducible refine (order2_any w0 w1 blk cap b1 c g s1 d H1.out.2.2.2 HA1.out.2.1 HC.out HZ.out (by have := HA1.out; omega)).mono ?_); rintro r w2 ⟨b2,c2,s2,rfl,h2⟩; have H2 := Lib.hid h2; have HA2 := Lib.hid (show b2 < d.size∧c2 < d.size∧s2≤902 by have := HA1.out; have := HC.out; omega); clear h2)
    | (go_at_call 293; (with_reducible refine (order2_any w0 w2 blk cap a1 b2 g s2 d H2.out.2.2.2 HA1.out.1 HA2.out.1 HZ.out (by have := HA2.out; omega)).mono ?_); rintro r w3 ⟨a3,b3,s3,rfl,h3⟩; have H3 := Lib.hid h3; clear h3))
  go_ret
  have h1 := H1.out
  have h2 := H2.out
  have h3 := H3.out
  exact ⟨b3,s3,rfl,by omega,by omega,by omega,h3.2.2.2⟩
set_option maxHeartbeats 1000000 in
theorem medianAdj_any (w0 w : World) (blk cap a g s : Nat) (d : Array Nat) (h : CtrAt w0 blk cap w d g s) (ha : a + 1 < d.size) (h1 : 1≤a) (hsz : d.size≤100000) (hs : s≤900) :
    Calls Tryz.prog 287 #[.slice (some ⟨blk,0,none⟩) d.size cap,.int .i64 (a : Int),.pointer (some ⟨g,0,none⟩)] w fun r w' => Med w0 blk cap d g s (a - 1) a (a + 1) r w' := by
  have H := Lib.hid h
  have E1 := Lib.hid (show (a : Int) - 1 = ((a - 1 : Nat) : Int) by omega)
  have E2 := Lib.hid (show (a : Int) + 1 = ((a + 1 : Nat) : Int) by omega)
  clear h
  go_enter Tryz.func287,Tryz.ntmps287
  go_wp2_with (first
    | (go_at_call 288; have K := median_any w0 w blk cap (a - 1) a (a + 1) g s d H.out (by omega) (by omega) (by omega) hsz hs; rw [← E1.out,← E2.out] at K; (with_reducible refine K.mono ?_); clear K; rintro r w1 ⟨m,s1,rfl,hp1,hs1,ht1,h1⟩; have H1 := Lib.hid h1; clear h1))
  go_ret
  exact ⟨m,s1,rfl,hp1,hs1,ht1,H1.out⟩
end Go.Proofs.YtnnmpaenainogaaGreat

namespace Go.Proofs.YtnnmpaenainogaaGreat
open Go.RowKit Go.Maps
def Piv (w0 : World) (blk cap : Nat) (d : Array Nat) (a b : Nat) (r : Ending) (w' : World) : Prop :=
  ∃ p t : Nat,r = .returned (.tuple #[.int .i64 (p : Int),.int .i64 (t : Int)])∧a≤p∧p < b∧t≤2∧RowAt w0 blk cap w' d
theorem ctr_new {w0 w : World} {blk cap : Nat} {d : Array Nat} (h : RowAt w0 blk cap w d) : CtrAt w0 blk cap (w.alloc (.cells #[.int .i64 0] 3)) d w.heap.size 0 :=
  ⟨h.grown (World.grownBy_alloc _ _ _),h.gr.size,heap_alloc_new _ _⟩
set_option maxHeartbeats 2000000 in
theorem pivot_any (w0 w : World) (blk cap a b : Nat) (d : Array Nat) (h : RowAt w0 blk cap w d) (hb : b≤d.size) (hsz : d.size≤100000) (hab : a + 12 < b) :
    Calls Tryz.prog 268 #[.slice (some ⟨blk,0,none⟩) d.size cap,.int .i64 (a : Int),.int .i64 (b : Int)] w fun r w' => Piv w0 blk cap d a b r w' := by
  obtain ⟨l,hl⟩ : ∃ l : Nat,(b : Int) - (a : Int) = (l : Int) := ⟨b - a,by omega⟩
  have hl12 : 12 < l := by omega
  have hl5 : l≤100000 := by omega
  obtain ⟨q,hq⟩ : ∃ q : Nat,Int.tdiv (l : Int) 4 = (q : Int) := ⟨l / 4,by rw [Int.tdiv_eq_ediv_of_nonneg (by omega)]; omega⟩
  have HQ := Lib.hid (show q = l / 4 by rw [Int.tdiv_eq_ediv_of_nonneg (by omega)] at hq; omega)
  have hq5 : q≤25000 := by have := HQ.out; omega
  have HLB := Lib.hid (show b = a + l by omega)
  have E1 := Lib.hid (show (a : Int) + (q : Int) = ((a + q : Nat) : Int) by omega)
  have E2 := Lib.hid (show (a : Int) + (q : Int) * 2 = ((a + q * 2 : Nat) : Int) by omega)
  have E3 := Lib.hid (show (a : Int) + (q : Int) * 3 = ((a + q * 3 : Nat) : Int) by omega)
  have HR := Lib.hid h
  have HC := Lib.hid (ctr_new h)
  have HB := Lib.hid hb
  have HZ := Lib.hid hsz
  have HAB := Lib.hid hab
  have hi8 : (8 : Int)≤(l : Int) := by omega
  have hb5 : b≤100000 := by omega
  have ha5 : a≤100000 := by omega
  clear h hb hsz hab
  by_cases h50 : 50≤l
  · have hi50 : (50 : Int)≤(l : Int) := by omega
    go_enter Tryz.func268,Tryz.ntmps268
    go_wp2_with (first
      | (go_at_call 287; have K := medianAdj_any w0 (w.alloc (.cells #[.int .i64 0] 3)) blk cap (a + q) w.heap.size 0 d HC.out (by have := HQ.out; have := HLB.out; have := HB.out; omega) (by have := HQ.out; have := hi50; omega) HZ.out (by omega); rw [← E1.out] at K; (with_reducible refine K.mono ?_); clear K; rintro r w1 ⟨m1,s1,rfl,hp1,hs1,ht1,h1⟩; have H1 := Lib.hid h1; have HS1 := Lib.hid (show s1≤3 by omega); have HP1 := Lib.hid (show a≤m1∧m1 < b by have := HQ.out; have := HLB.out; omega); clear h1 hp1 hs1 ht1)
      | (go_at_call 287; have K := medianAdj_any w0 w1 blk cap (a + q * 2) w.heap.size s1 d H1.out (by have := HQ.out; have := HLB.out; have := HB.out; omega) (by have := HQ.out; have := hi50; omega) HZ.out (by have := HS1.out; omega); rw [← E2.out] at K; (with_reducible refine K.mono ?_); clear K; rintro r w2 ⟨m2,s2,rfl,hp2,hs2,ht2,h2⟩; have H2 := Lib.hid h2; have HS2 := Lib.hid (show s2≤6 by have := HS1.out; omega); have HP2 := Lib.hid (show a≤m2∧m2 < b by have := HQ.out; have := HLB.out; omega); clear h2 hp2 hs2 ht2)
      | (go_at_call 287; have K := medianAdj_any w0 w2 blk cap (a + q * 3) w.heap.size s2 d H2.out (by have := HQ.out; have := HLB.out; have := HB.out; omega) (by have := HQ.out; have := hi50; omega) HZ.out (by have := HS2.out; omega); rw [← E3.out] at K; (with_reducible refine K.mono ?_); clear K; rintro r w3 ⟨m3,s3,rfl,hp3,hs3,ht3,h3⟩; have H3 := Lib.hid h3; have HS3 := Lib.hid (show s3≤9 by have := HS2.out; omega); have HP3 := Lib.hid (show a≤m3∧m3 < b by have := HQ.out; have := HLB.out; omega); clear h3 hp3 hs3 ht3)
      | (go_at_call 288; (with_reducible refine (median_any w0 w3 blk cap m1 m2 m3 w.heap.size s3 d H3.out (by have := HP1.out; have := HB.out; omega) (by have := HP2.out; have := HB.out; omega) (by have := HP3.out; have := HB.out; omega) HZ.out (by have := HS3.out; omega)).mono ?_); rintro r w4 ⟨m,s4,rfl,hp4,hs4,ht4,h4⟩; have H4 := Lib.hid h4; have hc := h4.cell; have HP := Lib.hid (show a≤m∧m < b by have := HP1.out; have := HP2.out; have := HP3.out; omega); clear h4 hp4 hs4 ht4))
    all_goals
      go_ret2
      first
        | exact ⟨m,1,rfl,HP.out.1,HP.out.2,by decide,H4.out.row⟩
        | exact ⟨m,2,rfl,HP.out.1,HP.out.2,by decide,H4.out.row⟩
        | exact ⟨m,0,rfl,HP.out.1,HP.out.2,by decide,H4.out.row⟩
  · have hi50 : ¬ (50 : Int)≤(l : Int) := by omega
    go_enter Tryz.func268,Tryz.ntmps268
    go_wp2_with (first
      | (go_at_call 288; have K := median_any w0 (w.alloc (.cells #[.int .i64 0] 3)) blk cap (a + q) (a + q * 2) (a + q * 3) w.heap.size 0 d HC.out (by have := HQ.out; have := HLB.out; have := HB.out; omega) (by have := HQ.out; have := HLB.out; have := HB.out; omega) (by have := HQ.out; have := HLB.out; have := HB.out; omega) HZ.out (by omega); rw [← E1.out,← E2.out,← E3.out] at K; (with_reducible refine K.mono ?_); clear K; rintro r w1 ⟨m,s1,rfl,hp1,hs1,ht1,h1⟩; have H1 := Lib.hid h1; have hc := h1.cell; have HP := Lib.hid (show a≤m∧m < b by have := HQ.out; have := HLB.out; have := HAB.out; omega); clear h1 hp1))
    all_goals
      go_ret2
      first
        | exact ⟨m,1,rfl,HP.out.1,HP.out.2,by decide,H1.out.row⟩
        | exact ⟨m,2,rfl,HP.out.1,HP.out.2,by decide,H1.out.row⟩
        | exact ⟨m,0,rfl,HP.out.1,HP.out.2,by decide,H1.out.row⟩
end Go.Proofs.YtnnmpaenainogaaGreat

namespace Go.Proofs.YtnnmpaenainogaaGreat
open Go.RowKit Go.Maps
def Turned (w0 : World) (blk cap : Nat) (d : Array Nat) (a b : Nat) (r : Ending) (w' : World) : Prop :=
  ∃ dk,r = .returned (.tuple #[])∧RowAt w0 blk cap w' dk∧Sort.PermIn a b d dk
theorem permIn_swp {a b i j : Nat} {d dk : Array Nat} (h : Sort.PermIn a b d dk) (hi : a≤i) (hi2 : i < b) (hj : a≤j) (hj2 : j < b) (hb : b≤d.size) : Sort.PermIn a b d (Sort.swp dk i j) :=
  Sort.permIn_trans _ _ _ _ _ h (Sort.swp_permIn dk a b i j hi hi2 hj hj2 (by rw [h.1]; exact hb))
set_option maxRecDepth 100000 in
set_option maxHeartbeats 4000000 in
theorem reverse_any (w0 w : World) (blk cap a b : Nat) (d : Array Nat) (h : RowAt w0 blk cap w d) (hb : b≤d.size) (hsz : d.size≤100000) (hab : a + 12 < b) :
    Calls Tryz.prog 269 #[.slice (some ⟨blk,0,none⟩) d.size cap,.int .i64 (a : Int),.int .i64 (b : Int)] w fun r w' => Turned w0 blk cap d a b r w' := by
  obtain ⟨n,hn⟩ : ∃ n,n = d.size := ⟨_,rfl⟩
  have HR0 := Lib.hid h
  have HN := Lib.hid hn
  rw [← hn] at hb hsz ⊢
  clear h hn
  go_enter Tryz.func269,Tryz.ntmps269
  go_wp2
  go_loopg [6,7] b (fun g iv jv wr => ∃ (i j : Nat) (dk : Array Nat),iv = .int .i64 (i : Int)∧jv = .int .i64 (j : Int)∧j≤g∧a≤i∧j < b∧i≤b∧RowAt w0 blk cap wr dk∧Hid (Sort.PermIn a b d dk))
  case atStart => exact ⟨a,b - 1,d,rfl,by congr 1; omega,by omega,Nat.le_refl _,by omega,by omega,HR0.out,Lib.hid (Sort.permIn_refl _ _ _)⟩
  case round =>
    obtain ⟨i,j,dk,rfl,rfl,hg,hai,hjb,hib,hrow,HP⟩ := hrel
    have HR := Lib.hid hrow
    by_cases hij : i < j
    · have hiji : (i : Int) < (j : Int) := by omega
      have hs : dk.size = n := by rw [HP.out.1]; exact HN.out.symm
      have c1 := hrow.cell (show i < dk.size by omega)
      have c2 := hrow.cell (show j < dk.size by omega)
      have f1 := hrow.froz i
      have f2 := hrow.froz j
      have hin : (i : Int) < (n : Int) := by omega
      have hjn : (j : Int) < (n : Int) := by omega
      obtain ⟨x,hx⟩ : ∃ x,dk[i]! = x := ⟨_,rfl⟩
      obtain ⟨y,hy⟩ : ∃ y,dk[j]! = y := ⟨_,rfl⟩
      rw [hx] at c1
      rw [hy] at c2
      have HX := Lib.hid hx
      have HY := Lib.hid hy
      have HS := Lib.hid hs
      have hj1 : (1 : Int)≤(j : Int) := by omega
      clear hx hy hrow hs
      go_wp2_with fail
      go_region
      all_goals
        go_wp2
        go_roundg (j - 1)
        case rel => exact ⟨i + 1,j - 1,Sort.swp dk i j,by simp,by congr 1; omega,by omega,by omega,by omega,by omega,HR.out.drew.swap (by rw [HS.out]; omega) (by rw [HS.out]; omega) HY.out HX.out,Lib.hid (permIn_swp HP.out hai (by omega) (by omega) hjb (by rw [← HN.out]; exact hb))⟩
        case measure => omega
    · have hiji : ¬ (i : Int) < (j : Int) := by omega
      go_wp2
      go_end0
      exact ⟨dk,rfl,HR.out,HP.out⟩
end Go.Proofs.YtnnmpaenainogaaGreat

namespace Go.Proofs.YtnnmpaenainogaaGreat
open Go.RowKit Go.Maps
structure PInv (a b i j : Nat) (d : Array Nat) : Prop where
  i1 : a + 1≤i
  j1 : a≤j
  j2 : j < b
  ij : i≤j + 1
  lo : ∀ k,a < k→k < i→d[k]! < d[a]!
  hi : ∀ k,j < k→k < b→d[a]!≤d[k]!
theorem PInv.start {a b : Nat} (d : Array Nat) (h : a + 12 < b) : PInv a b (a + 1) (b - 1) d :=
  ⟨Nat.le_refl _,by omega,by omega,by omega,fun k h1 h2 => by omega,fun k h1 h2 => by omega⟩
theorem PInv.up {a b i j : Nat} {d : Array Nat} (h : PInv a b i j d) (hij : i≤j) (hl : d[i]! < d[a]!) : PInv a b (i + 1) j d :=
  ⟨by have := h.i1; omega,h.j1,h.j2,by omega,fun k h1 h2 => by
    rcases Nat.lt_or_ge k i with e | e
    · exact h.lo k h1 e
    · obtain rfl : k = i := by omega
      exact hl,h.hi⟩
theorem PInv.down {a b i j : Nat} {d : Array Nat} (h : PInv a b i j d) (hij : i≤j) (hl : d[a]!≤d[j]!) : PInv a b i (j - 1) d :=
  ⟨h.i1,by have := h.i1; omega,by have := h.j2; omega,by have := h.i1; omega,h.lo,fun k h1 h2 => by
    rcases Nat.lt_or_ge j k with e | e
    · exact h.hi k e h2
    · obtain rfl : k = j := by omega
      exact hl⟩
theorem PInv.swap {a b i j : Nat} {d : Array Nat} (h : PInv a b i j d) (hij : i≤j) (hb : b≤d.size) (hi : d[a]!≤d[i]!) (hj : d[j]! < d[a]!) : PInv a b (i + 1) (j - 1) (Sort.swp d i j) := by
  have hne : i≠j := fun e => by subst e; omega
  have h1 := h.i1
  have h2 := h.j2
  have ha : (Sort.swp d i j)[a]! = d[a]! := Sort.swp_other d i j a (by omega) (by omega)
  refine ⟨by omega,by omega,by omega,by omega,fun k k1 k2 => ?_,fun k k1 k2 => ?_⟩
  · rw [ha]
    rcases Nat.lt_or_ge k i with e | e
    · rw [Sort.swp_other d i j k (by omega) (by omega)]; exact h.lo k k1 e
    · obtain rfl : k = i := by omega
      rw [Sort.swp_left d k j (by omega) hne]; exact hj
  · rw [ha]
    rcases Nat.lt_or_ge j k with e | e
    · rw [Sort.swp_other d i j k (by omega) (by omega)]; exact h.hi k e k2
    · obtain rfl : k = j := by omega
      rw [Sort.swp_right d i k (by omega)]; exact hi
theorem PInv.fin {a b i j : Nat} {d : Array Nat} (h : PInv a b i j d) (hij : j < i) (hb : b≤d.size) :
    (∀ k,a≤k→k < j→(Sort.swp d j a)[k]! < (Sort.swp d j a)[j]!)∧(∀ k,j < k→k < b→(Sort.swp d j a)[j]!≤(Sort.swp d j a)[k]!) := by
  have h1 := h.i1
  have h2 := h.j2
  have h3 := h.j1
  have e1 : (Sort.swp d j a)[j]! = d[a]! := by
    by_cases e : j = a
    · subst e; rw [Sort.swp_right d j j (by omega)]
    · exact Sort.swp_left d j a (by omega) e
  refine ⟨fun k k1 k2 => ?_,fun k k1 k2 => ?_⟩
  · rw [e1]
    rcases Nat.lt_or_ge a k with e | e
    · rw [Sort.swp_other d j a k (by omega) (by omega)]; exact h.lo k e (by omega)
    · obtain rfl : k = a := by omega
      rw [Sort.swp_right d j k (by omega)]; exact h.lo j k2 (by omega)
  · rw [e1,Sort.swp_other d j a k (by omega) (by omega)]
    exact h.hi k k1 k2
def Parted (w0 : World) (blk cap : Nat) (d : Array Nat) (a b : Nat) (r : Ending) (w' : World) : Prop :=
  ∃ (m : Nat) (t : Bool) (dk : Array Nat),r = .returned (.tuple #[.int .i64 (m : Int),.bool t])∧RowAt w0 blk cap w' dk∧Sort.PermIn a b d dk∧a≤m∧m < b∧(∀ k,a≤k→k < m→dk[k]! < dk[m]!)∧(∀ k,m < k→k < b→dk[m]!≤dk[k]!)
set_option maxRecDepth 100000 in
set_option maxHeartbeats 8000000 in
theorem partition_any (w0 w : World) (blk cap a b pv : Nat) (d : Array Nat) (h : RowAt w0 blk cap w d) (hb : b≤d.size) (hsz : d.size≤100000) (hab : a + 12 < b) (hp1 : a≤pv) (hp2 : pv < b) :
    Calls Tryz.prog 273 #[.slice (some ⟨blk,0,none⟩) d.size cap,.int .i64 (a : Int),.int .i64 (b : Int),.int .i64 (pv : Int)] w fun r w' => Parted w0 blk cap d a b r w' := by
  obtain ⟨n,hn⟩ : ∃ n,n = d.size := ⟨_,rfl⟩
  have HN := Lib.hid hn
  rw [← hn] at hb hsz ⊢
  have HR := Lib.hid h
  have HAB := Lib.hid hab
  have HBN := Lib.hid hb
  obtain ⟨i0,hi0⟩ : ∃ i0 : Nat,(a : Int) + 1 = (i0 : Int) := ⟨a + 1,by omega⟩
  obtain ⟨j0,hj0⟩ : ∃ j0 : Nat,(b : Int) - 1 = (j0 : Int) := ⟨b - 1,by omega⟩
  have HI0 := Lib.hid (show i0 = a + 1 by omega)
  have HJ0 := Lib.hid (show j0 = b - 1 by omega)
  have han : (a : Int) < (n : Int) := by omega
  have hj05 : (j0 : Int)≤100000 := by omega
  have hi05 : (i0 : Int)≤100000 := by omega
  have hb05 : (b : Int)≤100000 := by omega
  have hb01 : (1 : Int)≤(b : Int) := by omega
  have hn05 : (n : Int)≤100000 := by omega
  have hpn : (pv : Int) < (n : Int) := by omega
  have HPV := Lib.hid (And.intro hp1 hp2)
  have c1 := h.cell (show a < d.size by omega)
  have c2 := h.cell (show pv < d.size by omega)
  have f1 := h.froz a
  have f2 := h.froz pv
  obtain ⟨x,hx⟩ : ∃ x,d[a]! = x := ⟨_,rfl⟩
  obtain ⟨y,hy⟩ : ∃ y,d[pv]! = y := ⟨_,rfl⟩
  rw [hx] at c1
  rw [hy] at c2
  have HX := Lib.hid hx
  have HY := Lib.hid hy
  clear hx hy h hn hab hb hp2
  obtain ⟨sp,hsp⟩ : ∃ sp,sp = Sort.swp d a pv := ⟨_,rfl⟩
  rcases Nat.lt_or_eq_of_le hp1 with hltp | e
  · clear hp1
    have hrs := (HR.out.swap (i := a) (j := pv) (by have := HN.out; have := HPV.out; have := HBN.out; omega) (by have := HN.out; have := HPV.out; have := HBN.out; omega) HY.out HX.out).drew
    have hs1 := And.intro ((size_swp' d a pv).trans HN.out.symm) (permIn_swp (Sort.permIn_refl d a b) (Nat.le_refl a) (by have := HAB.out; omega) HPV.out.1 HPV.out.2 (by rw [← HN.out]; exact HBN.out))
    rw [← hsp] at hrs hs1
    have HS1 := Lib.hid hs1
    have HPI0 := Lib.hid (PInv.start (a := a) (b := b) sp HAB.out)
    rw [← HI0.out,← HJ0.out] at HPI0
    clear hsp hs1
    go_enter Tryz.func273,Tryz.ntmps273
    go_wp2_with fail
    go_region
    all_goals
      clear c1 f1 c2 f2
      generalize ((w.setCell ⟨blk,a,none⟩ (.int .u32 (y : Int))).setCell ⟨blk,pv,none⟩ (.int .u32 (x : Int))).drew = WS at hrs ⊢
      have HRS := Lib.hid hrs
      clear hrs
      go_wp2
      go_loopg [10] b (fun g iv wr => ∃ i : Nat,iv = .int .i64 (i : Int)∧b≤g + i∧i0≤i∧Hid (PInv a b i j0 sp)∧RowAt w0 blk cap wr sp)
      case atStart => exact ⟨i0,rfl,by omega,Nat.le_refl _,HPI0,HRS.out⟩
      case round =>
        obtain ⟨ifu,rfl,hgfu,hstfu,HPfu,hrowfu⟩ := hrel
        have pinvfu := HPfu.out
        by_cases hlefu : ifu≤j0
        · have hlei : (ifu : Int)≤(j0 : Int) := by omega
          have c1fu := hrowfu.cell (j := ifu) (by rw [HS1.out.1]; have := pinvfu.i1; have := pinvfu.j2; have := pinvfu.ij; have := HBN.out; omega)
          have c2fu := hrowfu.cell (j := a) (by rw [HS1.out.1]; have := HAB.out; have := HBN.out; omega)
          have hinfu : (ifu : Int) < (n : Int) := by have := pinvfu.i1; have := pinvfu.j2; have := pinvfu.ij; have := HBN.out; omega
          obtain ⟨xfu,hxfu⟩ : ∃ x,sp[ifu]! = x := ⟨_,rfl⟩
          obtain ⟨yfu,hyfu⟩ : ∃ y,sp[a]! = y := ⟨_,rfl⟩
          rw [hxfu] at c1fu
          rw [hyfu] at c2fu
          have HXfu := Lib.hid hxfu
          have HYfu := Lib.hid hyfu
          obtain ⟨lb,hlb⟩ : ∃ lb,ltN xfu yfu = lb := ⟨_,rfl⟩
          have HLfu := Lib.hid hlb
          have HRWfu := Lib.hid hrowfu
          clear hxfu hyfu hlb hrowfu pinvfu
          go_wp2_with fail
          go_quiet (first | (go_at_call 271; refine Calls.quiet_of_same (less_any xfu yfu lb HLfu.out _)))
          have HRVfu := Lib.hid (HRWfu.out.drewN nq)
          clear c1fu c2fu
          generalize wr.drewN nq = Wfu at HRVfu ⊢
          cases lb with
          | true =>
            have HLTfu := Lib.hid (show sp[ifu]! < sp[a]! by have h9 := HLfu.out; rw [HXfu.out,HYfu.out]; simpa [ltN] using h9)
            go_wp2
            go_roundg (b - (ifu + 1))
            case rel => exact ⟨ifu + 1,by simp,by omega,by omega,Lib.hid (HPfu.out.up hlefu HLTfu.out),HRVfu.out⟩
            case measure => have := HPfu.out.j2; omega
          | false =>
            have HGEfu := Lib.hid (show sp[a]!≤sp[ifu]! by have h9 := HLfu.out; rw [HXfu.out,HYfu.out]; simpa [ltN] using h9)
            clear hlei
            go_wp2
            go_loopg [11] b (fun g jv wr => ∃ j : Nat,jv = .int .i64 (j : Int)∧j≤g∧Hid (PInv a b ifu j sp)∧RowAt w0 blk cap wr sp)
            case atStart => exact ⟨j0,rfl,by have := HPfu.out.j2; omega,HPfu,HRVfu.out⟩
            case round =>
              obtain ⟨jfd,rfl,hgfd,HPfd,hrowfd⟩ := hrel
              have pinvfd := HPfd.out
              by_cases hlefd : ifu≤jfd
              · have hlei : (ifu : Int)≤(jfd : Int) := by omega
                have hj1 : (1 : Int)≤(jfd : Int) := by have := pinvfd.i1; omega
                have c1fd := hrowfd.cell (j := jfd) (by rw [HS1.out.1]; have := pinvfd.i1; have := pinvfd.j2; have := pinvfd.ij; have := HBN.out; omega)
                have c2fd := hrowfd.cell (j := a) (by rw [HS1.out.1]; have := HAB.out; have := HBN.out; omega)
                have hinfd : (jfd : Int) < (n : Int) := by have := pinvfd.i1; have := pinvfd.j2; have := pinvfd.ij; have := HBN.out; omega
                obtain ⟨xfd,hxfd⟩ : ∃ x,sp[jfd]! = x := ⟨_,rfl⟩
                obtain ⟨yfd,hyfd⟩ : ∃ y,sp[a]! = y := ⟨_,rfl⟩
                rw [hxfd] at c1fd
                rw [hyfd] at c2fd
                have HXfd := Lib.hid hxfd
                have HYfd := Lib.hid hyfd
                obtain ⟨lb,hlb⟩ : ∃ lb,ltN xfd yfd = lb := ⟨_,rfl⟩
                have HLfd := Lib.hid hlb
                have HRWfd := Lib.hid hrowfd
                clear hxfd hyfd hlb hrowfd pinvfd
                go_wp2_with fail
                go_quiet (first | (go_at_call 271; refine Calls.quiet_of_same (less_any xfd yfd lb HLfd.out _)))
                have HRVfd := Lib.hid (HRWfd.out.drewN nq)
                clear c1fd c2fd
                generalize wr.drewN nq = Wfd at HRVfd ⊢
                cases lb with
                | true =>
                  have HLTfd := Lib.hid (show sp[jfd]! < sp[a]! by have h9 := HLfd.out; rw [HXfd.out,HYfd.out]; simpa [ltN] using h9)
                  have hgt9 : ¬ (jfd : Int) < (ifu : Int) := by omega
                  go_wp2_with fail
                  have hijfd : ifu < jfd := by
                    rcases Nat.lt_or_eq_of_le hlefd with e | e
                    · exact e
                    · exfalso
                      have h1 := HGEfu.out
                      have h2 := HLTfd.out
                      rw [e] at h1
                      omega
                  have hgt : ¬ (jfd : Int) < (ifu : Int) := by omega
                  have hjn : (jfd : Int) < (n : Int) := by have := HPfd.out.j2; have := HBN.out; omega
                  have hin : (ifu : Int) < (n : Int) := by omega
                  have e1 := HRVfd.out.cell (j := jfd) (by rw [HS1.out.1]; have := HPfd.out.j2; have := HBN.out; omega)
                  have e2 := HRVfd.out.cell (j := ifu) (by rw [HS1.out.1]; have := HPfd.out.j2; have := HBN.out; omega)
                  have g1 := HRVfd.out.froz jfd
                  have g2 := HRVfd.out.froz ifu
                  obtain ⟨xf,hxf⟩ : ∃ x,sp[ifu]! = x := ⟨_,rfl⟩
                  obtain ⟨yf,hyf⟩ : ∃ y,sp[jfd]! = y := ⟨_,rfl⟩
                  rw [hyf] at e1
                  rw [hxf] at e2
                  have HFX := Lib.hid hxf
                  have HFY := Lib.hid hyf
                  have hj1 : (1 : Int)≤(jfd : Int) := by omega
                  have HNR := Lib.hid (HRVfd.out.drew.swap (i := ifu) (j := jfd) (by rw [HS1.out.1]; omega) (by rw [HS1.out.1]; omega) HFY.out HFX.out)
                  have HNP := Lib.hid (HPfd.out.swap hlefd (by rw [HS1.out.1]; exact HBN.out) HGEfu.out HLTfd.out)
                  have HNS := Lib.hid (And.intro ((size_swp' sp ifu jfd).trans HS1.out.1) (permIn_swp (i := ifu) (j := jfd) HS1.out.2 (by have := HPfd.out.i1; omega) (by have := HPfd.out.j2; omega) HPfd.out.j1 HPfd.out.j2 (by rw [← HN.out]; exact HBN.out)))
                  clear hxf hyf
                  go_region
                  all_goals
                    go_wp2
                    go_loopg [10,11] b (fun g iv jv wr => ∃ (i j : Nat) (dk : Array Nat),iv = .int .i64 (i : Int)∧jv = .int .i64 (j : Int)∧b≤g + i∧Hid (PInv a b i j dk)∧Hid (dk.size = n∧Sort.PermIn a b d dk)∧RowAt w0 blk cap wr dk)
                    case atStart => exact ⟨ifu + 1,jfd - 1,Sort.swp sp ifu jfd,by simp,by congr 1; omega,by omega,HNP,HNS,HNR.out⟩
                    case round =>
                      obtain ⟨im,jm,dk,rfl,rfl,hgm,HPM,HSM,hrowm⟩ := hrel
                      have HRM := Lib.hid hrowm
                      clear hrowm
                      go_wp2
                      go_loopg [10] b (fun g iv wr => ∃ i : Nat,iv = .int .i64 (i : Int)∧b≤g + i∧im≤i∧Hid (PInv a b i jm dk)∧RowAt w0 blk cap wr dk)
                      case atStart => exact ⟨im,rfl,by omega,Nat.le_refl _,HPM,HRM.out⟩
                      case round =>
                        obtain ⟨imu,rfl,hgmu,hstmu,HPmu,hrowmu⟩ := hrel
                        have pinvmu := HPmu.out
                        by_cases hlemu : imu≤jm
                        · have hlei : (imu : Int)≤(jm : Int) := by omega
                          have c1mu := hrowmu.cell (j := imu) (by rw [HSM.out.1]; have := pinvmu.i1; have := pinvmu.j2; have := pinvmu.ij; have := HBN.out; omega)
                          have c2mu := hrowmu.cell (j := a) (by rw [HSM.out.1]; have := HAB.out; have := HBN.out; omega)
                          have hinmu : (imu : Int) < (n : Int) := by have := pinvmu.i1; have := pinvmu.j2; have := pinvmu.ij; have := HBN.out; omega
                          obtain ⟨xmu,hxmu⟩ : ∃ x,dk[imu]! = x := ⟨_,rfl⟩
                          obtain ⟨ymu,hymu⟩ : ∃ y,dk[a]! = y := ⟨_,rfl⟩
                          rw [hxmu] at c1mu
                          rw [hymu] at c2mu
                          have HXmu := Lib.hid hxmu
                          have HYmu := Lib.hid hymu
                          obtain ⟨lb,hlb⟩ : ∃ lb,ltN xmu ymu = lb := ⟨_,rfl⟩
                          have HLmu := Lib.hid hlb
                          have HRWmu := Lib.hid hrowmu
                          clear hxmu hymu hlb hrowmu pinvmu
                          go_wp2_with fail
                          go_quiet (first | (go_at_call 271; refine Calls.quiet_of_same (less_any xmu ymu lb HLmu.out _)))
                          have HRVmu := Lib.hid (HRWmu.out.drewN nq)
                          clear c1mu c2mu
                          generalize wr.drewN nq = Wmu at HRVmu ⊢
                          cases lb with
                          | true =>
                            have HLTmu := Lib.hid (show dk[imu]! < dk[a]! by have h9 := HLmu.out; rw [HXmu.out,HYmu.out]; simpa [ltN] using h9)
                            go_wp2
                            go_roundg (b - (imu + 1))
                            case rel => exact ⟨imu + 1,by simp,by omega,by omega,Lib.hid (HPmu.out.up hlemu HLTmu.out),HRVmu.out⟩
                            case measure => have := HPmu.out.j2; omega
                          | false =>
                            have HGEmu := Lib.hid (show dk[a]!≤dk[imu]! by have h9 := HLmu.out; rw [HXmu.out,HYmu.out]; simpa [ltN] using h9)
                            clear hlei
                            go_wp2
                            go_loopg [11] b (fun g jv wr => ∃ j : Nat,jv = .int .i64 (j : Int)∧j≤g∧Hid (PInv a b imu j dk)∧RowAt w0 blk cap wr dk)
                            case atStart => exact ⟨jm,rfl,by have := HPmu.out.j2; omega,HPmu,HRVmu.out⟩
                            case round =>
                              obtain ⟨jmd,rfl,hgmd,HPmd,hrowmd⟩ := hrel
                              have pinvmd := HPmd.out
                              by_cases hlemd : imu≤jmd
                              · have hlei : (imu : Int)≤(jmd : Int) := by omega
                                have hj1 : (1 : Int)≤(jmd : Int) := by have := pinvmd.i1; omega
                                have c1md := hrowmd.cell (j := jmd) (by rw [HSM.out.1]; have := pinvmd.i1; have := pinvmd.j2; have := pinvmd.ij; have := HBN.out; omega)
                                have c2md := hrowmd.cell (j := a) (by rw [HSM.out.1]; have := HAB.out; have := HBN.out; omega)
                                have hinmd : (jmd : Int) < (n : Int) := by have := pinvmd.i1; have := pinvmd.j2; have := pinvmd.ij; have := HBN.out; omega
                                obtain ⟨xmd,hxmd⟩ : ∃ x,dk[jmd]! = x := ⟨_,rfl⟩
                                obtain ⟨ymd,hymd⟩ : ∃ y,dk[a]! = y := ⟨_,rfl⟩
                                rw [hxmd] at c1md
                                rw [hymd] at c2md
                                have HXmd := Lib.hid hxmd
                                have HYmd := Lib.hid hymd
                                obtain ⟨lb,hlb⟩ : ∃ lb,ltN xmd ymd = lb := ⟨_,rfl⟩
                                have HLmd := Lib.hid hlb
                                have HRWmd := Lib.hid hrowmd
                                clear hxmd hymd hlb hrowmd pinvmd
                                go_wp2_with fail
                                go_quiet (first | (go_at_call 271; refine Calls.quiet_of_same (less_any xmd ymd lb HLmd.out _)))
                                have HRVmd := Lib.hid (HRWmd.out.drewN nq)
                                clear c1md c2md
                                generalize wr.drewN nq = Wmd at HRVmd ⊢
                                cases lb with
                                | true =>
                                  have HLTmd := Lib.hid (show dk[jmd]! < dk[a]! by have h9 := HLmd.out; rw [HXmd.out,HYmd.out]; simpa [ltN] using h9)
                                  have hgt9 : ¬ (jmd : Int) < (imu : Int) := by omega
                                  go_wp2_with fail
                                  have hijmd : imu < jmd := by
                                    rcases Nat.lt_or_eq_of_le hlemd with e | e
                                    · exact e
                                    · exfalso
                                      have h1 := HGEmu.out
                                      have h2 := HLTmd.out
                                      rw [e] at h1
                                      omega
                                  have hgt : ¬ (jmd : Int) < (imu : Int) := by omega
                                  have hjn : (jmd : Int) < (n : Int) := by have := HPmd.out.j2; have := HBN.out; omega
                                  have hin : (imu : Int) < (n : Int) := by omega
                                  have e1 := HRVmd.out.cell (j := jmd) (by rw [HSM.out.1]; have := HPmd.out.j2; have := HBN.out; omega)
                                  have e2 := HRVmd.out.cell (j := imu) (by rw [HSM.out.1]; have := HPmd.out.j2; have := HBN.out; omega)
                                  have g1 := HRVmd.out.froz jmd
                                  have g2 := HRVmd.out.froz imu
                                  obtain ⟨xf,hxf⟩ : ∃ x,dk[imu]! = x := ⟨_,rfl⟩
                                  obtain ⟨yf,hyf⟩ : ∃ y,dk[jmd]! = y := ⟨_,rfl⟩
                                  rw [hyf] at e1
                                  rw [hxf] at e2
                                  have HFX := Lib.hid hxf
                                  have HFY := Lib.hid hyf
                                  have hj1 : (1 : Int)≤(jmd : Int) := by omega
                                  have HNR := Lib.hid (HRVmd.out.drew.swap (i := imu) (j := jmd) (by rw [HSM.out.1]; omega) (by rw [HSM.out.1]; omega) HFY.out HFX.out)
                                  have HNP := Lib.hid (HPmd.out.swap hlemd (by rw [HSM.out.1]; exact HBN.out) HGEmu.out HLTmd.out)
                                  have HNS := Lib.hid (And.intro ((size_swp' dk imu jmd).trans HSM.out.1) (permIn_swp (i := imu) (j := jmd) HSM.out.2 (by have := HPmd.out.i1; omega) (by have := HPmd.out.j2; omega) HPmd.out.j1 HPmd.out.j2 (by rw [← HN.out]; exact HBN.out)))
                                  clear hxf hyf
                                  go_region
                                  all_goals
                                    go_wp2
                                    go_roundg (b - (imu + 1))
                                    case rel => exact ⟨imu + 1,jmd - 1,Sort.swp dk imu jmd,by simp,by congr 1; omega,by omega,HNP,HNS,HNR.out⟩
                                    case measure => have := HPmd.out.j2; omega
                                | false =>
                                  have HGEmd := Lib.hid (show dk[a]!≤dk[jmd]! by have h9 := HLmd.out; rw [HXmd.out,HYmd.out]; simpa [ltN] using h9)
                                  go_wp2
                                  go_roundg (jmd - 1)
                                  case rel => exact ⟨jmd - 1,by congr 1; omega,Nat.le_refl _,Lib.hid (HPmd.out.down hlemd HGEmd.out),HRVmd.out⟩
                                  case measure => have := HPmd.out.i1; omega
                              · have hlei : ¬ (imu : Int)≤(jmd : Int) := by omega
                                have HRWmd := Lib.hid hrowmd
                                clear hrowmd pinvmd
                                go_wp2_with fail
                                go_quiet (first | (go_at_call 271; refine Calls.quiet_of_same (less_any 0 0 false rfl _)))
                                have HRVmd := Lib.hid (HRWmd.out.drewN nq)
                                generalize wr.drewN nq = Wmd at HRVmd ⊢
                                have hgt : (jmd : Int) < (imu : Int) := by omega
                                have hjn : (jmd : Int) < (n : Int) := by have := HPmd.out.j2; have := HBN.out; omega
                                have e1 := HRVmd.out.cell (j := jmd) (by rw [HSM.out.1]; have := HPmd.out.j2; have := HBN.out; omega)
                                have e2 := HRVmd.out.cell (j := a) (by rw [HSM.out.1]; have := HAB.out; have := HBN.out; omega)
                                have g1 := HRVmd.out.froz jmd
                                have g2 := HRVmd.out.froz a
                                obtain ⟨xf,hxf⟩ : ∃ x,dk[a]! = x := ⟨_,rfl⟩
                                obtain ⟨yf,hyf⟩ : ∃ y,dk[jmd]! = y := ⟨_,rfl⟩
                                rw [hyf] at e1
                                rw [hxf] at e2
                                have HFX := Lib.hid hxf
                                have HFY := Lib.hid hyf
                                clear hxf hyf
                                rcases Nat.lt_or_eq_of_le HPmd.out.j1 with hja | hja
                                · go_wp2_with fail
                                  go_region
                                  all_goals
                                    go_wp2
                                    go_ret2
                                    exact ⟨jmd,false,Sort.swp dk jmd a,rfl,HRVmd.out.drew.swap (by rw [HSM.out.1]; have := HAB.out; have := HBN.out; have := HPmd.out.j2; omega) (by rw [HSM.out.1]; have := HAB.out; have := HBN.out; omega) HFX.out HFY.out,permIn_swp HSM.out.2 HPmd.out.j1 HPmd.out.j2 (Nat.le_refl _) (by have := HAB.out; omega) (by rw [← HN.out]; exact HBN.out),HPmd.out.j1,HPmd.out.j2,(HPmd.out.fin (by omega) (by rw [HSM.out.1]; exact HBN.out)).1,(HPmd.out.fin (by omega) (by rw [HSM.out.1]; exact HBN.out)).2⟩
                                · subst hja
                                  obtain rfl : xf = yf := by rw [← HFX.out,← HFY.out]
                                  clear e1 g1
                                  go_wp2_with fail
                                  go_region
                                  all_goals
                                    go_wp2
                                    go_ret2
                                    exact ⟨a,false,Sort.swp dk a a,rfl,HRVmd.out.drew.swap (by rw [HSM.out.1]; have := HAB.out; have := HBN.out; have := HPmd.out.j2; omega) (by rw [HSM.out.1]; have := HAB.out; have := HBN.out; omega) HFX.out HFY.out,permIn_swp HSM.out.2 HPmd.out.j1 HPmd.out.j2 (Nat.le_refl _) (by have := HAB.out; omega) (by rw [← HN.out]; exact HBN.out),HPmd.out.j1,HPmd.out.j2,(HPmd.out.fin (by omega) (by rw [HSM.out.1]; exact HBN.out)).1,(HPmd.out.fin (by omega) (by rw [HSM.out.1]; exact HBN.out)).2⟩
                        · have hlei : ¬ (imu : Int)≤(jm : Int) := by omega
                          have HRWmu := Lib.hid hrowmu
                          clear hrowmu pinvmu
                          go_wp2_with fail
                          go_quiet (first | (go_at_call 271; refine Calls.quiet_of_same (less_any 0 0 false rfl _)))
                          have HRVmu := Lib.hid (HRWmu.out.drewN nq)
                          generalize wr.drewN nq = Wmu at HRVmu ⊢
                          go_wp2
                          go_loopg [11] 1 (fun g jv wr => jv = .int .i64 (jm : Int)∧RowAt w0 blk cap wr dk)
                          case atStart => exact ⟨rfl,HRVmu.out⟩
                          case round =>
                            obtain ⟨rfl,hrowms⟩ := hrel
                            have pinvms := HPmu.out
                            have hlei : ¬ (imu : Int)≤(jm : Int) := by omega
                            have HRWms := Lib.hid hrowms
                            clear hrowms pinvms
                            go_wp2_with fail
                            go_quiet (first | (go_at_call 271; refine Calls.quiet_of_same (less_any 0 0 false rfl _)))
                            have HRVms := Lib.hid (HRWms.out.drewN nq)
                            generalize wr.drewN nq = Wms at HRVms ⊢
                            have hgt : (jm : Int) < (imu : Int) := by omega
                            have hjn : (jm : Int) < (n : Int) := by have := HPmu.out.j2; have := HBN.out; omega
                            have e1 := HRVms.out.cell (j := jm) (by rw [HSM.out.1]; have := HPmu.out.j2; have := HBN.out; omega)
                            have e2 := HRVms.out.cell (j := a) (by rw [HSM.out.1]; have := HAB.out; have := HBN.out; omega)
                            have g1 := HRVms.out.froz jm
                            have g2 := HRVms.out.froz a
                            obtain ⟨xf,hxf⟩ : ∃ x,dk[a]! = x := ⟨_,rfl⟩
                            obtain ⟨yf,hyf⟩ : ∃ y,dk[jm]! = y := ⟨_,rfl⟩
                            rw [hyf] at e1
                            rw [hxf] at e2
                            have HFX := Lib.hid hxf
                            have HFY := Lib.hid hyf
                            clear hxf hyf
                            rcases Nat.lt_or_eq_of_le HPmu.out.j1 with hja | hja
                            · go_wp2_with fail
                              go_region
                              all_goals
                                go_wp2
                                go_ret2
                                exact ⟨jm,false,Sort.swp dk jm a,rfl,HRVms.out.drew.swap (by rw [HSM.out.1]; have := HAB.out; have := HBN.out; have := HPmu.out.j2; omega) (by rw [HSM.out.1]; have := HAB.out; have := HBN.out; omega) HFX.out HFY.out,permIn_swp HSM.out.2 HPmu.out.j1 HPmu.out.j2 (Nat.le_refl _) (by have := HAB.out; omega) (by rw [← HN.out]; exact HBN.out),HPmu.out.j1,HPmu.out.j2,(HPmu.out.fin (by omega) (by rw [HSM.out.1]; exact HBN.out)).1,(HPmu.out.fin (by omega) (by rw [HSM.out.1]; exact HBN.out)).2⟩
                            · subst hja
                              obtain rfl : xf = yf := by rw [← HFX.out,← HFY.out]
                              clear e1 g1
                              go_wp2_with fail
                              go_region
                              all_goals
                                go_wp2
                                go_ret2
                                exact ⟨a,false,Sort.swp dk a a,rfl,HRVms.out.drew.swap (by rw [HSM.out.1]; have := HAB.out; have := HBN.out; have := HPmu.out.j2; omega) (by rw [HSM.out.1]; have := HAB.out; have := HBN.out; omega) HFX.out HFY.out,permIn_swp HSM.out.2 HPmu.out.j1 HPmu.out.j2 (Nat.le_refl _) (by have := HAB.out; omega) (by rw [← HN.out]; exact HBN.out),HPmu.out.j1,HPmu.out.j2,(HPmu.out.fin (by omega) (by rw [HSM.out.1]; exact HBN.out)).1,(HPmu.out.fin (by omega) (by rw [HSM.out.1]; exact HBN.out)).2⟩
                | false =>
                  have HGEfd := Lib.hid (show sp[a]!≤sp[jfd]! by have h9 := HLfd.out; rw [HXfd.out,HYfd.out]; simpa [ltN] using h9)
                  go_wp2
                  go_roundg (jfd - 1)
                  case rel => exact ⟨jfd - 1,by congr 1; omega,Nat.le_refl _,Lib.hid (HPfd.out.down hlefd HGEfd.out),HRVfd.out⟩
                  case measure => have := HPfd.out.i1; omega
              · have hlei : ¬ (ifu : Int)≤(jfd : Int) := by omega
                have HRWfd := Lib.hid hrowfd
                clear hrowfd pinvfd
                go_wp2_with fail
                go_quiet (first | (go_at_call 271; refine Calls.quiet_of_same (less_any 0 0 false rfl _)))
                have HRVfd := Lib.hid (HRWfd.out.drewN nq)
                generalize wr.drewN nq = Wfd at HRVfd ⊢
                have hgt : (jfd : Int) < (ifu : Int) := by omega
                have hjn : (jfd : Int) < (n : Int) := by have := HPfd.out.j2; have := HBN.out; omega
                have e1 := HRVfd.out.cell (j := jfd) (by rw [HS1.out.1]; have := HPfd.out.j2; have := HBN.out; omega)
                have e2 := HRVfd.out.cell (j := a) (by rw [HS1.out.1]; have := HAB.out; have := HBN.out; omega)
                have g1 := HRVfd.out.froz jfd
                have g2 := HRVfd.out.froz a
                obtain ⟨xf,hxf⟩ : ∃ x,sp[a]! = x := ⟨_,rfl⟩
                obtain ⟨yf,hyf⟩ : ∃ y,sp[jfd]! = y := ⟨_,rfl⟩
                rw [hyf] at e1
                rw [hxf] at e2
                have HFX := Lib.hid hxf
                have HFY := Lib.hid hyf
                clear hxf hyf
                rcases Nat.lt_or_eq_of_le HPfd.out.j1 with hja | hja
                · go_wp2_with fail
                  go_region
                  all_goals
                    go_wp2
                    go_ret2
                    exact ⟨jfd,true,Sort.swp sp jfd a,rfl,HRVfd.out.drew.swap (by rw [HS1.out.1]; have := HAB.out; have := HBN.out; have := HPfd.out.j2; omega) (by rw [HS1.out.1]; have := HAB.out; have := HBN.out; omega) HFX.out HFY.out,permIn_swp HS1.out.2 HPfd.out.j1 HPfd.out.j2 (Nat.le_refl _) (by have := HAB.out; omega) (by rw [← HN.out]; exact HBN.out),HPfd.out.j1,HPfd.out.j2,(HPfd.out.fin (by omega) (by rw [HS1.out.1]; exact HBN.out)).1,(HPfd.out.fin (by omega) (by rw [HS1.out.1]; exact HBN.out)).2⟩
                · subst hja
                  obtain rfl : xf = yf := by rw [← HFX.out,← HFY.out]
                  clear e1 g1
                  go_wp2_with fail
                  go_region
                  all_goals
                    go_wp2
                    go_ret2
                    exact ⟨a,true,Sort.swp sp a a,rfl,HRVfd.out.drew.swap (by rw [HS1.out.1]; have := HAB.out; have := HBN.out; have := HPfd.out.j2; omega) (by rw [HS1.out.1]; have := HAB.out; have := HBN.out; omega) HFX.out HFY.out,permIn_swp HS1.out.2 HPfd.out.j1 HPfd.out.j2 (Nat.le_refl _) (by have := HAB.out; omega) (by rw [← HN.out]; exact HBN.out),HPfd.out.j1,HPfd.out.j2,(HPfd.out.fin (by omega) (by rw [HS1.out.1]; exact HBN.out)).1,(HPfd.out.fin (by omega) (by rw [HS1.out.1]; exact HBN.out)).2⟩
        · have hlei : ¬ (ifu : Int)≤(j0 : Int) := by omega
          have HRWfu := Lib.hid hrowfu
          clear hrowfu pinvfu
          go_wp2_with fail
          go_quiet (first | (go_at_call 271; refine Calls.quiet_of_same (less_any 0 0 false rfl _)))
          have HRVfu := Lib.hid (HRWfu.out.drewN nq)
          generalize wr.drewN nq = Wfu at HRVfu ⊢
          go_wp2
          go_loopg [11] 1 (fun g jv wr => jv = .int .i64 (j0 : Int)∧RowAt w0 blk cap wr sp)
          case atStart => exact ⟨rfl,HRVfu.out⟩
          case round =>
            obtain ⟨rfl,hrowfs⟩ := hrel
            have pinvfs := HPfu.out
            have hlei : ¬ (ifu : Int)≤(j0 : Int) := by omega
            have HRWfs := Lib.hid hrowfs
            clear hrowfs pinvfs
            go_wp2_with fail
            go_quiet (first | (go_at_call 271; refine Calls.quiet_of_same (less_any 0 0 false rfl _)))
            have HRVfs := Lib.hid (HRWfs.out.drewN nq)
            generalize wr.drewN nq = Wfs at HRVfs ⊢
            have hgt : (j0 : Int) < (ifu : Int) := by omega
            have hjn : (j0 : Int) < (n : Int) := by have := HPfu.out.j2; have := HBN.out; omega
            have e1 := HRVfs.out.cell (j := j0) (by rw [HS1.out.1]; have := HPfu.out.j2; have := HBN.out; omega)
            have e2 := HRVfs.out.cell (j := a) (by rw [HS1.out.1]; have := HAB.out; have := HBN.out; omega)
            have g1 := HRVfs.out.froz j0
            have g2 := HRVfs.out.froz a
            obtain ⟨xf,hxf⟩ : ∃ x,sp[a]! = x := ⟨_,rfl⟩
            obtain ⟨yf,hyf⟩ : ∃ y,sp[j0]! = y := ⟨_,rfl⟩
            rw [hyf] at e1
            rw [hxf] at e2
            have HFX := Lib.hid hxf
            have HFY := Lib.hid hyf
            clear hxf hyf
            rcases Nat.lt_or_eq_of_le HPfu.out.j1 with hja | hja
            · go_wp2_with fail
              go_region
              all_goals
                go_wp2
                go_ret2
                exact ⟨j0,true,Sort.swp sp j0 a,rfl,HRVfs.out.drew.swap (by rw [HS1.out.1]; have := HAB.out; have := HBN.out; have := HPfu.out.j2; omega) (by rw [HS1.out.1]; have := HAB.out; have := HBN.out; omega) HFX.out HFY.out,permIn_swp HS1.out.2 HPfu.out.j1 HPfu.out.j2 (Nat.le_refl _) (by have := HAB.out; omega) (by rw [← HN.out]; exact HBN.out),HPfu.out.j1,HPfu.out.j2,(HPfu.out.fin (by omega) (by rw [HS1.out.1]; exact HBN.out)).1,(HPfu.out.fin (by omega) (by rw [HS1.out.1]; exact HBN.out)).2⟩
            · exact absurd hja (by have := HJ0.out; have := HAB.out; omega)
  · subst e
    obtain rfl : x = y := by rw [← HX.out,← HY.out]
    clear c2 f2 hp1
    have hrs := (HR.out.swap (i := a) (j := a) (by have := HN.out; have := HPV.out; have := HBN.out; omega) (by have := HN.out; have := HPV.out; have := HBN.out; omega) HY.out HX.out).drew
    have hs1 := And.intro ((size_swp' d a a).trans HN.out.symm) (permIn_swp (Sort.permIn_refl d a b) (Nat.le_refl a) (by have := HAB.out; omega) HPV.out.1 HPV.out.2 (by rw [← HN.out]; exact HBN.out))
    rw [← hsp] at hrs hs1
    have HS1 := Lib.hid hs1
    have HPI0 := Lib.hid (PInv.start (a := a) (b := b) sp HAB.out)
    rw [← HI0.out,← HJ0.out] at HPI0
    clear hsp hs1
    go_enter Tryz.func273,Tryz.ntmps273
    go_wp2_with fail
    go_region
    all_goals
      clear c1 f1
      generalize ((w.setCell ⟨blk,a,none⟩ (.int .u32 (x : Int))).setCell ⟨blk,a,none⟩ (.int .u32 (x : Int))).drew = WS at hrs ⊢
      have HRS := Lib.hid hrs
      clear hrs
      go_wp2
      go_loopg [10] b (fun g iv wr => ∃ i : Nat,iv = .int .i64 (i : Int)∧b≤g + i∧i0≤i∧Hid (PInv a b i j0 sp)∧RowAt w0 blk cap wr sp)
      case atStart => exact ⟨i0,rfl,by omega,Nat.le_refl _,HPI0,HRS.out⟩
      case round =>
        obtain ⟨ifu,rfl,hgfu,hstfu,HPfu,hrowfu⟩ := hrel
        have pinvfu := HPfu.out
        by_cases hlefu : ifu≤j0
        · have hlei : (ifu : Int)≤(j0 : Int) := by omega
          have c1fu := hrowfu.cell (j := ifu) (by rw [HS1.out.1]; have := pinvfu.i1; have := pinvfu.j2; have := pinvfu.ij; have := HBN.out; omega)
          have c2fu := hrowfu.cell (j := a) (by rw [HS1.out.1]; have := HAB.out; have := HBN.out; omega)
          have hinfu : (ifu : Int) < (n : Int) := by have := pinvfu.i1; have := pinvfu.j2; have := pinvfu.ij; have := HBN.out; omega
          obtain ⟨xfu,hxfu⟩ : ∃ x,sp[ifu]! = x := ⟨_,rfl⟩
          obtain ⟨yfu,hyfu⟩ : ∃ y,sp[a]! = y := ⟨_,rfl⟩
          rw [hxfu] at c1fu
          rw [hyfu] at c2fu
          have HXfu := Lib.hid hxfu
          have HYfu := Lib.hid hyfu
          obtain ⟨lb,hlb⟩ : ∃ lb,ltN xfu yfu = lb := ⟨_,rfl⟩
          have HLfu := Lib.hid hlb
          have HRWfu := Lib.hid hrowfu
          clear hxfu hyfu hlb hrowfu pinvfu
          go_wp2_with fail
          go_quiet (first | (go_at_call 271; refine Calls.quiet_of_same (less_any xfu yfu lb HLfu.out _)))
          have HRVfu := Lib.hid (HRWfu.out.drewN nq)
          clear c1fu c2fu
          generalize wr.drewN nq = Wfu at HRVfu ⊢
          cases lb with
          | true =>
            have HLTfu := Lib.hid (show sp[ifu]! < sp[a]! by have h9 := HLfu.out; rw [HXfu.out,HYfu.out]; simpa [ltN] using h9)
            go_wp2
            go_roundg (b - (ifu + 1))
            case rel => exact ⟨ifu + 1,by simp,by omega,by omega,Lib.hid (HPfu.out.up hlefu HLTfu.out),HRVfu.out⟩
            case measure => have := HPfu.out.j2; omega
          | false =>
            have HGEfu := Lib.hid (show sp[a]!≤sp[ifu]! by have h9 := HLfu.out; rw [HXfu.out,HYfu.out]; simpa [ltN] using h9)
            clear hlei
            go_wp2
            go_loopg [11] b (fun g jv wr => ∃ j : Nat,jv = .int .i64 (j : Int)∧j≤g∧Hid (PInv a b ifu j sp)∧RowAt w0 blk cap wr sp)
            case atStart => exact ⟨j0,rfl,by have := HPfu.out.j2; omega,HPfu,HRVfu.out⟩
            case round =>
              obtain ⟨jfd,rfl,hgfd,HPfd,hrowfd⟩ := hrel
              have pinvfd := HPfd.out
              by_cases hlefd : ifu≤jfd
              · have hlei : (ifu : Int)≤(jfd : Int) := by omega
                have hj1 : (1 : Int)≤(jfd : Int) := by have := pinvfd.i1; omega
                have c1fd := hrowfd.cell (j := jfd) (by rw [HS1.out.1]; have := pinvfd.i1; have := pinvfd.j2; have := pinvfd.ij; have := HBN.out; omega)
                have c2fd := hrowfd.cell (j := a) (by rw [HS1.out.1]; have := HAB.out; have := HBN.out; omega)
                have hinfd : (jfd : Int) < (n : Int) := by have := pinvfd.i1; have := pinvfd.j2; have := pinvfd.ij; have := HBN.out; omega
                obtain ⟨xfd,hxfd⟩ : ∃ x,sp[jfd]! = x := ⟨_,rfl⟩
                obtain ⟨yfd,hyfd⟩ : ∃ y,sp[a]! = y := ⟨_,rfl⟩
                rw [hxfd] at c1fd
                rw [hyfd] at c2fd
                have HXfd := Lib.hid hxfd
                have HYfd := Lib.hid hyfd
                obtain ⟨lb,hlb⟩ : ∃ lb,ltN xfd yfd = lb := ⟨_,rfl⟩
                have HLfd := Lib.hid hlb
                have HRWfd := Lib.hid hrowfd
                clear hxfd hyfd hlb hrowfd pinvfd
                go_wp2_with fail
                go_quiet (first | (go_at_call 271; refine Calls.quiet_of_same (less_any xfd yfd lb HLfd.out _)))
                have HRVfd := Lib.hid (HRWfd.out.drewN nq)
                clear c1fd c2fd
                generalize wr.drewN nq = Wfd at HRVfd ⊢
                cases lb with
                | true =>
                  have HLTfd := Lib.hid (show sp[jfd]! < sp[a]! by have h9 := HLfd.out; rw [HXfd.out,HYfd.out]; simpa [ltN] using h9)
                  have hgt9 : ¬ (jfd : Int) < (ifu : Int) := by omega
                  go_wp2_with fail
                  have hijfd : ifu < jfd := by
                    rcases Nat.lt_or_eq_of_le hlefd with e | e
                    · exact e
                    · exfalso
                      have h1 := HGEfu.out
                      have h2 := HLTfd.out
                      rw [e] at h1
                      omega
                  have hgt : ¬ (jfd : Int) < (ifu : Int) := by omega
                  have hjn : (jfd : Int) < (n : Int) := by have := HPfd.out.j2; have := HBN.out; omega
                  have hin : (ifu : Int) < (n : Int) := by omega
                  have e1 := HRVfd.out.cell (j := jfd) (by rw [HS1.out.1]; have := HPfd.out.j2; have := HBN.out; omega)
                  have e2 := HRVfd.out.cell (j := ifu) (by rw [HS1.out.1]; have := HPfd.out.j2; have := HBN.out; omega)
                  have g1 := HRVfd.out.froz jfd
                  have g2 := HRVfd.out.froz ifu
                  obtain ⟨xf,hxf⟩ : ∃ x,sp[ifu]! = x := ⟨_,rfl⟩
                  obtain ⟨yf,hyf⟩ : ∃ y,sp[jfd]! = y := ⟨_,rfl⟩
                  rw [hyf] at e1
                  rw [hxf] at e2
                  have HFX := Lib.hid hxf
                  have HFY := Lib.hid hyf
                  have hj1 : (1 : Int)≤(jfd : Int) := by omega
                  have HNR := Lib.hid (HRVfd.out.drew.swap (i := ifu) (j := jfd) (by rw [HS1.out.1]; omega) (by rw [HS1.out.1]; omega) HFY.out HFX.out)
                  have HNP := Lib.hid (HPfd.out.swap hlefd (by rw [HS1.out.1]; exact HBN.out) HGEfu.out HLTfd.out)
                  have HNS := Lib.hid (And.intro ((size_swp' sp ifu jfd).trans HS1.out.1) (permIn_swp (i := ifu) (j := jfd) HS1.out.2 (by have := HPfd.out.i1; omega) (by have := HPfd.out.j2; omega) HPfd.out.j1 HPfd.out.j2 (by rw [← HN.out]; exact HBN.out)))
                  clear hxf hyf
                  go_region
                  all_goals
                    go_wp2
                    go_loopg [10,11] b (fun g iv jv wr => ∃ (i j : Nat) (dk : Array Nat),iv = .int .i64 (i : Int)∧jv = .int .i64 (j : Int)∧b≤g + i∧Hid (PInv a b i j dk)∧Hid (dk.size = n∧Sort.PermIn a b d dk)∧RowAt w0 blk cap wr dk)
                    case atStart => exact ⟨ifu + 1,jfd - 1,Sort.swp sp ifu jfd,by simp,by congr 1; omega,by omega,HNP,HNS,HNR.out⟩
                    case round =>
                      obtain ⟨im,jm,dk,rfl,rfl,hgm,HPM,HSM,hrowm⟩ := hrel
                      have HRM := Lib.hid hrowm
                      clear hrowm
                      go_wp2
                      go_loopg [10] b (fun g iv wr => ∃ i : Nat,iv = .int .i64 (i : Int)∧b≤g + i∧im≤i∧Hid (PInv a b i jm dk)∧RowAt w0 blk cap wr dk)
                      case atStart => exact ⟨im,rfl,by omega,Nat.le_refl _,HPM,HRM.out⟩
                      case round =>
                        obtain ⟨imu,rfl,hgmu,hstmu,HPmu,hrowmu⟩ := hrel
                        have pinvmu := HPmu.out
                        by_cases hlemu : imu≤jm
                        · have hlei : (imu : Int)≤(jm : Int) := by omega
                          have c1mu := hrowmu.cell (j := imu) (by rw [HSM.out.1]; have := pinvmu.i1; have := pinvmu.j2; have := pinvmu.ij; have := HBN.out; omega)
                          have c2mu := hrowmu.cell (j := a) (by rw [HSM.out.1]; have := HAB.out; have := HBN.out; omega)
                          have hinmu : (imu : Int) < (n : Int) := by have := pinvmu.i1; have := pinvmu.j2; have := pinvmu.ij; have := HBN.out; omega
                          obtain ⟨xmu,hxmu⟩ : ∃ x,dk[imu]! = x := ⟨_,rfl⟩
                          obtain ⟨ymu,hymu⟩ : ∃ y,dk[a]! = y := ⟨_,rfl⟩
                          rw [hxmu] at c1mu
                          rw [hymu] at c2mu
                          have HXmu := Lib.hid hxmu
                          have HYmu := Lib.hid hymu
                          obtain ⟨lb,hlb⟩ : ∃ lb,ltN xmu ymu = lb := ⟨_,rfl⟩
                          have HLmu := Lib.hid hlb
                          have HRWmu := Lib.hid hrowmu
                          clear hxmu hymu hlb hrowmu pinvmu
                          go_wp2_with fail
                          go_quiet (first | (go_at_call 271; refine Calls.quiet_of_same (less_any xmu ymu lb HLmu.out _)))
                          have HRVmu := Lib.hid (HRWmu.out.drewN nq)
                          clear c1mu c2mu
                          generalize wr.drewN nq = Wmu at HRVmu ⊢
                          cases lb with
                          | true =>
                            have HLTmu := Lib.hid (show dk[imu]! < dk[a]! by have h9 := HLmu.out; rw [HXmu.out,HYmu.out]; simpa [ltN] using h9)
                            go_wp2
                            go_roundg (b - (imu + 1))
                            case rel => exact ⟨imu + 1,by simp,by omega,by omega,Lib.hid (HPmu.out.up hlemu HLTmu.out),HRVmu.out⟩
                            case measure => have := HPmu.out.j2; omega
                          | false =>
                            have HGEmu := Lib.hid (show dk[a]!≤dk[imu]! by have h9 := HLmu.out; rw [HXmu.out,HYmu.out]; simpa [ltN] using h9)
                            clear hlei
                            go_wp2
                            go_loopg [11] b (fun g jv wr => ∃ j : Nat,jv = .int .i64 (j : Int)∧j≤g∧Hid (PInv a b imu j dk)∧RowAt w0 blk cap wr dk)
                            case atStart => exact ⟨jm,rfl,by have := HPmu.out.j2; omega,HPmu,HRVmu.out⟩
                            case round =>
                              obtain ⟨jmd,rfl,hgmd,HPmd,hrowmd⟩ := hrel
                              have pinvmd := HPmd.out
                              by_cases hlemd : imu≤jmd
                              · have hlei : (imu : Int)≤(jmd : Int) := by omega
                                have hj1 : (1 : Int)≤(jmd : Int) := by have := pinvmd.i1; omega
                                have c1md := hrowmd.cell (j := jmd) (by rw [HSM.out.1]; have := pinvmd.i1; have := pinvmd.j2; have := pinvmd.ij; have := HBN.out; omega)
                                have c2md := hrowmd.cell (j := a) (by rw [HSM.out.1]; have := HAB.out; have := HBN.out; omega)
                                have hinmd : (jmd : Int) < (n : Int) := by have := pinvmd.i1; have := pinvmd.j2; have := pinvmd.ij; have := HBN.out; omega
                                obtain ⟨xmd,hxmd⟩ : ∃ x,dk[jmd]! = x := ⟨_,rfl⟩
                                obtain ⟨ymd,hymd⟩ : ∃ y,dk[a]! = y := ⟨_,rfl⟩
                                rw [hxmd] at c1md
                                rw [hymd] at c2md
                                have HXmd := Lib.hid hxmd
                                have HYmd := Lib.hid hymd
                                obtain ⟨lb,hlb⟩ : ∃ lb,ltN xmd ymd = lb := ⟨_,rfl⟩
                                have HLmd := Lib.hid hlb
                                have HRWmd := Lib.hid hrowmd
                                clear hxmd hymd hlb hrowmd pinvmd
                                go_wp2_with fail
                                go_quiet (first | (go_at_call 271; refine Calls.quiet_of_same (less_any xmd ymd lb HLmd.out _)))
                                have HRVmd := Lib.hid (HRWmd.out.drewN nq)
                                clear c1md c2md
                                generalize wr.drewN nq = Wmd at HRVmd ⊢
                                cases lb with
                                | true =>
                                  have HLTmd := Lib.hid (show dk[jmd]! < dk[a]! by have h9 := HLmd.out; rw [HXmd.out,HYmd.out]; simpa [ltN] using h9)
                                  have hgt9 : ¬ (jmd : Int) < (imu : Int) := by omega
                                  go_wp2_with fail
                                  have hijmd : imu < jmd := by
                                    rcases Nat.lt_or_eq_of_le hlemd with e | e
                                    · exact e
                                    · exfalso
                                      have h1 := HGEmu.out
                                      have h2 := HLTmd.out
                                      rw [e] at h1
                                      omega
                                  have hgt : ¬ (jmd : Int) < (imu : Int) := by omega
                                  have hjn : (jmd : Int) < (n : Int) := by have := HPmd.out.j2; have := HBN.out; omega
                                  have hin : (imu : Int) < (n : Int) := by omega
                                  have e1 := HRVmd.out.cell (j := jmd) (by rw [HSM.out.1]; have := HPmd.out.j2; have := HBN.out; omega)
                                  have e2 := HRVmd.out.cell (j := imu) (by rw [HSM.out.1]; have := HPmd.out.j2; have := HBN.out; omega)
                                  have g1 := HRVmd.out.froz jmd
                                  have g2 := HRVmd.out.froz imu
                                  obtain ⟨xf,hxf⟩ : ∃ x,dk[imu]! = x := ⟨_,rfl⟩
                                  obtain ⟨yf,hyf⟩ : ∃ y,dk[jmd]! = y := ⟨_,rfl⟩
                                  rw [hyf] at e1
                                  rw [hxf] at e2
                                  have HFX := Lib.hid hxf
                                  have HFY := Lib.hid hyf
                                  have hj1 : (1 : Int)≤(jmd : Int) := by omega
                                  have HNR := Lib.hid (HRVmd.out.drew.swap (i := imu) (j := jmd) (by rw [HSM.out.1]; omega) (by rw [HSM.out.1]; omega) HFY.out HFX.out)
                                  have HNP := Lib.hid (HPmd.out.swap hlemd (by rw [HSM.out.1]; exact HBN.out) HGEmu.out HLTmd.out)
                                  have HNS := Lib.hid (And.intro ((size_swp' dk imu jmd).trans HSM.out.1) (permIn_swp (i := imu) (j := jmd) HSM.out.2 (by have := HPmd.out.i1; omega) (by have := HPmd.out.j2; omega) HPmd.out.j1 HPmd.out.j2 (by rw [← HN.out]; exact HBN.out)))
                                  clear hxf hyf
                                  go_region
                                  all_goals
                                    go_wp2
                                    go_roundg (b - (imu + 1))
                                    case rel => exact ⟨imu + 1,jmd - 1,Sort.swp dk imu jmd,by simp,by congr 1; omega,by omega,HNP,HNS,HNR.out⟩
                                    case measure => have := HPmd.out.j2; omega
                                | false =>
                                  have HGEmd := Lib.hid (show dk[a]!≤dk[jmd]! by have h9 := HLmd.out; rw [HXmd.out,HYmd.out]; simpa [ltN] using h9)
                                  go_wp2
                                  go_roundg (jmd - 1)
                                  case rel => exact ⟨jmd - 1,by congr 1; omega,Nat.le_refl _,Lib.hid (HPmd.out.down hlemd HGEmd.out),HRVmd.out⟩
                                  case measure => have := HPmd.out.i1; omega
                              · have hlei : ¬ (imu : Int)≤(jmd : Int) := by omega
                                have HRWmd := Lib.hid hrowmd
                                clear hrowmd pinvmd
                                go_wp2_with fail
                                go_quiet (first | (go_at_call 271; refine Calls.quiet_of_same (less_any 0 0 false rfl _)))
                                have HRVmd := Lib.hid (HRWmd.out.drewN nq)
                                generalize wr.drewN nq = Wmd at HRVmd ⊢
                                have hgt : (jmd : Int) < (imu : Int) := by omega
                                have hjn : (jmd : Int) < (n : Int) := by have := HPmd.out.j2; have := HBN.out; omega
                                have e1 := HRVmd.out.cell (j := jmd) (by rw [HSM.out.1]; have := HPmd.out.j2; have := HBN.out; omega)
                                have e2 := HRVmd.out.cell (j := a) (by rw [HSM.out.1]; have := HAB.out; have := HBN.out; omega)
                                have g1 := HRVmd.out.froz jmd
                                have g2 := HRVmd.out.froz a
                                obtain ⟨xf,hxf⟩ : ∃ x,dk[a]! = x := ⟨_,rfl⟩
                                obtain ⟨yf,hyf⟩ : ∃ y,dk[jmd]! = y := ⟨_,rfl⟩
                                rw [hyf] at e1
                                rw [hxf] at e2
                                have HFX := Lib.hid hxf
                                have HFY := Lib.hid hyf
                                clear hxf hyf
                                rcases Nat.lt_or_eq_of_le HPmd.out.j1 with hja | hja
                                · go_wp2_with fail
                                  go_region
                                  all_goals
                                    go_wp2
                                    go_ret2
                                    exact ⟨jmd,false,Sort.swp dk jmd a,rfl,HRVmd.out.drew.swap (by rw [HSM.out.1]; have := HAB.out; have := HBN.out; have := HPmd.out.j2; omega) (by rw [HSM.out.1]; have := HAB.out; have := HBN.out; omega) HFX.out HFY.out,permIn_swp HSM.out.2 HPmd.out.j1 HPmd.out.j2 (Nat.le_refl _) (by have := HAB.out; omega) (by rw [← HN.out]; exact HBN.out),HPmd.out.j1,HPmd.out.j2,(HPmd.out.fin (by omega) (by rw [HSM.out.1]; exact HBN.out)).1,(HPmd.out.fin (by omega) (by rw [HSM.out.1]; exact HBN.out)).2⟩
                                · subst hja
                                  obtain rfl : xf = yf := by rw [← HFX.out,← HFY.out]
                                  clear e1 g1
                                  go_wp2_with fail
                                  go_region
                                  all_goals
                                    go_wp2
                                    go_ret2
                                    exact ⟨a,false,Sort.swp dk a a,rfl,HRVmd.out.drew.swap (by rw [HSM.out.1]; have := HAB.out; have := HBN.out; have := HPmd.out.j2; omega) (by rw [HSM.out.1]; have := HAB.out; have := HBN.out; omega) HFX.out HFY.out,permIn_swp HSM.out.2 HPmd.out.j1 HPmd.out.j2 (Nat.le_refl _) (by have := HAB.out; omega) (by rw [← HN.out]; exact HBN.out),HPmd.out.j1,HPmd.out.j2,(HPmd.out.fin (by omega) (by rw [HSM.out.1]; exact HBN.out)).1,(HPmd.out.fin (by omega) (by rw [HSM.out.1]; exact HBN.out)).2⟩
                        · have hlei : ¬ (imu : Int)≤(jm : Int) := by omega
                          have HRWmu := Lib.hid hrowmu
                          clear hrowmu pinvmu
                          go_wp2_with fail
                          go_quiet (first | (go_at_call 271; refine Calls.quiet_of_same (less_any 0 0 false rfl _)))
                          have HRVmu := Lib.hid (HRWmu.out.drewN nq)
                          generalize wr.drewN nq = Wmu at HRVmu ⊢
                          go_wp2
                          go_loopg [11] 1 (fun g jv wr => jv = .int .i64 (jm : Int)∧RowAt w0 blk cap wr dk)
                          case atStart => exact ⟨rfl,HRVmu.out⟩
                          case round =>
                            obtain ⟨rfl,hrowms⟩ := hrel
                            have pinvms := HPmu.out
                            have hlei : ¬ (imu : Int)≤(jm : Int) := by omega
                            have HRWms := Lib.hid hrowms
                            clear hrowms pinvms
                            go_wp2_with fail
                            go_quiet (first | (go_at_call 271; refine Calls.quiet_of_same (less_any 0 0 false rfl _)))
                            have HRVms := Lib.hid (HRWms.out.drewN nq)
                            generalize wr.drewN nq = Wms at HRVms ⊢
                            have hgt : (jm : Int) < (imu : Int) := by omega
                            have hjn : (jm : Int) < (n : Int) := by have := HPmu.out.j2; have := HBN.out; omega
                            have e1 := HRVms.out.cell (j := jm) (by rw [HSM.out.1]; have := HPmu.out.j2; have := HBN.out; omega)
                            have e2 := HRVms.out.cell (j := a) (by rw [HSM.out.1]; have := HAB.out; have := HBN.out; omega)
                            have g1 := HRVms.out.froz jm
                            have g2 := HRVms.out.froz a
                            obtain ⟨xf,hxf⟩ : ∃ x,dk[a]! = x := ⟨_,rfl⟩
                            obtain ⟨yf,hyf⟩ : ∃ y,dk[jm]! = y := ⟨_,rfl⟩
                            rw [hyf] at e1
                            rw [hxf] at e2
                            have HFX := Lib.hid hxf
                            have HFY := Lib.hid hyf
                            clear hxf hyf
                            rcases Nat.lt_or_eq_of_le HPmu.out.j1 with hja | hja
                            · go_wp2_with fail
                              go_region
                              all_goals
                                go_wp2
                                go_ret2
                                exact ⟨jm,false,Sort.swp dk jm a,rfl,HRVms.out.drew.swap (by rw [HSM.out.1]; have := HAB.out; have := HBN.out; have := HPmu.out.j2; omega) (by rw [HSM.out.1]; have := HAB.out; have := HBN.out; omega) HFX.out HFY.out,permIn_swp HSM.out.2 HPmu.out.j1 HPmu.out.j2 (Nat.le_refl _) (by have := HAB.out; omega) (by rw [← HN.out]; exact HBN.out),HPmu.out.j1,HPmu.out.j2,(HPmu.out.fin (by omega) (by rw [HSM.out.1]; exact HBN.out)).1,(HPmu.out.fin (by omega) (by rw [HSM.out.1]; exact HBN.out)).2⟩
                            · subst hja
                              obtain rfl : xf = yf := by rw [← HFX.out,← HFY.out]
                              clear e1 g1
                              go_wp2_with fail
                              go_region
                              all_goals
                                go_wp2
                                go_ret2
                                exact ⟨a,false,Sort.swp dk a a,rfl,HRVms.out.drew.swap (by rw [HSM.out.1]; have := HAB.out; have := HBN.out; have := HPmu.out.j2; omega) (by rw [HSM.out.1]; have := HAB.out; have := HBN.out; omega) HFX.out HFY.out,permIn_swp HSM.out.2 HPmu.out.j1 HPmu.out.j2 (Nat.le_refl _) (by have := HAB.out; omega) (by rw [← HN.out]; exact HBN.out),HPmu.out.j1,HPmu.out.j2,(HPmu.out.fin (by omega) (by rw [HSM.out.1]; exact HBN.out)).1,(HPmu.out.fin (by omega) (by rw [HSM.out.1]; exact HBN.out)).2⟩
                | false =>
                  have HGEfd := Lib.hid (show sp[a]!≤sp[jfd]! by have h9 := HLfd.out; rw [HXfd.out,HYfd.out]; simpa [ltN] using h9)
                  go_wp2
                  go_roundg (jfd - 1)
                  case rel => exact ⟨jfd - 1,by congr 1; omega,Nat.le_refl _,Lib.hid (HPfd.out.down hlefd HGEfd.out),HRVfd.out⟩
                  case measure => have := HPfd.out.i1; omega
              · have hlei : ¬ (ifu : Int)≤(jfd : Int) := by omega
                have HRWfd := Lib.hid hrowfd
                clear hrowfd pinvfd
                go_wp2_with fail
                go_quiet (first | (go_at_call 271; refine Calls.quiet_of_same (less_any 0 0 false rfl _)))
                have HRVfd := Lib.hid (HRWfd.out.drewN nq)
                generalize wr.drewN nq = Wfd at HRVfd ⊢
                have hgt : (jfd : Int) < (ifu : Int) := by omega
                have hjn : (jfd : Int) < (n : Int) := by have := HPfd.out.j2; have := HBN.out; omega
                have e1 := HRVfd.out.cell (j := jfd) (by rw [HS1.out.1]; have := HPfd.out.j2; have := HBN.out; omega)
                have e2 := HRVfd.out.cell (j := a) (by rw [HS1.out.1]; have := HAB.out; have := HBN.out; omega)
                have g1 := HRVfd.out.froz jfd
                have g2 := HRVfd.out.froz a
                obtain ⟨xf,hxf⟩ : ∃ x,sp[a]! = x := ⟨_,rfl⟩
                obtain ⟨yf,hyf⟩ : ∃ y,sp[jfd]! = y := ⟨_,rfl⟩
                rw [hyf] at e1
                rw [hxf] at e2
                have HFX := Lib.hid hxf
                have HFY := Lib.hid hyf
                clear hxf hyf
                rcases Nat.lt_or_eq_of_le HPfd.out.j1 with hja | hja
                · go_wp2_with fail
                  go_region
                  all_goals
                    go_wp2
                    go_ret2
                    exact ⟨jfd,true,Sort.swp sp jfd a,rfl,HRVfd.out.drew.swap (by rw [HS1.out.1]; have := HAB.out; have := HBN.out; have := HPfd.out.j2; omega) (by rw [HS1.out.1]; have := HAB.out; have := HBN.out; omega) HFX.out HFY.out,permIn_swp HS1.out.2 HPfd.out.j1 HPfd.out.j2 (Nat.le_refl _) (by have := HAB.out; omega) (by rw [← HN.out]; exact HBN.out),HPfd.out.j1,HPfd.out.j2,(HPfd.out.fin (by omega) (by rw [HS1.out.1]; exact HBN.out)).1,(HPfd.out.fin (by omega) (by rw [HS1.out.1]; exact HBN.out)).2⟩
                · subst hja
                  obtain rfl : xf = yf := by rw [← HFX.out,← HFY.out]
                  clear e1 g1
                  go_wp2_with fail
                  go_region
                  all_goals
                    go_wp2
                    go_ret2
                    exact ⟨a,true,Sort.swp sp a a,rfl,HRVfd.out.drew.swap (by rw [HS1.out.1]; have := HAB.out; have := HBN.out; have := HPfd.out.j2; omega) (by rw [HS1.out.1]; have := HAB.out; have := HBN.out; omega) HFX.out HFY.out,permIn_swp HS1.out.2 HPfd.out.j1 HPfd.out.j2 (Nat.le_refl _) (by have := HAB.out; omega) (by rw [← HN.out]; exact HBN.out),HPfd.out.j1,HPfd.out.j2,(HPfd.out.fin (by omega) (by rw [HS1.out.1]; exact HBN.out)).1,(HPfd.out.fin (by omega) (by rw [HS1.out.1]; exact HBN.out)).2⟩
        · have hlei : ¬ (ifu : Int)≤(j0 : Int) := by omega
          have HRWfu := Lib.hid hrowfu
          clear hrowfu pinvfu
          go_wp2_with fail
          go_quiet (first | (go_at_call 271; refine Calls.quiet_of_same (less_any 0 0 false rfl _)))
          have HRVfu := Lib.hid (HRWfu.out.drewN nq)
          generalize wr.drewN nq = Wfu at HRVfu ⊢
          go_wp2
          go_loopg [11] 1 (fun g jv wr => jv = .int .i64 (j0 : Int)∧RowAt w0 blk cap wr sp)
          case atStart => exact ⟨rfl,HRVfu.out⟩
          case round =>
            obtain ⟨rfl,hrowfs⟩ := hrel
            have pinvfs := HPfu.out
            have hlei : ¬ (ifu : Int)≤(j0 : Int) := by omega
            have HRWfs := Lib.hid hrowfs
            clear hrowfs pinvfs
            go_wp2_with fail
            go_quiet (first | (go_at_call 271; refine Calls.quiet_of_same (less_any 0 0 false rfl _)))
            have HRVfs := Lib.hid (HRWfs.out.drewN nq)
            generalize wr.drewN nq = Wfs at HRVfs ⊢
            have hgt : (j0 : Int) < (ifu : Int) := by omega
            have hjn : (j0 : Int) < (n : Int) := by have := HPfu.out.j2; have := HBN.out; omega
            have e1 := HRVfs.out.cell (j := j0) (by rw [HS1.out.1]; have := HPfu.out.j2; have := HBN.out; omega)
            have e2 := HRVfs.out.cell (j := a) (by rw [HS1.out.1]; have := HAB.out; have := HBN.out; omega)
            have g1 := HRVfs.out.froz j0
            have g2 := HRVfs.out.froz a
            obtain ⟨xf,hxf⟩ : ∃ x,sp[a]! = x := ⟨_,rfl⟩
            obtain ⟨yf,hyf⟩ : ∃ y,sp[j0]! = y := ⟨_,rfl⟩
            rw [hyf] at e1
            rw [hxf] at e2
            have HFX := Lib.hid hxf
            have HFY := Lib.hid hyf
            clear hxf hyf
            rcases Nat.lt_or_eq_of_le HPfu.out.j1 with hja | hja
            · go_wp2_with fail
              go_region
              all_goals
                go_wp2
                go_ret2
                exact ⟨j0,true,Sort.swp sp j0 a,rfl,HRVfs.out.drew.swap (by rw [HS1.out.1]; have := HAB.out; have := HBN.out; have := HPfu.out.j2; omega) (by rw [HS1.out.1]; have := HAB.out; have := HBN.out; omega) HFX.out HFY.out,permIn_swp HS1.out.2 HPfu.out.j1 HPfu.out.j2 (Nat.le_refl _) (by have := HAB.out; omega) (by rw [← HN.out]; exact HBN.out),HPfu.out.j1,HPfu.out.j2,(HPfu.out.fin (by omega) (by rw [HS1.out.1]; exact HBN.out)).1,(HPfu.out.fin (by omega) (by rw [HS1.out.1]; exact HBN.out)).2⟩
            · exact absurd hja (by have := HJ0.out; have := HAB.out; omega)
end Go.Proofs.YtnnmpaenainogaaGreat

namespace Go.Proofs.YtnnmpaenainogaaGreat
open Go.RowKit Go.Maps
theorem sift_stop {hi first root : Nat} {d : Array Nat} (h : hi≤2 * root + 1) : Sort.siftDown ltN hi first root d = d := by
  unfold Sort.siftDown
  rw [dif_pos h]
theorem sift_r {hi first root c c2 p0 p1 p2 : Nat} {d : Array Nat} (hc : c = 2 * root + 1) (hc2 : c2 = c + 1) (hp0 : p0 = first + root) (hp1 : p1 = first + c) (hp2 : p2 = p1 + 1) (h : c2 < hi) (h1 : ltN d[p1]! d[p2]! = true) (h2 : ltN d[p0]! d[p2]! = true) :
    Sort.siftDown ltN hi first root d = Sort.siftDown ltN hi first c2 (Sort.swp d p0 p2) := by
  subst hc hc2 hp0 hp1 hp2
  conv => lhs; unfold Sort.siftDown
  rw [dif_neg (by omega),if_pos (by rw [h1]; simp; omega),if_neg,dif_pos (by omega)]
  · rfl
  · rw [show first + (2 * root + 2) = first + (2 * root + 1) + 1 by omega,h2]; simp
theorem sift_r0 {hi first root c c2 p0 p1 p2 : Nat} {d : Array Nat} (hc : c = 2 * root + 1) (hc2 : c2 = c + 1) (hp0 : p0 = first + root) (hp1 : p1 = first + c) (hp2 : p2 = p1 + 1) (h : c2 < hi) (h1 : ltN d[p1]! d[p2]! = true) (h2 : ltN d[p0]! d[p2]! = false) :
    Sort.siftDown ltN hi first root d = d := by
  subst hc hc2 hp0 hp1 hp2
  conv => lhs; unfold Sort.siftDown
  rw [dif_neg (by omega),if_pos (by rw [h1]; simp; omega),if_pos]
  rw [show first + (2 * root + 2) = first + (2 * root + 1) + 1 by omega,h2]; simp
theorem sift_l {hi first root c c2 p0 p1 p2 : Nat} {d : Array Nat} (hc : c = 2 * root + 1) (hc2 : c2 = c + 1) (hp0 : p0 = first + root) (hp1 : p1 = first + c) (hp2 : p2 = p1 + 1) (h : c < hi) (h1 : ¬ (c2 < hi∧ltN d[p1]! d[p2]! = true)) (h2 : ltN d[p0]! d[p1]! = true) :
    Sort.siftDown ltN hi first root d = Sort.siftDown ltN hi first c (Sort.swp d p0 p1) := by
  subst hc hc2 hp0 hp1 hp2
  conv => lhs; unfold Sort.siftDown
  rw [dif_neg (by omega),if_neg (by simpa using h1),if_neg (by rw [h2]; simp)]
theorem sift_l0 {hi first root c c2 p0 p1 p2 : Nat} {d : Array Nat} (hc : c = 2 * root + 1) (hc2 : c2 = c + 1) (hp0 : p0 = first + root) (hp1 : p1 = first + c) (hp2 : p2 = p1 + 1) (h : c < hi) (h1 : ¬ (c2 < hi∧ltN d[p1]! d[p2]! = true)) (h2 : ltN d[p0]! d[p1]! = false) :
    Sort.siftDown ltN hi first root d = d := by
  subst hc hc2 hp0 hp1 hp2
  conv => lhs; unfold Sort.siftDown
  rw [dif_neg (by omega),if_neg (by simpa using h1),if_pos (by rw [h2]; simp)]
set_option maxRecDepth 100000 in
set_option maxHeartbeats 8000000 in
theorem sift_any (w0 w : World) (blk cap lo hi first : Nat) (d : Array Nat) (h : RowAt w0 blk cap w d) (hb : first + hi≤d.size) (hsz : d.size≤100000) (hlo : lo≤100000) :
    Calls Tryz.prog 284 #[.slice (some ⟨blk,0,none⟩) d.size cap,.int .i64 (lo : Int),.int .i64 (hi : Int),.int .i64 (first : Int)] w fun r w' => r = .returned (.tuple #[])∧RowAt w0 blk cap w' (Sort.siftDown ltN hi first lo d) := by
  obtain ⟨n,hn⟩ : ∃ n,n = d.size := ⟨_,rfl⟩
  have HN := Lib.hid hn
  rw [← hn] at hb hsz ⊢
  have HR := Lib.hid h
  have HB := Lib.hid hb
  have hhi5 : (hi : Int)≤100000 := by omega
  have hfi5 : (first : Int)≤100000 := by omega
  clear h hn hb
  go_enter Tryz.func284,Tryz.ntmps284
  go_wp2
  go_loopg [8] (hi + 1 + lo) (fun g rv wr => ∃ (root : Nat) (dk : Array Nat),rv = .int .i64 (root : Int)∧hi + 1≤g + root + 0∧root≤100000∧RowAt w0 blk cap wr dk∧Hid (dk.size = n∧Sort.siftDown ltN hi first root dk = Sort.siftDown ltN hi first lo d))
  case atStart => exact ⟨lo,d,rfl,by omega,hlo,HR.out,Lib.hid ⟨HN.out.symm,rfl⟩⟩
  case round =>
    obtain ⟨root,dk,rfl,hg,hr5,hrow,HK⟩ := hrel
    have HRW := Lib.hid hrow
    obtain ⟨c,hc⟩ : ∃ c : Nat,2 * (root : Int) + 1 = (c : Int) := ⟨2 * root + 1,by omega⟩
    have HC := Lib.hid (show c = 2 * root + 1 by omega)
    have hc5 : (c : Int)≤200001 := by omega
    by_cases hch : hi≤c
    · have hchi : (hi : Int)≤(c : Int) := by omega
      go_wp2
      go_end0
      exact ⟨rfl,by rw [← HK.out.2,sift_stop (by rw [← HC.out]; exact hch)]; exact HRW.out⟩
    · have hchi : ¬ (hi : Int)≤(c : Int) := by omega
      obtain ⟨c2,hc2⟩ : ∃ c2 : Nat,(c : Int) + 1 = (c2 : Int) := ⟨c + 1,by omega⟩
      have HC2 := Lib.hid (show c2 = c + 1 by omega)
      obtain ⟨p0,hp0⟩ : ∃ p0 : Nat,(first : Int) + (root : Int) = (p0 : Int) := ⟨first + root,by omega⟩
      have HP0 := Lib.hid (show p0 = first + root by omega)
      obtain ⟨p1,hp1⟩ : ∃ p1 : Nat,(first : Int) + (c : Int) = (p1 : Int) := ⟨first + c,by omega⟩
      have HP1 := Lib.hid (show p1 = first + c by omega)
      obtain ⟨p2,hp2⟩ : ∃ p2 : Nat,(p1 : Int) + 1 = (p2 : Int) := ⟨p1 + 1,by omega⟩
      have HP2 := Lib.hid (show p2 = p1 + 1 by omega)
      have hp2' : (first : Int) + (c2 : Int) = (p2 : Int) := by omega
      have hp1n : (p1 : Int) < (n : Int) := by have := HB.out; omega
      have hp0n : (p0 : Int) < (n : Int) := by have := HB.out; omega
      by_cases hch2 : c2 < hi
      · have hch2i : (c2 : Int) < (hi : Int) := by omega
        have hp2n : (p2 : Int) < (n : Int) := by have := HB.out; omega
        have c1 := hrow.cell (j := p1) (by rw [HK.out.1]; omega)
        have c2' := hrow.cell (j := p2) (by rw [HK.out.1]; omega)
        obtain ⟨x,hx⟩ : ∃ x,dk[p1]! = x := ⟨_,rfl⟩
        obtain ⟨y,hy⟩ : ∃ y,dk[p2]! = y := ⟨_,rfl⟩
        rw [hx] at c1
        rw [hy] at c2'
        have HX := Lib.hid hx
        have HY := Lib.hid hy
        obtain ⟨lb,hlb⟩ : ∃ lb,ltN x y = lb := ⟨_,rfl⟩
        have HL := Lib.hid hlb
        clear hx hy hlb hrow
        go_wp2_with fail
        go_quiet (first | (go_at_call 271; refine Calls.quiet_of_same (less_any x y lb HL.out _)))
        have HRV := Lib.hid (HRW.out.drewN nq)
        clear c1 c2'
        generalize wr.drewN nq = W at HRV ⊢
        cases lb with
        | true =>
          have HLT := Lib.hid (show ltN dk[p1]! dk[p2]! = true by rw [HX.out,HY.out]; exact HL.out)
          have e1 := HRV.out.cell (j := p0) (by rw [HK.out.1]; omega)
          have e2 := HRV.out.cell (j := p2) (by rw [HK.out.1]; omega)
          obtain ⟨xs,hxs⟩ : ∃ x,dk[p0]! = x := ⟨_,rfl⟩
          obtain ⟨ys,hys⟩ : ∃ y,dk[p2]! = y := ⟨_,rfl⟩
          rw [hxs] at e1
          rw [hys] at e2
          have HXS := Lib.hid hxs
          have HYS := Lib.hid hys
          obtain ⟨ls,hls⟩ : ∃ lb,ltN xs ys = lb := ⟨_,rfl⟩
          have HLS := Lib.hid hls
          clear hxs hys hls
          go_wp2_with fail
          go_quiet (first | (go_at_call 271; refine Calls.quiet_of_same (less_any xs ys ls HLS.out _)))
          have HRU := Lib.hid (HRV.out.drewN nq)
          have e3 : (W.drewN nq).cell? ⟨blk,p0,none⟩ = _ := e1
          have e4 : (W.drewN nq).cell? ⟨blk,p2,none⟩ = _ := e2
          have g3 := HRU.out.froz p0
          have g4 := HRU.out.froz p2
          clear e1 e2
          generalize W.drewN nq = WU at HRU e3 e4 g3 g4 ⊢
          cases ls with
          | true =>
            have hne : p0≠p2 := by have := HC.out; omega
            have HSW := Lib.hid (HRU.out.drew.swap (i := p0) (j := p2) (by rw [HK.out.1]; omega) (by rw [HK.out.1]; omega) HYS.out HXS.out)
            have HEQ := Lib.hid (sift_r HC.out HC2.out HP0.out HP1.out HP2.out hch2 HLT.out (show ltN dk[p0]! dk[p2]! = true by rw [HXS.out,HYS.out]; exact HLS.out))
            go_wp2_with fail
            go_region
            all_goals
              go_wp2
              go_roundg (hi + 1 - c2)
              case rel => exact ⟨c2,Sort.swp dk p0 p2,rfl,by omega,by omega,HSW.out,Lib.hid ⟨(size_swp' dk p0 p2).trans HK.out.1,by rw [← HEQ.out]; exact HK.out.2⟩⟩
              case measure => have := HC.out; omega
          | false =>
            have HEQ := Lib.hid (sift_r0 HC.out HC2.out HP0.out HP1.out HP2.out hch2 HLT.out (show ltN dk[p0]! dk[p2]! = false by rw [HXS.out,HYS.out]; exact HLS.out))
            go_wp2
            (try simp only [Exit.inBlock,Exit.then])
            refine bodyPost_ret (results_none rfl _ _ _) rfl ?_
            exact ⟨rfl,by rw [← HK.out.2,HEQ.out]; exact HRU.out⟩
        | false =>
          have HLF := Lib.hid (show ¬ (c2 < hi∧ltN dk[p1]! dk[p2]! = true) by rw [HX.out,HY.out,HL.out]; simp)
          have e1 := HRV.out.cell (j := p0) (by rw [HK.out.1]; omega)
          have e2 := HRV.out.cell (j := p1) (by rw [HK.out.1]; omega)
          obtain ⟨xs,hxs⟩ : ∃ x,dk[p0]! = x := ⟨_,rfl⟩
          obtain ⟨ys,hys⟩ : ∃ y,dk[p1]! = y := ⟨_,rfl⟩
          rw [hxs] at e1
          rw [hys] at e2
          have HXS := Lib.hid hxs
          have HYS := Lib.hid hys
          obtain ⟨ls,hls⟩ : ∃ lb,ltN xs ys = lb := ⟨_,rfl⟩
          have HLS := Lib.hid hls
          clear hxs hys hls
          go_wp2_with fail
          go_quiet (first | (go_at_call 271; refine Calls.quiet_of_same (less_any xs ys ls HLS.out _)))
          have HRU := Lib.hid (HRV.out.drewN nq)
          have e3 : (W.drewN nq).cell? ⟨blk,p0,none⟩ = _ := e1
          have e4 : (W.drewN nq).cell? ⟨blk,p1,none⟩ = _ := e2
          have g3 := HRU.out.froz p0
          have g4 := HRU.out.froz p1
          clear e1 e2
          generalize W.drewN nq = WU at HRU e3 e4 g3 g4 ⊢
          cases ls with
          | true =>
            have hne : p0≠p1 := by have := HC.out; omega
            have HSW := Lib.hid (HRU.out.drew.swap (i := p0) (j := p1) (by rw [HK.out.1]; omega) (by rw [HK.out.1]; omega) HYS.out HXS.out)
            have HEQ := Lib.hid (sift_l HC.out HC2.out HP0.out HP1.out HP2.out (by omega) HLF.out (show ltN dk[p0]! dk[p1]! = true by rw [HXS.out,HYS.out]; exact HLS.out))
            go_wp2_with fail
            go_region
            all_goals
              go_wp2
              go_roundg (hi + 1 - c)
              case rel => exact ⟨c,Sort.swp dk p0 p1,rfl,by omega,by omega,HSW.out,Lib.hid ⟨(size_swp' dk p0 p1).trans HK.out.1,by rw [← HEQ.out]; exact HK.out.2⟩⟩
              case measure => have := HC.out; omega
          | false =>
            have HEQ := Lib.hid (sift_l0 HC.out HC2.out HP0.out HP1.out HP2.out (by omega) HLF.out (show ltN dk[p0]! dk[p1]! = false by rw [HXS.out,HYS.out]; exact HLS.out))
            go_wp2
            (try simp only [Exit.inBlock,Exit.then])
            refine bodyPost_ret (results_none rfl _ _ _) rfl ?_
            exact ⟨rfl,by rw [← HK.out.2,HEQ.out]; exact HRU.out⟩
      · have hch2i : ¬ (c2 : Int) < (hi : Int) := by omega
        have HLF := Lib.hid (show ¬ (c2 < hi∧ltN dk[p1]! dk[p2]! = true) from fun k => hch2 k.1)
        clear hrow
        go_wp2_with fail
        go_quiet (first | (go_at_call 271; refine Calls.quiet_of_same (less_any 0 0 false rfl _)))
        have HRV := Lib.hid (HRW.out.drewN nq)
        generalize wr.drewN nq = W at HRV ⊢
        have e1 := HRV.out.cell (j := p0) (by rw [HK.out.1]; omega)
        have e2 := HRV.out.cell (j := p1) (by rw [HK.out.1]; omega)
        obtain ⟨xs,hxs⟩ : ∃ x,dk[p0]! = x := ⟨_,rfl⟩
        obtain ⟨ys,hys⟩ : ∃ y,dk[p1]! = y := ⟨_,rfl⟩
        rw [hxs] at e1
        rw [hys] at e2
        have HXS := Lib.hid hxs
        have HYS := Lib.hid hys
        obtain ⟨ls,hls⟩ : ∃ lb,ltN xs ys = lb := ⟨_,rfl⟩
        have HLS := Lib.hid hls
        clear hxs hys hls
        go_wp2_with fail
        go_quiet (first | (go_at_call 271; refine Calls.quiet_of_same (less_any xs ys ls HLS.out _)))
        have HRU := Lib.hid (HRV.out.drewN nq)
        have e3 : (W.drewN nq).cell? ⟨blk,p0,none⟩ = _ := e1
        have e4 : (W.drewN nq).cell? ⟨blk,p1,none⟩ = _ := e2
        have g3 := HRU.out.froz p0
        have g4 := HRU.out.froz p1
        clear e1 e2
        generalize W.drewN nq = WU at HRU e3 e4 g3 g4 ⊢
        cases ls with
        | true =>
          have hne : p0≠p1 := by have := HC.out; omega
          have HSW := Lib.hid (HRU.out.drew.swap (i := p0) (j := p1) (by rw [HK.out.1]; omega) (by rw [HK.out.1]; omega) HYS.out HXS.out)
          have HEQ := Lib.hid (sift_l HC.out HC2.out HP0.out HP1.out HP2.out (by omega) HLF.out (show ltN dk[p0]! dk[p1]! = true by rw [HXS.out,HYS.out]; exact HLS.out))
          go_wp2_with fail
          go_region
          all_goals
            go_wp2
            go_roundg (hi + 1 - c)
            case rel => exact ⟨c,Sort.swp dk p0 p1,rfl,by omega,by omega,HSW.out,Lib.hid ⟨(size_swp' dk p0 p1).trans HK.out.1,by rw [← HEQ.out]; exact HK.out.2⟩⟩
            case measure => have := HC.out; omega
        | false =>
          have HEQ := Lib.hid (sift_l0 HC.out HC2.out HP0.out HP1.out HP2.out (by omega) HLF.out (show ltN dk[p0]! dk[p1]! = false by rw [HXS.out,HYS.out]; exact HLS.out))
          go_wp2
          (try simp only [Exit.inBlock,Exit.then])
          refine bodyPost_ret (results_none rfl _ _ _) rfl ?_
          exact ⟨rfl,by rw [← HK.out.2,HEQ.out]; exact HRU.out⟩
end Go.Proofs.YtnnmpaenainogaaGreat

namespace Go.Proofs.YtnnmpaenainogaaGreat
open Go.RowKit Go.Maps
theorem size_sift (hi first root : Nat) (d : Array Nat) : (Sort.siftDown ltN hi first root d).size = d.size := by
  fun_induction Sort.siftDown ltN hi first root d <;> simp_all [Sort.size_swp]
set_option maxRecDepth 100000 in
set_option maxHeartbeats 8000000 in
theorem heap_any (w0 w : World) (blk cap a b : Nat) (d : Array Nat) (h : RowAt w0 blk cap w d) (hb : b≤d.size) (hsz : d.size≤100000) (hab : a + 12 < b) :
    Calls Tryz.prog 266 #[.slice (some ⟨blk,0,none⟩) d.size cap,.int .i64 (a : Int),.int .i64 (b : Int)] w fun r w' => r = .returned (.tuple #[])∧RowAt w0 blk cap w' (Sort.heapSort ltN d a b) := by
  obtain ⟨n,hn⟩ : ∃ n,n = d.size := ⟨_,rfl⟩
  have HN := Lib.hid hn
  rw [← hn] at hb hsz ⊢
  have HR := Lib.hid h
  have HB := Lib.hid hb
  obtain ⟨hi,hhi⟩ : ∃ hi : Nat,(b : Int) - (a : Int) = (hi : Int) := ⟨b - a,by omega⟩
  have HHI := Lib.hid (show hi = b - a by omega)
  have HAH := Lib.hid (show a + hi = b by omega)
  have hhi5 : (hi : Int)≤100000 := by omega
  have hhi1 : (12 : Int) < (hi : Int) := by omega
  have ha5 : (a : Int)≤100000 := by omega
  have hb5 : (b : Int)≤100000 := by omega
  obtain ⟨m1,hm1⟩ : ∃ m1 : Nat,(hi : Int) - 1 = (m1 : Int) := ⟨hi - 1,by omega⟩
  obtain ⟨q,hq⟩ : ∃ q : Nat,Int.tdiv (m1 : Int) 2 = (q : Int) := ⟨m1 / 2,by rw [Int.tdiv_eq_ediv_of_nonneg (by omega)]; omega⟩
  have HQ := Lib.hid (show q = (hi - 1) / 2 by rw [Int.tdiv_eq_ediv_of_nonneg (by omega)] at hq; omega)
  have hq5 : (q : Int)≤100000 := by have := HQ.out; omega
  have hm5 : (m1 : Int)≤100000 := by omega
  have HM1 := Lib.hid (show m1 + 1 = hi by omega)
  have HHS := Lib.hid (show Sort.heapSort ltN d a b = Sort.heapPop ltN a hi (Sort.heapBuild ltN hi a (q + 1) d) by rw [HQ.out,HHI.out]; rfl)
  clear h hn hb
  go_enter Tryz.func266,Tryz.ntmps266
  go_wp2
  go_loopg [9] (q + 1) (fun g iv wr => ∃ (k : Nat) (z : Int) (dk : Array Nat),iv = .int .i64 z∧z = (k : Int) - 1∧k≤g∧k≤hi∧RowAt w0 blk cap wr dk∧Hid (dk.size = n∧Sort.heapBuild ltN hi a k dk = Sort.heapBuild ltN hi a (q + 1) d))
  case atStart => exact ⟨q + 1,_,d,rfl,by omega,Nat.le_refl _,by have := HQ.out; omega,HR.out,Lib.hid ⟨HN.out.symm,rfl⟩⟩
  case round =>
    obtain ⟨k,z,dk,rfl,hz,hg,hkh,hrow,HK⟩ := hrel
    have HRW := Lib.hid hrow
    clear hrow
    rcases Nat.eq_zero_or_pos k with hk0 | hk0
    · subst hk0
      obtain rfl : z = -1 := by omega
      clear hz
      have HD := Lib.hid (show Sort.heapSort ltN d a b = Sort.heapPop ltN a hi dk by rw [HHS.out,← HK.out.2]; rfl)
      have HS := Lib.hid HK.out.1
      clear HK
      go_wp2
      go_loopg [10] hi (fun g iv wr => ∃ (k : Nat) (z : Int) (dk : Array Nat),iv = .int .i64 z∧z = (k : Int) - 1∧k≤g∧k≤hi∧RowAt w0 blk cap wr dk∧Hid (dk.size = n∧Sort.heapPop ltN a k dk = Sort.heapSort ltN d a b))
      case atStart => exact ⟨hi,_,dk,rfl,by have := HM1.out; omega,Nat.le_refl _,Nat.le_refl _,HRW.out,Lib.hid ⟨HS.out,HD.out.symm⟩⟩
      case round =>
        obtain ⟨k,z,dj,rfl,hz,hg,hkh,hrow,HK⟩ := hrel
        have HRV := Lib.hid hrow
        rcases Nat.eq_zero_or_pos k with hk0 | hk0
        · subst hk0
          obtain rfl : z = -1 := by omega
          clear hz
          have HE := Lib.hid (show Sort.heapSort ltN d a b = dj by rw [← HK.out.2]; rfl)
          go_wp2
          go_end0
          exact ⟨rfl,by rw [HE.out]; exact HRV.out⟩
        · obtain ⟨m,rfl⟩ : ∃ m,k = m + 1 := ⟨k - 1,by omega⟩
          obtain rfl : z = (m : Int) := by omega
          clear hz
          have hm0 : (0 : Int)≤(m : Int) := by omega
          obtain ⟨p1,hp1⟩ : ∃ p1 : Nat,(a : Int) + (m : Int) = (p1 : Int) := ⟨a + m,by omega⟩
          have HP1 := Lib.hid (show p1 = a + m by omega)
          have hp1n : (p1 : Int) < (n : Int) := by have := HB.out; have := HAH.out; omega
          have han : (a : Int) < (n : Int) := by have := HB.out; have := HAH.out; omega
          have e1 := hrow.cell (j := p1) (by rw [HK.out.1]; omega)
          have e2 := hrow.cell (j := a) (by rw [HK.out.1]; omega)
          have g1 := hrow.froz p1
          have g2 := hrow.froz a
          obtain ⟨x,hx⟩ : ∃ x,dj[p1]! = x := ⟨_,rfl⟩
          obtain ⟨y,hy⟩ : ∃ y,dj[a]! = y := ⟨_,rfl⟩
          rw [hx] at e1
          rw [hy] at e2
          have HX := Lib.hid hx
          have HY := Lib.hid hy
          have HKP := Lib.hid (show Sort.heapPop ltN a (m + 1) dj = Sort.heapPop ltN a m (Sort.siftDown ltN m a 0 (Sort.swp dj a p1)) by rw [HP1.out]; rfl)
          have HSW := Lib.hid ((hrow.swap (i := a) (j := p1) (by rw [HK.out.1]; omega) (by rw [HK.out.1]; omega) HX.out HY.out).drew)
          clear hx hy hrow
          rcases Nat.eq_zero_or_pos m with hm | hm
          · subst hm
            obtain rfl : a = p1 := by omega
            obtain rfl : x = y := by rw [← HX.out,← HY.out]
            clear e2 g2
            go_wp2_with fail
            go_region
            all_goals
              clear e1 g1
              generalize ((wr.setCell ⟨blk,a,none⟩ (.int .u32 (x : Int))).setCell ⟨blk,a,none⟩ (.int .u32 (x : Int))).drew = WS at HSW ⊢
              go_wp2_with (first
                | (go_at_call 284; have K := sift_any w0 WS blk cap 0 0 a (Sort.swp dj a a) HSW.out (by rw [size_swp',HK.out.1]; have := HB.out; have := HAH.out; omega) (by rw [size_swp',HK.out.1]; exact hsz) (by omega); rw [size_swp',HK.out.1,show ((0 : Nat) : Int) = 0 from rfl] at K; (with_reducible refine K.mono ?_); clear K; rintro r w2 ⟨rfl,hr2⟩; have HR2 := Lib.hid hr2; clear hr2))
              go_roundg 0
              case rel => exact ⟨0,_,_,rfl,rfl,Nat.le_refl _,by omega,HR2.out,Lib.hid ⟨by rw [size_sift,size_swp']; exact HK.out.1,by rw [← HKP.out]; exact HK.out.2⟩⟩
              case measure => omega
          · have hne : a≠p1 := by omega
            go_wp2_with fail
            go_region
            all_goals
              clear e1 e2 g1 g2
              generalize ((wr.setCell ⟨blk,a,none⟩ (.int .u32 (x : Int))).setCell ⟨blk,p1,none⟩ (.int .u32 (y : Int))).drew = WS at HSW ⊢
              go_wp2_with (first
                | (go_at_call 284; have K := sift_any w0 WS blk cap 0 m a (Sort.swp dj a p1) HSW.out (by rw [size_swp',HK.out.1]; have := HB.out; have := HAH.out; omega) (by rw [size_swp',HK.out.1]; exact hsz) (by omega); rw [size_swp',HK.out.1,show ((0 : Nat) : Int) = 0 from rfl] at K; (with_reducible refine K.mono ?_); clear K; rintro r w2 ⟨rfl,hr2⟩; have HR2 := Lib.hid hr2; clear hr2))
              go_roundg m
              case rel => exact ⟨m,_,_,rfl,rfl,Nat.le_refl _,by omega,HR2.out,Lib.hid ⟨by rw [size_sift,size_swp']; exact HK.out.1,by rw [← HKP.out]; exact HK.out.2⟩⟩
              case measure => omega
    · obtain ⟨m,rfl⟩ : ∃ m,k = m + 1 := ⟨k - 1,by omega⟩
      obtain rfl : z = (m : Int) := by omega
      clear hz
      have hm0 : (0 : Int)≤(m : Int) := by omega
      have HKP := Lib.hid (show Sort.heapBuild ltN hi a (m + 1) dk = Sort.heapBuild ltN hi a m (Sort.siftDown ltN hi a m dk) from rfl)
      go_wp2_with (first
        | (go_at_call 284; have K := sift_any w0 wr blk cap m hi a dk HRW.out (by rw [HK.out.1]; have := HB.out; have := HAH.out; omega) (by rw [HK.out.1]; exact hsz) (by omega); rw [HK.out.1] at K; (with_reducible refine K.mono ?_); clear K; rintro r w2 ⟨rfl,hr2⟩; have HR2 := Lib.hid hr2; clear hr2))
      go_roundg m
      case rel => exact ⟨m,_,_,rfl,rfl,Nat.le_refl _,by omega,HR2.out,Lib.hid ⟨by rw [size_sift]; exact HK.out.1,by rw [← HKP.out]; exact HK.out.2⟩⟩
      case measure => omega
end Go.Proofs.YtnnmpaenainogaaGreat
