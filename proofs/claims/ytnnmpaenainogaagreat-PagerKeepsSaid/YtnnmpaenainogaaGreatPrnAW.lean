/-
  Layer 3: the contract of torn. Own work.
-/
import Derived.Test.YtnnmpaenainogaaGreatPrnAV
import Derived.Laws.CopyRow
import Derived.Laws.CopyOwn
import Derived.Deep.RegionLaw
import Derived.Laws.BitsAllLaws

set_option linter.unusedVariables false
set_option linter.unusedSimpArgs false
namespace Go.Proofs.YtnnmpaenainogaaGreat
open Go.RowKit
def bitB (x k : Nat) : Bool := x / 2 ^ k % 2 == 1
def tornB (old bs : List Int) (x k : Nat) : List Int := (List.range old.length).map fun j => if j / 128 < k∧bitB x (j / 128 % 8) = true then bs.getD j 0 else old.getD j 0
theorem tornB_len (old bs : List Int) (x k : Nat) : (tornB old bs x k).length = old.length := by simp [tornB]
theorem tornB_zero (old bs : List Int) (x : Nat) : tornB old bs x 0 = old := by
  apply List.ext_getElem?
  intro j
  by_cases h : j < old.length
  · simp [tornB,h,List.getD_eq_getElem?_getD]
  · rw [List.getElem?_eq_none (by rw [tornB_len]; omega),List.getElem?_eq_none (by omega)]
theorem tornB_get (old bs : List Int) (x k j : Nat) (h : j < old.length) : (tornB old bs x k)[j]? = some (if j / 128 < k∧bitB x (j / 128 % 8) = true then bs.getD j 0 else old.getD j 0) := by
  simp [tornB,h]
theorem tornB_no (old bs : List Int) (x k : Nat) (h : bitB x (k % 8) = false) : tornB old bs x (k + 1) = tornB old bs x k := by
  apply List.ext_getElem?
  intro j
  by_cases hj : j < old.length
  · rw [tornB_get _ _ _ _ _ hj,tornB_get _ _ _ _ _ hj]
    by_cases e : j / 128 = k
    · subst e
      rw [if_neg (by rw [h]; simp),if_neg (by rw [h]; simp)]
    · have : (j / 128 < k + 1) = (j / 128 < k) := by apply propext; omega
      simp only [this]
  · rw [List.getElem?_eq_none (by rw [tornB_len]; omega),List.getElem?_eq_none (by rw [tornB_len]; omega)]
theorem tornB_yes (old bs : List Int) (x k : Nat) (h : bitB x (k % 8) = true) (hl : bs.length = old.length) (hk : k * 128 + 128≤old.length) :
    tornB old bs x (k + 1) = (tornB old bs x k).take (k * 128)++(bs.drop (k * 128)).take 128++(tornB old bs x k).drop (k * 128 + 128) := by
  have hcl : ((bs.drop (k * 128)).take 128).length = 128 := by simp; omega
  have htl : ((tornB old bs x k).take (k * 128)).length = k * 128 := by rw [List.length_take,tornB_len]; omega
  apply List.ext_getElem?
  intro j
  by_cases hj : j < old.length
  · rw [tornB_get _ _ _ _ _ hj]
    by_cases h1 : j < k * 128
    · rw [List.append_assoc,List.getElem?_append_left (by omega),List.getElem?_take,if_pos h1,tornB_get _ _ _ _ _ hj]
      have : (j / 128 < k + 1) = (j / 128 < k) := by apply propext; omega
      simp only [this]
    · by_cases h2 : j < k * 128 + 128
      · have e : j / 128 = k := by omega
        rw [e,if_pos ⟨by omega,h⟩,List.getElem?_append_left (by rw [List.length_append]; omega),List.getElem?_append_right (by omega),htl,List.getElem?_take,if_pos (by omega),List.getElem?_drop,
          show k * 128 + (j - k * 128) = j by omega,List.getElem?_eq_getElem (by omega)]
        simp [List.getD_eq_getElem?_getD,List.getElem?_eq_getElem (show j < bs.length by omega)]
      · rw [List.getElem?_append_right (by rw [List.length_append]; omega),List.length_append,htl,hcl,List.getElem?_drop,show k * 128 + 128 + (j - (k * 128 + 128)) = j by omega,tornB_get _ _ _ _ _ hj]
        have : (j / 128 < k + 1) = (j / 128 < k) := by apply propext; omega
        simp only [this]
  · rw [List.getElem?_eq_none (by rw [tornB_len]; omega),List.getElem?_eq_none (by rw [List.length_append,List.length_append,List.length_drop,tornB_len]; omega)]
theorem bitFact (x r : Nat) (hx : x < 256) : (bits BinOp.and IntKind.u8 ((x : Int) / 2 ^ r) 1 == 1) = bitB x r := by
  have e : (x : Int) / 2 ^ r = ((x / 2 ^ r : Nat) : Int) := by simp
  have hlt : x / 2 ^ r < 256 := Nat.lt_of_le_of_lt (Nat.div_le_self _ _) hx
  rw [e,show (1 : Int) = ((1 : Nat) : Int) from rfl,u8_and_nat _ 1 hlt (by decide),Nat.and_one_is_mod]
  unfold bitB
  rw [Bool.eq_iff_iff]
  simp
  omega
theorem splice_take (L CS : List Value) (p n : Nat) (hp : p + 128≤n) (hn : n≤L.length) (hc : CS.length = 128) : (L.take p++CS++L.drop (p + 128)).take n = (L.take n).take p++CS++(L.take n).drop (p + 128) := by
  have h1 : (L.take p++CS).length = p + 128 := by rw [List.length_append,List.length_take,hc]; omega
  rw [List.take_append,h1,List.take_of_length_le (by omega),List.take_take,Nat.min_eq_left (by omega),List.drop_take]
theorem dstep_copy_at {P : Program} {ops : Array Oper} {o : Oper} {a : Act} {w w2 : World} {K : Act→World→Prop} {Q : Exit→Act→World→Prop} {E : Prop} (hgd : o.guard = none) (d s : Operand) (dT sT : TypeId)
    (ho : o.op = .call { callee := .builtin .copy,args := #[d,s],argTypes := #[dT,sT] }) (x y : Value) (n : Nat) (hd : a.eval d = x) (hs : a.eval s = y)
    (hrun : ∀ ty,(Builtin.copy_ #[dT,sT] ty #[x,y]).run P w = .ok (goInt n) w2) (h : K (a.put o.dst (goInt n)) w2) :
    if Region.wanted o (yielded ops a.tmps) = true then Oper.wp P o a w K Q else E := by
  have hw : Region.wanted o (yielded ops a.tmps) = true := by simp [Region.wanted,hgd]
  rw [if_pos hw]
  unfold Oper.wp
  simp [execOp,ho,resolve,invoke,builtin,hd,hs,hrun,Result.andThen]
  exact h
set_option maxHeartbeats 2000000 in
theorem torn_any (B : Nat) (w : World) (oa ba : Option Addr) (n oc bc x : Nat) (old bs : List Int) (ho : Own8 B w n (.slice oa n oc) old) (hb : Own8 B w n (.slice ba n bc) bs) (hn : n≤4096) (hn2 : n % 128 = 0) (hx : x < 256) :
    Calls Tryz.prog 72 #[.slice oa n oc,.slice ba n bc,.int .u8 (x : Int)] w fun r w' => ∃ ao c,r = .returned (.slice ao n c)∧Own8 w.heap.size w' n (.slice ao n c) (tornB old bs x (n / 128))∧w.grownBy w' none := by
  have HO := Lib.hid ho
  have HB := Lib.hid hb
  have hol := ho.len
  have HL := Lib.hid hol
  obtain ⟨q,hq⟩ : ∃ q,n = q * 128 := ⟨n / 128,by omega⟩
  have hqi : (n : Int) / 128 = (q : Int) := by omega
  have HQ := Lib.hid hq
  clear ho hb hol hq
  go_enter Tryz.func72,Tryz.ntmps72
  go_wp2_with (first
    | (go_at_call 68; have K := clone_any w _ _ _ HO.out.seq (Nat.le_refl _) (by have := HL.out; omega); rw [HL.out] at K; ((with_reducible refine K.mono ?_); clear K; rintro e w2 ⟨ga,gc,rfl,hown,hg2⟩; have HV := Lib.hid hown; have HG := Lib.hid hg2; clear hown hg2)))
  go_loopg [15] q (fun g t wr => ∃ k : Nat,k + g = q∧t = .int .i64 (k : Int)∧Own8 w.heap.size wr n (.slice ga n gc) (tornB old bs x k)∧w.grownBy wr none)
  case atStart => exact ⟨0,by omega,rfl,by rw [tornB_zero]; exact HV.out,HG.out⟩
  case round =>
    obtain ⟨k,hk,rfl,hv,hg⟩ := hrel
    have HVk := Lib.hid hv
    have HGk := Lib.hid hg
    clear hv hg HV HG
    by_cases hlt : k < q
    · obtain ⟨g,rfl⟩ : ∃ g,gk = g + 1 := ⟨gk - 1,by omega⟩
      have hki : (k : Int) < (q : Int) := by omega
      obtain ⟨r,hr⟩ : ∃ r,r = k % 8 := ⟨_,rfl⟩
      have hri : (k : Int) % 8 = (r : Int) := by omega
      have hr8 : r < 8 := by omega
      have HBt := Lib.hid (show r = k % 8 from hr)
      clear hr
      have hpn : k * 128 + 128≤n := by have := HQ.out; omega
      by_cases hbit : bitB x r = true
      · have hb1 : (bits BinOp.and IntKind.u8 ((x : Int) / 2 ^ r) 1 == 1) = true := by rw [bitFact x r hx]; exact hbit
        have HT := Lib.hid (tornB_yes old bs x k (by rw [← HBt.out]; exact hbit) (by rw [HL.out]; exact HB.out.len) (by rw [HL.out]; exact hpn))
        obtain ⟨gb,gcap,cur,hsl,hwb,hheap,hc1,hc2,hc3,hc4⟩ : ∃ g cap cur,Value.slice ga n gc = .slice (some ⟨g,0,none⟩) n cap∧w.heap.size≤g∧wr.heap[g]? = some (.cells cur 5 (0,0))∧n≤cap∧cap≤maxLen∧cur.size = cap * 1∧cur.toList.take (n * 1) = (tornB old bs x k).map (Value.int .u8) := by
          rcases HVk.out.2 with ⟨_,h0⟩ | h
          · omega
          · exact h
        simp only [Value.slice.injEq,true_and] at hsl
        obtain ⟨rfl,rfl⟩ := hsl
        obtain ⟨bb,bcp,hbl,hb2,hb3⟩ : ∃ g cap,Value.slice ba n bc = .slice (some ⟨g,0,none⟩) n cap∧n≤cap∧cap≤maxLen := by
          rcases HB.out.2 with ⟨_,h0⟩ | ⟨g,cap,cur,h1,h2,h3,h4,h5,h6⟩
          · omega
          · exact ⟨g,cap,h1,h4,h5⟩
        simp only [Value.slice.injEq,true_and] at hbl
        obtain ⟨rfl,rfl⟩ := hbl
        have HCs := Lib.hid (show (((bs.drop (k * 128)).take 128).map (Value.int .u8)).length = 128 by
          rw [List.length_map,List.length_take,List.length_drop,HB.out.len]; omega)
        have HCells : Hid (∀ j v,(((bs.drop (k * 128)).take 128).map (Value.int .u8))[j]? = some v→wr.cell? ((⟨bb,k * 128,none⟩ : Addr).add j) = some v) := Lib.hid (by
          intro j v hj
          obtain ⟨hj1,hj2⟩ := List.getElem?_eq_some_iff.1 hj
          have hj128 : j < 128 := by have := HCs.out; omega
          obtain ⟨b',o',hab,hcell⟩ := (HB.out.seq.below (fun i hi => HGk.out.block i hi (by simp))).cellAt (k * 128 + j) (by have := HB.out.len; omega)
          cases hab
          rw [Addr.add_lit]
          rw [Nat.zero_add] at hcell
          rw [hcell,← hj2]
          have hlt2 : k * 128 + j < bs.length := by have := HB.out.len; omega
          simp [List.getD_eq_getElem?_getD,List.getElem?_eq_getElem hlt2])
        have HCu : Hid (wr.heap[gb]? = some (.cells cur.toList.toArray 5 (0,0))) := Lib.hid (by simpa using hheap)
        have HFit := Lib.hid (show k * 128 + (((bs.drop (k * 128)).take 128).map (Value.int .u8)).length≤cur.toList.length by rw [HCs.out]; simp; omega)
        have HMin := Lib.hid (show Nat.min (n - k * 128) 128 = 128 by exact Nat.min_eq_right (by omega))
        have HBel := Lib.hid (gbelow HGk.out)
        have HWb := Lib.hid hwb
        have HC4 := Lib.hid hc4
        have HC3 := Lib.hid hc3
        obtain ⟨p,hp⟩ : ∃ p,p = k * 128 := ⟨_,rfl⟩
        obtain ⟨p2,hp2⟩ : ∃ p,p = k * 128 + 128 := ⟨_,rfl⟩
        have hkp : (k : Int) * 128 = (p : Int) := by omega
        have hsum : IntKind.i64.wrap ((p : Int) + 128) = (p2 : Int) := (IntWalk.i64_in _ (by omega)).trans (by omega)
        have hd1 : p2 - p = 128 := by omega
        have g1 : p2≤gc := by omega
        have g2 : p≤p2 := by omega
        have g3 : p≤n := by omega
        have g4 : (p : Int)≤(p2 : Int) := by omega
        have g5 : (p2 : Int)≤(gc : Int) := by omega
        have g6 : (p : Int)≤(n : Int) := by omega
        have hne1 : ¬ gc = p := by omega
        have hne2 : ¬ bc = p := by omega
        rw [← hp] at HCs HCells HFit HMin HT
        have HP := Lib.hid hp
        clear hc3 hc4 hheap hwb hp hp2
        have HCSe := Lib.hid (show ∃ CS,CS = ((bs.drop p).take 128).map (Value.int .u8) from ⟨_,rfl⟩)
        have HO1 : Hid (∀ v∈((bs.drop p).take 128).map (Value.int .u8),v.oneCell' = true) := Lib.hid bcell1
        have hcp : Hid (∀ ty,(Builtin.copy_ #[32,32] ty #[.slice (some ⟨gb,p,none⟩) 128 (gc - p),.slice (some ⟨bb,p,none⟩) (n - p) (bc - p)]).run Tryz.prog wr.drew = .ok (goInt ((128 : Nat) : Int)) (wr.drew.setRow gb (cur.toList.take p++((bs.drop p).take 128).map (Value.int .u8)++cur.toList.drop (p + 128)).toArray)) := Lib.hid (fun ty => by
          have h := run_copy_row (P := Tryz.prog) wr.drew 32 32 ty 5 gb p 128 (gc - p) ⟨bb,p,none⟩ (n - p) (bc - p) cur 5 (((bs.drop p).take 128).map (Value.int .u8)) Tryz.underlying32 (by kernel_rfl) (show wr.heap[gb]? = _ by simpa using HCu.out) (HCs.out.trans HMin.out.symm)
            (fun j v hj => HCells.out j v hj) (by have := HFit.out; simpa using this) HO1.out
          rw [HCs.out] at h
          exact h)
        have HBl := Lib.hid (below_setRow HBel.out HWb.out ((cur.toList.take p++((bs.drop p).take 128).map (Value.int .u8)++cur.toList.drop (p + 128)).toArray))
        have hh : Hid ((wr.setRow gb (cur.toList.take p++((bs.drop p).take 128).map (Value.int .u8)++cur.toList.drop (p + 128)).toArray).heap[gb]? = some (.cells (cur.toList.take p++((bs.drop p).take 128).map (Value.int .u8)++cur.toList.drop (p + 128)).toArray 5 (0,0))) := Lib.hid (setRow_heap wr gb _ _ 5 _ HCu.out)
        obtain ⟨row,hrow⟩ : ∃ row,row = (cur.toList.take p++((bs.drop p).take 128).map (Value.int .u8)++cur.toList.drop (p + 128)).toArray := ⟨_,rfl⟩
        rw [← hrow] at hcp HBl hh
        have HRow := Lib.hid hrow
        clear hrow
        go_wp2
        go_region_law (refine dstep_copy_at rfl (.tmp 30) (.tmp 33) 32 32 rfl (.slice (some ⟨gb,p,none⟩) 128 (gc - p)) (.slice (some ⟨bb,p,none⟩) (n - p) (bc - p)) 128 (by simp [go_sem]) (by simp [go_sem]) hcp.out ?_)
        all_goals
          go_wp2
          go_roundg g
          case measure => omega
          case rel =>
            refine ⟨k + 1,by omega,by go_num,?_,⟨HBl.out.os,HBl.out.tape,HBl.out.output,HBl.out.size,fun i hi _ => HBl.out.block i hi⟩⟩
            refine ⟨by rw [List.length_map,tornB_len,HL.out,Nat.mul_one],.inr ⟨gb,gc,_,rfl,HWb.out,hh.out,by omega,by omega,?_,?_⟩⟩
            · have h1 := HCs.out
              have h2 := HFit.out
              have h3 := HC3.out
              rw [HRow.out]
              simp only [List.size_toArray,List.length_append,List.length_take,List.length_drop] at h1 h2 ⊢
              rw [h1] at h2 ⊢
              simp only [Array.length_toList] at h2 ⊢
              omega
            · have h4 := HC4.out
              rw [Nat.mul_one] at h4 ⊢
              have hcl : n≤cur.toList.length := by have := HC3.out; simp; omega
              rw [HT.out,List.map_append,List.map_append,List.map_take,List.map_drop,← h4,HRow.out,List.toList_toArray]
              exact splice_take cur.toList _ p n (by have := HP.out; omega) hcl HCs.out
      · have hb0 : bitB x r = false := by simpa using hbit
        have hb1 : (bits BinOp.and IntKind.u8 ((x : Int) / 2 ^ r) 1 == 1) = false := by rw [bitFact x r hx]; exact hb0
        have HT := Lib.hid (tornB_no old bs x k (by rw [← HBt.out]; exact hb0))
        clear hbit hb0
        go_wp2
        go_roundg g
        case measure => omega
        case rel => exact ⟨k + 1,by omega,by go_num,by rw [HT.out]; exact HVk.out,HGk.out⟩
    · obtain rfl : k = q := by omega
      have HK := Lib.hid (show n / 128 = k by have := HQ.out; omega)
      go_wp2
      go_ret
      exact ⟨ga,gc,rfl,by rw [HK.out]; exact HVk.out,HGk.out⟩
end Go.Proofs.YtnnmpaenainogaaGreat

namespace Go.Proofs.YtnnmpaenainogaaGreat
open Go.RowKit
def crashS (ks : List Int) (i : Nat) (x : Nat × List Int) (pg : List (List Int × List Int)) : List (List Int × List Int) :=
  pg.set x.1 (if i < ks.length then tornB (pg.getD x.1 ([],[])).1 x.2 (ks.getD i 0).toNat ((pg.getD x.1 ([],[])).1.length / 128) else (pg.getD x.1 ([],[])).1,
    if i < ks.length then tornB (pg.getD x.1 ([],[])).1 x.2 (ks.getD i 0).toNat ((pg.getD x.1 ([],[])).1.length / 128) else (pg.getD x.1 ([],[])).1)
def crashP (ks : List Int) : Nat→List (List Int × List Int)→List (Nat × List Int)→List (List Int × List Int)
  | _,pg,[] => pg
  | i,pg,x :: l => crashP ks (i + 1) (crashS ks i x pg) l
theorem crashP_snoc (ks : List Int) : ∀ (l : List (Nat × List Int)) (i : Nat) (pg : List (List Int × List Int)) (x : Nat × List Int),crashP ks i pg (l++[x]) = crashS ks (i + l.length) x (crashP ks i pg l)
  | [],_,_,_ => rfl
  | y :: l,i,pg,x => by
    have h := crashP_snoc ks l (i + 1) (crashS ks i y pg) x
    rw [List.length_cons,show i + (l.length + 1) = i + 1 + l.length by omega]
    exact h
theorem crashS_len (ks : List Int) (i : Nat) (x : Nat × List Int) (pg : List (List Int × List Int)) : (crashS ks i x pg).length = pg.length := by simp [crashS]
theorem crashP_len (ks : List Int) : ∀ (l : List (Nat × List Int)) (i : Nat) (pg : List (List Int × List Int)),(crashP ks i pg l).length = pg.length
  | [],_,_ => rfl
  | y :: l,i,pg => by rw [crashP,crashP_len ks l,crashS_len]
theorem pcells_both : ∀ (ps : List PgV) (i : Nat) (v v' : Value) (z : List Int × List Int),i < ps.length→pcells (ps.set i ((v,v'),z)) = ((pcells ps).set (i * 2) v).set (i * 2 + 1) v'
  | [],i,v,v',z,h => by simp at h
  | x :: l,0,v,v',z,h => rfl
  | x :: l,i + 1,v,v',z,h => by
    have ih := pcells_both l i v v' z (by simpa using h)
    rw [show (i + 1) * 2 = i * 2 + 1 + 1 by omega]
    show _ :: _ :: pcells (l.set i _) = _ :: _ :: ((pcells l).set _ _).set _ _
    rw [ih]
def Stays (B : Nat) (w : World) (v : Value) (bs : List Int) : Prop := ∀ w',Dfr B w w'→Seq w'.heap.size w' v bs
theorem stays_below {B b : Nat} {w : World} {v : Value} {bs : List Int} (h : Seq b w v bs) (hb : b≤B) (hs : b≤w.heap.size) : Stays B w v bs := fun w' hd =>
  (h.below (fun i hi => hd.block i (by omega) (.inl (by omega)))).mono (by have := hd.size; omega)
set_option maxRecDepth 100000 in
set_option maxHeartbeats 4000000 in
theorem crash_rows (B : Nat) (w : World) (d n : Nat) (x1 x4 x5 x6 x7 x8 x9 pv lv nv : Value) (ps : List PgV) (ls : List LoV) (once : Bool) (ka : Option Addr) (kn kc : Nat) (ks : List Int) (hB : B≤d)
    (hb : w.heap[d]? = some (.cells #[.int .i64 (n : Int),x1,pv,lv,x4,x5,x6,x7,x8,x9,nv] 129 (0,0))) (hr : Rws B w n pv lv nv ps ls once) (hks : Stays B w (.slice ka kn kc) ks) (hby : Byt ks)
    (hin : ∀ y∈ls,y.1 < ps.length) (hl : ls.length≤100000) (hpl : ps.length≤100000) (hn : n≤4096) (hn2 : n % 128 = 0) :
    Calls Tryz.prog 30 #[.pointer (some ⟨d,0,none⟩),.slice ka kn kc] w fun r w' => r = .returned (.tuple #[]) ∧
      w'.heap[d]? = some (.cells #[.int .i64 (n : Int),x1,pv,.slice none 0 0,x4,.bool false,.int .i64 (-1),x7,x8,x9,nv] 129 (0,0))∧(∃ ps',Rws B w' n pv (.slice none 0 0) nv ps' [] once ∧
      ps'.map (·.2) = crashP ks 0 (ps.map (·.2)) (ls.map fun y => (y.1,y.2.2)))∧Dfr B w w' := by
  have HB := Lib.hid hb
  have HR := Lib.hid hr
  have HIn := Lib.hid hin
  have HKs := Lib.hid hks
  have HBy := Lib.hid hby
  obtain ⟨m,hm⟩ : ∃ m,m = ps.length := ⟨_,rfl⟩
  obtain ⟨k0,hk0⟩ : ∃ k,k = ls.length := ⟨_,rfl⟩
  obtain ⟨la,lc,rfl⟩ := own_shape hr.lown
  obtain ⟨pa,pc,rfl⟩ := own_shape hr.pown
  have hkn := hks w (Dfr.refl _ _)
  have HKn := Lib.hid (show kn = ks.length by obtain ⟨_,_,hv,_⟩ := hkn; injection hv)
  have hkm : kn≤9223372036854775807 := by obtain ⟨_,_,hv,h1,h2,_⟩ := hkn; injection hv with _ h3 h4; unfold maxLen at h2; omega
  rw [← hm] at hpl HB HR
  rw [← hk0] at hl HB HR
  rw [← hm]
  have HM := Lib.hid hm
  have HK := Lib.hid hk0
  have c3 := (cells11 HB.out).2.2.2.1
  clear hb hr hin hm hk0 hks hby hkn
  go_enter Tryz.func30,Tryz.ntmps30
  go_wp2
  go_loopg [14] k0 (fun g v wr => ∃ (k : Nat) (ps' : List PgV),k + g = k0∧v = .int .i64 (k : Int) ∧
    wr.heap[d]? = some (.cells #[.int .i64 (n : Int),x1,.slice pa m pc,.slice la k0 lc,x4,x5,x6,x7,x8,x9,nv] 129 (0,0)) ∧
    Rws B wr n (.slice pa m pc) (.slice la k0 lc) nv ps' ls once∧ps'.map (·.2) = crashP ks 0 (ps.map (·.2)) ((ls.take k).map fun y => (y.1,y.2.2))∧Dfr B w wr)
  case atStart => exact ⟨0,ps,by omega,rfl,HB.out,HR.out,rfl,Dfr.refl _ _⟩
  case round =>
    obtain ⟨k,ps',hk,rfl,hb,hr,hps,hf⟩ := hrel
    have HBk := Lib.hid hb
    have HRk := Lib.hid hr
    have HPk := Lib.hid hps
    have HFk := Lib.hid hf
    have c2 := (cells11 hb).2.2.1
    clear hr hps hf c3
    by_cases hlt : k < k0
    · obtain ⟨g,rfl⟩ : ∃ g,gk = g + 1 := ⟨gk - 1,by omega⟩
      have hki : (k : Int) < (k0 : Int) := by omega
      have HL' := Lib.hid (show ps'.length = m by
        have := congrArg List.length HPk.out
        rw [crashP_len] at this; simp only [List.length_map] at this; rw [this,HM.out])
      obtain ⟨lb,lc',y,hv,hy,e1,e2,e3⟩ := HRk.out.wr (k := k) (by rw [← HK.out]; exact hlt)
      simp only [Value.slice.injEq] at hv
      obtain ⟨rfl,-,rfl⟩ := hv
      have HIy := Lib.hid (HIn.out y (List.mem_of_getElem? hy))
      obtain ⟨g',pc',z,hv,hz,z1,z2,z3,z4⟩ := HRk.out.page (i := y.1) (by rw [HL'.out,HM.out]; exact HIy.out)
      simp only [Value.slice.injEq] at hv
      obtain ⟨rfl,-,rfl⟩ := hv
      obtain ⟨at1,v1,b1⟩ := y
      obtain ⟨va,vc,rfl⟩ := own_shape e3
      have hp1 : wr.ownsRow B 163 2 (.slice (some ⟨g',0,none⟩) m pc) m (pcells ps') := by have h := HRk.out.pown; rw [HL'.out] at h; exact h
      have hp2 := hp1.alloc (.cells #[.int .i64 (at1 : Int),.slice va n vc] 160)
      have cd : (wr.alloc (.cells #[.int .i64 (at1 : Int),.slice va n vc] 160)).cell? ⟨d,2,none⟩ = some (.slice (some ⟨g',0,none⟩) m pc) := cell_alloc c2
      have cz1 : (wr.alloc (.cells #[.int .i64 (at1 : Int),.slice va n vc] 160)).cell? ⟨g',at1 * 2,none⟩ = some z.1.1 := cell_alloc z1
      have cz2 : (wr.alloc (.cells #[.int .i64 (at1 : Int),.slice va n vc] 160)).cell? ⟨g',at1 * 2 + 1,none⟩ = some z.1.2 := cell_alloc z2
      have fz1 := hp2.frozenAt (at1 * 2)
      have fz2 := hp2.frozenAt (at1 * 2 + 1)
      have cw : (wr.alloc (.cells #[.int .i64 (at1 : Int),.slice va n vc] 160)).cell? ⟨wr.heap.size,1,none⟩ = some (.slice va n vc) := by rw [World.cell?_alloc_mark]; rfl
      have hat : (at1 : Int) < (m : Int) := by have := HIy.out; have := HM.out; omega
      have hrA := HRk.out.new (World.grownBy_alloc wr (.cells #[.int .i64 (at1 : Int),.slice va n vc] 160) none)
      have hbA := keep_alloc1 HBk.out (.cells #[.int .i64 (at1 : Int),.slice va n vc] 160)
      have hfA := HFk.out.trans (dfr_new (World.grownBy_alloc wr (.cells #[.int .i64 (at1 : Int),.slice va n vc] 160) none))
      have HRA := Lib.hid hrA
      have HBA := Lib.hid hbA
      have HFA := Lib.hid hfA
      have HP2 := Lib.hid hp2
      obtain ⟨wA,hwA⟩ : ∃ wA,wA = wr.alloc (.cells #[.int .i64 (at1 : Int),.slice va n vc] 160) := ⟨_,rfl⟩
      have HW := Lib.hid hwA
      have HY := Lib.hid hy
      have HZ := Lib.hid hz
      have HK1 := Lib.hid (show crashP ks 0 (ps.map (·.2)) ((ls.take (k + 1)).map fun y => (y.1,y.2.2)) = crashS ks k (at1,b1) (ps'.map (·.2)) by
        have hkl : k < ls.length := by rw [← HK.out]; exact hlt
        have e : ls.take (k + 1) = ls.take k++[(at1,(.slice va n vc,b1))] := by
          rw [List.take_succ_eq_append_getElem hkl]
          have := HY.out
          rw [List.getElem?_eq_getElem hkl] at this
          injection this with this
          rw [this]
        rw [e,List.map_append,List.map_cons,List.map_nil,crashP_snoc,← HPk.out]
        congr 1
        simp; omega)
      have hga := own_tag HP2.out g' rfl
      have hgd : g'≠d := fun e => by
        have h1 := hga.2.2
        rw [e] at h1
        exact absurd (h1.uniq ⟨_,_,hbA⟩) (by decide)
      have HGd := Lib.hid hgd
      have HGa := Lib.hid hga
      have hgw : g'≠wr.heap.size := by have := (own_tag hp1 g' rfl).2.1; omega
      have HGw := Lib.hid hgw
      clear hp1 hp2 hrA hbA hfA hb z1 z2 z3 z4 c2 hga hgd hy hz e3 hwA HW wA
      obtain ⟨z12,hz12⟩ : ∃ x,x = z.1.2 := ⟨_,rfl⟩
      rw [← hz12] at cz2
      clear hz12
      obtain ⟨gb,gc,hz11⟩ := own_shape (HRA.out.pall z (List.mem_of_getElem? HZ.out)).1
      rw [hz11] at cz1
      have HZ11 := Lib.hid hz11
      clear hz11
      by_cases hkk : k < kn
      · have hkki : (k : Int) < (kn : Int) := by omega
        have hSA := HKs.out _ (HFA.out.trans (dfr_new (gdrew _)))
        obtain ⟨kb,ko,rfl,hpick⟩ := hSA.cellAt k (by rw [← HKn.out]; exact hkk)
        have hbd := Byt.get HBy.out k
        obtain ⟨x,hx⟩ : ∃ x : Nat,ks.getD k 0 = (x : Int) := ⟨(ks.getD k 0).toNat,by omega⟩
        have HX := Lib.hid hx
        rw [hx] at hpick hbd
        have hx256 : x < 256 := by omega
        clear hx hSA
        have O1 : Hid (Own8 B (wr.alloc (.cells #[.int .i64 (at1 : Int),.slice va n vc] 160)).drew.drew n (.slice gb n gc) z.2.1) := Lib.hid (by
          have h := (HRA.out.pall z (List.mem_of_getElem? HZ.out)).1
          rw [HZ11.out] at h; exact h)
        have O2 : Hid (Own8 B (wr.alloc (.cells #[.int .i64 (at1 : Int),.slice va n vc] 160)).drew.drew n (.slice va n vc) b1) := Lib.hid (HRA.out.lall (at1,(.slice va n vc,b1)) (List.mem_of_getElem? HY.out))
        have HCS := Lib.hid (show crashS ks k (at1,b1) (ps'.map (·.2)) = (ps'.map (·.2)).set at1 (tornB z.2.1 b1 x (n / 128),tornB z.2.1 b1 x (n / 128)) by
          have hz : ps'[at1]? = some z := HZ.out
          have hl := O1.out.len
          unfold crashS
          rw [if_pos (by rw [← HKn.out]; exact hkk),HX.out,Int.toNat_natCast]
          simp [List.getD_eq_getElem?_getD,hz,hl])
        clear hkk
        go_wp2
        go_region
        go_wp2_with fail
        go_region_with (go_at_call 72; refine (torn_any B _ _ _ n _ _ x z.2.1 b1 O1.out O2.out hn hn2 hx256).mono ?_; rintro e w2 ⟨ta,tc,rfl,o3,g3⟩; have g4 := gtrans (gtrans (gdrew _) (gdrew _)) g3; have p3 := HP2.out.kept g4 (.inr (by simp [Value.ownBlock])); have k1 := g4.cell (row := none) cz1 (by simp); have k2 := g4.cell (row := none) cz2 (by simp); have l1 := p3.frozenAt (at1 * 2); have l2 := p3.frozenAt (at1 * 2 + 1); have HO3 := Lib.hid o3; have HG4 := Lib.hid g4; have HP3 := Lib.hid p3; have j1 : (w2.setCell ⟨g',at1 * 2,none⟩ (.slice ta n tc)).cell? ⟨g',at1 * 2,none⟩ = some (.slice ta n tc) := World.cell?_setCell_same w2 _ _ k1; have j2 := (p3.stored (at1 * 2) (.slice ta n tc)).1.frozenAt (at1 * 2 + 1); have j3 : (w2.setCell ⟨g',at1 * 2,none⟩ (.slice ta n tc)).cell? ⟨g',at1 * 2 + 1,none⟩ = some z12 := (World.cell?_setCell_other _ _ _ _ (by intro e; injection e with _ e; omega)).trans k2; clear o3 g3 g4 p3)
        all_goals
          go_wp2
          go_roundg g
          case measure => omega
          case rel =>
            obtain ⟨st1,st2⟩ := HP3.out.stored (at1 * 2) (.slice ta n tc)
            obtain ⟨st3,st4⟩ := st1.stored (at1 * 2 + 1) (.slice ta n tc)
            have st5 := gtrans st2 st4
            have htg : TagIs w2 g' 163 := (own_tag HP3.out g' rfl).2.2
            have hr2 := HRA.out.new HG4.out
            have hb2 := (HG4.out.block d (lt_of_block HBA.out) (by simp)).trans HBA.out
            have hsz := HFA.out.size
            refine ⟨k + 1,ps'.set at1 ((.slice ta n tc,.slice ta n tc),(tornB z.2.1 b1 x (n / 128),tornB z.2.1 b1 x (n / 128))),by omega,by go_num,?_,?_,?_,?_⟩
            · exact (st5.block d (lt_of_block hb2) (fun e => by injection e with e; exact HGd.out e.symm)).trans hb2
            · refine hr2.pages st5 (fun q e => by injection e with e; subst e; exact htg) (by rw [List.length_set,HL'.out,pcells_both ps' at1 _ _ _ (by rw [HL'.out]; omega)]; exact st3) (fun z' hz' => ?_)
              rcases List.mem_or_eq_of_mem_set hz' with hz' | rfl
              · exact .inl hz'
              · have ho := own_base HO3.out (show B≤_ from by have h1 := HGa.out.1; have h2 := HGa.out.2.1; show B≤(wr.alloc _).heap.size; omega)
                exact .inr ⟨ho,ho⟩
            · rw [HK1.out,HCS.out,List.map_set]
            · exact (HFA.out.trans (dfr_new HG4.out)).trans (dfr_row st5 fun q e => by injection e with e; subst e; exact ⟨HGa.out.1,Dtag.of htg (by decide)⟩)
      · have hkki : ¬ (k : Int) < (kn : Int) := by omega
        have HCS := Lib.hid (show crashS ks k (at1,b1) (ps'.map (·.2)) = (ps'.map (·.2)).set at1 (z.2.1,z.2.1) by
          have hz : ps'[at1]? = some z := HZ.out
          unfold crashS
          rw [if_neg (by rw [← HKn.out]; exact hkk)]
          simp [List.getD_eq_getElem?_getD,hz])
        clear hkk
        go_wp2
        go_region
        go_wp2
        go_roundg g
        case measure => omega
        case rel =>
          obtain ⟨st1,st2⟩ := HP2.out.stored (at1 * 2 + 1) (.slice gb n gc)
          have hzm := HRA.out.pall z (List.mem_of_getElem? HZ.out)
          refine ⟨k + 1,ps'.set at1 ((z.1.1,.slice gb n gc),(z.2.1,z.2.1)),by omega,by go_num,?_,?_,?_,?_⟩
          · exact (st2.block d (lt_of_block HBA.out) (fun e => by injection e with e; exact HGd.out e.symm)).trans HBA.out
          · refine HRA.out.pages (gtrans st2 (gwide (gdrew _))) (fun q e => by injection e with e; subst e; exact HGa.out.2.2) (by rw [List.length_set,HL'.out,pcells_last ps' at1 z _ _ HZ.out]; exact st1) (fun z' hz' => ?_)
            rcases List.mem_or_eq_of_mem_set hz' with hz' | rfl
            · exact .inl hz'
            · exact .inr ⟨hzm.1,by rw [← HZ11.out]; exact hzm.1⟩
          · rw [HK1.out,HCS.out,List.map_set]
          · exact HFA.out.trans (dfr_row (gtrans st2 (gwide (gdrew _))) fun q e => by injection e with e; subst e; exact ⟨HGa.out.1,Dtag.of HGa.out.2.2 (by decide)⟩)
    · obtain rfl : k = k0 := by omega
      have c3 := (cells11 hb).2.2.2.1
      have f3 := free11 hb 3
      have b3 : (wr.setCell ⟨d,3,none⟩ (.slice none 0 0)).heap[d]? = some (.cells #[.int .i64 (n : Int),x1,.slice pa m pc,.slice none 0 0,x4,x5,x6,x7,x8,x9,nv] 129 (0,0)) := set_box HBk.out 3 _
      have B3 := Lib.hid b3
      clear hb c2 b3
      go_wp2_with (first
        | (go_at_call 28; ((with_reducible refine (fail_any _ d _ x1 _ _ x4 x5 x6 x7 x8 x9 nv (-1) B3.out).mono ?_); rintro e w2 ⟨rfl,b4,g4,s4⟩; have B4 := Lib.hid b4; have G4 := Lib.hid g4; clear b4 g4 s4)))
      go_end0
      have ht3 : ∀ q,some d = some q→TagIs wr q 129 := fun q e => by injection e with e; subst e; exact ⟨_,_,HBk.out⟩
      have hgg := gtrans (gset wr ⟨d,3,none⟩ (.slice none 0 0)) G4.out
      refine ⟨rfl,B4.out,⟨ps',?_,?_⟩,HFk.out.trans (dfr_row hgg fun q e => by injection e with e; subst e; exact ⟨hB,Dtag.of (ht3 _ rfl) (by decide)⟩)⟩
      · have hr := HRk.out.far hgg ht3
        exact ⟨hr.pown,hr.pall,World.ownsRow_nil _ _ _ _,fun y hy => by simp at hy,hr.nown⟩
      · have h := HPk.out
        rw [HK.out,List.take_length] at h
        exact h
def crashM (M : SM) (ks : List Int) : SM := { M with pg := crashP ks 0 M.pg M.loose,loose := [],fails := false,ahead := -1 }
theorem DskAt.crash {B d : Nat} {w : World} {M : SM} {ka : Option Addr} {kn kc : Nat} {ks : List Int} (h : DskAt B w d M) (hks : Stays B w (.slice ka kn kc) ks) (hby : Byt ks) (hn : M.size≤4096) (hn2 : M.size % 128 = 0) (hin : ∀ x∈M.loose,x.1 < M.pg.length) (hl : M.loose.length≤100000) (hpl : M.pg.length≤100000) :
    Calls Tryz.prog 30 #[.pointer (some ⟨d,0,none⟩),.slice ka kn kc] w fun r w' => r = .returned (.tuple #[])∧DskAt B w' d (crashM M ks)∧Dfr B w w' := by
  obtain ⟨pv,lv,nv,ps,ls,h1,h2,h3,h4,h5⟩ := h
  have hpn : M.pg.length = ps.length := by rw [h4]; simp
  refine (crash_rows B w d M.size _ _ _ _ _ _ _ pv lv nv ps ls M.once ka kn kc ks h1 h2 h3 hks hby (fun y hy => ?_) (by rw [h5] at hl; simpa using hl) (by omega) hn hn2).mono ?_
  · have := hin (y.1,y.2.2) (by rw [h5]; exact List.mem_map.2 ⟨y,hy,rfl⟩)
    rw [hpn] at this; exact this
  · rintro r w' ⟨rfl,a1,⟨ps',a2,a3⟩,a4⟩
    exact ⟨rfl,⟨pv,.slice none 0 0,nv,ps',[],h1,a1,a2,by rw [crashM,h4,h5]; exact a3.symm,rfl⟩,a4⟩
theorem DskAt.fail {B d : Nat} {w : World} {M : SM} (h : DskAt B w d M) (n : Int) :
    Calls Tryz.prog 28 #[.pointer (some ⟨d,0,none⟩),.int .i64 n] w fun r w' => r = .returned (.tuple #[])∧DskAt B w' d { M with fails := decide (0≤n),ahead := n }∧Dfr B w w' := by
  obtain ⟨pv,lv,nv,ps,ls,h1,h2,h3,h4,h5⟩ := h
  refine (fail_any w d _ _ _ _ _ _ _ _ _ _ _ n h2).mono ?_
  rintro r w' ⟨rfl,a1,a2,a3⟩
  have ht : ∀ k,some d = some k→TagIs w k 129 := fun k e => by injection e with e; subst e; exact ⟨_,_,h2⟩
  exact ⟨rfl,⟨pv,lv,nv,ps,ls,h1,a1,h3.far a2 ht,h4,h5⟩,dfr_row a2 fun k e => by injection e with e; subst e; exact ⟨h1,Dtag.of (ht _ rfl) (by decide)⟩⟩
end Go.Proofs.YtnnmpaenainogaaGreat

namespace Go.Proofs.YtnnmpaenainogaaGreat
open Go.RowKit
theorem Own8.at {B n : Nat} {w : World} {ao : Option Addr} {c : Nat} {bs : List Int} (h : Own8 B w n (.slice ao n c) bs) (hn : 0 < n) : ∃ b,ao = some ⟨b,0,none⟩∧b < w.heap.size∧B≤b∧∀ j,j < n→w.cell? ⟨b,j,none⟩ = some (.int .u8 (bs.getD j 0)) := by
  obtain ⟨b,c',hv,hb,hc⟩ := own_at h hn
  have := own_tag h
  simp only [Value.slice.injEq] at hv
  obtain ⟨rfl,_,_⟩ := hv
  exact ⟨b,rfl,hb,(this b rfl).1,hc⟩
end Go.Proofs.YtnnmpaenainogaaGreat

namespace Go.Proofs.YtnnmpaenainogaaGreat
open Go.RowKit
structure Wel (M : SM) (c : Nat) : Prop where
  a1 : -9223372036854775808≤M.ahead
  a2 : M.ahead≤9223372036854775807
  cl : M.calls≤c
  s1 : 512≤M.size
  s2 : M.size≤4096
  s3 : M.size % 128 = 0
  l : M.limit≤65536
  p : M.pg.length≤M.limit
  lo : M.loose.length≤c
  lin : ∀ x∈M.loose,x.1 < M.pg.length
theorem Wel.mono {M : SM} {c c' : Nat} (h : Wel M c) (k : c≤c') : Wel M c' := ⟨h.a1,h.a2,Nat.le_trans h.cl k,h.s1,h.s2,h.s3,h.l,h.p,Nat.le_trans h.lo k,h.lin⟩
theorem Wel.fine {M : SM} {c : Nat} (h : Wel M c) (hc : c≤100000) : Fine M := ⟨h.a1,h.a2,by have := h.cl; omega⟩
theorem cA_bound {f : Bool} {a : Int} (h1 : -9223372036854775808≤a) (h2 : a≤9223372036854775807) : -9223372036854775808≤cA f a∧cA f a≤9223372036854775807 := by
  unfold cA
  by_cases h : 0 < a <;> cases f <;> simp [h] <;> omega
theorem Wel.cnt {M : SM} {c : Nat} (h : Wel M c) : Wel (cntM M) (c + 1) :=
  ⟨(cA_bound h.a1 h.a2).1,(cA_bound h.a1 h.a2).2,Nat.add_le_add_right h.cl 1,h.s1,h.s2,h.s3,h.l,h.p,Nat.le_succ_of_le h.lo,h.lin⟩
theorem Wel.wr {M : SM} {c i : Nat} {bs : List Int} (h : Wel M c) (hi : i < M.pg.length) : Wel (wrM M i bs) (c + 1) := by
  refine ⟨(cA_bound h.a1 h.a2).1,(cA_bound h.a1 h.a2).2,Nat.add_le_add_right h.cl 1,h.s1,h.s2,h.s3,h.l,?_,?_,?_⟩
  · simpa [wrM,cntM] using h.p
  · simpa [wrM] using h.lo
  · intro x hx
    simp only [wrM,List.mem_append,List.mem_singleton] at hx
    simp only [wrM,List.length_set]
    rcases hx with hx | rfl
    · exact h.lin x hx
    · exact hi
theorem Wel.sync {M : SM} {c : Nat} (h : Wel M c) : Wel (syncM M) (c + 1) :=
  ⟨(cA_bound h.a1 h.a2).1,(cA_bound h.a1 h.a2).2,Nat.add_le_add_right h.cl 1,h.s1,h.s2,h.s3,h.l,by simpa [syncM,syncP_len,cntM] using h.p,Nat.zero_le _,fun x hx => by simp [syncM] at hx⟩
theorem Wel.crash {M : SM} {c : Nat} (ks : List Int) (h : Wel M c) : Wel (crashM M ks) c :=
  ⟨(by decide : (-9223372036854775808 : Int)≤-1),(by decide : (-1 : Int)≤9223372036854775807),h.cl,h.s1,h.s2,h.s3,h.l,by simpa [crashM,crashP_len] using h.p,Nat.zero_le _,fun x hx => by simp [crashM] at hx⟩
theorem Wel.grow {M : SM} {c k : Nat} {o : Bool} (h : Wel M c) (hk : M.pg.length + k≤M.limit) : Wel (growM (cntM M) k o) (c + 1) :=
  ⟨(cA_bound h.a1 h.a2).1,(cA_bound h.a1 h.a2).2,Nat.add_le_add_right h.cl 1,h.s1,h.s2,h.s3,h.l,by simpa [growM,cntM] using hk,Nat.le_succ_of_le h.lo,fun x hx => by
    have := h.lin x hx
    simp only [growM,cntM,List.length_append]
    omega⟩
theorem Wel.fail {M : SM} {c : Nat} (h : Wel M c) (n : Int) (h1 : -9223372036854775808≤n) (h2 : n≤9223372036854775807) : Wel { M with fails := decide (0≤n),ahead := n } c :=
  ⟨h1,h2,h.cl,h.s1,h.s2,h.s3,h.l,h.p,h.lo,h.lin⟩
theorem wel_new {s l : Nat} (h : May s l) : Wel { size := s,limit := l,pg := [],loose := [],fails := false,ahead := 0,calls := 0,once := false } 0 := by
  obtain ⟨h1,h2,h3,h4,h5⟩ := h
  exact ⟨(by decide : (-9223372036854775808 : Int)≤0),(by decide : (0 : Int)≤9223372036854775807),Nat.le_refl _,(by show 512≤s; omega),(by show s≤4096; omega),(by show s % 128 = 0; omega),(by show l≤65536; omega),Nat.zero_le _,Nat.le_refl _,fun x hx => by simp at hx⟩
theorem cE_calm {M : SM} (h : M.fails = false) : cE M.fails M.ahead = 0 := by simp [cE,h]
theorem cnt_calm {M : SM} (h : M.fails = false) : (cntM M).fails = false := by simp [cntM,cF,h]
theorem lastM_wr (M : SM) (i p : Nat) (bs : List Int) (hi : i < M.pg.length) : lastM (wrM M i bs) p = if p = i then bs else lastM M p := by
  simp only [lastM,wrM,List.getD_eq_getElem?_getD,List.getElem?_set]
  by_cases h : p = i
  · subst h; simp [hi]
  · rw [if_neg (by omega),if_neg h]
theorem syncP_last : ∀ (l : List (Nat × List Int)) (pg : List (List Int × List Int)) (p : Nat),((syncP pg l).getD p ([],[])).2 = (pg.getD p ([],[])).2
  | [],_,_ => rfl
  | x :: l,pg,p => by
    rw [syncP,syncP_last l]
    simp only [List.getD_eq_getElem?_getD,List.getElem?_set]
    by_cases h : x.1 = p
    · subst h
      by_cases h2 : x.1 < pg.length
      · simp [h2]
      · simp [h2]
    · rw [if_neg h]
theorem lastM_sync (M : SM) (p : Nat) : lastM (syncM M) p = lastM M p := syncP_last _ _ _
theorem DskAt.writeN {B b0 d i n : Nat} {w : World} {M : SM} {ba : Option Addr} {bc : Nat} {bs : List Int} (h : DskAt B w d M) (he : M.size = n) (hF : Fine M) (hi : i < M.pg.length) (hn : n≤4096) (h0 : cE M.fails M.ahead = 0) (hbs : Own8 b0 w n (.slice ba n bc) bs) (hl : M.loose.length≤100000) :
    Calls Tryz.prog 179 #[.pointer (some ⟨d,0,none⟩),.int .i64 (i : Int),.slice ba n bc] w fun r w' => r = .returned (.int .i64 0)∧DskAt B w' d (wrM M i bs)∧Dfr B w w' := by
  subst he; exact h.write hF hi hn h0 hbs hl
theorem DskAt.readN {B d i n : Nat} {w : World} {M : SM} (h : DskAt B w d M) (he : M.size = n) (hF : Fine M) (hi : i < M.pg.length) (hn : n≤4096) (h0 : cE M.fails M.ahead = 0) :
    Calls Tryz.prog 127 #[.pointer (some ⟨d,0,none⟩),.int .i64 (i : Int)] w fun r w' => ∃ wc ao e,r = .returned (.tuple #[.slice ao n e,.int .i64 0]) ∧
      DskAt B wc d (cntM M)∧wc.heap.size = w.heap.size∧Dfr B w wc∧wc.grownBy w' none∧Own8 wc.heap.size w' n (.slice ao n e) (lastM M i) := by
  subst he; exact h.read hF hi hn h0
end Go.Proofs.YtnnmpaenainogaaGreat

namespace Go.Proofs.YtnnmpaenainogaaGreat
open Go.RowKit
def overL (p : Nat) : List (Nat × List Int)→List Int→List Int
  | [],g => g
  | x :: l,g => overL p l (if x.1 = p then x.2 else g)
theorem overL_snoc (p : Nat) : ∀ (l : List (Nat × List Int)) (x : Nat × List Int) (g : List Int),overL p (l++[x]) g = if x.1 = p then x.2 else overL p l g
  | [],_,_ => rfl
  | y :: l,x,g => by rw [List.cons_append,overL,overL_snoc p l,overL]
theorem overL_none (p : Nat) : ∀ (l : List (Nat × List Int)) (g : List Int),p ∉ l.map (·.1)→overL p l g = g
  | [],_,_ => rfl
  | y :: l,g,h => by
    simp only [List.map_cons,List.mem_cons,not_or] at h
    rw [overL,if_neg (fun e => h.1 e.symm),overL_none p l g h.2]
abbrev pgAt (pg : List (List Int × List Int)) (p : Nat) : List Int × List Int := pg.getD p ([],[])
theorem pgAt_set (pg : List (List Int × List Int)) (i p : Nat) (y : List Int × List Int) (hi : i < pg.length) : pgAt (pg.set i y) p = if i = p then y else pgAt pg p := by
  simp only [pgAt,List.getD_eq_getElem?_getD,List.getElem?_set]
  by_cases h : i = p
  · rw [if_pos h,if_pos hi,if_pos h]; rfl
  · rw [if_neg h,if_neg h]
def WF (M : SM) : Prop := ∀ p,p < M.pg.length→lastM M p = overL p M.loose (pgAt M.pg p).1
theorem WF.cnt {M : SM} (h : WF M) : WF (cntM M) := h
theorem WF.wr {M : SM} {i : Nat} {bs : List Int} (h : WF M) (hi : i < M.pg.length) : WF (wrM M i bs) := by
  intro p hp
  have hp' : p < M.pg.length := by simpa [wrM] using hp
  rw [lastM_wr _ _ _ _ hi]
  show _ = overL p (M.loose++[(i,bs)]) (pgAt (M.pg.set i _) p).1
  rw [overL_snoc,pgAt_set _ _ _ _ hi]
  by_cases e : i = p
  · subst e; rw [if_pos rfl,if_pos rfl]
  · rw [if_neg (fun e' => e e'.symm),if_neg e,if_neg e]; exact h p hp'
theorem syncP_good (p : Nat) : ∀ (l : List (Nat × List Int)) (pg : List (List Int × List Int)),(∀ x∈l,x.1 < pg.length)→(pgAt (syncP pg l) p).1 = overL p l (pgAt pg p).1
  | [],_,_ => rfl
  | x :: l,pg,h => by
    have hx := h x (by simp)
    rw [syncP,syncP_good p l _ (fun y hy => by rw [List.length_set]; exact h y (by simp [hy])),overL,pgAt_set _ _ _ _ hx]
    by_cases e : x.1 = p
    · rw [if_pos e,if_pos e]
    · rw [if_neg e,if_neg e]
theorem WF.sync {M : SM} (h : WF M) (hin : ∀ x∈M.loose,x.1 < M.pg.length) : WF (syncM M) := by
  intro p hp
  have hp' : p < M.pg.length := by simpa [syncM,syncP_len] using hp
  rw [lastM_sync,h p hp']
  show _ = (pgAt (syncP M.pg M.loose) p).1
  rw [syncP_good p _ _ hin]
theorem wf_grow {M : SM} {k : Nat} {o : Bool} (h : WF M) (hin : ∀ x∈M.loose,x.1 < M.pg.length) : WF (growM (cntM M) k o) := by
  intro p hp
  simp only [growM,cntM,List.length_append,List.length_replicate] at hp
  show (pgAt (M.pg++List.replicate k (List.replicate M.size 0,List.replicate M.size 0)) p).2 = overL p M.loose (pgAt (M.pg++List.replicate k (List.replicate M.size 0,List.replicate M.size 0)) p).1
  by_cases hl : p < M.pg.length
  · have e : pgAt (M.pg++List.replicate k (List.replicate M.size 0,List.replicate M.size 0)) p = pgAt M.pg p := by simp [pgAt,List.getD_eq_getElem?_getD,List.getElem?_append,hl]
    rw [e]; exact h p hl
  · have e : pgAt (M.pg++List.replicate k (List.replicate M.size 0,List.replicate M.size 0)) p = (List.replicate M.size 0,List.replicate M.size 0) := by
      simp [pgAt,List.getD_eq_getElem?_getD,List.getElem?_append,hl,show p - M.pg.length < k by omega]
    rw [e,overL_none]
    intro hm
    obtain ⟨x,hx,hxp⟩ := List.mem_map.1 hm
    have := hin x hx
    omega
theorem crashP_both (ks : List Int) (p : Nat) : ∀ (l : List (Nat × List Int)) (i : Nat) (pg : List (List Int × List Int)),(∀ x∈l,x.1 < pg.length)→(p∈l.map (·.1)∨(pgAt pg p).2 = (pgAt pg p).1)→(pgAt (crashP ks i pg l) p).2 = (pgAt (crashP ks i pg l) p).1
  | [],_,_,_,h => by
    rcases h with h | h
    · simp at h
    · exact h
  | x :: l,i,pg,hin,h => by
    have hx := hin x (by simp)
    rw [crashP]
    refine crashP_both ks p l _ _ (fun y hy => by rw [crashS_len]; exact hin y (by simp [hy])) ?_
    by_cases e : x.1 = p
    · right; rw [crashS,pgAt_set _ _ _ _ hx,if_pos e]
    · rcases h with h | h
      · left
        simp only [List.map_cons,List.mem_cons] at h
        exact h.resolve_left (fun e' => e e'.symm)
      · right; rw [crashS,pgAt_set _ _ _ _ hx,if_neg e]; exact h
theorem crash_both {M : SM} {ks : List Int} (h : WF M) (hin : ∀ x∈M.loose,x.1 < M.pg.length) (p : Nat) (hp : p < M.pg.length) : (pgAt (crashP ks 0 M.pg M.loose) p).2 = (pgAt (crashP ks 0 M.pg M.loose) p).1 := by
  refine crashP_both ks p _ _ _ hin ?_
  by_cases hm : p∈M.loose.map (·.1)
  · exact .inl hm
  · right
    have := h p hp
    rw [overL_none p _ _ hm] at this
    exact this
theorem WF.crash {M : SM} {ks : List Int} (h : WF M) (hin : ∀ x∈M.loose,x.1 < M.pg.length) : WF (crashM M ks) := by
  intro p hp
  exact crash_both h hin p (by simpa [crashM,crashP_len] using hp)
end Go.Proofs.YtnnmpaenainogaaGreat
