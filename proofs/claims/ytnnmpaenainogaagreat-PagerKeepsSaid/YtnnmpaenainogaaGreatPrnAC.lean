/-
  append onto a row of the call's own: the row behind it is the old one or a new one. The frame of a Writer's call. Own work.
-/
import Derived.Test.YtnnmpaenainogaaGreatPrnAA
import Derived.Laws.AppendOwnNone
import Derived.Deep.RegionLaw

set_option linter.unusedVariables false
set_option linter.unusedSimpArgs false
namespace Go.Proofs.YtnnmpaenainogaaGreat
open Go.RowKit
def Fresh (w : World) (v v' : Value) : Prop := v'.ownBlock = v.ownBlock∨∃ k,v'.ownBlock = some k∧w.heap.size≤k
theorem run_append_own2 {P : Program} (w : World) (base : Nat) (t ty e : TypeId) (i : TypeInfo) (z : Value) (size bytes : Nat) (ht : P.underlying t = some (.slice e)) (hi : P.info? e = some i) (hz : i.zero = some z)
    (hsize : i.size = size) (hby : i.bytes = bytes) (hzs : z.cells.size = size) (hsz : 0 < size)
    (v : Value) (n : Nat) (xs : List Value) (hown : w.ownsRow base e size v n xs)
    (a : Addr) (m c : Nat) (news : List Value) (hl : news.length = m * size) (hnews : ∀ j u,news[j]? = some u→w.cell? (a.add j) = some u) (h1 : ∀ u∈news,u.oneCell' = true)
    (h63 : n + m≤maxLen) (hbytes : (n + m) * bytes≤140737488355328) (hbase : base≤w.heap.size) :
    ∃ v' w',(Builtin.append_ #[t,t] ty #[v,.slice (some a) m c]).run P w = .ok v' w'∧w'.ownsRow base e size v' (n + m) (xs++news)∧w.grownBy w' v.ownBlock∧Fresh w v v' := by
  obtain ⟨v',w',hr,h2,h3,_⟩ := run_append_own (P := P) w base t ty e i z size bytes ht hi hz hsize hby hzs hsz v n xs hown a m c news hl hnews h1 h63 hbytes hbase
  refine ⟨v',w',hr,h2,h3,?_⟩
  rcases hown.2 with ⟨rfl,rfl⟩ | ⟨g,cap,cur,rfl,hbg,hg,hnc,hcm,hcs,htake⟩
  · have hx : xs = [] := List.eq_nil_of_length_eq_zero (by simpa using hown.1)
    subst hx
    obtain ⟨v2,w2,hr2,h22,_⟩ := run_append_own (P := P) w w.heap.size t ty e i z size bytes ht hi hz hsize hby hzs hsz (.slice none 0 0) 0 [] (World.ownsRow_nil _ _ _ _) a m c news hl hnews h1 h63 hbytes (Nat.le_refl _)
    rw [hr] at hr2
    injection hr2 with e1 e2
    subst e1; subst e2
    rcases h22.2 with ⟨rfl,_⟩ | ⟨g,cap,cur,rfl,hb,_⟩
    · exact .inl rfl
    · exact .inr ⟨g,rfl,hb⟩
  · by_cases hroom : n + m≤cap
    · obtain ⟨w2,hr2,_⟩ := run_append_fits (P := P) w base t ty e i size ht hi hsize g n cap xs hown a m c news hl hnews h1 hroom
      rw [hr] at hr2
      injection hr2 with e1 e2
      subst e1
      exact .inl rfl
    · subst hsize; subst hby
      have holds : ∀ j u,xs[j]? = some u→w.cell? ((⟨g,0,none⟩ : Addr).add j) = some u := hown.cells (g := g) rfl
      have hr2 := run_append_grow (P := P) w t ty e i z ht hi hz ⟨g,0,none⟩ n cap xs hown.1 holds a m c news hl hnews (by omega) (by unfold maxLen at h63; omega) (growslice_fits (by omega) hbytes)
      rw [hr] at hr2
      injection hr2 with e1 e2
      subst e1
      exact .inr ⟨_,rfl,Nat.le_refl _⟩
theorem wp_append_own2 {P : Program} (w : World) {o : Oper} {a : Act} {K : Act→World→Prop} {Q : Exit→Act→World→Prop} (s x : Operand) (t : TypeId)
    (ho : o.op = .call { callee := .builtin .append,args := #[s,x],argTypes := #[t,t] })
    (base : Nat) (e : TypeId) (i : TypeInfo) (z : Value) (size bytes : Nat) (ht : P.underlying t = some (.slice e)) (hi : P.info? e = some i) (hz : i.zero = some z)
    (hsize : i.size = size) (hby : i.bytes = bytes) (hzs : z.cells.size = size) (hsz : 0 < size)
    (v : Value) (n : Nat) (xs : List Value) (hs : a.eval s = v) (hown : w.ownsRow base e size v n xs)
    (ad : Addr) (m c : Nat) (news : List Value) (hx : a.eval x = .slice (some ad) m c) (hl : news.length = m * size) (hnews : ∀ j u,news[j]? = some u→w.cell? (ad.add j) = some u) (h1 : ∀ u∈news,u.oneCell' = true)
    (h63 : n + m≤maxLen) (hbytes : (n + m) * bytes≤140737488355328) (hbase : base≤w.heap.size)
    (h : ∀ v' w',w'.ownsRow base e size v' (n + m) (xs++news)→w.grownBy w' v.ownBlock→Fresh w v v'→K (a.put o.dst v') w') : o.wp P a w K Q := by
  obtain ⟨v',w',hr,h2,h3,h4⟩ := run_append_own2 (P := P) w base t o.type e i z size bytes ht hi hz hsize hby hzs hsz v n xs hown ad m c news hl hnews h1 h63 hbytes hbase
  unfold Oper.wp execOp
  simp only [ho,resolve,invoke,builtin,Sem.run_bind,Sem.run_pure,Result.andThen_ok,List.map_toArray,List.map_cons,List.map_nil,hs,hx,hr]
  exact h v' w' h2 h3 h4
theorem wpList_append_own2 {P : Program} (w : World) {ops : Array Oper} {rest : List Oper} {o : Oper} {a : Act} {Q : Exit→Act→World→Prop} (hgd : o.guard = none) (s x : Operand) (t : TypeId)
    (ho : o.op = .call { callee := .builtin .append,args := #[s,x],argTypes := #[t,t] })
    (base : Nat) (e : TypeId) (i : TypeInfo) (z : Value) (size bytes : Nat) (ht : P.underlying t = some (.slice e)) (hi : P.info? e = some i) (hz : i.zero = some z)
    (hsize : i.size = size) (hby : i.bytes = bytes) (hzs : z.cells.size = size) (hsz : 0 < size)
    (v : Value) (n : Nat) (xs : List Value) (hs : a.eval s = v) (hown : w.ownsRow base e size v n xs)
    (ad : Addr) (m c : Nat) (news : List Value) (hx : a.eval x = .slice (some ad) m c) (hl : news.length = m * size) (hnews : ∀ j u,news[j]? = some u→w.cell? (ad.add j) = some u) (h1 : ∀ u∈news,u.oneCell' = true)
    (h63 : n + m≤maxLen) (hbytes : (n + m) * bytes≤140737488355328) (hbase : base≤w.heap.size)
    (h : ∀ v' w',w'.ownsRow base e size v' (n + m) (xs++news)→w.grownBy w' v.ownBlock→Fresh w v v'→wpList P ops Q rest (a.put o.dst v') w') : wpList P ops Q (o :: rest) a w :=
  wpList_plain hgd fun _ hK => wp_append_own2 w s x t ho base e i z size bytes ht hi hz hsize hby hzs hsz v n xs hs hown ad m c news hx hl hnews h1 h63 hbytes hbase fun v' w' h2 h3 h4 => hK _ _ (h v' w' h2 h3 h4)
theorem step_append_own2 {P : Program} {ops : Array Oper} {o : Oper} {a : Act} {w : World} {K : Act→World→Prop} {Q : Exit→Act→World→Prop} {E : Prop}
    (hgd : o.guard = none) (s x : Operand) (t : TypeId) (ho : o.op = .call { callee := .builtin .append,args := #[s,x],argTypes := #[t,t] })
    (base : Nat) (e : TypeId) (i : TypeInfo) (z : Value) (size bytes : Nat) (ht : P.underlying t = some (.slice e)) (hi : P.info? e = some i) (hz : i.zero = some z)
    (hsize : i.size = size) (hby : i.bytes = bytes) (hzs : z.cells.size = size) (hsz : 0 < size)
    (v : Value) (n : Nat) (xs : List Value) (hs : a.eval s = v) (hown : w.ownsRow base e size v n xs)
    (ad : Addr) (m c : Nat) (news : List Value) (hx : a.eval x = .slice (some ad) m c) (hl : news.length = m * size) (hnews : ∀ j u,news[j]? = some u→w.cell? (ad.add j) = some u) (h1 : ∀ u∈news,u.oneCell' = true)
    (h63 : n + m≤maxLen) (hbytes : (n + m) * bytes≤140737488355328) (hbase : base≤w.heap.size)
    (h : ∀ v' w',w'.ownsRow base e size v' (n + m) (xs++news)→w.grownBy w' v.ownBlock→Fresh w v v'→K (a.put o.dst v') w') :
    if Region.wanted o (yielded ops a.tmps) = true then Oper.wp P o a w K Q else E := by
  have hw : Region.wanted o (yielded ops a.tmps) = true := by simp [Region.wanted,hgd]
  rw [if_pos hw]
  exact wp_append_own2 w s x t ho base e i z size bytes ht hi hz hsize hby hzs hsz v n xs hs hown ad m c news hx hl hnews h1 h63 hbytes hbase h
def rowAt (w : World) (g : Nat) : Option Nat :=
  match w.heap[g]? with
  | some (.cells cs _ _) => (cs.getD 0 undef).ownBlock
  | _ => none
theorem rowAt_of {w : World} {g : Nat} {v : Value} {t : TypeId} {f : Nat × Nat} (h : w.heap[g]? = some (.cells #[v] t f)) : rowAt w g = v.ownBlock := by
  unfold rowAt; rw [h]; rfl
structure Fw (g : Nat) (w w' : World) : Prop where
  os : w'.os = w.os
  tape : w'.tape = w.tape
  output : w'.output = w.output
  size : w.heap.size≤w'.heap.size
  block : ∀ k,k < w.heap.size→k≠g→rowAt w g≠some k→w'.heap[k]? = w.heap[k]?∧rowAt w' g≠some k
theorem Fw.refl (g : Nat) (w : World) : Fw g w w := ⟨rfl,rfl,rfl,Nat.le_refl _,fun _ _ _ h => ⟨rfl,h⟩⟩
theorem Fw.trans {g : Nat} {a b c : World} (h : Fw g a b) (k : Fw g b c) : Fw g a c :=
  ⟨k.os.trans h.os,k.tape.trans h.tape,k.output.trans h.output,Nat.le_trans h.size k.size,fun i hi hg hr => by
    obtain ⟨h1,h2⟩ := h.block i hi hg hr
    obtain ⟨k1,k2⟩ := k.block i (Nat.lt_of_lt_of_le hi h.size) hg h2
    exact ⟨k1.trans h1,k2⟩⟩
theorem Fw.below {g : Nat} {w w' : World} {bs : List Int} (h : Fw g w w') (hw : WrAt w g bs) : Below g w w' := by
  have hlt := hw.lt
  obtain ⟨v,ho,hv⟩ := hw
  refine ⟨h.os,h.tape,h.output,h.size,fun k hk => (h.block k (by omega) (by omega) ?_).1⟩
  rw [rowAt_of hv]
  intro e
  have := (ho.lt k e).1
  omega
theorem wr_put {w w0 w1 : World} {g : Nat} {v v' : Value} {bs xs ys : List Int} (hown : w.ownsRow (g + 1) 5 1 v bs.length (bs.map (Value.int .u8))) (hv : w.heap[g]? = some (.cells #[v] 229 (0,0)))
    (h0 : w.grownBy w0 none) (hown' : w1.ownsRow (g + 1) 5 1 v' (bs.length + xs.length) (bs.map (Value.int .u8)++xs.map (Value.int .u8))) (hgrow : w0.grownBy w1 v.ownBlock) (hf : Fresh w0 v v') (hxy : xs = ys) :
    WrAt (w1.setCell ⟨g,0,none⟩ v') g (bs++ys)∧Fw g w (w1.setCell ⟨g,0,none⟩ v') := by
  subst hxy
  have hg1 := gtrans (gwide (row := v.ownBlock) h0) hgrow
  have hlt := lt_of_block hv
  have hr : v.ownBlock≠some g := by
    intro e
    have := (hown.lt g e).1
    omega
  have hv1 : w1.heap[g]? = some (.cells #[v] 229 (0,0)) := (hg1.block g hlt (fun e => hr e.symm)).trans hv
  have hv2 := one_setCell (u := v') hv1
  refine ⟨⟨_,by simpa using ownsRow_setCell_below hown' (by simp) _,hv2⟩,hg1.os,hg1.tape,hg1.output,by simpa [World.setCell] using hg1.size,fun k hk hkg hkr => ?_⟩
  rw [rowAt_of hv] at hkr
  rw [rowAt_of hv2]
  refine ⟨(Below.heap_setCell _ _ _ _ (by simpa using hkg)).trans (hg1.block k hk (fun e => hkr e.symm)),fun e => ?_⟩
  rcases hf with hf | ⟨j,hj,hl⟩
  · exact hkr (hf.symm.trans e)
  · rw [hj] at e
    have := h0.size
    injection e with e
    omega
theorem g_alloc_drew (w : World) (o : Obj) : w.grownBy ((w.alloc o).drew) none := ⟨rfl,rfl,rfl,by show w.heap.size≤(w.alloc o).heap.size; simp,fun k hk _ => Below.heap_alloc w o k hk⟩
end Go.Proofs.YtnnmpaenainogaaGreat

namespace Go.Proofs.YtnnmpaenainogaaGreat
open Go.RowKit
set_option maxHeartbeats 400000 in
theorem out_any (w : World) (g : Nat) (bs : List Int) (h : WrAt w g bs) (hl : bs.length≤140737488355328) :
    Calls Tryz.prog 79 #[.pointer (some ⟨g,0,none⟩)] w fun r w' => ∃ ao c,r = .returned (.slice ao bs.length c) ∧
      w'.ownsRow w.heap.size 5 1 (.slice ao bs.length c) bs.length (bs.map (Value.int .u8))∧w.grownBy w' none := by
  obtain ⟨v,hown,hv⟩ := h
  obtain ⟨ao,c,rfl⟩ := own_shape hown
  have hc0 := cell_of_one hv
  have H := Lib.hid (clone_any w _ _ bs (Seq.owned hown) (Nat.le_refl _) hl)
  clear hown hv
  go_enter Tryz.func79,Tryz.ntmps79
  go_wp2_with (go_at_call 68; refine H.out.mono ?_; rintro r w2 ⟨ao,c,rfl,ho2,hg2⟩)
  go_ret
  exact ⟨_,_,rfl,ho2,hg2⟩
theorem wr_still {w w' : World} {g : Nat} {t : TypeId} {u : Value} {row : Option Nat} (hv : w.heap[g]? = some (.cells #[u] t (0,0))) (hg : w.grownBy w' row) (hr : row≠some g) : w'.heap[g]? = some (.cells #[u] t (0,0)) :=
  (hg.block g (lt_of_block hv) (fun e => hr e.symm)).trans hv
theorem own_row {w : World} {base size n : Nat} {e : TypeId} {v : Value} {xs : List Value} (h : w.ownsRow base e size v n xs) {g : Nat} (hg : g < base) : v.ownBlock≠some g := by
  intro e
  have := (h.lt g e).1
  omega
theorem rightSize_yes (n : Int) (w : World) (h1 : 1≤n) (h2 : n≤8) :
    Calls Tryz.prog 122 #[.int .i64 n] w fun r w' => r = .returned (.bool true)∧w = w' :=
  (rightSize_any n w).mono fun r w' h => by simpa [h1,h2] using h
def numB (x : Int) (size k : Nat) : List Int := (List.range k).map fun i => x / 256 ^ (size - 1 - i) % 256
theorem numB_snoc (x : Int) (n k : Nat) : numB x n (k + 1) = numB x n k++[x / 256 ^ (n - 1 - k) % 256] := by simp [numB,List.range_succ]
theorem cell_one_drew (w : World) (v : Value) (t : TypeId) : ∀ j u,[v][j]? = some u→((w.alloc (.cells #[v] t)).drew).cell? ((⟨w.heap.size,0,none⟩ : Addr).add j) = some u := cell_one_new w v t
theorem one_cell (v : Value) (h : v.oneCell' = true) : ∀ u∈[v],u.oneCell' = true := by intro u hu; simp at hu; subst hu; exact h
theorem drew_still {w : World} {g : Nat} {x : Obj} (hv : w.heap[g]? = some x) (o : Obj) : ((w.alloc o).drew).heap[g]? = some x :=
  (Below.heap_alloc w o g (lt_of_block hv)).trans hv
theorem WrAt.own {w : World} {g : Nat} {bs : List Int} (h : WrAt w g bs) : ∃ ao c,w.ownsRow (g + 1) 5 1 (.slice ao bs.length c) bs.length (bs.map (Value.int .u8))∧w.heap[g]? = some (.cells #[.slice ao bs.length c] 229 (0,0)) := by
  obtain ⟨u,hown,hv⟩ := h
  obtain ⟨ao,c,rfl⟩ := own_shape hown
  exact ⟨ao,c,hown,hv⟩
set_option maxHeartbeats 800000 in
theorem wnum_in (w : World) (g n : Nat) (x : Int) (bs : List Int) (h : WrAt w g bs) (_hx0 : 0≤x) (_hx1 : x≤18446744073709551615) (h1 : 1≤n) (h8 : n≤8) (hl : bs.length + n≤140737488355328) :
    Calls Tryz.prog 77 #[.pointer (some ⟨g,0,none⟩),.int .u64 x,.int .i64 n] w fun r w' => r = .returned (.tuple #[])∧WrAt w' g (bs++numB x n n)∧Fw g w w' := by
  obtain ⟨i0,hi,hz0,hz1,hz2⟩ := info_parts infoU8
  go_enter Tryz.func77,Tryz.ntmps77
  go_wp2_with (go_at_call 122; refine (rightSize_yes _ _ (by omega) (by omega)).mono ?_; rintro r w1 ⟨rfl,rfl⟩)
  go_loopw [15] (fun i wr => ∃ k : Nat,k≤n∧i = .int .i64 k∧WrAt wr g (bs++numB x n k)∧Fw g w wr) (fun i _ => n - (intOf i).toNat)
  case atStart => exact ⟨0,Nat.zero_le _,rfl,by simpa [numB] using h,Fw.refl _ _⟩
  case round =>
    obtain ⟨k,hk,rfl,hwr,hbl⟩ := hrel
    by_cases hlt : k < n
    · have hlen : (bs++numB x n k).length = bs.length + k := by simp [numB]
      have hsn : bs++numB x n (k + 1) = (bs++numB x n k)++[x / 256 ^ (n - 1 - k) % 256] := by rw [numB_snoc,List.append_assoc]
      generalize bs++numB x n k = l at *
      have HS := Lib.hid hsn
      have HL := Lib.hid hlen
      clear hsn hlen h
      have hgl := hwr.lt
      obtain ⟨ao,c,hown,hv⟩ := hwr.own
      have HR := Lib.hid (own_row hown (Nat.lt_succ_self g))
      have hc0 := cell_of_one hv
      have HO := Lib.hid hown
      have HV := Lib.hid hv
      clear hown hv hwr
      go_wp2
      have e1 : IntKind.i64.wrap ((n : Int) - 1) = (n : Int) - 1 := IntWalk.i64_in _ (by omega)
      have e2 : IntKind.i64.wrap ((n : Int) - 1 - (k : Int)) = (n : Int) - 1 - (k : Int) := IntWalk.i64_in _ (by omega)
      have e3 : IntKind.i64.wrap (8 * ((n : Int) - 1 - (k : Int))) = 8 * ((n : Int) - 1 - (k : Int)) := IntWalk.i64_in _ (by omega)
      have hs0 : 0≤8 * ((n : Int) - 1 - (k : Int)) := by omega
      have HX := Lib.hid (show IntKind.u8.wrap (x / 2 ^ (8 * ((n : Int) - 1 - (k : Int))).toNat) = x / 256 ^ (n - 1 - k) % 256 by
        rw [IntKind.wrap_u8',show (8 * ((n : Int) - 1 - (k : Int))).toNat = 8 * (n - 1 - k) by omega,Int.pow_mul]; rfl)
      have hs1 : 8 * ((n : Int) - 1 - (k : Int))≤64 := by omega
      go_region_law (refine step_append_own2 rfl (.tmp 22) (.tmp 31) 32 rfl (g + 1) 5 i0 (.int .u8 0) 1 1 Tryz.underlying32 hi hz0 hz1 hz2 rfl (by decide) _ _ _ rfl (HO.out.alloc _) ⟨wr.heap.size,0,none⟩ 1 1 [.int .u8 (IntKind.u8.wrap (x / 2 ^ (8 * ((n : Int) - 1 - (k : Int))).toNat))] rfl rfl (cell_one_drew _ _ _) (one_cell _ rfl) (by rw [HL.out]; unfold maxLen; omega) (by rw [HL.out]; omega) (by simp; omega) ?_; intro v' w1 hown' hgrow hfr; obtain ⟨ao',c',rfl⟩ := own_shape hown'; have hv1 := wr_still (drew_still HV.out _) hgrow HR.out; have k0 := cell_of_one hv1; have e0 := free_of_one hv1; have R := Lib.hid (wr_put HO.out HV.out (g_alloc_drew wr _) (xs := [_]) hown' hgrow hfr (congrArg (fun y => [y]) HX.out)); clear hown' hgrow hv1 hfr)
      all_goals
        go_wp2
        go_roundw
        case rel => exact ⟨k + 1,by omega,by go_num,by rw [HS.out]; exact R.out.1,hbl.trans R.out.2⟩
        case measure => simp [intOf]; omega
    · obtain rfl : k = n := by omega
      go_wp2
      go_end0
      exact ⟨rfl,hwr,hbl⟩
end Go.Proofs.YtnnmpaenainogaaGreat

namespace Go.Proofs.YtnnmpaenainogaaGreat
open Go.RowKit
structure En where
  key : List Int
  val : List Int
  long : Int
  first : Int
def cmpL : List Int→List Int→Int
  | [],[] => 0
  | [],_ :: _ => -1
  | _ :: _,[] => 1
  | a :: s,b :: bs => if a < b then -1 else if b < a then 1 else cmpL s bs
def cmpI (a b : Int) : Int := if a < b then -1 else if b < a then 1 else 0
theorem cmpL_nil : ∀ l : List Int,cmpL [] l = if l.length = 0 then 0 else -1
  | [] => rfl
  | _ :: _ => rfl
theorem cmpL_range : ∀ a b : List Int,cmpL a b = -1∨cmpL a b = 0∨cmpL a b = 1
  | [],[] => by simp [cmpL]
  | [],_ :: _ => by simp [cmpL]
  | _ :: _,[] => by simp [cmpL]
  | a :: s,b :: bs => by
    rw [cmpL]
    split
    · simp
    · split
      · simp
      · exact cmpL_range s bs
theorem cmpL_refl : ∀ a : List Int,cmpL a a = 0
  | [] => rfl
  | a :: s => by simp [cmpL,cmpL_refl s]
theorem cmpL_eq : ∀ a b : List Int,cmpL a b = 0→a = b
  | [],[],_ => rfl
  | [],_ :: _,h => by simp [cmpL] at h
  | _ :: _,[],h => by simp [cmpL] at h
  | a :: s,b :: bs,h => by
    rw [cmpL] at h
    split at h
    · simp at h
    · split at h
      · simp at h
      · rw [cmpL_eq s bs h,show a = b by omega]
theorem cmpL_anti : ∀ a b : List Int,cmpL a b = - cmpL b a
  | [],[] => rfl
  | [],_ :: _ => rfl
  | _ :: _,[] => rfl
  | a :: s,b :: bs => by
    rw [cmpL,cmpL]
    by_cases h1 : a < b
    · rw [if_pos h1,if_neg (by omega),if_pos h1]
    · by_cases h2 : b < a
      · rw [if_neg h1,if_pos h2,if_pos h2]; rfl
      · rw [if_neg h1,if_neg h2,if_neg h2,if_neg h1]
        exact cmpL_anti s bs
theorem numB_len (x : Int) (n k : Nat) : (numB x n k).length = k := by simp [numB]
structure Lay where
  kind : Int
  cell : En→List Int
  len : En→Nat
  good : En→Prop
def EntOk (Y : Lay) (c : List Int) (x : En) : Prop := c = Y.cell x∧Y.good x
class LayOk (Y : Lay) : Prop where
  k0 : 0≤Y.kind
  k1 : Y.kind < 256
  lenE : ∀ x,(Y.cell x).length = Y.len x
  inj : ∀ c x y,EntOk Y c x→EntOk Y c y→x = y
section
variable {Y : Lay}
def cs (Y : Lay) (l : List En) : Nat→Nat
  | 0 => 0
  | k + 1 => cs Y l k + (match l[k]? with | some x => Y.len x | none => 0)
theorem numB1 (X : Int) : numB X 1 1 = [X % 256] := by simp [numB]
theorem numB2 (X : Int) : numB X 2 2 = [X / 256 % 256,X % 256] := by simp [numB,List.range_succ]
theorem numB4 (X : Int) : numB X 4 4 = [X / 16777216 % 256,X / 65536 % 256,X / 256 % 256,X % 256] := by simp [numB,List.range_succ]
theorem numB_byt (X : Int) (n k : Nat) : Byt (numB X n k) := by
  intro y hy
  simp only [numB,List.mem_map] at hy
  obtain ⟨i,_,rfl⟩ := hy
  omega
theorem be2 {X : Int} (h0 : 0≤X) (h1 : X < 65536) : beVal (numB X 2 2) = X := by rw [numB2]; simp [beVal]; omega
theorem be4 {X : Int} (h0 : 0≤X) (h1 : X < 4294967296) : beVal (numB X 4 4) = X := by rw [numB4]; simp [beVal]; omega
theorem num1 {o : List Int} (hb : Byt o) (hl : o.length = 1) : numB (beVal o) 1 1 = o := by
  match o,hl with
  | [a],_ =>
    have := hb a (by simp)
    rw [numB1]; simp [beVal]; omega
theorem num2 {o : List Int} (hb : Byt o) (hl : o.length = 2) : numB (beVal o) 2 2 = o := by
  match o,hl with
  | [a,b],_ =>
    have := hb a (by simp); have := hb b (by simp)
    rw [numB2]; simp [beVal]; omega
theorem num4 {o : List Int} (hb : Byt o) (hl : o.length = 4) : numB (beVal o) 4 4 = o := by
  match o,hl with
  | [a,b,c,d],_ =>
    have := hb a (by simp); have := hb b (by simp); have := hb c (by simp); have := hb d (by simp)
    rw [numB4]; simp [beVal]; omega
theorem nx_app {a b : List Int} {n : Int} (h : (a.length : Int) = n) : nx (a++b) 0 n true = (b,0,a) := by
  subst h
  have : ¬ ((a++b).length : Int) < (a.length : Int) := by simp; omega
  simp only [nx,if_neg this]
  simp
theorem nx_ok {bs r o : List Int} {e n : Int} (h : nx bs e n true = (r,0,o)) (hn : 0≤n) : e = 0∧bs = o++r∧(o.length : Int) = n := by
  unfold nx at h
  split at h
  · rename_i he; injection h with _ h2; injection h2 with h3 _; exact absurd h3 he
  · rename_i he
    split at h
    · rename_i h2; cases h2
    · split at h
      · injection h with _ h2; injection h2 with h3 _; cases h3
      · rename_i hl
        injection h with h1 h2; injection h2 with _ h3
        subst h1; subst h3
        refine ⟨by omega,by simp,?_⟩
        simp; omega
theorem nx_outlen {bs r o : List Int} {e e' n : Int} (h : nx bs e n true = (r,e',o)) (hn : 0≤n) : (o.length : Int)≤n := by
  unfold nx at h
  split at h
  · injection h with _ h2; injection h2 with _ h3; subst h3; simpa using hn
  · split at h
    · injection h with _ h2; injection h2 with _ h3; subst h3; simpa using hn
    · split at h
      · injection h with _ h2; injection h2 with _ h3; subst h3; simpa using hn
      · injection h with _ h2; injection h2 with _ h3; subst h3; simp; omega
theorem nx_both {bs r o : List Int} {e e' n : Int} {t : Bool} (h : nx bs e n t = (r,e',o)) (hb : Byt bs) : Byt r∧Byt o∧r.length≤bs.length∧o.length≤bs.length := by
  have h1 := nx_byt hb e n t
  have h2 := nx_rest bs e n t
  have h3 := nx_len bs e n t
  rw [h] at h1 h2 h3
  exact ⟨h1.1,h1.2,h2,h3⟩
def allZ (xs : List Int) : Bool := xs.all (fun c => c == 0)
theorem allZ_rep : ∀ (xs : List Int),allZ xs = true→xs = List.replicate xs.length 0
  | [],_ => rfl
  | x :: l,h => by
    simp only [allZ,List.all_cons,Bool.and_eq_true,beq_iff_eq] at h
    have ih := allZ_rep l h.2
    rw [List.length_cons,List.replicate_succ,← ih,h.1]
theorem rep_allZ (n : Nat) : allZ (List.replicate n 0) = true := by simp [allZ]
theorem rep_byt (n : Nat) : Byt (List.replicate n 0) := fun x hx => by rw [List.eq_of_mem_replicate hx]; omega
end
end Go.Proofs.YtnnmpaenainogaaGreat

namespace Go.Proofs.YtnnmpaenainogaaGreat
open Go.RowKit
set_option maxHeartbeats 400000 in
theorem wraw_any (w : World) (g B : Nat) (bs xs : List Int) (v : Value) (h : WrAt w g bs) (hs : Seq B w v xs) (hl : bs.length + xs.length≤140737488355328) :
    Calls Tryz.prog 76 #[.pointer (some ⟨g,0,none⟩),v] w fun r w' => r = .returned (.tuple #[])∧WrAt w' g (bs++xs)∧Fw g w w' := by
  obtain ⟨i0,hi,hz0,hz1,hz2⟩ := info_parts infoU8
  have hlt := h.lt
  obtain ⟨u,hown,hv⟩ := h
  have hrow := own_row hown (Nat.lt_succ_self g)
  have hrow2 := hown.lt
  obtain ⟨ao,c,rfl⟩ := own_shape hown
  have hc0 := cell_of_one hv
  have hs' := hs
  obtain ⟨bo,d,rfl,h1,h2,h3,h4⟩ := hs
  cases bo with
  | none =>
    have hn : xs = [] := by
      cases xs with
      | nil => rfl
      | cons x xs => have := h3 rfl; simp at h1; omega
    subst hn
    have hd := h3 rfl
    subst hd
    have hf0 := free_of_one hv
    clear hs' h4 h3
    go_enter Tryz.func76,Tryz.ntmps76
    go_wp2_with (at_builtin; (refine wpList_append_own_none rfl _ _ 32 rfl (g + 1) 5 i0 1 Tryz.underlying32 hi _ _ _ rfl hown rfl ?_))
    go_end0
    have R := wr_put (xs := []) (w1 := w) hown hv (grefl _ _) (by simpa using hown) (grefl _ _) (Or.inl rfl) rfl
    exact ⟨rfl,R.1,R.2⟩
  | some a =>
    obtain ⟨_,hc⟩ := hs'.cells
    clear hs' h4 h3
    go_enter Tryz.func76,Tryz.ntmps76
    go_wp2_with (at_builtin; refine wpList_append_own2 _ rfl _ _ 32 rfl (g + 1) 5 i0 (.int .u8 0) 1 1 Tryz.underlying32 hi hz0 hz1 hz2 rfl (by decide) _ _ _ rfl hown a xs.length d (xs.map (Value.int .u8)) rfl (by simp) ?c1 bcell1 ?c3 ?c4 ?c5 ?_)
    case c1 => exact hc
    case c3 => unfold maxLen; omega
    case c5 => omega
    · intro v' w1 hown' hgrow hfr
      have R := Lib.hid (wr_put hown hv (grefl _ _) hown' hgrow hfr rfl)
      have hv1 := wr_still hv hgrow hrow
      obtain ⟨ao',c',rfl⟩ := own_shape hown'
      have k0 := cell_of_one hv1
      have e0 := free_of_one hv1
      clear hgrow hfr hv hown hown'
      go_wp2
      go_end0
      exact ⟨rfl,R.out.1,R.out.2⟩
end Go.Proofs.YtnnmpaenainogaaGreat

namespace Go.Proofs.YtnnmpaenainogaaGreat
open Go.RowKit
structure RS (g : Nat) (w0 w : World) (bs : List Int) (e : Int) : Prop where
  rd : RdAt w g bs e
  byt : Byt bs
  len : bs.length≤140737488355328
  g0 : w0.heap.size≤g
  bel : Below w0.heap.size w0 w
theorem RS.far {g : Nat} {w0 w w' : World} {bs : List Int} {e : Int} (h : RS g w0 w bs e) (k : w.grownBy w' none) : RS g w0 w' bs e :=
  ⟨h.rd.kept (fun i hi => k.block i (by have := h.rd.lt; omega) (by simp)),h.byt,h.len,h.g0,h.bel.trans ((gbelow k).mono h.bel.size)⟩
theorem RS.num {g : Nat} {w0 w : World} {bs b1 out : List Int} {e e1 : Int} (h : RS g w0 w bs e) (n : Int) (h1 : 1≤n) (h8 : n≤8) (hx : nx bs e n true = (b1,e1,out)) :
    Calls Tryz.prog 149 #[.pointer (some ⟨g,0,none⟩),.int .i64 n] w fun r w' => r = .returned (.int .u64 (beVal out))∧RS g w0 w' b1 e1∧w.grownBy w' (some g) := by
  have hd : (decide (1≤n) && decide (n≤8)) = true := by simp [h1,h8]
  have hq := num_any w g bs e n h.rd h.byt (by have := h.len; omega)
  rw [hd,hx] at hq
  obtain ⟨q1,q2,q3,q4⟩ := nx_both hx h.byt
  exact hq.mono fun r w' ⟨er,hr,hg⟩ => ⟨er,⟨hr,q1,by have := h.len; omega,h.g0,h.bel.grown hg h.bel.size (fun k hk => by injection hk with hk; have := h.g0; omega)⟩,hg⟩
theorem RS.raw {g : Nat} {w0 w : World} {bs b1 out : List Int} {e e1 : Int} (h : RS g w0 w bs e) (n : Int) (t : Bool) (ht : decide (0≤n) = t) (hx : nx bs e n t = (b1,e1,out)) :
    Calls Tryz.prog 150 #[.pointer (some ⟨g,0,none⟩),.int .i64 n] w fun r w' => ∃ ao c,r = .returned (.slice ao out.length c)∧w'.ownsRow w.heap.size 5 1 (.slice ao out.length c) out.length (out.map (Value.int .u8)) ∧
      RS g w0 w' b1 e1∧w.grownBy w' (some g) := by
  subst ht
  have hq := raw_any w g bs e n h.rd (by have := h.len; omega)
  rw [hx] at hq
  obtain ⟨q1,q2,q3,q4⟩ := nx_both hx h.byt
  exact hq.mono fun r w' ⟨ao,c,er,ho,hr,hg⟩ => ⟨ao,c,er,ho,⟨hr,q1,by have := h.len; omega,h.g0,h.bel.grown hg h.bel.size (fun k hk => by injection hk with hk; have := h.g0; omega)⟩,hg⟩
end Go.Proofs.YtnnmpaenainogaaGreat
