/-
  Words for slices of bytes and what a call leaves of the world, for any seat whose program knows uint8, []uint8 and string. Own work.
-/
import Derived.Test.YtnnmpaenainogaaGreatRows
import Derived.WalkKit
import Derived.WalkSpells
import Derived.WalkLawsBesides
import Derived.Lib.Hide
import Derived.ProofKit
import Derived.OpenShut
import Derived.ShutString
import Derived.ChangeOld
import Derived.OwnWalk

set_option linter.unusedVariables false
set_option linter.unusedSimpArgs false
namespace Go.Proofs.YtnnmpaenainogaaGreat
open Go.RowKit
def Byt (l : List Int) : Prop := ∀ x∈l,0≤x∧x≤255
theorem Byt.take {l : List Int} (h : Byt l) (k : Nat) : Byt (l.take k) := fun x hx => h x (List.mem_of_mem_take hx)
theorem Byt.drop {l : List Int} (h : Byt l) (k : Nat) : Byt (l.drop k) := fun x hx => h x (List.mem_of_mem_drop hx)
theorem Byt.app {l m : List Int} (h : Byt l) (k : Byt m) : Byt (l++m) := fun x hx => (List.mem_append.1 hx).elim (h x) (k x)
theorem Byt.get {l : List Int} (h : Byt l) (k : Nat) : 0≤l.getD k 0∧l.getD k 0≤255 := by
  rw [List.getD_eq_getElem?_getD]
  rcases Nat.lt_or_ge k l.length with hk | hk
  · rw [List.getElem?_eq_getElem hk]; exact h _ (List.getElem_mem hk)
  · rw [List.getElem?_eq_none hk]; simp
def Seq (B : Nat) (w : World) (v : Value) (bs : List Int) : Prop :=
  ∃ ao c,v = .slice ao bs.length c∧bs.length≤c∧c≤maxLen∧(ao = none→c = 0) ∧
    (bs≠[]→∃ b o,ao = some ⟨b,o,none⟩∧b < B∧∀ j,j < bs.length→w.cell? ⟨b,o + j,none⟩ = some (.int .u8 (bs.getD j 0)))
theorem gtrans {a b c : World} {row : Option Nat} (h : a.grownBy b row) (k : b.grownBy c row) : a.grownBy c row :=
  ⟨k.os.trans h.os,k.tape.trans h.tape,k.output.trans h.output,Nat.le_trans h.size k.size,fun i hi hn => (k.block i (Nat.lt_of_lt_of_le hi h.size) hn).trans (h.block i hi hn)⟩
theorem gwide {a b : World} {row : Option Nat} (h : a.grownBy b none) : a.grownBy b row :=
  ⟨h.os,h.tape,h.output,h.size,fun i hi _ => h.block i hi (by simp)⟩
theorem grefl (a : World) (row : Option Nat) : a.grownBy a row := ⟨rfl,rfl,rfl,Nat.le_refl _,fun _ _ _ => rfl⟩
theorem gbelow {a b : World} (h : a.grownBy b none) : Below a.heap.size a b := ⟨h.os,h.tape,h.output,h.size,fun i hi => h.block i hi (by simp)⟩
theorem gof {a b : World} (h : Below a.heap.size a b) (row : Option Nat) : a.grownBy b row := ⟨h.os,h.tape,h.output,h.size,fun i hi _ => h.block i hi⟩
theorem Seq.below {B : Nat} {w w' : World} {v : Value} {bs : List Int} (h : Seq B w v bs) (k : ∀ i,i < B→w'.heap[i]? = w.heap[i]?) : Seq B w' v bs := by
  obtain ⟨ao,c,hv,h1,h2,h3,h4⟩ := h
  refine ⟨ao,c,hv,h1,h2,h3,fun hne => ?_⟩
  obtain ⟨b,o,ha,hb,hc⟩ := h4 hne
  exact ⟨b,o,ha,hb,fun j hj => (World.cell?_of_block (w := w) (k b hb)).trans (hc j hj)⟩
theorem Seq.mono {B B' : Nat} {w : World} {v : Value} {bs : List Int} (h : Seq B w v bs) (k : B≤B') : Seq B' w v bs := by
  obtain ⟨ao,c,hv,h1,h2,h3,h4⟩ := h
  refine ⟨ao,c,hv,h1,h2,h3,fun hne => ?_⟩
  obtain ⟨b,o,ha,hb,hc⟩ := h4 hne
  exact ⟨b,o,ha,by omega,hc⟩
theorem Seq.owned {base : Nat} {w : World} {v : Value} {bs : List Int} (h : w.ownsRow base 5 1 v bs.length (bs.map (Value.int .u8))) : Seq w.heap.size w v bs := by
  rcases h.2 with ⟨rfl,hn⟩ | ⟨g,cap,cur,rfl,hb,hg,hc,hm,hs,ht⟩
  · exact ⟨none,0,by rw [hn],by omega,by simp [maxLen],fun _ => rfl,fun hne => absurd (List.eq_nil_of_length_eq_zero hn) hne⟩
  · refine ⟨some ⟨g,0,none⟩,cap,rfl,hc,hm,by simp,fun _ => ⟨g,0,rfl,lt_of_block hg,fun j hj => ?_⟩⟩
    rw [Nat.zero_add,h.cellAt j (by omega)]
    simp [List.getElem?_map,List.getElem?_eq_getElem hj]
theorem cell_alloc {w : World} {a : Addr} {v : Value} {o : Obj} (h : w.cell? a = some v) : (w.alloc o).cell? a = some v :=
  (World.cell?_of_block (w := w) (Below.heap_alloc w o _ (World.block_lt_of_cell? _ _ h))).trans h
theorem own_shape {w : World} {base size n : Nat} {e : TypeId} {v : Value} {xs : List Value} (h : w.ownsRow base e size v n xs) : ∃ ao c,v = .slice ao n c := by
  rcases h.2 with ⟨rfl,rfl⟩ | ⟨g,cap,cur,rfl,_⟩
  · exact ⟨_,_,rfl⟩
  · exact ⟨_,_,rfl⟩
theorem bcell1 {bs : List Int} : ∀ u∈bs.map (Value.int .u8),u.oneCell' = true := by
  intro u hu; simp only [List.mem_map] at hu; obtain ⟨x,_,rfl⟩ := hu; rfl
theorem Seq.cells {B : Nat} {w : World} {a : Addr} {n c : Nat} {bs : List Int} (h : Seq B w (.slice (some a) n c) bs) :
    n = bs.length∧∀ (j : Nat) (x : Int),bs[j]? = some x→w.cell? (a.add j) = some (.int .u8 x) := by
  obtain ⟨ao,c',hv,h1,h2,h3,h4⟩ := h
  cases hv
  refine ⟨rfl,fun j u hu => ?_⟩
  have hj : j < bs.length := (List.getElem?_eq_some_iff.1 hu).1
  obtain ⟨b,o,ha,hb,hc⟩ := h4 (by rintro rfl; simp at hj)
  cases ha
  rw [show (⟨b,o,none⟩ : Addr).add j = ⟨b,o + j,none⟩ by unfold Addr.add; split <;> simp_all,hc j hj]
  simp [hu]
theorem own_at {w : World} {base n : Nat} {v : Value} {bs : List Int} (h : w.ownsRow base 5 1 v n (bs.map (Value.int .u8))) (hn : 0 < n) :
    ∃ b c,v = .slice (some ⟨b,0,none⟩) n c∧b < w.heap.size∧∀ j,j < n→w.cell? ⟨b,j,none⟩ = some (.int .u8 (bs.getD j 0)) := by
  have hl := h.1
  have h' := h
  rcases h.2 with ⟨rfl,h0⟩ | ⟨g,cap,cur,rfl,hb,hg,hc,hm,hs,ht⟩
  · omega
  · refine ⟨g,cap,rfl,lt_of_block hg,fun j hj => ?_⟩
    simp at hl
    rw [h'.cellAt j (by omega)]
    simp [List.getElem?_map,List.getElem?_eq_getElem (show j < bs.length by omega)]
theorem seq_string {B : Nat} {w : World} {v : Value} {bs : List Int} (h : Seq B w v bs) : (convert 32 9 v).run Tryz.prog w = .ok (.string (strOfNums bs)) w := by
  obtain ⟨ao,c,rfl,h1,h2,h3,h4⟩ := h
  cases bs with
  | cons x xs =>
    obtain ⟨b,o,rfl,_,hc⟩ := h4 (by simp)
    exact run_convert_bytes_arg w 32 5 Tryz.underlying32 Tryz.underlying5 b o _ c (x :: xs) rfl hc 9 Tryz.underlying9
  | nil =>
    cases ao with
    | none => exact run_convert_bytes_nil w 32 5 Tryz.underlying32 Tryz.underlying5 0 c 9 Tryz.underlying9
    | some a =>
      have hl : (loadCells a 0).run Tryz.prog w = .ok (([] : List Int).map (Value.int .u8)).toArray w := by
        have := run_loadCells_list (P := Tryz.prog) w a [] (by intro j v hj; simp at hj)
        simpa using this
      rw [show ([] : List Int).length = 0 from rfl,run_convert_bytes_string w 32 9 5 _ 0 c Tryz.underlying32 Tryz.underlying5 Tryz.underlying9,run_bytesToString w _ 0 c [] hl,foldl_push_bytes]
      rfl
theorem gnew {a b c : World} {row : Option Nat} {r : Nat} (h : a.grownBy b row) (k : b.grownBy c (some r)) (hr : a.heap.size≤r) : a.grownBy c row :=
  ⟨k.os.trans h.os,k.tape.trans h.tape,k.output.trans h.output,Nat.le_trans h.size k.size,fun i hi hn => (k.block i (Nat.lt_of_lt_of_le hi h.size) (by intro e; injection e with e; omega)).trans (h.block i hi hn)⟩
theorem Seq.pre {B : Nat} {w : World} {ao : Option Addr} {n c : Nat} {bs : List Int} (h : Seq B w (.slice ao n c) bs) (k : Nat) (hk : k≤bs.length) : Seq B w (.slice ao k c) (bs.take k) := by
  obtain ⟨ao',c',hv,h1,h2,h3,h4⟩ := h
  cases hv
  have hl : (bs.take k).length = k := by simp; omega
  refine ⟨ao,c,by rw [hl],by omega,by omega,h3,fun hne => ?_⟩
  have hb : bs≠[] := by rintro rfl; simp at hne
  obtain ⟨b,o,ha,hb,hc⟩ := h4 hb
  refine ⟨b,o,ha,hb,fun j hj => ?_⟩
  rw [hc j (by omega)]
  simp [show j < k by omega]
theorem seq_nil (B : Nat) (w : World) : Seq B w (.slice none 0 0) [] := ⟨none,0,rfl,Nat.le_refl _,by simp [maxLen],fun _ => rfl,fun h => absurd rfl h⟩
theorem Seq.tail0 {B : Nat} {w : World} {ao : Option Addr} {n : Nat} {bs : List Int} {k : Nat} (h : Seq B w (.slice ao n k) bs) : Seq B w (.slice ao (bs.length - k) 0) (bs.drop k) := by
  obtain ⟨ao',c',hv,h1,h2,h3,h4⟩ := h
  cases hv
  have hd : bs.drop k = [] := List.drop_eq_nil_of_le h1
  exact ⟨ao,0,by rw [hd]; simp; omega,by rw [hd]; simp,by simp [maxLen],fun _ => rfl,fun hne => absurd hd hne⟩
theorem Seq.tail {B : Nat} {w : World} {ao : Option Addr} {n c : Nat} {bs : List Int} {k : Nat} (h : Seq B w (.slice ao n c) bs) (hk : k≤bs.length) :
    Seq B w (.slice (ao.map fun x => x.add k) (bs.length - k) (c - k)) (bs.drop k) := by
  obtain ⟨ao',c',hv,h1,h2,h3,h4⟩ := h
  cases hv
  refine ⟨_,c - k,by rw [List.length_drop],by simp; omega,by omega,fun h => ?_,fun hne => ?_⟩
  · have : ao = none := by simpa using h
    have := h3 this; omega
  · have hb : bs≠[] := by rintro rfl; simp at hne
    obtain ⟨b,o,rfl,hb,hc⟩ := h4 hb
    refine ⟨b,o + k,by simp [Addr.add],hb,fun j hj => ?_⟩
    rw [List.length_drop] at hj
    rw [Nat.add_assoc,hc (k + j) (by omega)]
    simp
theorem gdrew (w : World) : w.grownBy w.drew none := ⟨rfl,rfl,rfl,Nat.le_refl _,fun _ _ _ => rfl⟩
theorem drew_alloc (w : World) (o : Obj) : (w.alloc o).drew = w.drew.alloc o := rfl
theorem infoU8 : (Tryz.prog.info? 5).map (fun i => (i.zero,i.size,i.bytes)) = some (some (.int .u8 0),1,1) := by kernel_rfl
theorem gset (w : World) (a : Addr) (u : Value) : w.grownBy (w.setCell a u) (some a.block) :=
  ⟨rfl,rfl,rfl,by simp [World.setCell],fun k _ hk => Below.heap_setCell _ _ _ _ (fun e => hk (by rw [e]))⟩
theorem Seq.head {B : Nat} {w : World} {ao : Option Addr} {n c : Nat} {bs : List Int} (h : Seq B w (.slice ao n c) bs) (k : Nat) (hk : k≤bs.length) : Seq B w (.slice ao k k) (bs.take k) := by
  obtain ⟨ao',c',hv,h1,h2,h3,h4⟩ := h
  cases hv
  have hl : (bs.take k).length = k := by simp; omega
  refine ⟨ao,k,by rw [hl],by omega,by omega,fun h => ?_,fun hne => ?_⟩
  · have := h3 h; omega
  · have hb : bs≠[] := by rintro rfl; simp at hne
    obtain ⟨b,o,ha,hb,hc⟩ := h4 hb
    refine ⟨b,o,ha,hb,fun j hj => ?_⟩
    rw [hc j (by omega)]
    simp [show j < k by omega]
theorem Seq.cellAt {B : Nat} {w : World} {a : Option Addr} {n c : Nat} {bs : List Int} (h : Seq B w (.slice a n c) bs) (k : Nat) (hk : k < bs.length) : ∃ b o,a = some ⟨b,o,none⟩∧w.cell? ⟨b,o + k,none⟩ = some (.int .u8 (bs.getD k 0)) := by
  obtain ⟨ao,c',hv,h1,h2,h3,h4⟩ := h
  cases hv
  obtain ⟨b,o,ha,_,hc⟩ := h4 (fun e => by have := congrArg List.length e; simp only [List.length_nil] at this; omega)
  exact ⟨b,o,ha,hc k hk⟩
theorem Seq.owned1 {base n : Nat} {w : World} {v : Value} {bs : List Int} (hl : bs.length = n) (h : w.ownsRow base 5 1 v n (bs.map (Value.int .u8))) : Seq w.heap.size w v bs := by
  subst hl
  exact Seq.owned h
theorem seq_made {base m q : Nat} {w : World} (h : w.ownsRow base 5 1 (.slice (some ⟨q,0,none⟩) m m) m (madeCells (Value.int .u8 0).cells (m * 1)).toList) : Seq w.heap.size w (.slice (some ⟨q,0,none⟩) m m) (List.replicate m 0) := by
  have e : (madeCells (Value.int .u8 0).cells (m * 1)).toList = (List.replicate m (0 : Int)).map (Value.int .u8) := by
    rw [Nat.mul_one,show (Value.int .u8 0).cells = #[Value.int .u8 0] from rfl,toList_madeCells_one,List.map_replicate]
  rw [e] at h
  have hl : m = (List.replicate m (0 : Int)).length := by simp
  generalize List.replicate m (0 : Int) = bs at h hl ⊢
  subst hl
  exact Seq.owned h
theorem two_lit0 (w : World) (a b : Obj) : ((w.alloc a).alloc b).heap[w.heap.size]? = some a := (Below.heap_alloc (w.alloc a) b w.heap.size (by simp)).trans (heap_alloc_new _ _)
theorem two_lit1 (w : World) (a b : Obj) : ((w.alloc a).alloc b).heap[w.heap.size + 1]? = some b := by
  have := heap_alloc_new (w.alloc a) b
  rwa [show (w.alloc a).heap.size = w.heap.size + 1 by simp] at this
theorem two_grown (w : World) (a b : Obj) : w.grownBy ((w.alloc a).alloc b) none := gtrans (World.grownBy_alloc _ _ _) (World.grownBy_alloc _ _ _)
open Go.ChangeShapes Go.WideShapes Go.ChangeAt
theorem ownKnob0 : ownKnob Tryz.prog.godebug = none := by kernel_rfl
theorem laidOut0 : laidOutB Tryz.prog = true := by kernel_rfl
theorem seq_of_ints {w : World} {x : Addr} {len cap : Nat} {zs : List Int} (hl : len≤cap) (hm : cap≤maxLen) (hz : zs.length = cap) (hcell : ∀ i,i < zs.length→w.cell? (x.add i) = some (.int .u8 (zs.getD i 0))) :
    Seq w.heap.size w (.slice (some x) len cap) (zs.take len) := by
  have hlen : (zs.take len).length = len := by simp; omega
  refine ⟨some x,cap,by rw [hlen],by omega,hm,by simp,fun hne => ?_⟩
  have hpos : 0 < len := by
    rcases Nat.eq_zero_or_pos len with h | h
    · subst h; simp at hne
    · exact h
  obtain ⟨b,off,hx,hc⟩ := ints_at hcell (by omega)
  subst hx
  refine ⟨b,off,rfl,?_,fun j hj => ?_⟩
  · have := World.block_lt_of_cell? _ _ (hc 0 (by omega)); simpa using this
  · rw [hc j (by omega)]
    simp [show j < len by omega]
theorem open_bytes {H : Type} {enc : TypeId × Value→H} {W : World} {d : DataW H} {p : List MemPlace} {a : Option Addr} {len cap : Nat}
    (h : ∃ fuel,DataW.trod enc Tryz.prog W 0 (fun _ => true) true fuel 32 [.slice a len cap] = some (d,p)) :
    ∃ bs,Seq W.heap.size W (.slice a len cap) bs∧Byt bs := by
  obtain ⟨fuel,hf⟩ := h
  rcases open_ints Tryz.underlying32 Tryz.underlying5 (by kernel_rfl) hf with ⟨hcs,_⟩ | ⟨x,l,c,zs,hcs,_,hl,hm,hz,_,hcell,hwz⟩
  · simp at hcs
    obtain ⟨rfl,rfl,rfl⟩ := hcs
    exact ⟨[],seq_nil _ _,fun x hx => by simp at hx⟩
  · simp at hcs
    obtain ⟨rfl,rfl,rfl⟩ := hcs
    exact ⟨zs.take len,seq_of_ints hl hm (by simpa using hz) hcell,fun y hy => bounds_u8 (hwz y (List.mem_of_mem_take hy))⟩
theorem gdrewN (w : World) (n : Nat) : w.grownBy (w.drewN n) none := ⟨rfl,rfl,rfl,Nat.le_refl _,fun _ _ _ => rfl⟩
theorem ret_int {k : IntKind} {a b : Int} (h : a = b) : Ending.returned (.int k a) = .returned (.int k b) := by rw [h]
theorem own_base {w : World} {b b' size n : Nat} {e : TypeId} {v : Value} {xs : List Value} (h : w.ownsRow b e size v n xs) (k : b'≤b) : w.ownsRow b' e size v n xs :=
  ⟨h.1,h.2.imp id fun ⟨g,cap,cur,hv,hb,rest⟩ => ⟨g,cap,cur,hv,Nat.le_trans k hb,rest⟩⟩
end Go.Proofs.YtnnmpaenainogaaGreat

namespace Go.Proofs.YtnnmpaenainogaaGreat
open Go.RowKit
theorem join8 (x c : Int) (h0 : 0≤x) (h1 : x < 72057594037927936) (h2 : 0≤c) (h3 : c≤255) : bits BinOp.or IntKind.u64 (IntKind.u64.wrap (x * 256)) (IntKind.u64.wrap c) = x * 256 + c := by
  rw [IntWalk.u64_in _ (by omega),IntWalk.u64_in _ (by omega),u64_or _ _ (by omega) (by omega) (by omega) (by omega),nat_join 8 _ _ (by omega) (by omega)]
  omega
def beVal (l : List Int) : Int := l.foldl (fun x c => x * 256 + c) 0
theorem beVal_snoc (l : List Int) (c : Int) : beVal (l++[c]) = beVal l * 256 + c := by simp [beVal]
theorem foldl_bound : ∀ (l : List Int) (x : Int) (m : Nat),Byt l→0≤x→x < 256 ^ m→0≤l.foldl (fun x c => x * 256 + c) x∧l.foldl (fun x c => x * 256 + c) x < 256 ^ (m + l.length)
  | [],x,m,_,h0,h1 => by simpa using ⟨h0,h1⟩
  | c :: l,x,m,hb,h0,h1 => by
    have hc := hb c (by simp)
    have := foldl_bound l (x * 256 + c) (m + 1) (fun y hy => hb y (by simp [hy])) (by omega) (by rw [Int.pow_succ]; omega)
    simpa [Nat.add_assoc,Nat.add_comm 1] using this
theorem beVal_bound (l : List Int) (h : Byt l) : 0≤beVal l∧beVal l < 256 ^ l.length := by
  have := foldl_bound l 0 0 h (by omega) (by simp)
  simpa [beVal] using this
theorem pow256_mono (a d : Nat) : (0 : Int) < 256 ^ a∧(256 : Int) ^ a≤256 ^ (a + d) := by
  have h0 : ∀ a : Nat,(0 : Int) < 256 ^ a := fun a => by
    induction a with
    | zero => simp
    | succ a ih => rw [Int.pow_succ]; omega
  refine ⟨h0 a,?_⟩
  induction d with
  | zero => simp
  | succ d ih => rw [← Nat.add_assoc,Int.pow_succ]; have := h0 (a + d); omega
theorem beVal_lt (l : List Int) (h : Byt l) (k : Nat) (hk : l.length≤k) : beVal l < 256 ^ k :=
  Int.lt_of_lt_of_le (beVal_bound l h).2 (by
    have := (pow256_mono l.length (k - l.length)).2
    rwa [show l.length + (k - l.length) = k by omega] at this)
def nx (bs : List Int) (e n : Int) (right : Bool) : List Int × Int × List Int :=
  if e≠0 then (bs,e,[]) else if right = false then (bs,1,[]) else if (bs.length : Int) < n then (bs,10,[]) else (bs.drop n.toNat,0,bs.take n.toNat)
theorem nx_len (bs : List Int) (e n : Int) (r : Bool) : (nx bs e n r).2.2.length≤bs.length := by
  unfold nx; split
  · simp
  · split
    · simp
    · split
      · simp
      · simp; omega
theorem nx_rest (bs : List Int) (e n : Int) (r : Bool) : (nx bs e n r).1.length≤bs.length := by
  unfold nx; split
  · simp
  · split
    · simp
    · split
      · simp
      · simp
theorem nx_byt {bs : List Int} (h : Byt bs) (e n : Int) (r : Bool) : Byt (nx bs e n r).1∧Byt (nx bs e n r).2.2 := by
  have h0 : Byt [] := fun x hx => by simp at hx
  unfold nx; split
  · exact ⟨h,h0⟩
  · split
    · exact ⟨h,h0⟩
    · split
      · exact ⟨h,h0⟩
      · exact ⟨h.drop _,h.take _⟩
end Go.Proofs.YtnnmpaenainogaaGreat

namespace Go.Proofs.YtnnmpaenainogaaGreat
open Go.RowKit
def RdAt (w : World) (g : Nat) (bs : List Int) (e : Int) : Prop :=
  ∃ v,Seq g w v bs∧w.heap[g]? = some (.cells #[v,.int .i64 e] 323 (0,0))
def WrAt (w : World) (g : Nat) (bs : List Int) : Prop :=
  ∃ v,w.ownsRow (g + 1) 5 1 v bs.length (bs.map (Value.int .u8))∧w.heap[g]? = some (.cells #[v] 229 (0,0))
theorem two_cell0 {w : World} {b : Nat} {u v : Value} {t : TypeId} (h : w.heap[b]? = some (.cells #[u,v] t (0,0))) : w.cell? ⟨b,0,none⟩ = some u := by simp [World.cell?,h]
theorem two_cell1 {w : World} {b : Nat} {u v : Value} {t : TypeId} (h : w.heap[b]? = some (.cells #[u,v] t (0,0))) : w.cell? ⟨b,1,none⟩ = some v := by simp [World.cell?,h]
theorem two_free0 {w : World} {b : Nat} {u v : Value} {t : TypeId} (h : w.heap[b]? = some (.cells #[u,v] t (0,0))) : w.frozen? ⟨b,0,none⟩ = false := by simp [World.frozen?,h]
theorem two_free1 {w : World} {b : Nat} {u v : Value} {t : TypeId} (h : w.heap[b]? = some (.cells #[u,v] t (0,0))) : w.frozen? ⟨b,1,none⟩ = false := by simp [World.frozen?,h]
theorem two_set0 {w : World} {b : Nat} {u v x : Value} {t : TypeId} (h : w.heap[b]? = some (.cells #[u,v] t (0,0))) : (w.setCell ⟨b,0,none⟩ x).heap[b]? = some (.cells #[x,v] t (0,0)) := by
  have hlt := lt_of_block h
  have h' : w.heap[b] = .cells #[u,v] t (0,0) := by simpa [Array.getElem?_eq_getElem hlt] using h
  show (w.heap.modify b _)[b]? = _
  rw [Array.getElem?_eq_getElem (by simpa using hlt),Array.getElem_modify_self,h']
  rfl
theorem two_set1 {w : World} {b : Nat} {u v x : Value} {t : TypeId} (h : w.heap[b]? = some (.cells #[u,v] t (0,0))) : (w.setCell ⟨b,1,none⟩ x).heap[b]? = some (.cells #[u,x] t (0,0)) := by
  have hlt := lt_of_block h
  have h' : w.heap[b] = .cells #[u,v] t (0,0) := by simpa [Array.getElem?_eq_getElem hlt] using h
  show (w.heap.modify b _)[b]? = _
  rw [Array.getElem?_eq_getElem (by simpa using hlt),Array.getElem_modify_self,h']
  rfl
theorem RdAt.lt {w : World} {g : Nat} {bs : List Int} {e : Int} (h : RdAt w g bs e) : g < w.heap.size := by
  obtain ⟨v,_,hv⟩ := h; exact lt_of_block hv
theorem RdAt.kept {w w' : World} {g : Nat} {bs : List Int} {e : Int} (h : RdAt w g bs e) (k : ∀ i,i≤g→w'.heap[i]? = w.heap[i]?) : RdAt w' g bs e := by
  obtain ⟨v,hs,hv⟩ := h
  exact ⟨v,hs.below fun i hi => k i (by omega),(k g (Nat.le_refl _)).trans hv⟩
theorem WrAt.lt {w : World} {g : Nat} {bs : List Int} (h : WrAt w g bs) : g < w.heap.size := by
  obtain ⟨v,_,hv⟩ := h; exact lt_of_block hv
theorem WrAt.kept {w w' : World} {g : Nat} {bs : List Int} (h : WrAt w g bs) (k : w.grownBy w' none) : WrAt w' g bs := by
  obtain ⟨v,hs,hv⟩ := h
  exact ⟨v,hs.kept k (by cases v.ownBlock <;> simp),(k.block g (lt_of_block hv) (by simp)).trans hv⟩
set_option maxHeartbeats 400000 in
theorem err_any (w : World) (g : Nat) (bs : List Int) (e : Int) (h : RdAt w g bs e) :
    Calls Tryz.prog 151 #[.pointer (some ⟨g,0,none⟩)] w fun r w' => r = .returned (.int .i64 e)∧w = w' := by
  obtain ⟨v,hs,hv⟩ := h
  have h1 := two_cell1 hv
  clear hv hs
  go_enter Tryz.func151,Tryz.ntmps151
  go_wp2
  go_ret
  exact ⟨rfl,rfl⟩
set_option maxHeartbeats 400000 in
theorem rightSize_any (n : Int) (w : World) :
    Calls Tryz.prog 122 #[.int .i64 n] w fun r w' => r = .returned (.bool (decide (1≤n) && decide (n≤8)))∧w = w' := by
  by_cases h : 1≤n
  · go_enter Tryz.func122,Tryz.ntmps122
    go_wp2
    go_ret
    exact ⟨by simp [h],rfl⟩
  · go_enter Tryz.func122,Tryz.ntmps122
    go_wp2
    go_ret
    exact ⟨by simp; omega,rfl⟩
set_option maxHeartbeats 400000 in
theorem newW_any (w : World) :
    Calls Tryz.prog 75 #[] w fun r w' => r = .returned (.pointer (some ⟨w.heap.size,0,none⟩))∧WrAt w' w.heap.size []∧w.grownBy w' none := by
  go_enter Tryz.func75,Tryz.ntmps75
  go_wp2
  go_ret
  exact ⟨rfl,⟨_,World.ownsRow_nil _ _ _ _,heap_alloc_new _ _⟩,World.grownBy_alloc _ _ _⟩
end Go.Proofs.YtnnmpaenainogaaGreat

namespace Go.Proofs.YtnnmpaenainogaaGreat
open Go.RowKit
set_option maxHeartbeats 400000 in
theorem clone_any (w : World) (B : Nat) (v : Value) (bs : List Int) (hs : Seq B w v bs) (_hB : B≤w.heap.size) (hl : bs.length≤140737488355328) :
    Calls Tryz.prog 68 #[v] w fun r w' => ∃ ao c,r = .returned (.slice ao bs.length c)∧w'.ownsRow w.heap.size 5 1 (.slice ao bs.length c) bs.length (bs.map (Value.int .u8))∧w.grownBy w' none := by
  obtain ⟨i0,hi,hz0,hz1,hz2⟩ := info_parts infoU8
  have hs' := hs
  obtain ⟨ao,c,rfl,h1,h2,h3,h4⟩ := hs
  cases ao with
  | none =>
    have hn : bs = [] := by
      cases bs with
      | nil => rfl
      | cons x xs => have := h3 rfl; simp at h1; omega
    subst hn
    have hc0 := h3 rfl
    subst hc0
    clear hs' h4 h3
    have heq : ∀ w : World,(binOp .eql 32 (.slice none 0 0) (.slice none 0 0)).run Tryz.prog w = .ok (.bool true) w := fun w => Lib.run_eql_slice_nil w _ _ _ _ _ _ _ Tryz.underlying32
    go_enter Tryz.func68,Tryz.ntmps68
    go_wp2
    go_ret
    exact ⟨_,_,rfl,World.ownsRow_nil _ _ _ _,grefl _ _⟩
  | some a =>
    obtain ⟨_,hc⟩ := hs'.cells
    clear hs' h4 h3
    have heq : ∀ w : World,(binOp .eql 32 (.slice (some a) bs.length c) (.slice none 0 0)).run Tryz.prog w = .ok (.bool false) w := fun w => Lib.run_eql_slice_nil w _ _ _ _ _ _ _ Tryz.underlying32
    go_enter Tryz.func68,Tryz.ntmps68
    go_wp2_with (at_builtin; refine wpList_append_own _ rfl _ _ 32 rfl w.heap.size 5 i0 (.int .u8 0) 1 1 Tryz.underlying32 hi hz0 hz1 hz2 rfl (by decide) _ _ _ rfl (World.ownsRow_lit w #[] 0 (Nat.le_refl _) (by simp [maxLen]) rfl) a bs.length c (bs.map (Value.int .u8)) rfl (by simp) ?c1 bcell1 ?c3 ?c4 ?c5 ?_)
    case c1 =>
      intro j u hu
      exact cell_alloc (hc j u hu)
    case c3 => unfold maxLen; omega
    · intro v' w1 hown hgrow _
      obtain ⟨ao,c',rfl⟩ := own_shape hown
      go_wp2
      go_ret
      exact ⟨_,_,rfl,hown,gof (((Below.refl w.heap.size w).alloc (Nat.le_refl _) _).grown hgrow (by simp) (fun k h => by simp [Value.ownBlock] at h; omega)) _⟩
end Go.Proofs.YtnnmpaenainogaaGreat

namespace Go.Proofs.YtnnmpaenainogaaGreat
open Go.RowKit
end Go.Proofs.YtnnmpaenainogaaGreat

namespace Go.Proofs.YtnnmpaenainogaaGreat
open Go.RowKit
set_option maxHeartbeats 400000 in
theorem newR_any (w : World) (B : Nat) (v : Value) (bs : List Int) (hs : Seq B w v bs) (hB : B≤w.heap.size) (hl : bs.length≤140737488355328) :
    Calls Tryz.prog 152 #[v] w fun r w' => ∃ g,r = .returned (.pointer (some ⟨g,0,none⟩))∧w.heap.size≤g∧RdAt w' g bs 0∧w.grownBy w' none := by
  go_enter Tryz.func152,Tryz.ntmps152
  go_wp2_with (go_at_call 68; refine (clone_any _ _ _ _ hs hB hl).mono ?_; rintro r w1 ⟨ao,c,rfl,hown,hgr⟩)
  go_ret
  have hsz := hgr.size
  exact ⟨w1.heap.size,rfl,hsz,⟨_,(Seq.owned hown).below (fun i hi => Below.heap_alloc _ _ _ hi),heap_alloc_new _ _⟩,gtrans hgr (World.grownBy_alloc _ _ _)⟩
set_option maxHeartbeats 400000 in
theorem take_any (w : World) (g : Nat) (bs : List Int) (e : Int) (k : Nat) (h : RdAt w g bs e) (hk : k≤bs.length) (_hl : bs.length≤140737488355328) :
    Calls Tryz.prog 236 #[.pointer (some ⟨g,0,none⟩),.int .i64 k] w fun r w' => ∃ v,r = .returned v∧Seq g w' v (bs.take k)∧RdAt w' g (bs.drop k) e∧w.grownBy w' (some g) := by
  obtain ⟨v,hs,hv⟩ := h
  have hs' := hs
  obtain ⟨ao,c,rfl,h1,h2,h3,h4⟩ := hs
  have hc0 := two_cell0 hv
  have hf0 := two_free0 hv
  unfold maxLen at h2
  go_enter Tryz.func236,Tryz.ntmps236
  go_wp2
  all_goals
    go_ret
  · have hck : c = k := by assumption
    subst hck
    exact ⟨_,rfl,(hs'.head _ hk).below (fun i hi => Below.heap_setCell _ _ _ _ (by simp; omega)),⟨_,hs'.tail0.below (fun i hi => Below.heap_setCell _ _ _ _ (by simp; omega)),two_set0 hv⟩,gset _ _ _⟩
  · exact ⟨_,rfl,(hs'.head _ hk).below (fun i hi => Below.heap_setCell _ _ _ _ (by simp; omega)),⟨_,(hs'.tail hk).below (fun i hi => Below.heap_setCell _ _ _ _ (by simp; omega)),two_set0 hv⟩,gset _ _ _⟩
theorem RdAt.set1 {w : World} {g : Nat} {bs : List Int} {e : Int} (h : RdAt w g bs e) (e' : Int) : RdAt (w.setCell ⟨g,1,none⟩ (.int .i64 e')) g bs e' := by
  obtain ⟨v,hs,hv⟩ := h
  exact ⟨v,hs.below (fun i hi => Below.heap_setCell _ _ _ _ (by simp; omega)),two_set1 hv⟩
set_option maxHeartbeats 400000 in
theorem next_any (w : World) (g : Nat) (bs : List Int) (e n : Int) (right : Bool) (h : RdAt w g bs e) (hn : right = true→0≤n) (hl : bs.length≤140737488355328) :
    Calls Tryz.prog 203 #[.pointer (some ⟨g,0,none⟩),.int .i64 n,.bool right] w fun r w' => ∃ v,r = .returned v∧Seq g w' v (nx bs e n right).2.2∧RdAt w' g (nx bs e n right).1 (nx bs e n right).2.1∧w.grownBy w' (some g) := by
  by_cases he : e = 0
  · subst he
    cases right with
    | false =>
      have hx : nx bs 0 n false = (bs,1,[]) := by simp [nx]
      have H := Lib.hid h
      obtain ⟨v,hs,hv⟩ := h
      have hc1 := two_cell1 hv
      have hf1 := two_free1 hv
      clear hs hv hn
      rw [hx]
      clear hx
      go_enter Tryz.func203,Tryz.ntmps203
      go_wp2_with (go_at_call 151; refine (err_any _ _ _ _ H.out).mono ?_; rintro r w1 ⟨rfl,rfl⟩)
      go_ret
      exact ⟨_,rfl,seq_nil _ _,H.out.set1 _,gset _ _ _⟩
    | true =>
      have hn := hn rfl
      obtain ⟨k,rfl⟩ := Int.eq_ofNat_of_zero_le hn
      clear hn
      by_cases hk : k≤bs.length
      · have hx : nx bs 0 (k : Int) true = (bs.drop k,0,bs.take k) := by
          have : ¬ (bs.length : Int) < k := by omega
          simp [nx,this]
        have H := Lib.hid h
        obtain ⟨v,hs,hv⟩ := h
        obtain ⟨ao,c,rfl,_⟩ := hs
        have hc0 := two_cell0 hv
        clear hv
        rw [hx]
        clear hx
        go_enter Tryz.func203,Tryz.ntmps203
        go_wp2_with (first | (go_at_call 151; refine (err_any _ _ _ _ H.out).mono ?_; rintro r w1 ⟨rfl,rfl⟩) | (go_at_call 236; refine (take_any _ _ _ _ _ H.out hk hl).mono ?_; rintro r w1 ⟨v1,rfl,hs1,hr1,hg1⟩))
        go_ret
        exact ⟨_,rfl,hs1,hr1,hg1⟩
      · have hx : nx bs 0 (k : Int) true = (bs,10,[]) := by
          have : (bs.length : Int) < k := by omega
          simp [nx,this]
        have H := Lib.hid h
        obtain ⟨v,hs,hv⟩ := h
        have hc1 := two_cell1 hv
        have hf1 := two_free1 hv
        obtain ⟨ao,c,rfl,_⟩ := hs
        have hc0 := two_cell0 hv
        clear hv
        rw [hx]
        clear hx
        go_enter Tryz.func203,Tryz.ntmps203
        go_wp2_with (go_at_call 151; refine (err_any _ _ _ _ H.out).mono ?_; rintro r w1 ⟨rfl,rfl⟩)
        go_ret
        exact ⟨_,rfl,seq_nil _ _,H.out.set1 _,gset _ _ _⟩
  · have hx : nx bs e n right = (bs,e,[]) := by simp [nx,he]
    rw [hx]
    clear hx hn
    go_enter Tryz.func203,Tryz.ntmps203
    go_wp2_with (go_at_call 151; refine (err_any _ _ _ _ h).mono ?_; rintro r w1 ⟨rfl,rfl⟩)
    go_ret
    exact ⟨_,rfl,seq_nil _ _,h,grefl _ _⟩
end Go.Proofs.YtnnmpaenainogaaGreat

namespace Go.Proofs.YtnnmpaenainogaaGreat
open Go.RowKit
set_option maxHeartbeats 400000 in
theorem raw_any (w : World) (g : Nat) (bs : List Int) (e n : Int) (h : RdAt w g bs e) (hl : bs.length≤140737488355328) :
    Calls Tryz.prog 150 #[.pointer (some ⟨g,0,none⟩),.int .i64 n] w fun r w' => ∃ ao c,r = .returned (.slice ao (nx bs e n (decide (0≤n))).2.2.length c) ∧
      w'.ownsRow w.heap.size 5 1 (.slice ao (nx bs e n (decide (0≤n))).2.2.length c) (nx bs e n (decide (0≤n))).2.2.length ((nx bs e n (decide (0≤n))).2.2.map (Value.int .u8)) ∧
      RdAt w' g (nx bs e n (decide (0≤n))).1 (nx bs e n (decide (0≤n))).2.1∧w.grownBy w' (some g) := by
  have hxl := nx_len bs e n (decide (0≤n))
  have HN := Lib.hid (next_any w g bs e n (decide (0≤n)) h (by simp) hl)
  have hgs := h.lt
  clear h
  generalize hx : nx bs e n (decide (0≤n)) = x at *
  clear hx
  obtain ⟨r1,e1,out⟩ := x
  simp only at hxl HN ⊢
  go_enter Tryz.func150,Tryz.ntmps150
  go_wp2_with (first | (go_at_call 203; refine HN.out.mono ?_; rintro r w1 ⟨v,rfl,hs1,hr1,hg1⟩; have hw1 := hg1.size) | (go_at_call 68; refine (clone_any w1 _ v out hs1 (by omega) (by omega)).mono ?_; rintro r w2 ⟨ao,c,rfl,ho2,hg2⟩))
  go_ret
  exact ⟨_,_,rfl,own_base ho2 hw1,hr1.kept (fun i hi => hg2.block i (by omega) (by simp)),gtrans hg1 (gwide hg2)⟩
set_option maxHeartbeats 400000 in
theorem num_any (w : World) (g : Nat) (bs : List Int) (e n : Int) (h : RdAt w g bs e) (hb : Byt bs) (hl : bs.length≤140737488355328) :
    Calls Tryz.prog 149 #[.pointer (some ⟨g,0,none⟩),.int .i64 n] w fun r w' =>
      r = .returned (.int .u64 (beVal (nx bs e n (decide (1≤n) && decide (n≤8))).2.2)) ∧
      RdAt w' g (nx bs e n (decide (1≤n) && decide (n≤8))).1 (nx bs e n (decide (1≤n) && decide (n≤8))).2.1∧w.grownBy w' (some g) := by
  have hxl : (nx bs e n (decide (1≤n) && decide (n≤8))).2.2.length≤8 := by
    unfold nx; split
    · simp
    · split
      · simp
      · split
        · simp
        · rename_i h1 _; simp at h1 ⊢; omega
  have hxb := (nx_byt hb e n (decide (1≤n) && decide (n≤8))).2
  have HN := Lib.hid (next_any w g bs e n (decide (1≤n) && decide (n≤8)) h (by simp; omega) hl)
  clear h hb
  generalize hx : nx bs e n (decide (1≤n) && decide (n≤8)) = x at *
  clear hx
  obtain ⟨r1,e1,out⟩ := x
  simp only at hxl hxb HN ⊢
  go_enter Tryz.func149,Tryz.ntmps149
  go_wp2_with (first | (go_at_call 122; refine (rightSize_any _ _).mono ?_; rintro r w1 ⟨rfl,rfl⟩) | (go_at_call 203; refine HN.out.mono ?_; rintro r w1 ⟨v,rfl,⟨ao,c,rfl,h1,h2,h3,h4⟩,hr1,hg1⟩))
  go_loop [5,14] (fun x i => ∃ k : Nat,k≤out.length∧i = .int .i64 k∧x = .int .u64 (beVal (out.take k))) (fun _ i => out.length - (intOf i).toNat)
  case atStart => exact ⟨0,Nat.zero_le _,rfl,rfl⟩
  case round =>
    obtain ⟨k,hk,rfl,rfl⟩ := hrel
    by_cases hlt : k < out.length
    · obtain ⟨b,o,rfl,hb,hc⟩ := h4 (by rintro rfl; simp at hlt)
      have hck := hc k hlt
      clear hc h4
      have hsn : out.take (k + 1) = out.take k++[out.getD k 0] := by rw [List.take_succ_eq_append_getElem hlt]; simp [List.getElem?_eq_getElem hlt]
      have hv := beVal_snoc (out.take k) (out.getD k 0)
      rw [← hsn] at hv
      have hx := beVal_bound _ (hxb.take k)
      have hx2 := beVal_lt _ (hxb.take k) 7 (by simp; omega)
      have hy := hxb.get k
      have HJ := Lib.hid ((join8 _ _ hx.1 (by simpa using hx2) hy.1 hy.2).trans hv.symm)
      clear hsn hv hx hx2 hy
      go_wp2
      go_round
      case rel => exact ⟨k + 1,by omega,by go_num,by have := HJ.out; simp [List.getElem?_eq_getElem hlt] at this; rw [this]⟩
      case measure => simp [intOf]; omega
    · obtain rfl : k = out.length := by omega
      go_wp2
      go_ret
      exact ⟨rfl,hr1,hg1⟩
end Go.Proofs.YtnnmpaenainogaaGreat

namespace Go.Proofs.YtnnmpaenainogaaGreat
open Go.RowKit
abbrev OwnB (base : Nat) (w : World) (v : Value) (bs : List Int) : Prop := w.ownsRow base 5 1 v bs.length (bs.map (Value.int .u8))
theorem RdAt.tag {w : World} {g : Nat} {bs : List Int} {e : Int} (h : RdAt w g bs e) : ∃ cs,w.heap[g]? = some (.cells cs 323 (0,0)) := by
  obtain ⟨v,_,hv⟩ := h; exact ⟨_,hv⟩
theorem seq_lit {W : World} {q n : Nat} {xs : List Int} {cs : Array Value} {f : Nat × Nat} (h : W.heap[q]? = some (.cells cs 5 f)) (hc : cs = (xs.map (Value.int .u8)).toArray) (hn : n = xs.length) (hm : n≤maxLen) : Seq W.heap.size W (.slice (some ⟨q,0,none⟩) n n) xs := by
  subst hc; subst hn
  refine ⟨_,xs.length,rfl,Nat.le_refl _,hm,by simp,fun _ => ⟨q,0,rfl,lt_of_block h,fun j hj => ?_⟩⟩
  simp [World.cell?,h,hj,List.getD_eq_getElem?_getD]
end Go.Proofs.YtnnmpaenainogaaGreat

namespace Go.Proofs.YtnnmpaenainogaaGreat
open Go.RowKit
set_option maxHeartbeats 400000 in
theorem left_any (w : World) (g : Nat) (bs : List Int) (e : Int) (h : RdAt w g bs e) :
    Calls Tryz.prog 170 #[.pointer (some ⟨g,0,none⟩)] w fun r w' => r = .returned (.int .i64 bs.length)∧w = w' := by
  obtain ⟨v,⟨ao,c,rfl,_⟩,hv⟩ := h
  have h1 := two_cell0 hv
  clear hv
  go_enter Tryz.func170,Tryz.ntmps170
  go_wp2
  go_ret
  exact ⟨rfl,rfl⟩
end Go.Proofs.YtnnmpaenainogaaGreat
