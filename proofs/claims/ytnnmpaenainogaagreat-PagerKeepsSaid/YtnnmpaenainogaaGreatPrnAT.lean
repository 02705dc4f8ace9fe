/-
  Layer 3: the disk in memory. What its blocks are told apart by (their elements' types), what a call leaves as it was. Own work.
-/
import Derived.Test.YtnnmpaenainogaaGreatPrnAA
import Derived.Deep.LoopGhost

set_option linter.unusedVariables false
set_option linter.unusedSimpArgs false
namespace Go.Proofs.YtnnmpaenainogaaGreat
open Go.RowKit
def TagIs (w : World) (k : Nat) (t : TypeId) : Prop := ∃ cs f,w.heap[k]? = some (.cells cs t f)
theorem TagIs.uniq {w : World} {k : Nat} {s t : TypeId} (h : TagIs w k s) (g : TagIs w k t) : s = t := by
  obtain ⟨_,_,h⟩ := h; obtain ⟨_,_,g⟩ := g; rw [h] at g; injection g with g; injection g
def Dtag (w : World) (k : Nat) : Prop := ∃ t,TagIs w k t∧(t = 129∨t = 163∨t = 160)
theorem Dtag.of {w : World} {k : Nat} {t : TypeId} (h : TagIs w k t) (ht : t = 129∨t = 163∨t = 160) : Dtag w k := ⟨t,h,ht⟩
structure Dfr (B : Nat) (w w' : World) : Prop where
  os : w'.os = w.os
  tape : w'.tape = w.tape
  output : w'.output = w.output
  size : w.heap.size≤w'.heap.size
  block : ∀ k,k < w.heap.size→(k < B∨¬ Dtag w k)→w'.heap[k]? = w.heap[k]?
theorem Dfr.refl (B : Nat) (w : World) : Dfr B w w := ⟨rfl,rfl,rfl,Nat.le_refl _,fun _ _ _ => rfl⟩
theorem Dtag.same {w w' : World} {k : Nat} (h : w'.heap[k]? = w.heap[k]?) : Dtag w' k→Dtag w k := fun ⟨t,⟨cs,f,g⟩,e⟩ => ⟨t,⟨cs,f,h ▸ g⟩,e⟩
theorem Dfr.trans {B : Nat} {a b c : World} (h : Dfr B a b) (k : Dfr B b c) : Dfr B a c :=
  ⟨k.os.trans h.os,k.tape.trans h.tape,k.output.trans h.output,Nat.le_trans h.size k.size,fun i hi hc => by
    have h1 := h.block i hi hc
    exact (k.block i (Nat.lt_of_lt_of_le hi h.size) (hc.imp id fun hn g => hn (g.same h1))).trans h1⟩
theorem dfr_new {B : Nat} {w w' : World} (h : w.grownBy w' none) : Dfr B w w' := ⟨h.os,h.tape,h.output,h.size,fun k hk _ => h.block k hk (by simp)⟩
theorem dfr_row {B : Nat} {w w' : World} {row : Option Nat} (h : w.grownBy w' row) (hr : ∀ k,row = some k→B≤k∧Dtag w k) : Dfr B w w' :=
  ⟨h.os,h.tape,h.output,h.size,fun k hk hc => h.block k hk fun e => by
    obtain ⟨h1,h2⟩ := hr k e.symm
    rcases hc with hc | hc
    · omega
    · exact hc h2⟩
theorem own_tag {w : World} {base size n : Nat} {e : TypeId} {v : Value} {xs : List Value} (h : w.ownsRow base e size v n xs) : ∀ k,v.ownBlock = some k→base≤k∧k < w.heap.size∧TagIs w k e := by
  intro k hk
  rcases h.2 with ⟨rfl,_⟩ | ⟨g,cap,cur,rfl,hb,hg,_⟩
  · simp [Value.ownBlock] at hk
  · simp [Value.ownBlock] at hk
    subst hk
    exact ⟨hb,lt_of_block hg,cur,_,hg⟩
theorem own_far {w w' : World} {base size n : Nat} {e t : TypeId} {v : Value} {xs : List Value} {row : Option Nat} (h : w.ownsRow base e size v n xs) (hg : w.grownBy w' row) (hr : ∀ k,row = some k→TagIs w k t) (ht : t≠e) : w'.ownsRow base e size v n xs := by
  refine h.kept hg ?_
  cases hv : v.ownBlock with
  | none => exact .inl rfl
  | some k =>
    refine .inr fun e' => ht ((hr k e'.symm).uniq (own_tag h k hv).2.2)
def Own8 (B : Nat) (w : World) (n : Nat) (v : Value) (bs : List Int) : Prop := w.ownsRow B 5 1 v n (bs.map (Value.int .u8))
theorem Own8.len {B n : Nat} {w : World} {v : Value} {bs : List Int} (h : Own8 B w n v bs) : bs.length = n := by simpa using h.1
theorem Own8.seq {B n : Nat} {w : World} {v : Value} {bs : List Int} (h : Own8 B w n v bs) : Seq w.heap.size w v bs := Seq.owned1 h.len h
structure SM where
  size : Nat
  limit : Nat
  pg : List (List Int × List Int)
  loose : List (Nat × List Int)
  fails : Bool
  ahead : Int
  calls : Nat
  once : Bool
def dbox (M : SM) (pv lv nv : Value) : Array Value :=
  #[.int .i64 (M.size : Int),.int .i64 (M.limit : Int),pv,lv,.int .i64 (M.calls : Int),.bool M.fails,.int .i64 M.ahead,.int .u32 (if M.once then 1 else 0),.int .i32 0,.int .u32 0,nv]
abbrev PgV := (Value × Value) × (List Int × List Int)
abbrev LoV := Nat × (Value × List Int)
def pcells (ps : List PgV) : List Value := ps.flatMap fun y => [y.1.1,y.1.2]
def wcells (ls : List LoV) : List Value := ls.flatMap fun y => [.int .i64 (y.1 : Int),y.2.1]
structure Rws (B : Nat) (w : World) (n : Nat) (pv lv nv : Value) (ps : List PgV) (ls : List LoV) (once : Bool) : Prop where
  pown : w.ownsRow B 163 2 pv ps.length (pcells ps)
  pall : ∀ y∈ps,Own8 B w n y.1.1 y.2.1∧Own8 B w n y.1.2 y.2.2
  lown : w.ownsRow B 160 2 lv ls.length (wcells ls)
  lall : ∀ y∈ls,Own8 B w n y.2.1 y.2.2
  nown : if once then Own8 B w n nv (List.replicate n 0) else nv = .slice none 0 0
theorem Own8.far {B n : Nat} {w w' : World} {v : Value} {bs : List Int} {t : TypeId} {row : Option Nat} (h : Own8 B w n v bs) (hg : w.grownBy w' row) (hr : ∀ k,row = some k→TagIs w k t) (ht : t≠5) : Own8 B w' n v bs := own_far h hg hr ht
theorem Rws.far {B n : Nat} {w w' : World} {pv lv nv : Value} {ps : List PgV} {ls : List LoV} {once : Bool} {row : Option Nat} (h : Rws B w n pv lv nv ps ls once) (hg : w.grownBy w' row) (hr : ∀ k,row = some k→TagIs w k 129) : Rws B w' n pv lv nv ps ls once where
  pown := own_far h.pown hg hr (by decide)
  pall := fun y hy => ⟨(h.pall y hy).1.far hg hr (by decide),(h.pall y hy).2.far hg hr (by decide)⟩
  lown := own_far h.lown hg hr (by decide)
  lall := fun y hy => (h.lall y hy).far hg hr (by decide)
  nown := by
    have := h.nown
    cases once
    · exact this
    · exact Own8.far (this : Own8 _ _ _ _ _) hg hr (by decide)
theorem Rws.new {B n : Nat} {w w' : World} {pv lv nv : Value} {ps : List PgV} {ls : List LoV} {once : Bool} (h : Rws B w n pv lv nv ps ls once) (hg : w.grownBy w' none) : Rws B w' n pv lv nv ps ls once := h.far hg (fun k e => by simp at e)
def DskAt (B : Nat) (w : World) (d : Nat) (M : SM) : Prop :=
  ∃ pv lv nv ps ls,B≤d∧w.heap[d]? = some (.cells (dbox M pv lv nv) 129 (0,0))∧Rws B w M.size pv lv nv ps ls M.once∧M.pg = ps.map (·.2)∧M.loose = ls.map (fun y => (y.1,y.2.2))
theorem DskAt.new {B d : Nat} {w w' : World} {M : SM} (h : DskAt B w d M) (hg : w.grownBy w' none) : DskAt B w' d M := by
  obtain ⟨pv,lv,nv,ps,ls,h1,h2,h3,h4,h5⟩ := h
  exact ⟨pv,lv,nv,ps,ls,h1,(hg.block d (lt_of_block h2) (by simp)).trans h2,h3.new hg,h4,h5⟩
theorem DskAt.lt {B d : Nat} {w : World} {M : SM} (h : DskAt B w d M) : d < w.heap.size := by
  obtain ⟨pv,lv,nv,ps,ls,h1,h2,h3,h4,h5⟩ := h
  exact lt_of_block h2
theorem cells11 {W : World} {q : Nat} {x0 x1 x2 x3 x4 x5 x6 x7 x8 x9 x10 : Value} {t : TypeId} (h : W.heap[q]? = some (.cells #[x0,x1,x2,x3,x4,x5,x6,x7,x8,x9,x10] t (0,0))) :
    (W.cell? ⟨q,0,none⟩ = some x0∧W.cell? ⟨q,1,none⟩ = some x1∧W.cell? ⟨q,2,none⟩ = some x2∧W.cell? ⟨q,3,none⟩ = some x3∧W.cell? ⟨q,4,none⟩ = some x4∧W.cell? ⟨q,5,none⟩ = some x5∧W.cell? ⟨q,6,none⟩ = some x6∧W.cell? ⟨q,7,none⟩ = some x7∧W.cell? ⟨q,8,none⟩ = some x8∧W.cell? ⟨q,9,none⟩ = some x9∧W.cell? ⟨q,10,none⟩ = some x10) := by
  refine ⟨?_,?_,?_,?_,?_,?_,?_,?_,?_,?_,?_⟩ <;> simp [World.cell?,h]
theorem free11 {W : World} {q : Nat} {cs : Array Value} {t : TypeId} (h : W.heap[q]? = some (.cells cs t (0,0))) (j : Nat) : W.frozen? ⟨q,j,none⟩ = false := by
  simp [World.frozen?,h]
theorem set_box {W : World} {q : Nat} {cs : Array Value} {t : TypeId} (h : W.heap[q]? = some (.cells cs t (0,0))) (j : Nat) (u : Value) : (W.setCell ⟨q,j,none⟩ u).heap[q]? = some (.cells (cs.setIfInBounds j u) t (0,0)) := heap_setCell_same _ q j _ t u h
end Go.Proofs.YtnnmpaenainogaaGreat
