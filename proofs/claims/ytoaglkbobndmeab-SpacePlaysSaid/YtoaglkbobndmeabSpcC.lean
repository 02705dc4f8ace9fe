/-
  Layer 8: slices.Clone of pages; a record in new memory. Own work.
-/
import Derived.Test.YtoaglkbobndmeabSpcB
import Derived.Deep.RegionWith
namespace Go.Proofs.Ytoaglkbobndmeab
open Go.RowKit Go.Maps

theorem own_shape {w : World} {base size n : Nat} {e : TypeId} {v : Value} {xs : List Value} (h : w.ownsRow base e size v n xs) : ∃ ao c, v = .slice ao n c := by
  rcases h.2 with ⟨rfl, rfl⟩ | ⟨g, cap, cur, rfl, _⟩
  · exact ⟨_, _, rfl⟩
  · exact ⟨_, _, rfl⟩
theorem gof {a b : World} (h : Below a.heap.size a b) (row : Option Nat) : a.grownBy b row := ⟨h.os, h.tape, h.output, h.size, fun i hi _ => h.block i hi⟩
theorem two_lit0 (w : World) (a b : Obj) : ((w.alloc a).alloc b).heap[w.heap.size]? = some a := (Below.heap_alloc (w.alloc a) b w.heap.size (by simp)).trans (heap_alloc_new _ _)
theorem two_lit1 (w : World) (a b : Obj) : ((w.alloc a).alloc b).heap[w.heap.size + 1]? = some b := by
  have := heap_alloc_new (w.alloc a) b
  rwa [show (w.alloc a).heap.size = w.heap.size + 1 by simp] at this
theorem two_grown (w : World) (a b : Obj) : w.grownBy ((w.alloc a).alloc b) none := gtrans (World.grownBy_alloc _ _ _) (World.grownBy_alloc _ _ _)

/-- Pages of the call's own, in memory from 'base' on. -/
def OwnP (base : Nat) (w : World) (v : Value) (ps : List Nat) : Prop := w.ownsRow base 36 1 v ps.length (ps.map encP) ∧ ∀ p ∈ ps, p < 4294967296
theorem OwnP.grown {base : Nat} {w w' : World} {v : Value} {ps : List Nat} (h : OwnP base w v ps) (k : w.grownBy w' none) : OwnP base w' v ps := ⟨World.ownsRow.kept h.1 k (by cases v.ownBlock <;> simp), h.2⟩
theorem OwnP.mono {base base' : Nat} {w : World} {v : Value} {ps : List Nat} (h : OwnP base w v ps) (k : base' ≤ base) : OwnP base' w v ps := by
  refine ⟨⟨h.1.1, ?_⟩, h.2⟩
  rcases h.1.2 with hn | ⟨g, cap, cur, rfl, hb, r⟩
  · exact .inl hn
  · exact .inr ⟨g, cap, cur, rfl, by omega, r⟩
theorem OwnP.set {base q : Nat} {w : World} {v : Value} {ps : List Nat} (h : OwnP base w v ps) (hq : q < base) (k : Nat) (u : Value) : OwnP base (w.setCell ⟨q, k, none⟩ u) v ps := by
  refine ⟨World.ownsRow.kept h.1 (gset w ⟨q, k, none⟩ u) ?_, h.2⟩
  cases hv : v.ownBlock with
  | none => exact .inl rfl
  | some g => have := (h.1.lt g hv).1; right; intro e; injection e with e; simp at e; omega
theorem OwnP.psq {base : Nat} {w : World} {v : Value} {ps : List Nat} (h : OwnP base w v ps) : PSq (fun b => base ≤ b) w v ps := (PSq.owned h.1 h.2).imp fun _ k _ => k.1

set_option maxHeartbeats 400000 in
theorem pclone_any (w : World) (R : Nat → Prop) (ao : Option Addr) (n c : Nat) (ps : List Nat) (hs : PSq R w (.slice ao n c) ps) (hne : ps ≠ []) (hl : ps.length ≤ 35184372088831) :
    Calls Try.prog 32 #[.slice ao n c] w fun r w' => ∃ ao c, r = .returned (.slice ao n c) ∧ OwnP w.heap.size w' (.slice ao n c) ps ∧ w.grownBy w' none := by
  obtain ⟨i0, hi, hz0, hz1, hz2⟩ := info_parts infoPage
  obtain ⟨rfl, _⟩ := hs.len
  have h32 := hs.u32
  obtain ⟨b, o, rfl, _, _⟩ := hs.at 0 (List.length_pos_iff.2 hne)
  have hc : ∀ j u, (ps.map encP)[j]? = some u → w.cell? ((⟨b, o, none⟩ : Addr).add j) = some u := by
    intro j u hu
    have hj : j < ps.length := by have := (List.getElem?_eq_some_iff.1 hu).1; simpa using this
    obtain ⟨b', o', e, _, h3⟩ := hs.at j hj
    cases e
    rw [show (⟨b, o, none⟩ : Addr).add j = ⟨b, o + j, none⟩ by unfold Addr.add; split <;> simp_all, h3]
    simp only [List.getElem?_map, List.getElem?_eq_getElem hj, Option.map_some, Option.some.injEq] at hu
    rw [← hu]
    simp [encP, hj]
  clear hs
  have heq : ∀ w : World, (binOp .eql 63 (.slice (some ⟨b, o, none⟩) ps.length c) (.slice none 0 0)).run Try.prog w = .ok (.bool false) w := fun w => Lib.run_eql_slice_nil w _ _ _ _ _ _ _ Try.underlying63
  go_enter Try.func32, Try.ntmps32
  go_wp2_with (at_builtin; refine wpList_append_own _ rfl _ _ 63 rfl w.heap.size 36 i0 (.int .u32 0) 1 4 Try.underlying63 hi hz0 hz1 hz2 rfl (by decide) _ _ _ rfl (World.ownsRow_lit w #[] 0 (Nat.le_refl _) (by simp [maxLen]) rfl) ⟨b, o, none⟩ ps.length c (ps.map encP) rfl (by simp) ?c1 pcell1 ?c3 ?c4 ?c5 ?_)
  case c1 =>
    intro j u hu
    exact cell_alloc (hc j u hu)
  case c3 => unfold maxLen; omega
  case c4 => omega
  case c5 => simp
  · intro v' w1 hown hgrow _
    obtain ⟨ao, c', rfl⟩ := own_shape hown
    go_wp2
    go_ret
    refine ⟨ao, c', rfl, ⟨?_, h32⟩, gof (((Below.refl w.heap.size w).alloc (Nat.le_refl _) _).grown hgrow (by simp) (fun k h => by simp [Value.ownBlock] at h; omega)) _⟩
    simpa using hown

theorem results_Rec {fn : Func} {p : Tmp} (h : fn.results = #[.cell p 65]) (tmps : Array Value) (W : World) (q : Nat) (cs : Array Value) (hp : tmps.getD p undef = .pointer (some ⟨q, 0, none⟩))
    (hq : W.heap[q]? = some (.cells cs 65 (0, 0))) (hs : cs.size = 2) : (results fn tmps).run Try.prog W = .ok (.agg cs) W :=
  results_cell_row h tmps W q 65 cs (0, 0) _ hp hq Try.underlying65 rfl (by rw [hs]; kernel_rfl)

theorem cells2 {W : World} {q : Nat} {a b : Value} {t : TypeId} (h : W.heap[q]? = some (.cells #[a, b] t (0, 0))) : W.cell? ⟨q, 0, none⟩ = some a ∧ W.cell? ⟨q, 1, none⟩ = some b ∧ W.frozen? ⟨q, 0, none⟩ = false ∧ W.frozen? ⟨q, 1, none⟩ = false := by
  simp [World.cell?, World.frozen?, h]
theorem store2 {W : World} {q : Nat} {x0 x1 : Value} {t : TypeId} (h : W.heap[q]? = some (.cells #[x0, x1] t (0, 0))) (a b : Value) :
    ((W.setCell ⟨q, 0, none⟩ a).setCell ⟨q, 1, none⟩ b).heap[q]? = some (.cells #[a, b] t (0, 0)) := by
  simp [World.setCell, Array.getElem?_modify, h]

set_option maxHeartbeats 1000000 in
theorem copied_any (w : World) (R : Nat → Prop) (t : Nat) (ao : Option Addr) (n c : Nat) (ps : List Nat) (hs : PSq R w (.slice ao n c) ps) (hne : ps ≠ []) (hl : ps.length ≤ 35184372088831) :
    Calls Try.prog 23 #[.agg #[.int .u64 (t : Int), .slice ao n c]] w fun r w' => ∃ ao c, r = .returned (.agg #[.int .u64 (t : Int), .slice ao n c]) ∧ OwnP w.heap.size w' (.slice ao n c) ps ∧ w.grownBy w' none := by
  have Hs := Lib.hid ((hs.grown (two_grown w (.cells #[.int .u64 (t : Int), .slice ao n c] 65) (.cells #[.int .u64 0, .slice none 0 0] 65))).grown (gdrew _))
  clear hs
  go_enter Try.func23, Try.ntmps23
  go_wp2
  go_region_with (go_at_call 32; (with_reducible refine (pclone_any _ R ao n c ps Hs.out hne hl).mono ?_); rintro r w1 ⟨a1, c1, rfl, ho1, hg1⟩; have b1 := (hg1.block (w.heap.size + 1) (by simp [World.drew]) (by simp)).trans (two_lit1 _ _ _); obtain ⟨d0, d1, f0, f1⟩ := cells2 b1; have b0 := (hg1.block w.heap.size (by simp [World.drew]; omega) (by simp)).trans (two_lit0 _ _ _); obtain ⟨e0, e1, -, -⟩ := cells2 b0; have HB := Lib.hid b1; have HO := Lib.hid ho1; have HG := Lib.hid hg1; clear b0 b1 ho1 hg1)
  all_goals
    go_wp2
    refine bodyPost_ret (results_Rec rfl _ _ (w.heap.size + 1) _ rfl (store2 HB.out _ _) rfl) rfl ⟨a1, c1, rfl, ((HO.out.set (by simp [World.drew]) 0 _).set (by simp [World.drew]) 1 _).mono (by simp [World.drew]; omega), ?_⟩
    have hw : w.grownBy w1 none := gtrans (gtrans (two_grown _ _ _) (gdrew _)) HG.out
    exact gnew (gnew hw (gset _ ⟨w.heap.size + 1, 0, none⟩ _) (by simp)) (gset _ ⟨w.heap.size + 1, 1, none⟩ _) (by simp)

end Go.Proofs.Ytoaglkbobndmeab
