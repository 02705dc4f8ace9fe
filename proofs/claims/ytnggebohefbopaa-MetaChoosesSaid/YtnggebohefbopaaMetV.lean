/-
  Layer 7: the laws' own 'of' and 'same'. Own work.
-/
import Derived.Test.YtnggebohefbopaaMetF
import Derived.Test.YtnggebohefbopaaMetR
import Derived.Deep.RegionHeld3
namespace Go.Proofs.Ytnggebohefbopaa
open Go.RowKit

theorem results_MK {fn : Func} {p u : Tmp} (h : fn.results = #[.cell p 29, .cell u 30]) (tmps : Array Value) (W : World) (q q2 : Nat) (cs ds : Array Value) (hp : tmps.getD p undef = .pointer (some ⟨q, 0, none⟩)) (hu : tmps.getD u undef = .pointer (some ⟨q2, 0, none⟩))
    (hq : W.heap[q]? = some (.cells cs 29 (0, 0))) (hs : cs.size = 4) (hq2 : W.heap[q2]? = some (.cells ds 30 (0, 0))) (hs2 : ds.size = 4) : (results fn tmps).run Try.prog W = .ok (.tuple #[.agg cs, .agg ds]) W := by
  have hld := run_loadVar_row (P := Try.prog) W q 29 29 cs (0, 0) _ hq Try.underlying29 rfl (by rw [hs]; kernel_rfl)
  have hld2 := run_loadVar_row (P := Try.prog) W q2 30 30 ds (0, 0) _ hq2 Try.underlying30 rfl (by rw [hs2]; kernel_rfl)
  have hp' : tmps[p]?.getD undef = .pointer (some ⟨q, 0, none⟩) := by simpa using hp
  have hu' : tmps[u]?.getD undef = .pointer (some ⟨q2, 0, none⟩) := by simpa using hu
  simp [results, h, hp', hu', asAddr, hld, hld2]

theorem three_lit (w : World) (a b c : Obj) : (((w.alloc a).alloc b).alloc c).heap[w.heap.size]? = some a ∧ (((w.alloc a).alloc b).alloc c).heap[w.heap.size + 1]? = some b ∧ (((w.alloc a).alloc b).alloc c).heap[w.heap.size + 1 + 1]? = some c := by
  have h2 : ((w.alloc a).alloc b).heap.size = w.heap.size + 1 + 1 := by simp
  refine ⟨(Below.heap_alloc _ c _ (by omega)).trans (two_lit0 w a b), (Below.heap_alloc _ c _ (by omega)).trans (two_lit1 w a b), ?_⟩
  have := heap_alloc_new ((w.alloc a).alloc b) c
  rwa [h2] at this

theorem heap_drew {w : World} {q : Nat} {x : Option Obj} (h : w.heap[q]? = x) : w.drew.heap[q]? = x := h
theorem mt_cells_drew {w : World} {q : Nat} {a b c d : Value} {t : TypeId} (h : w.heap[q]? = some (.cells #[a, b, c, d] t (0, 0))) :
    w.drew.cell? ⟨q, 0, none⟩ = some a ∧ w.drew.cell? ⟨q, 1, none⟩ = some b ∧ w.drew.cell? ⟨q, 2, none⟩ = some c ∧ w.drew.cell? ⟨q, 3, none⟩ = some d := mt_cells (w := w.drew) h
theorem grown_drew {w0 w : World} (h : w0.grownBy w none) : w0.grownBy w.drew none := gtrans h (gdrew _)

set_option maxRecDepth 20000 in
set_option maxHeartbeats 1000000 in
theorem of7_any (w : World) (M : Mt) :
    Calls Try.prog 11 #[.agg (mtC M)] w fun r w' => r = .returned (.tuple #[.agg (mtC M), .agg (mtC M)]) ∧ w.grownBy w' none := by
  obtain ⟨t, e, m, f⟩ := M
  simp only [mtC]
  go_enter Try.func11, Try.ntmps11
  go_wp2
  obtain ⟨hb, hb1, hb2⟩ := three_lit w (.cells #[.int .u64 (t : Int), .int .u32 (e : Int), .int .u32 (m : Int), .int .u32 (f : Int)] 25) (.cells zC 29) (.cells zC 30)
  have hgw := gtrans (two_grown w (.cells #[.int .u64 (t : Int), .int .u32 (e : Int), .int .u32 (m : Int), .int .u32 (f : Int)] 25) (.cells zC 29)) (World.grownBy_alloc _ (.cells zC 30) none)
  have e0 : (((w.alloc (.cells #[.int .u64 (t : Int), .int .u32 (e : Int), .int .u32 (m : Int), .int .u32 (f : Int)] 25)).alloc (.cells #[.int .u64 0, .int .u32 0, .int .u32 0, .int .u32 0] 29)).alloc (.cells #[.int .u64 0, .int .u32 0, .int .u32 0, .int .u32 0] 30)) = (((w.alloc (.cells #[.int .u64 (t : Int), .int .u32 (e : Int), .int .u32 (m : Int), .int .u32 (f : Int)] 25)).alloc (.cells zC 29)).alloc (.cells zC 30)) := rfl
  rw [e0]
  generalize (((w.alloc (.cells #[.int .u64 (t : Int), .int .u32 (e : Int), .int .u32 (m : Int), .int .u32 (f : Int)] 25)).alloc (.cells zC 29)).alloc (.cells zC 30)) = wb at *
  obtain ⟨g, hge⟩ : ∃ g, g = w.heap.size := ⟨_, rfl⟩
  rw [← hge] at hb hb1 hb2 ⊢
  have HGE := Lib.hid hge
  have HGW := Lib.hid hgw
  clear hge hgw e0
  have hbd : wb.drew.heap[g]? = some (.cells #[.int .u64 (t : Int), .int .u32 (e : Int), .int .u32 (m : Int), .int .u32 (f : Int)] 25 (0, 0)) := hb
  have hd1 : wb.drew.heap[g + 1]? = some (.cells #[.int .u64 0, .int .u32 0, .int .u32 0, .int .u32 0] 29 (0, 0)) := hb1
  have hd2 : wb.drew.heap[g + 1 + 1]? = some (.cells #[.int .u64 0, .int .u32 0, .int .u32 0, .int .u32 0] 30 (0, 0)) := hb2
  obtain ⟨⟨y0, y1, y2, y3⟩, f0, f1, f2, f3⟩ := cells4 hb1
  obtain ⟨⟨z0, z1, z2, z3⟩, k0, k1, k2, k3⟩ := cells4 hb2
  obtain ⟨⟨y0', y1', y2', y3'⟩, f0', f1', f2', f3'⟩ := cells4 hd1
  obtain ⟨⟨z0', z1', z2', z3'⟩, k0', k1', k2', k3'⟩ := cells4 hd2
  have HB := Lib.hid hbd
  have HB1 := Lib.hid hd1
  have HB2 := Lib.hid hd2
  have HW0 := Lib.hid hb
  have HW1 := Lib.hid hb1
  have HW2 := Lib.hid hb2
  clear hb hb1 hb2 hbd hd1 hd2
  go_region_held3 (fun w' => w'.cell? ⟨g, 0, none⟩ = some (.int .u64 (t : Int)) ∧ w'.cell? ⟨g, 1, none⟩ = some (.int .u32 (e : Int)) ∧ w'.cell? ⟨g, 2, none⟩ = some (.int .u32 (m : Int)) ∧ w'.cell? ⟨g, 3, none⟩ = some (.int .u32 (f : Int)))
    (first | (with_reducible exact mt_cells HB.out) | (with_reducible exact mt_cells_drew (other4 HW0.out (by omega) _ _ _ _)) | (with_reducible exact mt_cells_drew (other4 (other4 HW0.out (by omega) _ _ _ _) (by omega) _ _ _ _)))
    (fail)
  go_wp2
  exact bodyPost_ret (results_MK rfl _ _ (g + 1) (g + 1 + 1) _ _ rfl rfl (heap_drew (other4 (store4 HW1.out _ _ _ _) (by omega) _ _ _ _)) rfl (heap_drew (store4 (other4 HW2.out (by omega) _ _ _ _) _ _ _ _)) rfl) rfl ⟨rfl, grown_drew (gof (below4 (below4 (gbelow HGW.out) (by have := HGE.out; omega) _ _ _ _) (by have := HGE.out; omega) _ _ _ _) none)⟩

set_option maxHeartbeats 1000000 in
theorem same7_any (w : World) (M : Mt) :
    Calls Try.prog 20 #[.agg (mtC M), .agg (mtC M)] w fun r w' => r = .returned (.bool true) ∧ w.grownBy w' none := by
  obtain ⟨t, e, m, f⟩ := M
  simp only [mtC]
  go_enter Try.func20, Try.ntmps20
  go_wp2
  go_ret
  exact ⟨rfl, two_grown _ _ _⟩

end Go.Proofs.Ytnggebohefbopaa
