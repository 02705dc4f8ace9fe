/-
  PagerCrashes: wherever the disk fails, and whichever sectors of what was loose are there behind a crash, what was committed last is there, or the commit that it fell into, whole; opened again it is the same. Proved for every input, no condition.
-/
import Derived.Test.YtnnmpaenainogaaGreatPagerCrashesAF
import Derived.Test.YtnnmpaenainogaaGreatPagerCrashesAD
import Derived.Test.YtnnmpaenainogaaGreatPagerCrashesAE
import Derived.ProofKit
import Derived.OpenShut
import Derived.ShutString
import Derived.ChangeOld

set_option linter.unusedVariables false
set_option linter.unusedSimpArgs false
namespace Go.Proofs.YtnnmpaenainogaaGreat
open Go.RowKit Go.Maps
open Go.ChangeShapes Go.WideShapes Go.ChangeAt
set_option maxRecDepth 100000 in
theorem pcrash_lifted (os : Os) (started : os.Started) (H : Type) (enc : TypeId × Value→H) :
    ReturnsInHanded {} Tryz.checked os 4 .any (Rows.pagerCrashesSpec.pre6 enc Tryz.prog Tryz.f4 Rows.pagerCrashesRow.domain false) (Rows.pagerCrashesSpec.post enc Tryz.prog Tryz.f4 false true false false) := by
  refine returnsInHanded_of_change (C := Tryz.checked) ownKnob0 started (by kernel_rfl) Tryz.func4
    (ChangeSpec.witness6 (enc := enc) (C := Tryz.checked) false ⟨#[],#[.slice none 0 0,.slice none 0 0,.slice none 0 0],[]⟩ 8 (by kernel_rfl) (by kernel_rfl) (by kernel_rfl) (by kernel_rfl)) ?_
  intro W base args ds gs before hval0 hW hcnd _
  have hval : ∀ (j : Nat) t v,Tryz.f4.params[j]? = some t→args[j]? = some v→Value.okWide Tryz.prog W .any base t v := hval0
  have hW' := hW
  obtain ⟨p,q,hA0,hV,rfl,hfz,hnd⟩ := hW
  have hA : DataW.TrodAll enc Tryz.prog W 0 (fun _ => true) true Tryz.f4.params.toList args.toList ds p := hA0
  rw [Tryz.params4] at hA hval
  obtain ⟨v0,vs0,d0,ds0,p0,q0,hargs,rfl,rfl,h0,r0⟩ := trodAll_cons hA
  obtain ⟨v1,vs1,d1,ds1,p1,q1,rfl,rfl,rfl,h1,r1⟩ := trodAll_cons r0
  obtain ⟨v2,vs2,d2,ds2,p2,q2,rfl,rfl,rfl,h2,r2⟩ := trodAll_cons r1
  obtain ⟨rfl,rfl,rfl⟩ := trodAll_nil r2
  obtain rfl : args = #[v0,v1,v2] := by cases args; simp_all
  obtain ⟨rfl,rfl⟩ := trodVars_none hV
  obtain ⟨a0,len0,cap0,rfl⟩ := okWide_slice Tryz.underlying22 (hval 0 22 v0 rfl rfl)
  have lt0 : ∀ x∈p0,x.block < W.heap.size := by obtain ⟨m,hm⟩ := h0; exact DataW.trod_lt m _ _ _ hm
  obtain ⟨z0,w0⟩ := open_acts11 h0
  obtain ⟨a1,len1,cap1,rfl⟩ := okWide_slice Tryz.underlying32 (hval 1 32 v1 rfl rfl)
  have lt1 : ∀ x∈p1,x.block < W.heap.size := by obtain ⟨m,hm⟩ := h1; exact DataW.trod_lt m _ _ _ hm
  obtain ⟨z1,w1,y1⟩ := open_bytes h1
  obtain ⟨a2,len2,cap2,rfl⟩ := okWide_slice Tryz.underlying55 (hval 2 55 v2 rfl rfl)
  have lt2 : ∀ x∈p2,x.block < W.heap.size := by obtain ⟨m,hm⟩ := h2; exact DataW.trod_lt m _ _ _ hm
  obtain ⟨z2,w2⟩ := open_bss h2
  clear hA0 hval0
  refine (pcrash_any W a0 len0 cap0 z0 a1 len1 cap1 z1 a2 len2 cap2 z2 w0 w1 y1 w2).mono fun e W' ⟨he,bel⟩ => ?_
  subst he
  exact ⟨_,rfl,_,_,_,[],_,[],hW',trodAll_mk1 (shut_bool Tryz.underlying4 _),(trodAll_cons_mk (Below.trod laidOut0 (by kernel_rfl) (of_decide_eq_true (by kernel_rfl)) h0 bel lt0) (trodAll_cons_mk (Below.trod laidOut0 (by kernel_rfl) (of_decide_eq_true (by kernel_rfl)) h1 bel lt1) (trodAll_cons_mk (Below.trod laidOut0 (by kernel_rfl) (of_decide_eq_true (by kernel_rfl)) h2 bel lt2) trodAll_mk0))),rfl,bel.frame _,fun h => by cases h⟩
theorem pagerCrashes_named : Tryz.prog.funcNamed Rows.pagerCrashesRow.func = some 4 := by kernel_rfl
theorem pagerCrashes_j0 : (Rows.pagerCrashesRow.inPlace == Tryz.prog.inPlace 4) = true := by kernel_rfl
theorem pagerCrashes_j1 : (Rows.pagerCrashesRow.unfollowed == Tryz.prog.unfollowed 4) = true := by kernel_rfl
theorem pagerCrashes_j2 : (Rows.pagerCrashesRow.recurses == Tryz.prog.recurses 4) = true := by kernel_rfl
theorem pagerCrashes_j3 : (Rows.pagerCrashesRow.named == Tryz.prog.varsNamed 4) = true := by kernel_rfl
theorem pagerCrashes_join : joinedFacts Tryz.prog 4 Tryz.f4 Rows.pagerCrashesSpec Rows.pagerCrashesRow = true :=
  joined_of (by kernel_rfl) jn_laid jn_maps (by kernel_rfl) (by kernel_rfl) (by kernel_rfl) jn_stops (by kernel_rfl) jn_knobs pagerCrashes_j0 pagerCrashes_j1 pagerCrashes_j2 pagerCrashes_j3
    (by kernel_rfl) (by kernel_rfl) (by kernel_rfl) (by kernel_rfl) (by kernel_rfl) (by kernel_rfl) (by kernel_rfl) (by kernel_rfl) (by kernel_rfl) jn_keys (by kernel_rfl) jn_heard jn_enter jn_lift jn_make (by kernel_rfl) (by kernel_rfl) (by kernel_rfl) (by kernel_rfl)
theorem pagerCrashes_holds : Rows.PagerCrashesSaid :=
  OpenClaim.holds_of_wide 4 Tryz.f4 rfl rfl rfl rfl rfl rfl rfl ⟨rfl,rfl,rfl,rfl,rfl⟩ rfl rfl rfl rfl rfl pagerCrashes_named Tryz.func4 pagerCrashes_join
    (of_decide_eq_true (by kernel_rfl)) (by unfold Func.isWrapper; first | (rw [if_pos (by decide +kernel)]; kernel_rfl) | (rw [if_neg (by decide +kernel)]; exact ⟨rfl,rfl⟩))
    (fun os started H enc _ => pcrash_lifted os started H enc)
#print axioms pagerCrashes_holds
end Go.Proofs.YtnnmpaenainogaaGreat
