/-
  PagerKeeps. Own work.
-/
import Derived.Test.YtnnmpaenainogaaGreatPagerKeepsAE
import Derived.Test.YtnnmpaenainogaaGreatPagerKeepsAC
import Derived.Test.YtnnmpaenainogaaGreatPagerKeepsAD

set_option linter.unusedVariables false
set_option linter.unusedSimpArgs false
namespace Go.Proofs.YtnnmpaenainogaaGreat
open Go.RowKit Go.Maps
theorem pkeeps_any (W : World) (a1 : Option Addr) (n1 c1 : Nat) (acs : List A11) (l : Int) (p : Int) (h1 : A11q W.heap.size W (.slice a1 n1 c1) acs) (l0 : 0≤l) (l1 : l≤255) (_ : -9223372036854775808≤p) (_ : p≤9223372036854775807) :
    Calls Tryz.prog 3 #[.slice a1 n1 c1,.int .u8 l,.int .i64 p] W fun r w' => r = .returned (.bool true)∧Below W.heap.size W w' := pkeeps_walk W a1 n1 c1 acs l p h1 l0 l1
open Go.ChangeShapes Go.WideShapes Go.ChangeAt
set_option maxRecDepth 100000 in
theorem pkeeps_lifted (os : Os) (started : os.Started) (H : Type) (enc : TypeId × Value→H) :
    ReturnsInHanded {} Tryz.checked os 3 .any (Rows.pagerKeepsSpec.pre6 enc Tryz.prog Tryz.f3 Rows.pagerKeepsRow.domain false) (Rows.pagerKeepsSpec.post enc Tryz.prog Tryz.f3 false true false false) := by
  refine returnsInHanded_of_change (C := Tryz.checked) ownKnob0 started (by kernel_rfl) Tryz.func3
    (ChangeSpec.witness6 (enc := enc) (C := Tryz.checked) false ⟨#[],#[.slice none 0 0,.int .u8 0,.int .i64 0],[]⟩ 8 (by kernel_rfl) (by kernel_rfl) (by kernel_rfl) (by kernel_rfl)) ?_
  intro W base args ds gs before hval0 hW hcnd _
  have hval : ∀ (j : Nat) t v,Tryz.f3.params[j]? = some t→args[j]? = some v→Value.okWide Tryz.prog W .any base t v := hval0
  have hW' := hW
  obtain ⟨p,q,hA0,hV,rfl,hfz,hnd⟩ := hW
  have hA : DataW.TrodAll enc Tryz.prog W 0 (fun _ => true) true Tryz.f3.params.toList args.toList ds p := hA0
  rw [Tryz.params3] at hA hval
  obtain ⟨v0,vs0,d0,ds0,p0,q0,hargs,rfl,rfl,h0,r0⟩ := trodAll_cons hA
  obtain ⟨v1,vs1,d1,ds1,p1,q1,rfl,rfl,rfl,h1,r1⟩ := trodAll_cons r0
  obtain ⟨v2,vs2,d2,ds2,p2,q2,rfl,rfl,rfl,h2,r2⟩ := trodAll_cons r1
  obtain ⟨rfl,rfl,rfl⟩ := trodAll_nil r2
  obtain rfl : args = #[v0,v1,v2] := by cases args; simp_all
  obtain ⟨rfl,rfl⟩ := trodVars_none hV
  obtain ⟨a0,len0,cap0,rfl⟩ := okWide_slice Tryz.underlying22 (hval 0 22 v0 rfl rfl)
  have lt0 : ∀ x∈p0,x.block < W.heap.size := by obtain ⟨m,hm⟩ := h0; exact DataW.trod_lt m _ _ _ hm
  obtain ⟨z0,w0⟩ := open_acts11 h0
  obtain ⟨a1,rfl,rfl,rfl,w1⟩ := open_int Tryz.underlying5 (hval 1 5 v1 rfl rfl) h1
  have b1 := bounds_u8 w1
  obtain ⟨a2,rfl,rfl,rfl,w2⟩ := open_int Tryz.underlying3 (hval 2 3 v2 rfl rfl) h2
  have b2 := bounds_i64 w2
  clear hA0 hval0
  refine (pkeeps_any W a0 len0 cap0 z0 a1 a2 w0 b1.1 b1.2 b2.1 b2.2).mono fun e W' ⟨he,bel⟩ => ?_
  subst he
  exact ⟨_,rfl,_,_,_,[],_,[],hW',trodAll_mk1 (shut_bool Tryz.underlying4 _),(trodAll_cons_mk (Below.trod laidOut0 (by kernel_rfl) (of_decide_eq_true (by kernel_rfl)) h0 bel lt0) (trodAll_cons_mk (shut_int Tryz.underlying5 w1) (trodAll_cons_mk (shut_int Tryz.underlying3 w2) trodAll_mk0))),rfl,bel.frame _,fun h => by cases h⟩
theorem pagerKeeps_named : Tryz.prog.funcNamed Rows.pagerKeepsRow.func = some 3 := by kernel_rfl
theorem pagerKeeps_j0 : (Rows.pagerKeepsRow.inPlace == Tryz.prog.inPlace 3) = true := by kernel_rfl
theorem pagerKeeps_j1 : (Rows.pagerKeepsRow.unfollowed == Tryz.prog.unfollowed 3) = true := by kernel_rfl
theorem pagerKeeps_j2 : (Rows.pagerKeepsRow.recurses == Tryz.prog.recurses 3) = true := by kernel_rfl
theorem pagerKeeps_j3 : (Rows.pagerKeepsRow.named == Tryz.prog.varsNamed 3) = true := by kernel_rfl
theorem pagerKeeps_join : joinedFacts Tryz.prog 3 Tryz.f3 Rows.pagerKeepsSpec Rows.pagerKeepsRow = true :=
  joined_of (by kernel_rfl) jn_laid jn_maps (by kernel_rfl) (by kernel_rfl) (by kernel_rfl) jn_stops (by kernel_rfl) jn_knobs pagerKeeps_j0 pagerKeeps_j1 pagerKeeps_j2 pagerKeeps_j3
    (by kernel_rfl) (by kernel_rfl) (by kernel_rfl) (by kernel_rfl) (by kernel_rfl) (by kernel_rfl) (by kernel_rfl) (by kernel_rfl) (by kernel_rfl) jn_keys (by kernel_rfl) jn_heard jn_enter jn_lift jn_make (by kernel_rfl) (by kernel_rfl) (by kernel_rfl) (by kernel_rfl)
theorem pagerKeeps_holds : Rows.PagerKeepsSaid :=
  OpenClaim.holds_of_wide 3 Tryz.f3 rfl rfl rfl rfl rfl rfl rfl ⟨rfl,rfl,rfl,rfl,rfl⟩ rfl rfl rfl rfl rfl pagerKeeps_named Tryz.func3 pagerKeeps_join
    (of_decide_eq_true (by kernel_rfl)) (by unfold Func.isWrapper; first | (rw [if_pos (by decide +kernel)]; kernel_rfl) | (rw [if_neg (by decide +kernel)]; exact ⟨rfl,rfl⟩))
    (fun os started H enc _ => pkeeps_lifted os started H enc)
#print axioms pagerKeeps_holds
end Go.Proofs.YtnnmpaenainogaaGreat
