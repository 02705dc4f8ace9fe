/-
  Layout: the first bytes of pages that tell a next one; how many pages things need. Own work.
-/
import Derived.Test.YtnnmpaenainogaaGreatPrnAD
import Derived.Test.YtnnmpaenainogaaGreatPrnAI
import Derived.Test.YtnnmpaenainogaaGreatPrnAB

set_option linter.unusedVariables false
set_option linter.unusedSimpArgs false
namespace Go.Proofs.YtnnmpaenainogaaGreat
open Go.RowKit
def hdK (k : Int) (n : Nat) (x : Int) : List Int := (((([]++numB k 1 1)++numB 0 1 1)++numB (n : Int) 2 2)++numB x 4 4)
theorem hdK_is (k : Int) (n : Nat) (x : Int) : hdK k n x = (((([]++numB k 1 1)++numB 0 1 1)++numB (n : Int) 2 2)++numB x 4 4) := rfl
theorem hdK_len (k : Int) (n : Nat) (x : Int) : (hdK k n x).length = 8 := by simp [hdK,numB_len]
theorem hdK_byt (k : Int) (n : Nat) (x : Int) : Byt (hdK k n x) := by
  unfold hdK
  intro y hy
  simp only [List.mem_append,List.nil_append] at hy
  rcases hy with ((h | h) | h) | h <;> exact numB_byt _ _ _ y h
theorem hdK_read {k : Int} (h0 : 0≤k) (h1 : k≤255) (n : Nat) (x : Int) (r : List Int) : hdK k n x++r = [k]++([0]++(numB (n : Int) 2 2++(numB x 4 4++r))) := by
  rw [hdK,numB1,numB1,show k % 256 = k by omega]
  simp
theorem hdK_inj {k : Int} {n m : Nat} {x y : Int} {r s : List Int} (hn : n≤65535) (hm : m≤65535) (hx0 : 0≤x) (hx1 : x≤4294967295) (hy0 : 0≤y) (hy1 : y≤4294967295) (h : hdK k n x++r = hdK k m y++s) : n = m∧x = y∧r = s := by
  obtain ⟨h1,h2⟩ := List.append_inj h (by rw [hdK_len,hdK_len])
  unfold hdK at h1
  obtain ⟨h3,h4⟩ := List.append_inj' h1 (by rw [numB_len,numB_len])
  obtain ⟨_,h5⟩ := List.append_inj' h3 (by rw [numB_len,numB_len])
  have l1 := congrArg beVal h5
  have l2 := congrArg beVal h4
  rw [be2 (by omega) (by omega),be2 (by omega) (by omega)] at l1
  rw [be4 (by omega) (by omega),be4 (by omega) (by omega)] at l2
  exact ⟨by omega,l2,h2⟩
theorem nx_at {bs : List Int} {n : Nat} (h : n≤bs.length) : nx bs 0 (n : Int) true = (bs.drop n,0,bs.take n) := by
  have : ¬ (bs.length : Int) < (n : Int) := by omega
  simp only [nx,if_neg this]
  simp
theorem results_tmp4 {fn : Func} {t u v x : Tmp} (h : fn.results = #[.tmp t,.tmp u,.tmp v,.tmp x]) (tmps : Array Value) (P : Program) (w : World) :
    (results fn tmps).run P w = .ok (.tuple #[tmps.getD t undef,tmps.getD u undef,tmps.getD v undef,tmps.getD x undef]) w := by
  simp [results,h]
set_option maxHeartbeats 1000000 in
theorem lmany_yes (w : World) (n m M : Int) (hn : 1≤n) (hn9 : n≤9223372036854775807) (hm : 1≤m) (hM : (n - 1) / m + 1 = M) :
    Calls Tryz.prog 200 #[.int .i64 n,.int .i64 m] w fun r w' => r = .returned (.int .i64 M)∧w = w' := by
  obtain ⟨Q,hQ⟩ : ∃ Q,Q = (n - 1) / m := ⟨_,rfl⟩
  have hqd : (n - 1).tdiv m = Q := by rw [hQ,Int.tdiv_eq_ediv_of_nonneg (by omega)]
  have hQ0 : 0≤Q := by rw [hQ]; exact Int.ediv_nonneg (by omega) (by omega)
  have hQ9 : Q≤n - 1 := by rw [hQ]; exact Int.ediv_le_self _ (by omega)
  have hd1 : decide (n < 1) = false := by simp; omega
  have hw1 : IntKind.i64.wrap (n - 1) = n - 1 := IntWalk.i64_in _ (by omega)
  have hw2 : IntKind.i64.wrap Q = Q := IntWalk.i64_in _ (by omega)
  have hne : ¬ m = 0 := by omega
  have hne2 : (m == 0) = false := by simp; omega
  have hMQ : M = Q + 1 := by omega
  have hQ8 : Q + 1≤9223372036854775807 := by omega
  subst hMQ
  clear hM hQ
  go_enter Tryz.func200,Tryz.ntmps200
  go_wp2
  go_ret
  exact ⟨by simp,rfl⟩
set_option maxHeartbeats 1000000 in
theorem lmany_no (w : World) (n m : Int) (h : n < 1) :
    Calls Tryz.prog 200 #[.int .i64 n,.int .i64 m] w fun r w' => r = .returned (.int .i64 0)∧w = w' := by
  have hd1 : decide (n < 1) = true := by simpa using h
  clear h
  go_enter Tryz.func200,Tryz.ntmps200
  go_wp2
  go_ret
  exact ⟨rfl,rfl⟩
set_option maxHeartbeats 1000000 in
theorem wlinked_any (w : World) (kind : Int) (n : Nat) (ni : Int) (hni : ni = (n : Int)) (x : Int) (hk0 : 0≤kind) (hk1 : kind≤255) (hn : n≤1000000) (hx0 : 0≤x) (hx1 : x≤4294967295) :
    Calls Tryz.prog 223 #[.int .u8 kind,.int .i64 ni,.int .u32 x] w fun r w' => ∃ g,r = .returned (.pointer (some ⟨g,0,none⟩))∧HW w g (hdK kind n x) w' := by
  subst hni
  have hw64 : IntKind.u64.wrap x = x := by rw [show IntKind.u64.wrap x = x % 18446744073709551616 from rfl]; omega
  go_enter Tryz.func223,Tryz.ntmps223
  go_wp2_with (first
    | (go_at_call 249; have K := whead_any w kind n hk0 hk1 hn; ((with_reducible refine K.mono ?_); clear K; rintro r w1 ⟨g,rfl,hh⟩); have HP := Lib.hid hh; clear hh)
    | (go_at_call 77; have K := HP.out.num x 4 4 rfl hx0 (by omega) (by omega) (by omega) (by simp [numB_len]); ((with_reducible refine K.mono ?_); clear K; rintro r w2 ⟨rfl,hh⟩); rw [← hdK_is] at hh; have HP2 := Lib.hid hh; clear hh HP))
  go_ret
  exact ⟨g,rfl,HP2.out⟩
section
variable {w : World} {B : Nat} {ao : Option Addr} {n c0 : Nat} {b r : List Int} {C : Nat} {kind x : Int}
def IsLinked (C : Nat) (x : Int) (rest : List Int) (w w' : World) (r : Ending) : Prop := ∃ g,r = .returned (.tuple #[.pointer (some ⟨g,0,none⟩),.int .i64 (C : Int),.int .u32 x,.bool true])∧RS g w w' rest 0
def NoLinked (w w' : World) (r : Ending) : Prop := r = .returned (.tuple #[.pointer none,.int .i64 0,.int .u32 0,.bool false])∧w.grownBy w' none
set_option maxHeartbeats 2000000 in
theorem rlinked_yes (h : Seq B w (.slice ao n c0) b) (hB : B≤w.heap.size) (hb : Byt b) (hl : b.length≤140737488355328) (hk0 : 0≤kind) (hk1 : kind≤255) (hC : C≤65535) (hx0 : 0≤x) (hx1 : x≤4294967295) (he : b = hdK kind C x++r) :
    Calls Tryz.prog 166 #[.int .u8 kind,.slice ao n c0] w fun e w' => IsLinked C x r w w' e := by
  have hlen : b.length = 8 + r.length := by rw [he,List.length_append,hdK_len]
  have hn : n = b.length := by obtain ⟨_,_,hv,_⟩ := h; injection hv
  have hn8 : ¬ (n : Int) < 8 := by omega
  have hn9 : n≤140737488355328 := by omega
  have he2 := he
  rw [hdK_read hk0 hk1] at he2
  have X1 := Lib.hid (show nx b 0 1 true = ([0]++(numB (C : Int) 2 2++(numB x 4 4++r)),0,[kind]) by rw [he2]; exact nx_app (by rfl))
  have X2 := Lib.hid (show nx ([0]++(numB (C : Int) 2 2++(numB x 4 4++r))) 0 1 true = (numB (C : Int) 2 2++(numB x 4 4++r),0,[0]) from nx_app (by rfl))
  have X3 := Lib.hid (show nx (numB (C : Int) 2 2++(numB x 4 4++r)) 0 2 true = (numB x 4 4++r,0,numB (C : Int) 2 2) from nx_app (by rw [numB_len]; rfl))
  have X4 := Lib.hid (show nx (numB x 4 4++r) 0 4 true = (r,0,numB x 4 4) from nx_app (by rw [numB_len]; rfl))
  have HX := Lib.hid (show beVal (numB x 4 4) = x from be4 hx0 (by omega))
  have H := Lib.hid h
  have HB := Lib.hid hb
  have HL := Lib.hid hl
  have HC := Lib.hid (show (C : Int) = beVal (numB (C : Int) 2 2) from (be2 (by omega) (by omega)).symm)
  have HA1 := Lib.hid (show beVal [kind] = kind by simp [beVal])
  have HA2 := Lib.hid (show beVal [0] = 0 from rfl)
  have hw32 : IntKind.u32.wrap x = x := by rw [show IntKind.u32.wrap x = x % 4294967296 from rfl]; omega
  clear h hb hl he he2 hn hlen
  go_enter Tryz.func166,Tryz.ntmps166
  go_wp2_with (first
    | (go_at_call 148; have Kc := rhead_yes (kind := kind) H.out hB HB.out HL.out hk0 hk1 X1.out X2.out X3.out HA1.out HA2.out HC.out hC; ((with_reducible refine Kc.mono ?_); clear Kc; rintro r w3 ⟨g,rfl,hs⟩); have HR3 := Lib.hid hs; clear hs)
    | (go_at_call 149; have Kc := HR3.out.num 4 (by decide) (by decide) X4.out; rw [HX.out] at Kc; ((with_reducible refine Kc.mono ?_); clear Kc; rintro r w4 ⟨rfl,hs,hg⟩); have HR4 := Lib.hid hs; clear hs hg))
  (try simp only [Exit.inBlock,Exit.then])
  refine bodyPost_ret (results_tmp4 rfl _ _ _) rfl ?_
  exact ⟨g,rfl,HR4.out⟩
set_option maxHeartbeats 2000000 in
theorem rlinked_no (h : Seq B w (.slice ao n c0) b) (hB : B≤w.heap.size) (hb : Byt b) (hl : b.length≤140737488355328) (hk0 : 0≤kind) (hk1 : kind≤255) (hno : ∀ (C : Nat) (x : Int) (r : List Int),C≤65535→0≤x→x≤4294967295→b≠hdK kind C x++r) :
    Calls Tryz.prog 166 #[.int .u8 kind,.slice ao n c0] w fun e w' => NoLinked w w' e := by
  obtain ⟨b1,e1,o1,x1⟩ : ∃ a b' d,nx b 0 1 true = (a,b',d) := ⟨_,_,_,rfl⟩
  obtain ⟨b2,e2,o2,x2⟩ : ∃ a b' d,nx b1 e1 1 true = (a,b',d) := ⟨_,_,_,rfl⟩
  obtain ⟨b3,e3,o3,x3⟩ : ∃ a b' d,nx b2 e2 2 true = (a,b',d) := ⟨_,_,_,rfl⟩
  have hn : n = b.length := by obtain ⟨_,_,hv,_⟩ := h; injection hv
  have hn9 : n≤140737488355328 := by omega
  have H := Lib.hid h
  have HB := Lib.hid hb
  have HL := Lib.hid hl
  have X1 := Lib.hid x1
  have X2 := Lib.hid x2
  by_cases hh : e3 = 0∧beVal o1 = kind∧beVal o2 = 0
  · obtain ⟨he,h1,h2⟩ := hh
    subst he
    obtain ⟨c1,bo1,_,_⟩ := nx_both x1 hb
    obtain ⟨c2,bo2,_,_⟩ := nx_both x2 c1
    obtain ⟨c3,bo3,_,_⟩ := nx_both x3 c2
    obtain ⟨r2,p2,l3⟩ := nx_ok x3 (by decide)
    subst r2
    obtain ⟨r1,p1,l2⟩ := nx_ok x2 (by decide)
    subst r1
    obtain ⟨_,p0,l1⟩ := nx_ok x1 (by decide)
    have q1 := num1 bo1 (by omega)
    have q2 := num1 bo2 (by omega)
    have q3 := num2 bo3 (by omega)
    have hC0 := (beVal_bound o3 bo3).1
    have hC1 := beVal_lt o3 bo3 2 (by omega)
    obtain ⟨C,hC⟩ : ∃ x : Nat,(x : Int) = beVal o3 := ⟨(beVal o3).toNat,by omega⟩
    rw [h1,numB1] at q1
    rw [h2,numB1] at q2
    rw [← hC] at q3
    have hbb : b = [kind]++([0]++(numB (C : Int) 2 2++b3)) := by rw [p0,p1,p2,← q1,← q2,q3,show kind % 256 = kind by omega]; rfl
    have hsh : b.length < 8 := by
      rcases Nat.lt_or_ge b.length 8 with k | k
      · exact k
      · exfalso
        have hb3 : 4≤b3.length := by rw [hbb] at k; simp [numB_len] at k; omega
        have ho4 : Byt (b3.take 4) := fun y hy => c3 y (List.mem_of_mem_take hy)
        have hl4 : (b3.take 4).length = 4 := by rw [List.length_take]; omega
        have hv := beVal_bound _ ho4
        have hv2 := beVal_lt _ ho4 4 (by omega)
        refine hno C (beVal (b3.take 4)) (b3.drop 4) (by omega) hv.1 (by omega) ?_
        rw [hdK_read hk0 hk1,num4 ho4 hl4,List.take_append_drop]
        exact hbb
    have hn8 : (n : Int) < 8 := by omega
    have X3 := Lib.hid x3
    have HA1 := Lib.hid h1
    have HA2 := Lib.hid h2
    have HC := Lib.hid hC
    have hCl : C≤65535 := by omega
    clear h hb hl x1 x2 x3 h1 h2 hno hn c1 c2 c3 bo1 bo2 bo3 p0 p1 p2 l1 l2 l3 q1 q2 q3 hC0 hC1 hC hbb hsh
    go_enter Tryz.func166,Tryz.ntmps166
    go_wp2_with (go_at_call 148; have Kc := rhead_yes (kind := kind) H.out hB HB.out HL.out hk0 hk1 X1.out X2.out X3.out HA1.out HA2.out HC.out hCl; ((with_reducible refine Kc.mono ?_); clear Kc; rintro r w3 ⟨g,rfl,hs⟩); have HR3 := Lib.hid hs; clear hs)
    (try simp only [Exit.inBlock,Exit.then])
    refine bodyPost_ret (results_tmp4 rfl _ _ _) rfl ?_
    exact ⟨rfl,HR3.out.gr⟩
  · have X3 := Lib.hid x3
    have HH := Lib.hid hh
    clear h hb hl x1 x2 x3 hno hn hh
    go_enter Tryz.func166,Tryz.ntmps166
    go_wp2_with (go_at_call 148; have Kc := rhead_no (kind := kind) H.out hB HB.out HL.out hk0 hk1 X1.out X2.out X3.out HH.out; ((with_reducible refine Kc.mono ?_); clear Kc; rintro r w3 ⟨rfl,hs⟩); have HR3 := Lib.hid hs; clear hs)
    (try simp only [Exit.inBlock,Exit.then])
    refine bodyPost_ret (results_tmp4 rfl _ _ _) rfl ?_
    exact ⟨rfl,HR3.out⟩
end
end Go.Proofs.YtnnmpaenainogaaGreat

namespace Go.Proofs.YtnnmpaenainogaaGreat
open Go.RowKit
abbrev Pr := Nat × Nat
def PrOk (p : Pr) : Prop := p.1 < 18446744073709551616∧p.2 < 4294967296
theorem emod_step (Y P : Int) (hP : 0 < P) : Y / 256 % P * 256 + Y % 256 = Y % (P * 256) := by
  obtain ⟨q,hq⟩ : ∃ q,q = Y / 256 := ⟨_,rfl⟩
  obtain ⟨s,hs⟩ : ∃ s,s = q / P := ⟨_,rfl⟩
  obtain ⟨t,ht⟩ : ∃ t,t = q % P := ⟨_,rfl⟩
  have e1 : P * s + t = q := by rw [hs,ht]; exact Int.mul_ediv_add_emod q P
  have t0 : 0≤t := by rw [ht]; exact Int.emod_nonneg _ (by omega)
  have t1 : t < P := by rw [ht]; exact Int.emod_lt_of_pos _ hP
  rw [← hq,← ht]
  have e2 : Y = (t * 256 + Y % 256) + (P * 256) * s := by
    have : (P * 256) * s = 256 * (P * s) := by rw [Int.mul_comm P 256,Int.mul_assoc]
    rw [this]
    omega
  have h256 : 0≤Y % 256∧Y % 256 < 256 := by omega
  generalize Y % 256 = r at e2 h256 ⊢
  rw [e2,Int.add_mul_emod_self_left,Int.emod_eq_of_lt (by omega) (by omega)]
theorem pow256_pos (k : Nat) : (0 : Int) < 256 ^ k := (pow256_mono k 0).1
theorem fbe_num (X : Int) (n : Nat) : ∀ k,k≤n→beVal (numB X n k) = X / 256 ^ (n - k) % 256 ^ k
  | 0,_ => by simp [numB,beVal,Int.emod_one]
  | k + 1,h => by
    rw [numB_snoc,beVal_snoc,fbe_num X n k (by omega)]
    have e : n - k = (n - 1 - k) + 1 := by omega
    have e3 : n - (k + 1) = n - 1 - k := by omega
    rw [e,e3,Int.pow_succ,← Int.ediv_ediv_of_nonneg (Int.le_of_lt (pow256_pos _)),Int.pow_succ]
    exact emod_step _ _ (pow256_pos k)
theorem be_all {X : Int} {n : Nat} (h0 : 0≤X) (h1 : X < 256 ^ n) : beVal (numB X n n) = X := by
  rw [fbe_num X n n (Nat.le_refl _),Nat.sub_self,Int.pow_zero,Int.ediv_one,Int.emod_eq_of_lt h0 h1]
theorem num_shift (a c : Int) (h0 : 0≤c) (h1 : c≤255) (n k : Nat) (hk : k≤n) : numB (a * 256 + c) (n + 1) k = numB a n k := by
  unfold numB
  refine List.map_congr_left fun i hi => ?_
  have hi : i < k := by simpa using hi
  have e : n + 1 - 1 - i = (n - 1 - i) + 1 := by omega
  rw [e,Int.pow_succ,Int.mul_comm (256 ^ (n - 1 - i)) 256,← Int.ediv_ediv_of_nonneg (by decide),show (a * 256 + c) / 256 = a by omega]
theorem fnum_be {o : List Int} (hb : Byt o) : ∀ {n : Nat},o.length = n→numB (beVal o) n n = o := by
  intro n hn
  induction n generalizing o with
  | zero => rw [List.eq_nil_of_length_eq_zero hn]; rfl
  | succ n ih =>
    obtain ⟨l,c,rfl⟩ : ∃ l c,o = l++[c] := ⟨o.dropLast,o.getLast (by rintro rfl; simp at hn),(List.dropLast_concat_getLast _).symm⟩
    have hc := hb c (by simp)
    have hl : l.length = n := by simp at hn; omega
    rw [beVal_snoc,numB_snoc,num_shift _ _ hc.1 hc.2 n n (Nat.le_refl _),ih (fun x hx => hb x (by simp [hx])) hl]
    have e : n + 1 - 1 - n = 0 := by omega
    rw [e,Int.pow_zero,Int.ediv_one,show (beVal l * 256 + c) % 256 = c by omega]
def prB (p : Pr) : List Int := numB (p.1 : Int) 8 8++numB (p.2 : Int) 4 4
theorem prB_len (p : Pr) : (prB p).length = 12 := by simp [prB,numB_len]
def prsB (l : List Pr) : List Int := l.flatMap prB
theorem prsB_len : ∀ l : List Pr,(prsB l).length = 12 * l.length
  | [] => rfl
  | p :: l => by
    have := prsB_len l
    unfold prsB at this ⊢
    rw [List.flatMap_cons,List.length_append,prB_len,this,List.length_cons]; omega
theorem prsB_cons (p : Pr) (l : List Pr) : prsB (p :: l) = prB p++prsB l := rfl
theorem prsB_snoc (l : List Pr) (p : Pr) : prsB (l++[p]) = prsB l++prB p := by simp [prsB,List.flatMap_append]
theorem prB_byt (p : Pr) : Byt (prB p) := (numB_byt _ _ _).app (numB_byt _ _ _)
theorem prsB_byt : ∀ l : List Pr,Byt (prsB l)
  | [] => fun x hx => by cases hx
  | p :: l => (prB_byt p).app (prsB_byt l)
theorem pw8 : (256 : Int) ^ 8 = 18446744073709551616 := by decide
theorem pw4 : (256 : Int) ^ 4 = 4294967296 := by decide
theorem be8 {n : Nat} (h : n < 18446744073709551616) : beVal (numB (n : Int) 8 8) = (n : Int) := be_all (by omega) (by rw [pw8]; omega)
theorem be4n {n : Nat} (h : n < 4294967296) : beVal (numB (n : Int) 4 4) = (n : Int) := be_all (by omega) (by rw [pw4]; omega)
theorem prB_inj {p q : Pr} (hp : PrOk p) (hq : PrOk q) (h : prB p = prB q) : p = q := by
  obtain ⟨h1,h2⟩ := List.append_inj h (by rw [numB_len,numB_len])
  have e1 := congrArg beVal h1
  have e2 := congrArg beVal h2
  rw [be8 hp.1,be8 hq.1] at e1
  rw [be4n hp.2,be4n hq.2] at e2
  exact Prod.ext (by omega) (by omega)
theorem prsB_inj : ∀ {l m : List Pr},l.length = m.length→(∀ p∈l,PrOk p)→(∀ p∈m,PrOk p)→prsB l = prsB m→l = m
  | [],[],_,_,_,_ => rfl
  | [],_ :: _,h,_,_,_ => by simp at h
  | _ :: _,[],h,_,_,_ => by simp at h
  | p :: l,q :: m,h,hl,hm,e => by
    rw [prsB_cons,prsB_cons] at e
    obtain ⟨h1,h2⟩ := List.append_inj e (by rw [prB_len,prB_len])
    rw [prB_inj (hl p (by simp)) (hm q (by simp)) h1,prsB_inj (by simpa using h) (fun x hx => hl x (by simp [hx])) (fun x hx => hm x (by simp [hx])) h2]
theorem prs_of : ∀ (n : Nat) {bs : List Int},Byt bs→12 * n≤bs.length→∃ ps : List Pr,ps.length = n∧(∀ p∈ps,PrOk p)∧bs = prsB ps++bs.drop (12 * n)
  | 0,bs,_,_ => ⟨[],rfl,(fun p hp => by cases hp),by simp [prsB]⟩
  | n + 1,bs,hb,hl => by
    obtain ⟨ps,h1,h2,h3⟩ := prs_of n (bs := bs.drop 12) (hb.drop 12) (by rw [List.length_drop]; omega)
    have b1 : Byt (bs.take 8) := hb.take 8
    have b2 : Byt ((bs.drop 8).take 4) := (hb.drop 8).take 4
    have l1 : (bs.take 8).length = 8 := by rw [List.length_take]; omega
    have l2 : ((bs.drop 8).take 4).length = 4 := by rw [List.length_take,List.length_drop]; omega
    have v1 := beVal_bound _ b1
    have v2 := beVal_bound _ b2
    rw [l1,pw8] at v1
    rw [l2,pw4] at v2
    obtain ⟨a,ha⟩ := Int.eq_ofNat_of_zero_le v1.1
    obtain ⟨c,hc⟩ := Int.eq_ofNat_of_zero_le v2.1
    have n1 := fnum_be b1 l1
    have n2 := fnum_be b2 l2
    rw [ha] at n1 v1
    rw [hc] at n2 v2
    refine ⟨(a,c) :: ps,by simp [h1],fun p hp => ?_,?_⟩
    · rcases List.mem_cons.1 hp with rfl | hp
      · exact ⟨by show a < _; omega,by show c < _; omega⟩
      · exact h2 p hp
    · have e1 : bs.drop (12 * (n + 1)) = (bs.drop 12).drop (12 * n) := by rw [List.drop_drop]; congr 1; omega
      rw [prsB_cons,e1,List.append_assoc,← h3]
      show bs = (numB (a : Int) 8 8++numB (c : Int) 4 4)++bs.drop 12
      rw [n1,n2,List.append_assoc,show bs.drop 12 = (bs.drop 8).drop 4 by rw [List.drop_drop],List.take_append_drop,List.take_append_drop]
def lexP (a b : Pr) : Prop := a.1 < b.1∨a.1 = b.1∧a.2 < b.2
instance (a b : Pr) : Decidable (lexP a b) := by unfold lexP; infer_instance
def RiseTo (l : List Pr) (k : Nat) : Prop := ∀ j,j + 1 < k→lexP (l.getD j (0,0)) (l.getD (j + 1) (0,0))
def Rise (l : List Pr) : Prop := RiseTo l l.length
theorem riseTo_succ {l : List Pr} {k : Nat} (h : RiseTo l k) (h1 : 0 < k→lexP (l.getD (k - 1) (0,0)) (l.getD k (0,0))) : RiseTo l (k + 1) := fun j hj => by
  by_cases e : j + 1 < k
  · exact h j e
  · obtain rfl : k = j + 1 := by omega
    exact h1 (by omega)
theorem riseTo_one (l : List Pr) (k : Nat) (h : k≤1) : RiseTo l k := fun j hj => by omega
theorem rise_pair {l : List Pr} (h : l.Pairwise lexP) : Rise l := fun j hj => by
  rw [List.getD_eq_getElem?_getD,List.getD_eq_getElem?_getD,List.getElem?_eq_getElem (by omega : j < l.length),List.getElem?_eq_getElem hj]
  exact List.pairwise_iff_getElem.1 h j (j + 1) (by omega) hj (by omega)
def cmpP (a b : Pr) : Int := if a.1 < b.1 then -1 else if b.1 < a.1 then 1 else if a.2 < b.2 then -1 else if b.2 < a.2 then 1 else 0
theorem cmpP_neg (a b : Pr) : cmpP a b < 0↔lexP a b := by
  unfold cmpP lexP
  split
  · simp; omega
  · split
    · simp; omega
    · split
      · simp; omega
      · split
        · simp; omega
        · simp; omega
def roomI (S : Int) : Int := (S - 8) / 12
def RightF (l : List Pr) (S : Int) : Prop := 512≤S∧S≤4096∧(l.length : Int)≤roomI S∧Rise l
def frB (l : List Pr) (x : Int) (S : Nat) : List Int := hdK 4 l.length x++(prsB l++List.replicate (S - 8 - 12 * l.length) 0)
theorem room_fits {n : Nat} {S : Int} (h : (n : Int)≤roomI S) : 8 + 12 * (n : Int)≤S := by unfold roomI at h; omega
theorem frB_len {l : List Pr} {x : Int} {S : Nat} (h : 8 + 12 * l.length≤S) : (frB l x S).length = S := by
  simp only [frB,List.length_append,hdK_len,prsB_len,List.length_replicate]; omega
theorem frB_byt (l : List Pr) (x : Int) (S : Nat) : Byt (frB l x S) := (hdK_byt _ _ _).app ((prsB_byt l).app (fun y hy => by have := List.eq_of_mem_replicate hy; omega))
structure FLaid (b : List Int) (l : List Pr) (x : Int) : Prop where
  page : b = frB l x b.length
  right : RightF l (b.length : Int)
  ok : ∀ p∈l,PrOk p
  x0 : 0≤x
  x1 : x≤4294967295
theorem flaid_few {b : List Int} {l : List Pr} {x : Int} (h : FLaid b l x) : l.length≤65535∧8 + 12 * l.length≤b.length := by
  have h1 := room_fits h.right.2.2.1
  have := h.right.2.1
  omega
theorem flaid_at {b r : List Int} {l : List Pr} {C : Nat} {x y : Int} (hC : C≤65535) (hy0 : 0≤y) (hy1 : y≤4294967295) (e : b = hdK 4 C y++r) (h : FLaid b l x) :
    l.length = C∧x = y∧r = prsB l++List.replicate (b.length - 8 - 12 * l.length) 0 := by
  have h1 := h.page
  unfold frB at h1
  generalize b.length = n at h1 ⊢
  rw [e] at h1
  obtain ⟨e1,e2,e3⟩ := hdK_inj hC (flaid_few h).1 hy0 hy1 h.x0 h.x1 h1
  exact ⟨e1.symm,e2.symm,e3⟩
theorem flaid_uniq {b : List Int} {l m : List Pr} {x y : Int} (h : FLaid b l x) (k : FLaid b m y) : l = m∧x = y := by
  have e1 := h.page
  unfold frB at e1
  obtain ⟨e2,e3,e4⟩ := flaid_at (flaid_few h).1 h.x0 h.x1 e1 k
  obtain ⟨e5,_⟩ := List.append_inj e4 (by rw [prsB_len,prsB_len,e2])
  exact ⟨prsB_inj e2.symm h.ok k.ok e5,e3.symm⟩
theorem frB_laid {l : List Pr} {x : Int} {S : Nat} (hr : RightF l (S : Int)) (ho : ∀ p∈l,PrOk p) (h0 : 0≤x) (h1 : x≤4294967295) : FLaid (frB l x S) l x := by
  have hl : (frB l x S).length = S := frB_len (by have := room_fits hr.2.2.1; omega)
  exact ⟨by rw [hl],by rw [hl]; exact hr,ho,h0,h1⟩
end Go.Proofs.YtnnmpaenainogaaGreat

namespace Go.Proofs.YtnnmpaenainogaaGreat
open Go.RowKit
theorem snoc_ind {α : Type} {P : List α→Prop} (h0 : P []) (hs : ∀ l x,P l→P (l++[x])) : ∀ l,P l := fun l => by
  rw [← List.reverse_reverse l]
  generalize l.reverse = m
  induction m with
  | nil => exact h0
  | cons x m ih => rw [List.reverse_cons]; exact hs _ _ ih
def gath (rs : List Rc) (p : Pr) : List Rc :=
  match rs.getLast? with
  | some r => if r.1 = p.1 then rs.dropLast++[(r.1,r.2++[p.2])] else rs++[(p.1,[p.2])]
  | none => [(p.1,[p.2])]
def gatherL (l : List Pr) : List Rc := l.foldl gath []
theorem gatherL_snoc (l : List Pr) (p : Pr) : gatherL (l++[p]) = gath (gatherL l) p := by simp [gatherL]
theorem gatherL_app (l q : List Pr) : gatherL (l++q) = q.foldl gath (gatherL l) := by simp [gatherL]
theorem gath_last (rs : List Rc) (p : Pr) : ∃ r,(gath rs p).getLast? = some r∧r.1 = p.1 := by
  unfold gath
  cases h : rs.getLast? with
  | none => exact ⟨(p.1,[p.2]),by simp,rfl⟩
  | some r =>
    dsimp only
    split
    · rename_i e; exact ⟨(r.1,r.2++[p.2]),by simp,e⟩
    · exact ⟨(p.1,[p.2]),by simp,rfl⟩
theorem gatherL_last {l : List Pr} (h : l≠[]) : ∃ r,(gatherL l).getLast? = some r∧r.1 = (l.getLast h).1 := by
  obtain ⟨m,p,rfl⟩ : ∃ m p,l = m++[p] := ⟨l.dropLast,l.getLast h,(List.dropLast_concat_getLast h).symm⟩
  rw [gatherL_snoc]
  simpa using gath_last (gatherL m) p
theorem foldl_run {T : Nat} {rs : List Rc} (hr : ∀ r,rs.getLast? = some r→r.1≠T) : ∀ {q : List Pr},q≠[]→(∀ p∈q,p.1 = T)→q.foldl gath rs = rs++[(T,q.map (·.2))] := by
  intro q
  induction q using snoc_ind with
  | h0 => intro h; exact absurd rfl h
  | hs q p ih =>
    intro _ hq
    have hp : p.1 = T := hq p (by simp)
    rw [List.foldl_append,List.foldl_cons,List.foldl_nil]
    by_cases e : q = []
    · subst e
      simp only [List.foldl_nil,List.nil_append,List.map_cons,List.map_nil]
      unfold gath
      cases h : rs.getLast? with
      | none =>
        have : rs = [] := by simpa using h
        subst this
        simp [hp]
      | some r =>
        dsimp only
        rw [if_neg (by rw [hp]; exact hr r h),hp]
    · rw [ih e (fun x hx => hq x (by simp [hx]))]
      unfold gath
      simp [hp]
def recOf (ps : List Pr) (a e : Nat) : Rc := ((ps.getD a (0,0)).1,((ps.drop a).take (e - a)).map (·.2))
structure RunAt (ps : List Pr) (a e : Nat) : Prop where
  lt : a < e
  le : e≤ps.length
  same : ∀ j,a≤j→j < e→(ps.getD j (0,0)).1 = (ps.getD a (0,0)).1
  ahead : 0 < a→(ps.getD a (0,0)).1≠(ps.getD (a - 1) (0,0)).1
theorem gather_run {ps : List Pr} {a e : Nat} (h : RunAt ps a e) : gatherL (ps.take e) = gatherL (ps.take a)++[recOf ps a e] := by
  have hlt := h.lt
  have hle := h.le
  have e1 : ps.take e = ps.take a++(ps.drop a).take (e - a) := by
    rw [← List.take_add,show a + (e - a) = e by omega]
  rw [e1,gatherL_app]
  have hql : ((ps.drop a).take (e - a)).length = e - a := by rw [List.length_take,List.length_drop]; omega
  refine foldl_run (T := (ps.getD a (0,0)).1) (fun r hr => ?_) (fun e => by rw [e] at hql; simp at hql; omega) (fun p hp => ?_)
  · by_cases ha : 0 < a
    · have hne : ps.take a≠[] := by
        intro e
        have h0 : (ps.take a).length = 0 := by rw [e]; rfl
        rw [List.length_take] at h0
        omega
      obtain ⟨r',h1,h2⟩ := gatherL_last hne
      rw [hr] at h1
      injection h1 with h1
      subst h1
      rw [h2]
      have : (ps.take a).getLast hne = ps.getD (a - 1) (0,0) := by
        rw [List.getLast_eq_getElem,List.getD_eq_getElem?_getD,List.getElem?_eq_getElem (by omega)]
        simp [List.length_take,Nat.min_eq_left (show a≤ps.length by omega)]
      rw [this]
      exact (h.ahead ha).symm
    · have : a = 0 := by omega
      subst this
      simp [gatherL] at hr
  · obtain ⟨i,hi⟩ := List.mem_iff_getElem?.1 hp
    have hil := (List.getElem?_eq_some_iff.1 hi).1
    rw [hql] at hil
    rw [List.getElem?_take,if_pos hil,List.getElem?_drop] at hi
    have := h.same (a + i) (by omega) (by omega)
    rw [List.getD_eq_getElem?_getD,hi] at this
    exact this
def pairsOf (r : Rc) : List Pr := r.2.map fun p => (r.1,p)
def flatR (rs : List Rc) : List Pr := rs.flatMap pairsOf
theorem flatR_snoc (rs : List Rc) (r : Rc) : flatR (rs++[r]) = flatR rs++pairsOf r := by simp [flatR,List.flatMap_append]
theorem gather_flat {stop : Nat} {rs : List Rc} (h : Okr stop rs) : gatherL (flatR rs) = rs := by
  induction rs using snoc_ind with
  | h0 => rfl
  | hs rs r ih =>
    have hp := List.pairwise_append.1 h.txns
    have hr := h.each r (by simp)
    have ha := List.pairwise_append.1 h.apart
    rw [flatR_snoc,gatherL_app,ih ⟨hp.1,fun x hx => h.each x (by simp [hx]),ha.1⟩]
    rw [foldl_run (T := r.1) (fun x hx => ?_) (fun e => hr.2.2 (by simpa [pairsOf] using e)) (fun p hp => ?_)]
    · simp [pairsOf,Function.comp_def]
    · have hm : x∈rs := List.mem_of_getLast? hx
      have := hp.2.2 x hm r (by simp)
      omega
    · obtain ⟨y,_,rfl⟩ := List.mem_map.1 hp
      rfl
theorem flatR_rise {stop : Nat} {rs : List Rc} (h : Okr stop rs) : (flatR rs).Pairwise lexP := by
  induction rs using snoc_ind with
  | h0 => exact List.Pairwise.nil
  | hs rs r ih =>
    have hp := List.pairwise_append.1 h.txns
    have hr := h.each r (by simp)
    have ha := List.pairwise_append.1 h.apart
    rw [flatR_snoc]
    refine List.pairwise_append.2 ⟨ih ⟨hp.1,fun x hx => h.each x (by simp [hx]),ha.1⟩,?_,fun a ha b hb => ?_⟩
    · refine List.pairwise_map.2 (hr.1.imp fun hab => .inr ⟨rfl,hab⟩)
    · obtain ⟨x,hx,hxa⟩ := List.mem_flatMap.1 ha
      obtain ⟨y,_,rfl⟩ := List.mem_map.1 hxa
      obtain ⟨z,_,rfl⟩ := List.mem_map.1 hb
      exact .inl (hp.2.2 x hx r (by simp))
theorem flatR_ok {rs : List Rc} (h : ∀ r∈rs,r.1 < 18446744073709551616∧∀ p∈r.2,p < 4294967296) : ∀ p∈flatR rs,PrOk p := fun p hp => by
  obtain ⟨r,hr,hpr⟩ := List.mem_flatMap.1 hp
  obtain ⟨y,hy,rfl⟩ := List.mem_map.1 hpr
  exact ⟨(h r hr).1,(h r hr).2 y hy⟩
end Go.Proofs.YtnnmpaenainogaaGreat
