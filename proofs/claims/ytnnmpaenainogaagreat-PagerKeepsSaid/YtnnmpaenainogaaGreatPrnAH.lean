/-
  Layer 7, plain: a meta, its page, what a page's bytes tell, which of two pages is chosen. Own work; of no program.
-/
import Derived.Test.YtnnmpaenainogaaGreatPrnAC
import Derived.Test.YtnnmpaenainogaaGreatPrnAG

set_option linter.unusedVariables false
set_option linter.unusedSimpArgs false
namespace Go.Proofs.YtnnmpaenainogaaGreat
open Go.RowKit
structure Mt where
  t : Nat
  e : Nat
  m : Nat
  f : Nat
structure MtOk (M : Mt) : Prop where
  t : M.t < 18446744073709551616
  e : M.e < 4294967296
  m : M.m < 4294967296
  f : M.f < 4294967296
def mt0 : Mt := ⟨0,0,0,0⟩
theorem mt0_ok : MtOk mt0 := ⟨by decide,by decide,by decide,by decide⟩
theorem Mt.ext' {a b : Mt} (h1 : a.t = b.t) (h2 : a.e = b.e) (h3 : a.m = b.m) (h4 : a.f = b.f) : a = b := by
  cases a; cases b; simp at h1 h2 h3 h4; subst h1 h2 h3 h4; rfl
def rpg (p e : Nat) : Bool := decide (p = 0) || (decide (2≤p) && decide (p < e))
def mright (M : Mt) : Bool := decide (1≤M.t) && (decide (2≤M.e) && (rpg M.m M.e && rpg M.f M.e))
theorem mright_t {M : Mt} (h : mright M = true) : 1≤M.t := by
  unfold mright at h; simp at h; exact h.1
def RUB : List Int := [82,85,66,49]
theorem rub_byt : Byt RUB := fun x hx => by simp [RUB] at hx; omega
def told (M : Mt) (size : Nat) : List Int := RUB++(numB (size : Int) 4 4++(numB (M.t : Int) 8 8++(numB (M.e : Int) 4 4++(numB (M.m : Int) 4 4++numB (M.f : Int) 4 4))))
def mpage (M : Mt) (size : Nat) : List Int := told M size++(numB ((crcN (told M size) : Nat) : Int) 4 4++List.replicate (size - 32) 0)
theorem told_len (M : Mt) (size : Nat) : (told M size).length = 28 := by simp [told,numB_len,RUB]
theorem told_byt (M : Mt) (size : Nat) : Byt (told M size) :=
  rub_byt.app ((numB_byt _ _ _).app ((numB_byt _ _ _).app ((numB_byt _ _ _).app ((numB_byt _ _ _).app (numB_byt _ _ _)))))
theorem mpage_len {M : Mt} {size : Nat} (h : 32≤size) : (mpage M size).length = size := by
  simp [mpage,told_len,numB_len]; omega
theorem mpage_byt (M : Mt) (size : Nat) : Byt (mpage M size) := (told_byt M size).app ((numB_byt _ _ _).app (rep_byt _))
def fld (b : List Int) (a k : Nat) : Int := beVal ((b.drop a).take k)
theorem fld_bound {b : List Int} (hb : Byt b) (a k : Nat) : 0≤fld b a k∧fld b a k < 256 ^ k :=
  ⟨(beVal_bound _ ((hb.drop a).take k)).1,beVal_lt _ ((hb.drop a).take k) k (by rw [List.length_take]; omega)⟩
theorem fld4 {b : List Int} (hb : Byt b) (a : Nat) : 0≤fld b a 4∧fld b a 4 < 4294967296 := by simpa using fld_bound hb a 4
theorem fld8 {b : List Int} (hb : Byt b) (a : Nat) : 0≤fld b a 8∧fld b a 8 < 18446744073709551616 := by simpa using fld_bound hb a 8
def mtOf (b : List Int) : Mt := ⟨(fld b 8 8).toNat,(fld b 16 4).toNat,(fld b 20 4).toNat,(fld b 24 4).toNat⟩
theorem mtOf_ok {b : List Int} (hb : Byt b) : MtOk (mtOf b) := by
  have h8 := fld8 hb 8
  have h1 := fld4 hb 16
  have h2 := fld4 hb 20
  have h3 := fld4 hb 24
  exact ⟨by simp only [mtOf]; omega,by simp only [mtOf]; omega,by simp only [mtOf]; omega,by simp only [mtOf]; omega⟩
def mgetE (b : List Int) : Int :=
  if ¬ (512≤b.length∧b.length≤4096) then 11 else if allZ (b.drop 32) = false then 11 else if b.take 4≠RUB then 11 else if fld b 4 4≠(b.length : Int) then 11
  else if fld b 28 4≠((crcN (b.take 28) : Nat) : Int) then 14 else if mright (mtOf b) = false then 11 else 0
def mgetM (b : List Int) : Mt := if mgetE b = 0 then mtOf b else mt0
theorem mget_len {b : List Int} (h : ¬ (512≤b.length∧b.length≤4096)) : mgetE b = 11 := by unfold mgetE; rw [if_pos h]
theorem mget_nz {b : List Int} (h0 : allZ (b.drop 32) = false) : mgetE b = 11 := by
  unfold mgetE; repeat' split
  all_goals first | rfl | contradiction
theorem mget_mark {b : List Int} (h : b.take 4≠RUB) : mgetE b = 11 := by
  unfold mgetE; repeat' split
  all_goals first | rfl | contradiction
theorem mget_size {b : List Int} (h : fld b 4 4≠(b.length : Int)) : mgetE b = 11 := by
  unfold mgetE; repeat' split
  all_goals first | rfl | contradiction
theorem mget_sum {b : List Int} (h1 : 512≤b.length∧b.length≤4096) (h2 : allZ (b.drop 32) = true) (h3 : b.take 4 = RUB) (h4 : fld b 4 4 = (b.length : Int)) (h5 : fld b 28 4≠((crcN (b.take 28) : Nat) : Int)) : mgetE b = 14 := by
  unfold mgetE; rw [if_neg (fun h => h h1),if_neg (by simp [h2]),if_neg (fun h => h h3),if_neg (fun h => h h4),if_pos h5]
theorem mget_wrong {b : List Int} (h1 : 512≤b.length∧b.length≤4096) (h2 : allZ (b.drop 32) = true) (h3 : b.take 4 = RUB) (h4 : fld b 4 4 = (b.length : Int)) (h5 : fld b 28 4 = ((crcN (b.take 28) : Nat) : Int)) (h6 : mright (mtOf b) = false) : mgetE b = 11 := by
  unfold mgetE; rw [if_neg (fun h => h h1),if_neg (by simp [h2]),if_neg (fun h => h h3),if_neg (fun h => h h4),if_neg (fun h => h h5),if_pos h6]
theorem mget_ok {b : List Int} (h1 : 512≤b.length∧b.length≤4096) (h2 : allZ (b.drop 32) = true) (h3 : b.take 4 = RUB) (h4 : fld b 4 4 = (b.length : Int)) (h5 : fld b 28 4 = ((crcN (b.take 28) : Nat) : Int)) (h6 : mright (mtOf b) = true) : mgetE b = 0 := by
  unfold mgetE; rw [if_neg (fun h => h h1),if_neg (by simp [h2]),if_neg (fun h => h h3),if_neg (fun h => h h4),if_neg (fun h => h h5),if_neg (by simp [h6])]
structure Told (b : List Int) : Prop where
  lo : 512≤b.length
  hi : b.length≤4096
  nought : allZ (b.drop 32) = true
  mark : b.take 4 = RUB
  size : fld b 4 4 = (b.length : Int)
  sum : fld b 28 4 = ((crcN (b.take 28) : Nat) : Int)
  right : mright (mtOf b) = true
theorem mget_told {b : List Int} (h : mgetE b = 0) : Told b := by
  unfold mgetE at h
  split at h
  · cases h
  split at h
  · cases h
  split at h
  · cases h
  split at h
  · cases h
  split at h
  · cases h
  split at h
  · cases h
  rename_i h1 h2 h3 h4 h5 h6
  have h1 := Classical.not_not.1 h1
  exact ⟨h1.1,h1.2,by simpa using h2,Classical.not_not.1 h3,Classical.not_not.1 h4,Classical.not_not.1 h5,by simpa using h6⟩
theorem mgetM_no {b : List Int} (h : mgetE b≠0) : mgetM b = mt0 := by unfold mgetM; rw [if_neg h]
theorem mgetM_yes {b : List Int} (h : mgetE b = 0) : mgetM b = mtOf b := by unfold mgetM; rw [if_pos h]
theorem mgetM_ok {b : List Int} (hb : Byt b) : MtOk (mgetM b) := by
  unfold mgetM; split
  · exact mtOf_ok hb
  · exact mt0_ok
theorem mgetM_t {b : List Int} (h : mgetE b = 0) : 1≤(mgetM b).t := by rw [mgetM_yes h]; exact mright_t (mget_told h).right
theorem numB_succ (x : Int) (n : Nat) (h0 : 0≤x) : numB x (n + 1) (n + 1) = numB (x / 256) n n++[x % 256] := by
  unfold numB
  rw [List.range_succ,List.map_append]
  congr 1
  · refine List.map_congr_left fun i hi => ?_
    have hi : i < n := by simpa using hi
    have e : n + 1 - 1 - i = (n - 1 - i) + 1 := by omega
    rw [e,Int.pow_succ,Int.mul_comm,Int.ediv_ediv_of_nonneg (by omega)]
  · simp
theorem be_num : ∀ (n : Nat) (x : Int),0≤x→x < 256 ^ n→beVal (numB x n n) = x
  | 0,x,h0,h1 => by simp at h1; simp [numB,beVal]; omega
  | n + 1,x,h0,h1 => by
    rw [numB_succ x n h0,beVal_snoc,be_num n (x / 256) (by omega) (by rw [Int.pow_succ] at h1; omega)]
    omega
theorem cut_mid (a b c : List Int) (i j : Nat) (hi : i = a.length) (hj : j = b.length) : ((a++(b++c)).drop i).take j = b := by
  subst hi hj
  rw [List.drop_left,List.take_left]
theorem page_take28 (M : Mt) (size : Nat) : (mpage M size).take 28 = told M size := by
  unfold mpage
  rw [← told_len M size,List.take_left]
theorem page_drop32 (M : Mt) (size : Nat) : (mpage M size).drop 32 = List.replicate (size - 32) 0 := by
  unfold mpage
  rw [← List.append_assoc]
  exact List.drop_left' (by simp [told_len,numB_len])
theorem page_rub (M : Mt) (size : Nat) : (mpage M size).take 4 = RUB := by
  unfold mpage told
  rw [List.append_assoc]
  exact List.take_left' rfl
theorem page_size (M : Mt) (size : Nat) (h : size < 4294967296) : fld (mpage M size) 4 4 = (size : Int) := by
  unfold mpage told fld
  simp only [List.append_assoc]
  rw [cut_mid RUB (numB (size : Int) 4 4) _ 4 4 rfl (by rw [numB_len]),be4 (by omega) (by omega)]
theorem page_t (M : Mt) (size : Nat) (h : MtOk M) : fld (mpage M size) 8 8 = (M.t : Int) := by
  unfold mpage told fld
  simp only [List.append_assoc]
  rw [← List.append_assoc RUB,cut_mid _ (numB (M.t : Int) 8 8) _ 8 8 (by simp [numB_len,RUB]) (by rw [numB_len]),be_num 8 _ (by omega) (by have := h.t; simp; omega)]
theorem page_e (M : Mt) (size : Nat) (h : MtOk M) : fld (mpage M size) 16 4 = (M.e : Int) := by
  unfold mpage told fld
  simp only [List.append_assoc]
  rw [← List.append_assoc RUB,← List.append_assoc (RUB++_),cut_mid _ (numB (M.e : Int) 4 4) _ 16 4 (by simp [numB_len,RUB]) (by rw [numB_len]),be4 (by omega) (by have := h.e; omega)]
theorem page_m (M : Mt) (size : Nat) (h : MtOk M) : fld (mpage M size) 20 4 = (M.m : Int) := by
  unfold mpage told fld
  simp only [List.append_assoc]
  rw [← List.append_assoc RUB,← List.append_assoc (RUB++_),← List.append_assoc (_++_++_),cut_mid _ (numB (M.m : Int) 4 4) _ 20 4 (by simp [numB_len,RUB]) (by rw [numB_len]),be4 (by omega) (by have := h.m; omega)]
theorem page_f (M : Mt) (size : Nat) (h : MtOk M) : fld (mpage M size) 24 4 = (M.f : Int) := by
  unfold mpage told fld
  simp only [List.append_assoc]
  rw [← List.append_assoc RUB,← List.append_assoc (RUB++_),← List.append_assoc (_++_++_),← List.append_assoc (_++_++_++_),cut_mid _ (numB (M.f : Int) 4 4) _ 24 4 (by simp [numB_len,RUB]) (by rw [numB_len]),be4 (by omega) (by have := h.f; omega)]
theorem page_sum (M : Mt) (size : Nat) : fld (mpage M size) 28 4 = ((crcN (told M size) : Nat) : Int) := by
  unfold mpage fld
  have := crcN_lt (l := told M size) (told_byt M size)
  rw [cut_mid _ (numB _ 4 4) _ 28 4 (told_len M size).symm (by rw [numB_len]),be4 (by omega) (by omega)]
theorem page_mt (M : Mt) (size : Nat) (h : MtOk M) : mtOf (mpage M size) = M := by
  unfold mtOf
  rw [page_t M size h,page_e M size h,page_m M size h,page_f M size h]
  exact Mt.ext' (by simp) (by simp) (by simp) (by simp)
theorem get_page {M : Mt} {size : Nat} (h : MtOk M) (hr : mright M = true) (h1 : 512≤size) (h2 : size≤4096) : mgetE (mpage M size) = 0∧mgetM (mpage M size) = M := by
  have hl := mpage_len (M := M) (size := size) (by omega)
  have h0 : mgetE (mpage M size) = 0 := mget_ok (by rw [hl]; exact ⟨h1,h2⟩) (by rw [page_drop32]; exact rep_allZ _) (page_rub M size) (by rw [hl]; exact page_size M size (by omega)) (by rw [page_take28,page_sum]) (by rw [page_mt M size h]; exact hr)
  exact ⟨h0,by rw [mgetM_yes h0,page_mt M size h]⟩
theorem page_drop128 (M : Mt) (size : Nat) : (mpage M size).drop 128 = List.replicate (size - 128) 0 := by
  have := congrArg (List.drop 96) (page_drop32 M size)
  rw [List.drop_drop,List.drop_replicate] at this
  rw [this,show size - 32 - 96 = size - 128 by omega]
def isOf (s : Nat) (b : List Int) : Bool := decide (mgetE b = 0) && decide ((mgetM b).t % 2 = s)
def firstM (a : List Int) : Mt := if isOf 0 a = true then mgetM a else mt0
def chM (a b : List Int) : Mt := if isOf 1 b = true∧(firstM a).t < (mgetM b).t then mgetM b else firstM a
def chE (a b : List Int) : Int := if (chM a b).t < 1 then 24 else 0
theorem isOf_t {s : Nat} {b : List Int} (h : isOf s b = true) : mgetE b = 0∧(mgetM b).t % 2 = s∧1≤(mgetM b).t := by
  unfold isOf at h
  simp at h
  exact ⟨h.1,h.2,mgetM_t h.1⟩
theorem firstM_ok {a : List Int} (h : Byt a) : MtOk (firstM a) := by
  unfold firstM; split
  · exact mgetM_ok h
  · exact mt0_ok
theorem chM_ok {a b : List Int} (ha : Byt a) (hb : Byt b) : MtOk (chM a b) := by
  unfold chM; split
  · exact mgetM_ok hb
  · exact firstM_ok ha
theorem firstM_0 {a : List Int} (h : (firstM a).t < 1) : firstM a = mt0∧isOf 0 a = false := by
  unfold firstM at h ⊢
  split at h
  · rename_i k; have := (isOf_t k).2.2; omega
  · rename_i k; rw [if_neg k]; exact ⟨rfl,by simpa using k⟩
theorem chM_0 {a b : List Int} (h : (chM a b).t < 1) : chM a b = mt0∧isOf 0 a = false∧isOf 1 b = false := by
  unfold chM at h ⊢
  split at h
  · rename_i k; have := (isOf_t k.1).2.2; omega
  · rename_i k
    have h1 := firstM_0 h
    rw [if_neg k]
    refine ⟨h1.1,h1.2,?_⟩
    cases e : isOf 1 b
    · rfl
    · exact absurd ⟨e,by have := (isOf_t e).2.2; omega⟩ k
end Go.Proofs.YtnnmpaenainogaaGreat

namespace Go.Proofs.YtnnmpaenainogaaGreat
open Go.RowKit
def mtC (M : Mt) : Array Value := #[.int .u64 (M.t : Int),.int .u32 (M.e : Int),.int .u32 (M.m : Int),.int .u32 (M.f : Int)]
set_option maxHeartbeats 400000 in
theorem rpage_any (p e : Nat) (w : World) :
    Calls Tryz.prog 82 #[.int .u32 (p : Int),.int .u32 (e : Int)] w fun r w' => r = .returned (.bool (rpg p e))∧w = w' := by
  by_cases h0 : p = 0
  · subst h0
    go_enter Tryz.func82,Tryz.ntmps82
    go_wp2
    go_ret
    exact ⟨by simp [rpg],rfl⟩
  · have h0i : ¬ (p : Int) = 0 := by omega
    by_cases h1 : 2≤p
    · have h1i : (2 : Int)≤(p : Int) := by omega
      go_enter Tryz.func82,Tryz.ntmps82
      go_wp2
      go_ret
      exact ⟨by simp [rpg,h0,h1],rfl⟩
    · have h1i : ¬ (2 : Int)≤(p : Int) := by omega
      go_enter Tryz.func82,Tryz.ntmps82
      go_wp2
      go_ret
      exact ⟨by simp [rpg,h0,h1],rfl⟩
set_option maxHeartbeats 400000 in
theorem mslot_any (t : Nat) (ht : t < 18446744073709551616) (w : World) :
    Calls Tryz.prog 32 #[.int .u64 (t : Int)] w fun r w' => r = .returned (.int .i64 ((t % 2 : Nat) : Int))∧w = w' := by
  go_enter Tryz.func32,Tryz.ntmps32
  go_wp2
  go_ret
  exact ⟨by simp,rfl⟩
set_option maxHeartbeats 1000000 in
theorem mright_any (M : Mt) (w : World) :
    Calls Tryz.prog 35 #[.agg (mtC M)] w fun r w' => r = .returned (.bool (mright M))∧w.grownBy w' none := by
  obtain ⟨t,e,m,f⟩ := M
  simp only [mtC,mright]
  by_cases h1 : 1≤t
  · have h1i : (1 : Int)≤(t : Int) := by omega
    by_cases h2 : 2≤e
    · have h2i : (2 : Int)≤(e : Int) := by omega
      cases h3 : rpg m e
      · go_enter Tryz.func35,Tryz.ntmps35
        go_wp2_with (go_at_call 82; refine (rpage_any _ _ _).mono ?_; rintro r w1 ⟨rfl,rfl⟩; rw [h3])
        go_ret
        exact ⟨by simp [h1,h2],World.grownBy_alloc _ _ _⟩
      · go_enter Tryz.func35,Tryz.ntmps35
        go_wp2_with (first
          | (go_at_call 82; with_reducible refine (rpage_any m e _).mono ?_; rintro r w1 ⟨rfl,rfl⟩; rw [h3])
          | (go_at_call 82; with_reducible refine (rpage_any f e _).mono ?_; rintro r w1 ⟨rfl,rfl⟩))
        go_ret
        exact ⟨by simp [h1,h2],World.grownBy_alloc _ _ _⟩
    · have h2i : ¬ (2 : Int)≤(e : Int) := by omega
      go_enter Tryz.func35,Tryz.ntmps35
      go_wp2
      go_ret
      exact ⟨by simp [h2],World.grownBy_alloc _ _ _⟩
  · have h1i : ¬ (1 : Int)≤(t : Int) := by omega
    go_enter Tryz.func35,Tryz.ntmps35
    go_wp2
    go_ret
    exact ⟨by simp [h1],World.grownBy_alloc _ _ _⟩
end Go.Proofs.YtnnmpaenainogaaGreat
