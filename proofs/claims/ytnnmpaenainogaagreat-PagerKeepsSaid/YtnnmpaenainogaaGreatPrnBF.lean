/-
  Layer 11: grow, writeMeta, firstMeta. Own work.
-/
import Derived.Test.YtnnmpaenainogaaGreatPrnAX
import Derived.Test.YtnnmpaenainogaaGreatPrnBC
import Derived.Test.YtnnmpaenainogaaGreatPrnBE
import Derived.Deep.RegionHeld3

set_option linter.unusedVariables false
set_option linter.unusedSimpArgs false
namespace Go.Proofs.YtnnmpaenainogaaGreat
open Go.RowKit Go.Maps
theorem cE_codes (f : Bool) (a : Int) : cE f a = 0∨cE f a = 20 := by unfold cE; split <;> simp
def jgrE (M : SM) (n : Nat) : Int := if n≤M.pg.length then 0 else if M.limit < n then 21 else cE M.fails M.ahead
def jgrM (M : SM) (n : Nat) : SM := if n≤M.pg.length∨M.limit < n then M else if cE M.fails M.ahead = 0 then growM (cntM M) (n - M.pg.length) M.once else cntM M
set_option maxHeartbeats 1000000 in
theorem jgrow_any {B d n : Nat} {w : World} {M : SM} (h : PD B w d M) (hF : Fine M) (hs : M.size≤4096) (hl : M.limit≤65536) (hn : n < 4294967296) :
    Calls Tryz.prog 162 #[.pointer (some ⟨d,0,none⟩),.int .u32 (n : Int)] w fun r w' => r = .returned (.int .i64 (jgrE M n))∧PD B w' d (jgrM M n)∧Dfr B w w' := by
  have hD := Lib.hid h
  have HL := Lib.hid (fun w' (k : PD B w' d M) => k.dlen)
  by_cases c1 : n≤M.pg.length
  · have e1 : jgrE M n = 0 := if_pos c1
    have e2 : jgrM M n = M := if_pos (.inl c1)
    rw [e1,e2]
    have HC := Lib.hid c1
    clear h e1 e2 c1 hF
    go_enter Tryz.func162,Tryz.ntmps162
    go_wp2_with (first
      | (go_at_call 38; ((with_reducible refine (HL.out _ hD.out).mono ?_)); rintro e w2 ⟨rfl,rfl⟩))
    go_ret
    exact ⟨rfl,hD.out,Dfr.refl _ _⟩
  · have c1' := Lib.hid c1
    have K : ∃ X,deE X = jgrE M n∧Calls Tryz.prog 207 #[.pointer (some ⟨d,0,none⟩),.int .i64 (n : Int)] w fun r w' => r = .returned (.int .i64 X)∧PD B w' d (jgrM M n)∧Dfr B w w' := by
      obtain ⟨o,h⟩ := h
      unfold jgrE jgrM
      rw [if_neg c1]
      by_cases c2 : M.limit < n
      · rw [if_pos c2,if_pos (.inr c2)]
        exact ⟨21,by decide,(DskAt.grow_full (n := (n : Int)) h (by show ¬ (n : Int) < (M.pg.length : Int); omega) (by show (M.limit : Int) < n; omega)).mono fun r w' ⟨e,e2⟩ => ⟨e,⟨o,e2 ▸ h⟩,e2 ▸ Dfr.refl _ _⟩⟩
      · rw [if_neg c2,if_neg (by omega)]
        rcases cE_codes M.fails M.ahead with e | e
        · rw [e,if_pos rfl]
          exact ⟨0,by decide,(DskAt.grow h hF (by show M.pg.length≤n; omega) (by show n≤M.limit; omega) hs hl e).mono fun r w' ⟨o',e1,e2,e3⟩ => ⟨e1,⟨o',e2⟩,e3⟩⟩
        · rw [e,if_neg (by decide)]
          exact ⟨20,by decide,(DskAt.grow_io (n := (n : Int)) h hF (by show ¬ (n : Int) < (M.pg.length : Int); omega) (by show ¬ (M.limit : Int) < n; omega) e).mono fun r w' ⟨e1,e2,e3⟩ => ⟨e1,⟨o,e2⟩,e3⟩⟩
    obtain ⟨X,hX,K⟩ := K
    have HK := Lib.hid K
    have HX := Lib.hid hX
    generalize jgrE M n = E at HX ⊢
    generalize jgrM M n = M2 at HK ⊢
    clear K hX h hF c1
    go_enter Tryz.func162,Tryz.ntmps162
    go_wp2_with (first
      | (go_at_call 38; ((with_reducible refine (HL.out _ hD.out).mono ?_)); rintro e w2 ⟨rfl,rfl⟩)
      | (go_at_call 207; ((with_reducible refine HK.out.mono ?_)); rintro e w2 ⟨rfl,hd,hf⟩; have HD2 := Lib.hid hd; have HF2 := Lib.hid hf; clear hd hf)
      | (go_at_call 60; ((with_reducible refine (diskError_as X E HX.out _).mono ?_)); rintro e w3 ⟨rfl,rfl⟩))
    go_ret
    exact ⟨rfl,HD2.out,HF2.out⟩
theorem jgrow_at {B d n : Nat} {w : World} {M : SM} (h : PD B w d M) (hF : Fine M) (hs : M.size≤4096) (hl : M.limit≤65536) (hn : n < 4294967296) (x : Int) (hx : x = (n : Int)) :
    Calls Tryz.prog 162 #[.pointer (some ⟨d,0,none⟩),.int .u32 x] w fun r w' => r = .returned (.int .i64 (jgrE M n))∧PD B w' d (jgrM M n)∧Dfr B w w' := hx ▸ jgrow_any h hF hs hl hn
def wrX (M : SM) (i : Nat) (b : List Int) : SM := if cE M.fails M.ahead = 0 then wrM M i b else cntM M
theorem PD.write {B b0 d i n : Nat} {w : World} {M : SM} {ba : Option Addr} {bc : Nat} {bs : List Int} (h : PD B w d M) (he : M.size = n) (hF : Fine M) (hi : i < M.pg.length) (hn : n≤4096) (hbs : Own8 b0 w n (.slice ba n bc) bs) (hl : M.loose.length≤100000) (x : Int) (hx : x = (i : Int)) :
    Calls Tryz.prog 179 #[.pointer (some ⟨d,0,none⟩),.int .i64 x,.slice ba n bc] w fun r w' => r = .returned (.int .i64 (cE M.fails M.ahead))∧PD B w' d (wrX M i bs)∧Dfr B w w' := by
  subst hx
  obtain ⟨o,h⟩ := h
  unfold wrX
  rcases cE_codes M.fails M.ahead with e | e
  · rw [e,if_pos rfl]
    exact (DskAt.writeN h he hF hi hn e hbs hl).mono fun r w' ⟨e1,e2,e3⟩ => ⟨e1,⟨o,e2⟩,e3⟩
  · rw [e,if_neg (by decide)]
    exact (DskAt.write_io (n := 0) (bn := n) h hF hi he.symm e).mono fun r w' ⟨e1,e2,e3⟩ => ⟨e1,⟨o,e2⟩,e3⟩
def syX (M : SM) : SM := if cE M.fails M.ahead = 0 then syncM M else cntM M
theorem PD.sync {B d : Nat} {w : World} {M : SM} (h : PD B w d M) (hF : Fine M) (hin : ∀ x∈M.loose,x.1 < M.pg.length) (hl : M.loose.length≤100000) (hpl : M.pg.length≤100000) :
    Calls Tryz.prog 59 #[.pointer (some ⟨d,0,none⟩)] w fun r w' => r = .returned (.int .i64 (cE M.fails M.ahead))∧PD B w' d (syX M)∧Dfr B w w' := by
  obtain ⟨o,h⟩ := h
  unfold syX
  rcases cE_codes M.fails M.ahead with e | e
  · rw [e,if_pos rfl]
    exact (DskAt.sync h hF e hin hl hpl).mono fun r w' ⟨e1,e2,e3⟩ => ⟨e1,⟨o,e2⟩,e3⟩
  · rw [e,if_neg (by decide)]
    exact (DskAt.sync_io h hF e).mono fun r w' ⟨e1,e2,e3⟩ => ⟨e1,⟨o,e2⟩,e3⟩
theorem deE_cE (M : SM) : deE (cE M.fails M.ahead) = cE M.fails M.ahead := by
  rcases cE_codes M.fails M.ahead with e | e <;> rw [e] <;> decide
def jwmM (M : SM) (m : Mt) : SM := wrX M (m.t % 2) (mpage m M.size)
set_option maxHeartbeats 4000000 in
theorem writeMeta_any {B d : Nat} {w : World} {M : SM} (h : PD B w d M) (hF : Fine M) (s1 : 512≤M.size) (s2 : M.size≤4096) (m : Mt) (hm : MtOk m) (hr : mright m = true) (hlen : m.t % 2 < M.pg.length) (hl : M.loose.length≤100000) :
    Calls Tryz.prog 121 #[.pointer (some ⟨d,0,none⟩),.agg (mtC m)] w fun r w' => r = .returned (.int .i64 (cE M.fails M.ahead))∧PD B w' d (jwmM M m)∧Dfr B w w' := by
  have hD := Lib.hid h
  have HP := Lib.hid (fun W => mput_ok W m hm hr M.size s1 s2)
  have HW := Lib.hid (fun W (k : PD B W d M) ao c bs (o : Own8 w.heap.size W M.size (.slice ao M.size c) bs) x hx => PD.write (i := m.t % 2) k rfl hF hlen s2 o hl x hx)
  have HE := Lib.hid (deE_cE M)
  have HS := Lib.hid (fun W (k : PD B W d M) => k.dsize)
  have HSL := Lib.hid (mslot_any m.t hm.t)
  have HMM : Hid (∀ bs,bs = mpage m M.size→wrX M (m.t % 2) bs = jwmM M m) := Lib.hid fun bs e => by rw [e]; rfl
  generalize cE M.fails M.ahead = E at HE HW ⊢
  have hmc : mtC m = #[.int .u64 (m.t : Int),.int .u32 (m.e : Int),.int .u32 (m.m : Int),.int .u32 (m.f : Int)] := rfl
  rw [hmc] at HP ⊢
  clear hF hlen hl hr s1 s2 hm hmc h
  generalize hq : w.heap.size = q
  go_enter Tryz.func121,Tryz.ntmps121
  go_wp2
  have hb0 : (w.alloc (.cells #[.int .u64 (m.t : Int),.int .u32 (m.e : Int),.int .u32 (m.m : Int),.int .u32 (m.f : Int)] 44)).heap[w.heap.size]? = some (.cells #[.int .u64 (m.t : Int),.int .u32 (m.e : Int),.int .u32 (m.m : Int),.int .u32 (m.f : Int)] 44 (0,0)) := heap_alloc_new _ _
  rw [hq] at hb0
  have hg0 : w.grownBy (w.alloc (.cells #[.int .u64 (m.t : Int),.int .u32 (m.e : Int),.int .u32 (m.m : Int),.int .u32 (m.f : Int)] 44)) none := World.grownBy_alloc _ _ _
  generalize w.alloc (.cells #[.int .u64 (m.t : Int),.int .u32 (m.e : Int),.int .u32 (m.m : Int),.int .u32 (m.f : Int)] 44) = w1 at hb0 hg0 ⊢
  have HC := Lib.hid (fun w' (k : w1.grownBy w' none) => mt_cells ((k.block _ (lt_of_block hb0) (by simp)).trans hb0))
  have HG0 := Lib.hid hg0
  clear hb0 hg0
  go_region_held3 (fun w' => w'.cell? ⟨q,0,none⟩ = some (.int .u64 (m.t : Int))∧w'.cell? ⟨q,1,none⟩ = some (.int .u32 (m.e : Int))∧w'.cell? ⟨q,2,none⟩ = some (.int .u32 (m.m : Int))∧w'.cell? ⟨q,3,none⟩ = some (.int .u32 (m.f : Int)))
    (first | (with_reducible exact (HC.out _ (gdrew w1))) | (with_reducible exact (HC.out _ HG13.out)))
    (first
      | (go_at_call 88; ((with_reducible refine (HS.out _ (hD.out.new (gtrans HG0.out (gdrew w1)))).mono ?_); rintro r w2 ⟨rfl,rfl⟩))
      | (go_at_call 31; ((with_reducible refine (HP.out w1.drew).mono ?_); rintro r w3 ⟨ao,c,rfl,ho,hg⟩); have HO3 := Lib.hid ho; have HG3 := Lib.hid (gtrans HG0.out (gtrans (gdrew w1) hg)); have HG13 := Lib.hid (gtrans (gdrew w1) hg); clear ho hg))
  obtain ⟨c0,c1,c2,c3⟩ := HC.out _ HG13.out
  go_wp2_with (first
    | (go_at_call 32; ((with_reducible refine (HSL.out _).mono ?_); rintro r w4 ⟨rfl,rfl⟩))
    | (go_at_call 179; have HO4 : Own8 w.heap.size w3 M.size (.slice ao M.size c) _ := own_base HO3.out HG0.out.size; ((with_reducible refine (HW.out w3 (hD.out.new HG3.out) ao c _ HO4 ((m.t : Int) % 2) (by omega)).mono ?_); rintro r w4 ⟨rfl,hd,hf⟩; have HD4 := Lib.hid hd; have HF4 := Lib.hid ((dfr_new (B := B) HG3.out).trans hf); clear hd hf))
    | (go_at_call 60; ((with_reducible refine (diskError_as E E HE.out _).mono ?_); rintro r w5 ⟨rfl,rfl⟩)))
  go_ret
  exact ⟨rfl,by have := HD4.out; rwa [HMM.out _ rfl] at this,HF4.out⟩
end Go.Proofs.YtnnmpaenainogaaGreat

namespace Go.Proofs.YtnnmpaenainogaaGreat
open Go.RowKit Go.Maps
theorem dfr_cells {B q : Nat} {w w' : World} {cs : Array Value} {t : TypeId} {f : Nat × Nat} (h : Dfr B w w') (k : w.heap[q]? = some (.cells cs t f)) (ht : ¬ (t = 129∨t = 163∨t = 160)) : w'.heap[q]? = some (.cells cs t f) := (kfr_dfr h).cells k (not_KD ht)
theorem two_blocks {w w1 : World} {a b : Obj} (h : w1 = (w.alloc a).alloc b) : w1.heap[w.heap.size]? = some a∧w1.heap[w.heap.size + 1]? = some b∧w.grownBy w1 none := by
  subst h
  exact ⟨two_lit0 _ _ _,two_lit1 _ _ _,two_grown _ _ _⟩
def fm0 : Mt := ⟨1,2,0,0⟩
theorem fm0_ok : MtOk fm0 := ⟨by decide,by decide,by decide,by decide⟩
def fmM (M : SM) : SM := syncM (wrM (jgrM M 2) 1 (mpage fm0 M.size))
theorem calm_cE {M : SM} (h : M.fails = false) : cE M.fails M.ahead = 0 := cE_calm h
theorem jgrM_calm {M : SM} (h : M.fails = false) (n : Nat) : (jgrM M n).fails = false := by
  unfold jgrM
  split
  · exact h
  · rw [if_pos (calm_cE h)]; show cF M.fails M.ahead = false; rw [h]; rfl
theorem jgrM_size (M : SM) (n : Nat) : (jgrM M n).size = M.size∧(jgrM M n).limit = M.limit∧(jgrM M n).loose = M.loose := by
  unfold jgrM
  split
  · exact ⟨rfl,rfl,rfl⟩
  · split <;> exact ⟨rfl,rfl,rfl⟩
theorem jgrM_len {M : SM} (h : M.fails = false) {n : Nat} (hn : n≤M.limit) : n≤(jgrM M n).pg.length := by
  unfold jgrM
  split
  · rename_i k; rcases k with k | k
    · exact k
    · omega
  · rw [if_pos (calm_cE h)]
    show n≤(M.pg++List.replicate (n - M.pg.length) _).length
    simp; omega
theorem Wel.jgr {M : SM} {c n : Nat} (h : Wel M c) : Wel (jgrM M n) (c + 1) := by
  unfold jgrM
  split
  · exact h.mono (by omega)
  · rename_i k
    split
    · exact h.grow (by omega)
    · exact h.cnt
theorem wr_calm {M : SM} (h : M.fails = false) (i : Nat) (b : List Int) : (wrM M i b).fails = false := by show cF M.fails M.ahead = false; rw [h]; rfl
theorem sync_calm {M : SM} (h : M.fails = false) : (syncM M).fails = false := by show cF M.fails M.ahead = false; rw [h]; rfl
theorem wrX_calm {M : SM} (h : M.fails = false) (i : Nat) (b : List Int) : wrX M i b = wrM M i b := if_pos (calm_cE h)
theorem syX_calm {M : SM} (h : M.fails = false) : syX M = syncM M := if_pos (calm_cE h)
theorem jgrE_calm {M : SM} (h : M.fails = false) {n : Nat} (hn : n≤M.limit) : jgrE M n = 0 := by
  unfold jgrE
  split
  · rfl
  · rw [if_neg (by omega)]; exact calm_cE h
set_option maxRecDepth 20000 in
set_option maxHeartbeats 4000000 in
theorem firstMeta_any {B d c : Nat} {w : World} {M : SM} (h : PD B w d M) (hW : Wel M c) (hc : c≤99000) (hf : M.fails = false) (hl : 2≤M.limit) :
    Calls Tryz.prog 109 #[.pointer (some ⟨d,0,none⟩)] w fun r w' => r = .returned (.tuple #[.agg (mtC fm0),.int .i64 0])∧PD B w' d (fmM M)∧Dfr B w w' := by
  have w1 := hW.jgr (n := 2)
  have f1 := jgrM_calm hf 2
  have l1 := jgrM_len hf hl
  obtain ⟨z1,z2,z3⟩ := jgrM_size M 2
  have K1 := Lib.hid (fun W (k : PD B W d M) => jgrow_at (n := 2) k (hW.fine (by omega)) hW.s2 hW.l (by decide) 2 rfl)
  rw [jgrE_calm hf hl] at K1
  have w2 : Wel (wrM (jgrM M 2) 1 (mpage fm0 M.size)) (c + 2) := w1.wr (by omega)
  have K2 := Lib.hid (fun W (k : PD B W d (jgrM M 2)) => writeMeta_any k (w1.fine (by omega)) (by rw [z1]; exact hW.s1) (by rw [z1]; exact hW.s2) fm0 fm0_ok (by decide) (by show 1 < _; omega) (by have := w1.lo; omega))
  rw [calm_cE f1,show jwmM (jgrM M 2) fm0 = wrM (jgrM M 2) 1 (mpage fm0 M.size) by unfold jwmM; rw [z1,wrX_calm f1]; rfl] at K2
  have f2 : (wrM (jgrM M 2) 1 (mpage fm0 M.size)).fails = false := wr_calm f1 _ _
  have K3 := Lib.hid (fun W (k : PD B W d (wrM (jgrM M 2) 1 (mpage fm0 M.size))) => PD.sync k (w2.fine (by omega)) w2.lin (by have := w2.lo; omega) (by have := w2.p; have := w2.l; omega))
  rw [calm_cE f2,syX_calm f2] at K3
  have HF : Hid (syncM (wrM (jgrM M 2) 1 (mpage fm0 M.size)) = fmM M) := Lib.hid rfl
  generalize syncM (wrM (jgrM M 2) 1 (mpage fm0 M.size)) = M3 at K3 HF
  generalize wrM (jgrM M 2) 1 (mpage fm0 M.size) = M2 at K2 K3
  generalize jgrM M 2 = M1 at K1 K2
  have hD := Lib.hid h
  clear h hW hc hf hl w1 f1 l1 z1 z2 z3 w2 f2
  rw [show mtC fm0 = #[.int .u64 1,.int .u32 2,.int .u32 0,.int .u32 0] from rfl] at K2 ⊢
  go_enter Tryz.func109,Tryz.ntmps109
  go_wp2_with (first
    | (go_at_call 162; have HT := Lib.hid (two_blocks (w := w) rfl (a := .cells #[.int .u64 0,.int .u32 0,.int .u32 0,.int .u32 0] 44) (b := .cells #[.int .u64 1,.int .u32 2,.int .u32 0,.int .u32 0] 44)); ((with_reducible refine (K1.out _ (hD.out.new HT.out.2.2)).mono ?_); rintro e w1 ⟨rfl,hd,hf⟩); have HD1 := Lib.hid hd; have HQ := Lib.hid (dfr_cells hf HT.out.1 (by decide)); have HM := Lib.hid (dfr_cells hf HT.out.2.1 (by decide)); have HF1 := Lib.hid ((dfr_new (B := B) HT.out.2.2).trans hf); clear hd hf HT; obtain ⟨m0,m1,m2,m3⟩ := mt_cells HM.out)
    | (go_at_call 121; ((with_reducible refine (K2.out _ HD1.out).mono ?_); rintro e w2 ⟨rfl,hd,hf⟩); have HD2 := Lib.hid hd; have HQ2 := Lib.hid (dfr_cells hf HQ.out (by decide)); have HM2 := Lib.hid (dfr_cells hf HM.out (by decide)); have HF2 := Lib.hid (HF1.out.trans hf); clear hd hf m0 m1 m2 m3 HQ HM HF1 HD1)
    | (go_at_call 59; ((with_reducible refine (K3.out _ HD2.out).mono ?_); rintro e w3 ⟨rfl,hd,hf⟩); have HD3 := Lib.hid hd; have HQ3 := Lib.hid (dfr_cells hf HQ2.out (by decide)); have HM3 := Lib.hid (dfr_cells hf HM2.out (by decide)); have HF3 := Lib.hid (HF2.out.trans hf); clear hd hf HQ2 HM2 HF2 HD2; obtain ⟨m0,m1,m2,m3⟩ := mt_cells HM3.out; obtain ⟨⟨q0,q1,q2,q3⟩,p0,p1,p2,p3⟩ := cells4 HQ3.out))
  exact bodyPost_ret (results_M rfl _ _ w.heap.size _ _ rfl rfl (store4 HQ3.out _ _ _ _) rfl) rfl ⟨rfl,by rw [← HF.out]; exact HD3.out.set4 HQ3.out _ _ _ _,HF3.out.set4 (Nat.le_refl _) _ _ _ _⟩
end Go.Proofs.YtnnmpaenainogaaGreat

namespace Go.Proofs.YtnnmpaenainogaaGreat
open Go.RowKit Go.Maps
def nmOk (M : SM) (a b : List Int) : Prop := 1≤(chM a b).t∧(chM a b).e≤min M.pg.length M.limit
instance (M : SM) (a b : List Int) : Decidable (nmOk M a b) := by unfold nmOk; exact inferInstance
def nmR (M : SM) (a b : List Int) : Mt × Int := if nmOk M a b then (chM a b,0) else (mt0,24)
theorem lit_block (w : World) (o : Obj) : (w.alloc o).heap[w.heap.size]? = some o := heap_alloc_new _ _
set_option maxRecDepth 20000 in
set_option maxHeartbeats 4000000 in
theorem newestMeta_any {B d : Nat} {w : World} {M : SM} (h : PD B w d M) (hl : M.limit≤65536) (hp : M.pg.length≤65536) (a0 : Option Addr) (n0 c0 : Nat) (a : List Int) (a1 : Option Addr) (n1 c1 : Nat) (b : List Int)
    (ha : Seq w.heap.size w (.slice a0 n0 c0) a) (hb : Seq w.heap.size w (.slice a1 n1 c1) b) (hba : Byt a) (hbb : Byt b) :
    Calls Tryz.prog 111 #[.pointer (some ⟨d,0,none⟩),.agg #[.slice a0 n0 c0,.slice a1 n1 c1]] w fun r w' => r = .returned (.tuple #[.agg (mtC (nmR M a b).1),.int .i64 (nmR M a b).2])∧w.grownBy w' none := by
  have HMO := Lib.hid (chM_ok hba hbb)
  have HC := Lib.hid (fun W (k : w.grownBy W none) => choose_any W a0 n0 c0 a a1 n1 c1 b ((ha.below (fun i hi => k.block i hi (by simp))).mono k.size) ((hb.below (fun i hi => k.block i hi (by simp))).mono k.size) hba hbb)
  have hcE : Hid (chE a b = if (chM a b).t < 1 then 24 else 0) := Lib.hid rfl
  have hNM : Hid (nmR M a b = if 1≤(chM a b).t∧(chM a b).e≤min M.pg.length M.limit then (chM a b,0) else (mt0,24)) := Lib.hid rfl
  have HS := Lib.hid (fun W (k : w.grownBy W none) => (h.new k).dlen)
  have HSL := Lib.hid (fun W (k : w.grownBy W none) => (h.new k).dlimit)
  unfold ChoseM at HC
  generalize chM a b = N at HMO HC hcE hNM
  generalize chE a b = E at HC hcE
  rw [hNM.out]
  obtain ⟨T,e,m,f⟩ := N
  have hmc : mtC ⟨T,e,m,f⟩ = #[.int .u64 (T : Int),.int .u32 (e : Int),.int .u32 (m : Int),.int .u32 (f : Int)] := rfl
  rw [hmc] at HC
  clear ha hb hba hbb hNM h
  generalize hP : M.pg.length = Pn at HS hp ⊢
  generalize hQ : M.limit = Ln at HSL hl ⊢
  obtain ⟨q,hq⟩ : ∃ q,q = w.heap.size := ⟨_,rfl⟩
  by_cases hT : T < 1
  · have e1 : E = 24 := hcE.out.trans (if_pos hT)
    subst e1
    have e2 : (if 1≤T∧e≤min Pn Ln then ((⟨T,e,m,f⟩ : Mt),(0 : Int)) else (mt0,24)) = (mt0,24) := if_neg (fun k => by omega)
    simp only [e2]
    clear hcE e2 HMO hP hQ
    go_enter Tryz.func111,Tryz.ntmps111
    go_wp2_with (first
      | (go_at_call 165; have HT := Lib.hid (two_blocks (w := w) rfl (a := .cells #[.slice a0 n0 c0,.slice a1 n1 c1] 212) (b := .cells #[.int .u64 0,.int .u32 0,.int .u32 0,.int .u32 0] 44)); ((with_reducible refine (HC.out _ HT.out.2.2).mono ?_); rintro r w3 ⟨rfl,hg⟩); have HQ := Lib.hid (keep_alloc1 ((hg.block _ (lt_of_block HT.out.2.1) (by simp)).trans HT.out.2.1) (.cells #[.int .u64 (T : Int),.int .u32 (e : Int),.int .u32 (m : Int),.int .u32 (f : Int)] 44)); have HG := Lib.hid (gtrans (gtrans HT.out.2.2 hg) (World.grownBy_alloc w3 (.cells #[.int .u64 (T : Int),.int .u32 (e : Int),.int .u32 (m : Int),.int .u32 (f : Int)] 44) none)); clear hg HT; obtain ⟨⟨q0,q1,q2,q3⟩,p0,p1,p2,p3⟩ := cells4 HQ.out))
    exact bodyPost_ret (results_M rfl _ _ (w.heap.size + 1) _ _ rfl rfl (store4 HQ.out _ _ _ _) rfl) rfl ⟨rfl,gof (below4 (gbelow HG.out) (Nat.le_succ _) _ _ _ _) none⟩
  · have e1 : E = 0 := hcE.out.trans (if_neg hT)
    subst e1
    obtain ⟨K,hK⟩ : ∃ K,K = min Pn Ln := ⟨_,rfl⟩
    have HMN := Lib.hid (show (if Ln < Pn then (Ln : Int) else (Pn : Int)) = (K : Int) by split <;> omega)
    have hK6 : K≤65536 := by omega
    have HWR := Lib.hid (IntWalk.u32_in (K : Int) ⟨by omega,by omega⟩)
    simp only [← hK]
    clear hK
    by_cases he : e≤K
    · have e2 : (if 1≤T∧e≤K then ((⟨T,e,m,f⟩ : Mt),(0 : Int)) else (mt0,24)) = (⟨T,e,m,f⟩,0) := if_pos ⟨by omega,he⟩
      simp only [e2]
      clear hcE e2 HMO hP hQ
      go_enter Tryz.func111,Tryz.ntmps111
      go_wp2_with (first
        | (go_at_call 165; have HT := Lib.hid (two_blocks (w := w) rfl (a := .cells #[.slice a0 n0 c0,.slice a1 n1 c1] 212) (b := .cells #[.int .u64 0,.int .u32 0,.int .u32 0,.int .u32 0] 44)); ((with_reducible refine (HC.out _ HT.out.2.2).mono ?_); rintro r w3 ⟨rfl,hg⟩); have HQ := Lib.hid (keep_alloc1 ((hg.block _ (lt_of_block HT.out.2.1) (by simp)).trans HT.out.2.1) (.cells #[.int .u64 (T : Int),.int .u32 (e : Int),.int .u32 (m : Int),.int .u32 (f : Int)] 44)); have HG := Lib.hid (gtrans (gtrans HT.out.2.2 hg) (World.grownBy_alloc w3 (.cells #[.int .u64 (T : Int),.int .u32 (e : Int),.int .u32 (m : Int),.int .u32 (f : Int)] 44) none)); clear hg HT; obtain ⟨⟨q0,q1,q2,q3⟩,p0,p1,p2,p3⟩ := cells4 HQ.out))
      have HM := Lib.hid (lit_block w3 (.cells #[.int .u64 (T : Int),.int .u32 (e : Int),.int .u32 (m : Int),.int .u32 (f : Int)] 44))
      obtain ⟨q2v,hq2⟩ : ∃ q2v,q2v = w3.heap.size := ⟨_,rfl⟩
      rw [← hq2] at HM ⊢
      clear hq2
      generalize w3.alloc (.cells #[.int .u64 (T : Int),.int .u32 (e : Int),.int .u32 (m : Int),.int .u32 (f : Int)] 44) = W at HQ HG HM q0 q1 q2 q3 p0 p1 p2 p3 ⊢
      clear q0 q1 q2 q3 p0 p1 p2 p3
      have HMC := Lib.hid (fun w' (k : W.grownBy w' none) => mt_cells ((k.block _ (lt_of_block HM.out) (by simp)).trans HM.out))
      have HGD := Lib.hid (gtrans HG.out (gdrew W))
      go_region_held3 (fun w' => w'.cell? ⟨q2v,1,none⟩ = some (.int .u32 (e : Int)))
        (first | (with_reducible exact (HMC.out _ (gdrew W)).2.1))
        (first
          | (go_at_call 38; ((with_reducible refine (HS.out _ HGD.out).mono ?_); rintro r w4 ⟨rfl,rfl⟩))
          | (go_at_call 65; ((with_reducible refine (HSL.out _ HGD.out).mono ?_); rintro r w4 ⟨rfl,rfl⟩)))
      have HQX : Hid (W.drew.heap[w.heap.size + 1]? = _) := Lib.hid HQ.out
      have HMX : Hid (W.drew.heap[q2v]? = _) := Lib.hid HM.out
      rw [HMN.out,HWR.out]
      clear HQ HM HMC HG
      generalize W.drew = X at HQX HMX HGD ⊢
      obtain ⟨⟨q0,q1,q2,q3⟩,p0,p1,p2,p3⟩ := cells4 HQX.out
      obtain ⟨m0,m1,m2,m3⟩ := mt_cells HMX.out
      have hdec : decide ((K : Int) < (e : Int)) = false := by simp; omega
      rw [hdec]
      go_wp2
      exact bodyPost_ret (results_M rfl _ _ (w.heap.size + 1) _ _ rfl rfl (store4 HQX.out _ _ _ _) rfl) rfl ⟨rfl,gof (below4 (gbelow HGD.out) (Nat.le_succ _) _ _ _ _) none⟩
    · have e2 : (if 1≤T∧e≤K then ((⟨T,e,m,f⟩ : Mt),(0 : Int)) else (mt0,24)) = (mt0,24) := if_neg (fun k => he k.2)
      simp only [e2]
      clear hcE e2 HMO hP hQ
      go_enter Tryz.func111,Tryz.ntmps111
      go_wp2_with (first
        | (go_at_call 165; have HT := Lib.hid (two_blocks (w := w) rfl (a := .cells #[.slice a0 n0 c0,.slice a1 n1 c1] 212) (b := .cells #[.int .u64 0,.int .u32 0,.int .u32 0,.int .u32 0] 44)); ((with_reducible refine (HC.out _ HT.out.2.2).mono ?_); rintro r w3 ⟨rfl,hg⟩); have HQ := Lib.hid (keep_alloc1 ((hg.block _ (lt_of_block HT.out.2.1) (by simp)).trans HT.out.2.1) (.cells #[.int .u64 (T : Int),.int .u32 (e : Int),.int .u32 (m : Int),.int .u32 (f : Int)] 44)); have HG := Lib.hid (gtrans (gtrans HT.out.2.2 hg) (World.grownBy_alloc w3 (.cells #[.int .u64 (T : Int),.int .u32 (e : Int),.int .u32 (m : Int),.int .u32 (f : Int)] 44) none)); clear hg HT; obtain ⟨⟨q0,q1,q2,q3⟩,p0,p1,p2,p3⟩ := cells4 HQ.out))
      have HM := Lib.hid (lit_block w3 (.cells #[.int .u64 (T : Int),.int .u32 (e : Int),.int .u32 (m : Int),.int .u32 (f : Int)] 44))
      obtain ⟨q2v,hq2⟩ : ∃ q2v,q2v = w3.heap.size := ⟨_,rfl⟩
      rw [← hq2] at HM ⊢
      clear hq2
      generalize w3.alloc (.cells #[.int .u64 (T : Int),.int .u32 (e : Int),.int .u32 (m : Int),.int .u32 (f : Int)] 44) = W at HQ HG HM q0 q1 q2 q3 p0 p1 p2 p3 ⊢
      clear q0 q1 q2 q3 p0 p1 p2 p3
      have HMC := Lib.hid (fun w' (k : W.grownBy w' none) => mt_cells ((k.block _ (lt_of_block HM.out) (by simp)).trans HM.out))
      have HGD := Lib.hid (gtrans HG.out (gdrew W))
      go_region_held3 (fun w' => w'.cell? ⟨q2v,1,none⟩ = some (.int .u32 (e : Int)))
        (first | (with_reducible exact (HMC.out _ (gdrew W)).2.1))
        (first
          | (go_at_call 38; ((with_reducible refine (HS.out _ HGD.out).mono ?_); rintro r w4 ⟨rfl,rfl⟩))
          | (go_at_call 65; ((with_reducible refine (HSL.out _ HGD.out).mono ?_); rintro r w4 ⟨rfl,rfl⟩)))
      have HQX : Hid (W.drew.heap[w.heap.size + 1]? = _) := Lib.hid HQ.out
      have HMX : Hid (W.drew.heap[q2v]? = _) := Lib.hid HM.out
      rw [HMN.out,HWR.out]
      clear HQ HM HMC HG
      generalize W.drew = X at HQX HMX HGD ⊢
      obtain ⟨⟨q0,q1,q2,q3⟩,p0,p1,p2,p3⟩ := cells4 HQX.out
      have hdec : decide ((K : Int) < (e : Int)) = true := by simp; omega
      rw [hdec]
      go_wp2
      exact bodyPost_ret (results_M rfl _ _ (w.heap.size + 1) _ _ rfl rfl (store4 HQX.out _ _ _ _) rfl) rfl ⟨rfl,gof (below4 (gbelow HGD.out) (Nat.le_succ _) _ _ _ _) none⟩
end Go.Proofs.YtnnmpaenainogaaGreat

namespace Go.Proofs.YtnnmpaenainogaaGreat
open Go.RowKit Go.Maps
theorem cnt_wel {M : SM} {c : Nat} (h : Wel M c) : Wel (cntM M) (c + 1) := h.cnt
structure LM (d q : Nat) (B : Nat) (w0 w : World) (M : SM) (S : Nat) (a b : List Int) (va vb : Value) (k : Nat) : Prop where
  hq : w.heap[q]? = some (.cells #[.int .u64 0,.int .u32 0,.int .u32 0,.int .u32 0] 44 (0,0))
  hp : w.heap[q + 1]? = some (.cells #[va,vb] 212 (0,0))
  pd : PD B w d M
  fr : Dfr B w0 w
  q0 : w0.heap.size≤q
  z : k = 0→va = .slice none 0 0
  y : k≤1→vb = .slice none 0 0
  a : 1≤k→∃ ao c,va = .slice ao S c∧Own8 w0.heap.size w S (.slice ao S c) a
  b : 2≤k→∃ ao c,vb = .slice ao S c∧Own8 w0.heap.size w S (.slice ao S c) b
theorem LM.put0 {d q B S : Nat} {w0 w w1 : World} {M M1 : SM} {a b : List Int} {va vb : Value} (h : LM d q B w0 w M S a b va vb 0) (hd : PD B w1 d M1) (hf : Dfr B w w1) {ao : Option Addr} {c : Nat} (ho : Own8 w.heap.size w1 S (.slice ao S c) a) :
    LM d q B w0 (w1.setCell ⟨q + 1,0,none⟩ (.slice ao S c)) M1 S a b (.slice ao S c) vb 1 := by
  have e1 := dfr_cells hf h.hp (by decide)
  have k := kfr_set e1 0 (.slice ao S c)
  have e2 := dfr_cells hf h.hq (by decide)
  exact ⟨(Below.heap_setCell _ _ _ _ (show q≠q + 1 by omega)).trans e2,heap_setCell_same _ (q + 1) 0 _ 212 (.slice ao S c) e1,hd.kfr k (by simp) (by simp) (by simp) (by simp),(h.fr.trans hf).nset (by have := h.q0; omega) _ _,h.q0,(by omega),(fun _ => h.y (by omega)),(fun _ => ⟨ao,c,rfl,k.own8 (own_base ho h.fr.size) (by simp)⟩),(by omega)⟩
theorem LM.put1 {d q B S : Nat} {w0 w w1 : World} {M M1 : SM} {a b : List Int} {va vb : Value} (h : LM d q B w0 w M S a b va vb 1) (hd : PD B w1 d M1) (hf : Dfr B w w1) {ao : Option Addr} {c : Nat} (ho : Own8 w.heap.size w1 S (.slice ao S c) b) :
    LM d q B w0 (w1.setCell ⟨q + 1,1,none⟩ (.slice ao S c)) M1 S a b va (.slice ao S c) 2 := by
  have e1 := dfr_cells hf h.hp (by decide)
  have k := kfr_set e1 1 (.slice ao S c)
  have e2 := dfr_cells hf h.hq (by decide)
  refine ⟨(Below.heap_setCell _ _ _ _ (show q≠q + 1 by omega)).trans e2,heap_setCell_same _ (q + 1) 1 _ 212 (.slice ao S c) e1,hd.kfr k (by simp) (by simp) (by simp) (by simp),(h.fr.trans hf).nset (by have := h.q0; omega) _ _,h.q0,(by omega),(by omega),(fun _ => ?_),(fun _ => ⟨ao,c,rfl,k.own8 (own_base ho h.fr.size) (by simp)⟩)⟩
  obtain ⟨a1,c1,e,o⟩ := h.a (by omega)
  exact ⟨a1,c1,e,k.own8 ((kfr_dfr hf).own8 o (by simp [KD])) (by simp)⟩
def blankM (M : SM) : Bool := (M.pg.length == 2) && allZ (lastM M 0) && allZ (lastM M 1)
def blk2 (M : SM) : Nat→Bool
  | 0 => M.pg.length == 2
  | 1 => (M.pg.length == 2) && allZ (lastM M 0)
  | _ => blankM M
def cntK (M : SM) : Nat→SM
  | 0 => M
  | k + 1 => cntM (cntK M k)
def lmM (M : SM) : SM := if M.pg.length = 0 then fmM M else if M.pg.length = 1 then M else if blankM M = true then fmM (cntK M 2) else cntK M 2
def lmR (M : SM) : Mt × Int := if M.pg.length = 0 then (fm0,0) else if M.pg.length = 1 then (mt0,24) else if blankM M = true then (fm0,0) else nmR M (lastM M 0) (lastM M 1)
set_option maxRecDepth 20000 in
set_option maxHeartbeats 4000000 in
theorem lastMeta_any {B d c : Nat} {w : World} {M : SM} (h : PD B w d M) (hW : Wel M c) (hc : c≤90000) (hf : M.fails = false) (hl : 2≤M.limit) (hb : ∀ x∈M.pg,Byt x.2) :
    Calls Tryz.prog 61 #[.pointer (some ⟨d,0,none⟩)] w fun r w' => r = .returned (.tuple #[.agg (mtC (lmR M).1),.int .i64 (lmR M).2])∧PD B w' d (lmM M)∧Dfr B w w' := by
  have HD := Lib.hid h
  have HL := Lib.hid (fun w' (k : PD B w' d M) => k.dlen)
  have hp6 : M.pg.length≤65536 := by have := hW.p; have := hW.l; omega
  have HM0 : Hid (mtC fm0 = #[.int .u64 1,.int .u32 2,.int .u32 0,.int .u32 0]) := Lib.hid rfl
  by_cases c0 : M.pg.length = 0
  · have K := Lib.hid (fun W (k : PD B W d M) => firstMeta_any k hW (by omega) hf hl)
    rw [show lmR M = (fm0,0) from if_pos c0,show lmM M = fmM M from if_pos c0]
    show Calls _ _ _ _ fun r w' => r = .returned (.tuple #[.agg (mtC fm0),.int .i64 0])∧_
    rw [HM0.out] at K ⊢
    have HL0 : Hid (∀ w',PD B w' d M→Calls Tryz.prog 38 #[.pointer (some ⟨d,0,none⟩)] w' fun r w'' => r = .returned (.int .i64 0)∧w' = w'') := Lib.hid fun w' k => by have := HL.out w' k; rw [c0] at this; exact this
    clear hW hf hb hp6 HL c0
    go_enter Tryz.func61,Tryz.ntmps61
    go_wp2_with (first
      | (go_at_call 38; ((with_reducible refine (HL0.out _ (HD.out.new (World.grownBy_alloc w (.cells #[.int .u64 0,.int .u32 0,.int .u32 0,.int .u32 0] 44) none))).mono ?_); rintro r w4 ⟨rfl,rfl⟩))
      | (go_at_call 109; ((with_reducible refine (K.out _ (HD.out.new (World.grownBy_alloc w (.cells #[.int .u64 0,.int .u32 0,.int .u32 0,.int .u32 0] 44) none))).mono ?_); rintro r w4 ⟨rfl,hd,hf⟩); have HD4 := Lib.hid hd; have HQ4 := Lib.hid (dfr_cells hf (lit_block w (.cells #[.int .u64 0,.int .u32 0,.int .u32 0,.int .u32 0] 44)) (by decide)); have HF4 := Lib.hid ((dfr_new (B := B) (World.grownBy_alloc w (.cells #[.int .u64 0,.int .u32 0,.int .u32 0,.int .u32 0] 44) none)).trans hf); clear hd hf; obtain ⟨⟨q0,q1,q2,q3⟩,p0,p1,p2,p3⟩ := cells4 HQ4.out))
    exact bodyPost_ret (results_M rfl _ _ w.heap.size _ _ rfl rfl (store4 HQ4.out _ _ _ _) rfl) rfl ⟨rfl,HD4.out.set4 HQ4.out _ _ _ _,HF4.out.set4 (Nat.le_refl _) _ _ _ _⟩
  · by_cases c1 : M.pg.length = 1
    · rw [show lmR M = (mt0,24) from (if_neg c0).trans (if_pos c1),show lmM M = M from (if_neg c0).trans (if_pos c1)]
      have HL0 : Hid (∀ w',PD B w' d M→Calls Tryz.prog 38 #[.pointer (some ⟨d,0,none⟩)] w' fun r w'' => r = .returned (.int .i64 1)∧w' = w'') := Lib.hid fun w' k => by have := HL.out w' k; rw [c1] at this; exact this
      clear hW hf hb hp6 HL c1 c0
      go_enter Tryz.func61,Tryz.ntmps61
      go_wp2_with (first
        | (go_at_call 38; ((with_reducible refine (HL0.out _ (HD.out.new (World.grownBy_alloc w (.cells #[.int .u64 0,.int .u32 0,.int .u32 0,.int .u32 0] 44) none))).mono ?_); rintro r w4 ⟨rfl,rfl⟩); have HQ4 := Lib.hid (lit_block w (.cells #[.int .u64 0,.int .u32 0,.int .u32 0,.int .u32 0] 44)); obtain ⟨⟨q0,q1,q2,q3⟩,p0,p1,p2,p3⟩ := cells4 HQ4.out))
      exact bodyPost_ret (results_M rfl _ _ w.heap.size _ _ rfl rfl HQ4.out rfl) rfl ⟨rfl,HD.out.new (World.grownBy_alloc w (.cells #[.int .u64 0,.int .u32 0,.int .u32 0,.int .u32 0] 44) none),dfr_new (B := B) (World.grownBy_alloc w (.cells #[.int .u64 0,.int .u32 0,.int .u32 0,.int .u32 0] 44) none)⟩
    · have hlen : 2≤M.pg.length := by omega
      have R0 := Lib.hid (fun W (k : PD B W d M) => readPage_ok (i := 0) k (hW.fine (by omega)) (by omega) hW.s2 (calm_cE hf) 0 rfl)
      have f1 : (cntM M).fails = false := cnt_calm hf
      have R1 : Hid (∀ W,PD B W d (cntM M)→Calls Tryz.prog 89 #[.pointer (some ⟨d,0,none⟩),.int .i64 1] W fun r w' => ∃ ao c,r = .returned (.tuple #[.slice ao M.size c,.int .i64 0])∧PD B w' d (cntM (cntM M))∧Own8 W.heap.size w' M.size (.slice ao M.size c) (lastM M 1)∧Dfr B W w') := Lib.hid (fun W (k : PD B W d (cntM M)) => readPage_ok (i := 1) k ((cnt_wel hW).fine (by omega)) (by show 1 < M.pg.length; omega) hW.s2 (calm_cE f1) 1 rfl)
      have f2 : (cntM (cntM M)).fails = false := cnt_calm f1
      have KF := Lib.hid (fun W (k : PD B W d (cntM (cntM M))) => firstMeta_any k (cnt_wel (cnt_wel hW)) (by omega) f2 hl)
      have KN := Lib.hid (fun W (k : PD B W d (cntM (cntM M))) => newestMeta_any (w := W) k hW.l hp6)
      have hba : Byt (lastM M 0) := by
        unfold lastM; rw [List.getD_eq_getElem?_getD,List.getElem?_eq_getElem (by omega)]; exact hb _ (List.getElem_mem _)
      have hbb : Byt (lastM M 1) := by
        unfold lastM; rw [List.getD_eq_getElem?_getD,List.getElem?_eq_getElem (by omega)]; exact hb _ (List.getElem_mem _)
      have hr : lmR M = if blankM M = true then (fm0,0) else nmR M (lastM M 0) (lastM M 1) := (if_neg c0).trans (if_neg c1)
      have hm : lmM M = if blankM M = true then fmM (cntK M 2) else cntK M 2 := (if_neg c0).trans (if_neg c1)
      have HRV0 := Lib.hid hr
      have HRM0 := Lib.hid hm
      clear hr hm
      generalize lmR M = RR at HRV0 ⊢
      generalize lmM M = MM at HRM0 ⊢
      have HB0 := Lib.hid (show blk2 M 0 = (M.pg.length == 2) from rfl)
      have HB1 := Lib.hid (show blk2 M 1 = (blk2 M 0 && allZ (lastM M 0)) from rfl)
      have HB2 := Lib.hid (show blk2 M 2 = (blk2 M 1 && allZ (lastM M 1)) from rfl)
      have HBM := Lib.hid (show blk2 M 2 = blankM M from rfl)
      have hs2 := hW.s2
      go_enter Tryz.func61,Tryz.ntmps61
      go_wp2_with (first
        | (go_at_call 38; ((with_reducible refine (HL.out _ (HD.out.new (World.grownBy_alloc w (.cells #[.int .u64 0,.int .u32 0,.int .u32 0,.int .u32 0] 44) none))).mono ?_); rintro r w4 ⟨rfl,rfl⟩))
        | (go_at_call 38; ((with_reducible refine (HL.out _ (HD.out.new (two_grown w (.cells #[.int .u64 0,.int .u32 0,.int .u32 0,.int .u32 0] 44) (.cells #[.slice none 0 0,.slice none 0 0] 212)))).mono ?_); rintro r w4 ⟨rfl,rfl⟩)))
      have HS := Lib.hid (show LM d w.heap.size B w ((w.alloc (.cells #[.int .u64 0,.int .u32 0,.int .u32 0,.int .u32 0] 44)).alloc (.cells #[.slice none 0 0,.slice none 0 0] 212)) M M.size (lastM M 0) (lastM M 1) (.slice none 0 0) (.slice none 0 0) 0 from
        ⟨two_lit0 _ _ _,two_lit1 _ _ _,HD.out.new (two_grown _ _ _),dfr_new (two_grown _ _ _),Nat.le_refl _,fun _ => rfl,fun _ => rfl,by omega,by omega⟩)
      go_loopw [5,23] (fun bl i wr => ∃ (k : Nat) (va vb : Value),k≤2∧i = .int .i64 k∧bl = .bool (blk2 M k)∧Hid (LM d w.heap.size B w wr (cntK M k) M.size (lastM M 0) (lastM M 1) va vb k)) (fun _ i _ => 2 - (intOf i).toNat)
      case atStart => exact ⟨0,_,_,by omega,rfl,by rw [HB0.out]; congr 1; rw [Bool.eq_iff_iff]; simp; omega,HS⟩
      case round =>
        obtain ⟨k,va,vb,hk,rfl,rfl,HR⟩ := hrel
        clear HS
        by_cases hlt : k < 2
        · rcases (by omega : k = 0∨k = 1) with rfl | rfl
          · obtain ⟨b0,hb0⟩ : ∃ b0,b0 = blk2 M 0 := ⟨_,rfl⟩
            rw [← hb0] at HB1 ⊢
            have HBK := Lib.hid hb0
            clear hb0
            cases b0
            · go_wp2_with (first
              | (go_at_call 89; ((with_reducible refine (R0.out _ HR.out.pd).mono ?_); rintro r w1 ⟨ao,c,rfl,hd,ho,hf⟩); have HD1 := Lib.hid hd; have HO1 := Lib.hid ho; have HF1 := Lib.hid hf; clear hd ho hf; obtain ⟨s0,s1,s2,s3⟩ := cells2 (dfr_cells HF1.out HR.out.hp (by decide)); have HW1 := Lib.hid (LM.put0 HR.out HD1.out HF1.out HO1.out); have HO2 := Lib.hid ((kfr_set (dfr_cells HF1.out HR.out.hp (by decide)) 0 (.slice ao M.size c)).own8 HO1.out (by simp)))
              | (go_at_call 110; ((with_reducible refine (noughts_any _ _ _ _ _ _ HO2.out.seq).mono ?_); rintro r w2 ⟨rfl,rfl⟩)))
              go_roundw
              case rel => exact ⟨1,_,_,by omega,by go_num,by rw [HB1.out]; rfl,HW1⟩
              case measure => simp [intOf]
            · go_wp2_with (first
              | (go_at_call 89; ((with_reducible refine (R0.out _ HR.out.pd).mono ?_); rintro r w1 ⟨ao,c,rfl,hd,ho,hf⟩); have HD1 := Lib.hid hd; have HO1 := Lib.hid ho; have HF1 := Lib.hid hf; clear hd ho hf; obtain ⟨s0,s1,s2,s3⟩ := cells2 (dfr_cells HF1.out HR.out.hp (by decide)); have HW1 := Lib.hid (LM.put0 HR.out HD1.out HF1.out HO1.out); have HO2 := Lib.hid ((kfr_set (dfr_cells HF1.out HR.out.hp (by decide)) 0 (.slice ao M.size c)).own8 HO1.out (by simp)))
              | (go_at_call 110; ((with_reducible refine (noughts_any _ _ _ _ _ _ HO2.out.seq).mono ?_); rintro r w2 ⟨rfl,rfl⟩)))
              go_roundw
              case rel => exact ⟨1,_,_,by omega,by go_num,by rw [HB1.out]; rfl,HW1⟩
              case measure => simp [intOf]
          · obtain ⟨b0,hb0⟩ : ∃ b0,b0 = blk2 M 1 := ⟨_,rfl⟩
            rw [← hb0] at HB2 ⊢
            have HBK := Lib.hid hb0
            clear hb0
            cases b0
            · go_wp2_with (first
              | (go_at_call 89; ((with_reducible refine (R1.out _ HR.out.pd).mono ?_); rintro r w1 ⟨ao,c,rfl,hd,ho,hf⟩); have HD1 := Lib.hid hd; have HO1 := Lib.hid ho; have HF1 := Lib.hid hf; clear hd ho hf; obtain ⟨s0,s1,s2,s3⟩ := cells2 (dfr_cells HF1.out HR.out.hp (by decide)); have HW1 := Lib.hid (LM.put1 HR.out HD1.out HF1.out HO1.out); have HO2 := Lib.hid ((kfr_set (dfr_cells HF1.out HR.out.hp (by decide)) 1 (.slice ao M.size c)).own8 HO1.out (by simp)))
              | (go_at_call 110; ((with_reducible refine (noughts_any _ _ _ _ _ _ HO2.out.seq).mono ?_); rintro r w2 ⟨rfl,rfl⟩)))
              go_roundw
              case rel => exact ⟨2,_,_,by omega,by go_num,by rw [HB2.out]; rfl,HW1⟩
              case measure => simp [intOf]
            · go_wp2_with (first
              | (go_at_call 89; ((with_reducible refine (R1.out _ HR.out.pd).mono ?_); rintro r w1 ⟨ao,c,rfl,hd,ho,hf⟩); have HD1 := Lib.hid hd; have HO1 := Lib.hid ho; have HF1 := Lib.hid hf; clear hd ho hf; obtain ⟨s0,s1,s2,s3⟩ := cells2 (dfr_cells HF1.out HR.out.hp (by decide)); have HW1 := Lib.hid (LM.put1 HR.out HD1.out HF1.out HO1.out); have HO2 := Lib.hid ((kfr_set (dfr_cells HF1.out HR.out.hp (by decide)) 1 (.slice ao M.size c)).own8 HO1.out (by simp)))
              | (go_at_call 110; ((with_reducible refine (noughts_any _ _ _ _ _ _ HO2.out.seq).mono ?_); rintro r w2 ⟨rfl,rfl⟩)))
              go_roundw
              case rel => exact ⟨2,_,_,by omega,by go_num,by rw [HB2.out]; rfl,HW1⟩
              case measure => simp [intOf]
        · obtain rfl : k = 2 := by omega
          have hE1 : M.pg.length = M.pg.length := rfl
          obtain ⟨A0,C0,rfl,HOA⟩ := HR.out.a (by omega)
          obtain ⟨A1,C1,rfl,HOB⟩ := HR.out.b (by omega)
          have HCK : Hid (cntK M 2 = cntM (cntM M)) := Lib.hid rfl
          simp only [HCK.out] at HR ⊢
          have HMI : Hid (∀ w',Dfr B wr w'→Dfr B w w') := Lib.hid fun w' k => HR.out.fr.trans k
          have HPQ := Lib.hid HR.out.hp
          have HZQ := Lib.hid HR.out.hq
          have HPD := Lib.hid HR.out.pd
          have HWZ := Lib.hid HR.out.q0
          have HNA := Lib.hid (fun (hx : blankM M = false) => KN.out wr HR.out.pd A0 M.size C0 (lastM M 0) A1 M.size C1 (lastM M 1) HOA.seq HOB.seq hba hbb)
          clear HR HOA HOB hE1 hba hbb R0 R1 HL HD
          obtain ⟨⟨q0,q1,q2,q3⟩,p0,p1,p2,p3⟩ := cells4 HZQ.out
          obtain ⟨s0,s1,s2,s3⟩ := cells2 HPQ.out
          obtain ⟨bm,hbm⟩ : ∃ bm,bm = blankM M := ⟨_,rfl⟩
          rw [HBM.out,← hbm]
          rw [← hbm] at HNA
          have HRV := Lib.hid (show RR = (if bm = true then ((fm0,0) : Mt × Int) else nmR M (lastM M 0) (lastM M 1)) by rw [hbm]; exact HRV0.out)
          have HRM := Lib.hid (show MM = (if bm = true then fmM (cntM (cntM M)) else cntM (cntM M)) by rw [hbm]; exact HRM0.out)
          clear HB0 HB1 HB2 HBM hbm HRV0 HRM0
          cases bm
          · have HN : Hid (Calls Tryz.prog 111 #[.pointer (some ⟨d,0,none⟩),.agg #[.slice A0 M.size C0,.slice A1 M.size C1]] wr fun r w' => r = .returned (.tuple #[.agg (mtC (nmR M (lastM M 0) (lastM M 1)).1),.int .i64 (nmR M (lastM M 0) (lastM M 1)).2])∧wr.grownBy w' none) := Lib.hid (HNA.out rfl)
            clear HNA KF
            have HRV1 := Lib.hid (HRV.out.trans (if_neg (by decide)))
            have HRM1 := Lib.hid (HRM.out.trans (if_neg (by decide)))
            obtain ⟨R,hR⟩ : ∃ R,R = nmR M (lastM M 0) (lastM M 1) := ⟨_,rfl⟩
            rw [← hR] at HN HRV1
            clear hR HRV HRM
            obtain ⟨⟨T,e,m,f⟩,E⟩ := R
            have HN2 : Hid (Calls Tryz.prog 111 #[.pointer (some ⟨d,0,none⟩),.agg #[.slice A0 M.size C0,.slice A1 M.size C1]] wr fun r w' => r = .returned (.tuple #[.agg #[.int .u64 (T : Int),.int .u32 (e : Int),.int .u32 (m : Int),.int .u32 (f : Int)],.int .i64 E])∧wr.grownBy w' none) := HN
            clear HN
            go_wp2_with (first
              | (go_at_call 111; ((with_reducible refine HN2.out.mono ?_); rintro r w1 ⟨rfl,hg⟩); have HZ1 := Lib.hid ((hg.block _ (lt_of_block HZQ.out) (by simp)).trans HZQ.out); have HD1 := Lib.hid (HPD.out.new hg); have HF1 := Lib.hid (HMI.out _ (dfr_new hg)); clear hg q0 q1 q2 q3 p0 p1 p2 p3; obtain ⟨⟨q0,q1,q2,q3⟩,p0,p1,p2,p3⟩ := cells4 HZ1.out))
            exact bodyPost_ret (results_M rfl _ _ w.heap.size _ _ rfl rfl (store4 HZ1.out _ _ _ _) rfl) rfl ⟨by rw [HRV1.out]; rfl,by rw [HRM1.out]; exact HD1.out.set4 HZ1.out _ _ _ _,HF1.out.set4 (Nat.le_refl _) _ _ _ _⟩
          · clear HNA KN
            have HRV1 := Lib.hid (HRV.out.trans (if_pos rfl))
            have HRM1 := Lib.hid (HRM.out.trans (if_pos rfl))
            have KF1 := Lib.hid (KF.out wr HPD.out)
            rw [HM0.out] at KF1
            clear HRV HRM
            clear KF
            go_wp2_with (first
              | (go_at_call 109; ((with_reducible refine KF1.out.mono ?_); rintro r w1 ⟨rfl,hd,hf⟩); have HZ1 := Lib.hid (dfr_cells hf HZQ.out (by decide)); have HD1 := Lib.hid hd; have HF1 := Lib.hid (HMI.out _ hf); clear hd hf q0 q1 q2 q3 p0 p1 p2 p3; obtain ⟨⟨q0,q1,q2,q3⟩,p0,p1,p2,p3⟩ := cells4 HZ1.out))
            exact bodyPost_ret (results_M rfl _ _ w.heap.size _ _ rfl rfl (store4 HZ1.out _ _ _ _) rfl) rfl ⟨by rw [HRV1.out]; rfl,by rw [HRM1.out]; exact HD1.out.set4 HZ1.out _ _ _ _,HF1.out.set4 (Nat.le_refl _) _ _ _ _⟩
end Go.Proofs.YtnnmpaenainogaaGreat
