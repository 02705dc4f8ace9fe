/-
  Layer 11: grow, writeMeta, firstMeta. Own work.
-/
import Derived.Test.YtildjdhoeilcfaaGreatPgrAH
import Derived.Test.YtildjdhoeilcfaaGreatPgrAK
import Derived.Test.YtildjdhoeilcfaaGreatPgrAL
import Derived.Deep.RegionHeld3

namespace Go.Proofs.YtildjdhoeilcfaaGreat
open Go.RowKit Go.Maps

theorem cE_codes (f : Bool) (a : Int) : cE f a = 0 ∨ cE f a = 20 := by unfold cE; split <;> simp
/-- The pager's grow: its error, and the disk behind it. -/
def jgrE (M : SM) (n : Nat) : Int := if n ≤ M.pg.length then 0 else if M.limit < n then 21 else cE M.fails M.ahead
def jgrM (M : SM) (n : Nat) : SM := if n ≤ M.pg.length ∨ M.limit < n then M else if cE M.fails M.ahead = 0 then growM (cntM M) (n - M.pg.length) M.once else cntM M
set_option maxHeartbeats 1000000 in
theorem jgrow_any {B d n : Nat} {w : World} {M : SM} (h : PD B w d M) (hF : Fine M) (hs : M.size ≤ 4096) (hl : M.limit ≤ 65536) (hn : n < 4294967296) :
    Calls Tryz.prog 131 #[.pointer (some ⟨d, 0, none⟩), .int .u32 (n : Int)] w fun r w' => r = .returned (.int .i64 (jgrE M n)) ∧ PD B w' d (jgrM M n) ∧ Dfr B w w' := by
  have hD := Lib.hid h
  have HL := Lib.hid (fun w' (k : PD B w' d M) => k.dlen)
  by_cases c1 : n ≤ M.pg.length
  · have e1 : jgrE M n = 0 := if_pos c1
    have e2 : jgrM M n = M := if_pos (.inl c1)
    rw [e1, e2]
    have HC := Lib.hid c1
    clear h e1 e2 c1 hF
    go_enter Tryz.func131, Tryz.ntmps131
    go_wp2_with (first
      | (go_at_call 33; ((with_reducible refine (HL.out _ hD.out).mono ?_)); rintro e w2 ⟨rfl, rfl⟩))
    go_ret
    exact ⟨rfl, hD.out, Dfr.refl _ _⟩
  · have c1' := Lib.hid c1
    have K : ∃ X, deE X = jgrE M n ∧ Calls Tryz.prog 180 #[.pointer (some ⟨d, 0, none⟩), .int .i64 (n : Int)] w fun r w' => r = .returned (.int .i64 X) ∧ PD B w' d (jgrM M n) ∧ Dfr B w w' := by
      obtain ⟨o, h⟩ := h
      unfold jgrE jgrM
      rw [if_neg c1]
      by_cases c2 : M.limit < n
      · rw [if_pos c2, if_pos (.inr c2)]
        exact ⟨21, by decide, (DskAt.grow_full (n := (n : Int)) h (by show ¬ (n : Int) < (M.pg.length : Int); omega) (by show (M.limit : Int) < n; omega)).mono fun r w' ⟨e, e2⟩ => ⟨e, ⟨o, e2 ▸ h⟩, e2 ▸ Dfr.refl _ _⟩⟩
      · rw [if_neg c2, if_neg (by omega)]
        rcases cE_codes M.fails M.ahead with e | e
        · rw [e, if_pos rfl]
          exact ⟨0, by decide, (DskAt.grow h hF (by show M.pg.length ≤ n; omega) (by show n ≤ M.limit; omega) hs hl e).mono fun r w' ⟨o', e1, e2, e3⟩ => ⟨e1, ⟨o', e2⟩, e3⟩⟩
        · rw [e, if_neg (by decide)]
          exact ⟨20, by decide, (DskAt.grow_io (n := (n : Int)) h hF (by show ¬ (n : Int) < (M.pg.length : Int); omega) (by show ¬ (M.limit : Int) < n; omega) e).mono fun r w' ⟨e1, e2, e3⟩ => ⟨e1, ⟨o, e2⟩, e3⟩⟩
    obtain ⟨X, hX, K⟩ := K
    have HK := Lib.hid K
    have HX := Lib.hid hX
    generalize jgrE M n = E at HX ⊢
    generalize jgrM M n = M2 at HK ⊢
    clear K hX h hF c1
    go_enter Tryz.func131, Tryz.ntmps131
    go_wp2_with (first
      | (go_at_call 33; ((with_reducible refine (HL.out _ hD.out).mono ?_)); rintro e w2 ⟨rfl, rfl⟩)
      | (go_at_call 180; ((with_reducible refine HK.out.mono ?_)); rintro e w2 ⟨rfl, hd, hf⟩; have HD2 := Lib.hid hd; have HF2 := Lib.hid hf; clear hd hf)
      | (go_at_call 52; ((with_reducible refine (diskError_as X E HX.out _).mono ?_)); rintro e w3 ⟨rfl, rfl⟩))
    go_ret
    exact ⟨rfl, HD2.out, HF2.out⟩
theorem jgrow_at {B d n : Nat} {w : World} {M : SM} (h : PD B w d M) (hF : Fine M) (hs : M.size ≤ 4096) (hl : M.limit ≤ 65536) (hn : n < 4294967296) (x : Int) (hx : x = (n : Int)) :
    Calls Tryz.prog 131 #[.pointer (some ⟨d, 0, none⟩), .int .u32 x] w fun r w' => r = .returned (.int .i64 (jgrE M n)) ∧ PD B w' d (jgrM M n) ∧ Dfr B w w' := hx ▸ jgrow_any h hF hs hl hn

/-- A write that may fail. -/
def wrX (M : SM) (i : Nat) (b : List Int) : SM := if cE M.fails M.ahead = 0 then wrM M i b else cntM M
theorem PD.write {B b0 d i n : Nat} {w : World} {M : SM} {ba : Option Addr} {bc : Nat} {bs : List Int} (h : PD B w d M) (he : M.size = n) (hF : Fine M) (hi : i < M.pg.length) (hn : n ≤ 4096) (hbs : Own8 b0 w n (.slice ba n bc) bs) (hl : M.loose.length ≤ 100000) (x : Int) (hx : x = (i : Int)) :
    Calls Tryz.prog 149 #[.pointer (some ⟨d, 0, none⟩), .int .i64 x, .slice ba n bc] w fun r w' => r = .returned (.int .i64 (cE M.fails M.ahead)) ∧ PD B w' d (wrX M i bs) ∧ Dfr B w w' := by
  subst hx
  obtain ⟨o, h⟩ := h
  unfold wrX
  rcases cE_codes M.fails M.ahead with e | e
  · rw [e, if_pos rfl]
    exact (DskAt.writeN h he hF hi hn e hbs hl).mono fun r w' ⟨e1, e2, e3⟩ => ⟨e1, ⟨o, e2⟩, e3⟩
  · rw [e, if_neg (by decide)]
    exact (DskAt.write_io (n := 0) (bn := n) h hF hi he.symm e).mono fun r w' ⟨e1, e2, e3⟩ => ⟨e1, ⟨o, e2⟩, e3⟩
/-- A sync that may fail. -/
def syX (M : SM) : SM := if cE M.fails M.ahead = 0 then syncM M else cntM M
theorem PD.sync {B d : Nat} {w : World} {M : SM} (h : PD B w d M) (hF : Fine M) (hin : ∀ x ∈ M.loose, x.1 < M.pg.length) (hl : M.loose.length ≤ 100000) (hpl : M.pg.length ≤ 100000) :
    Calls Tryz.prog 51 #[.pointer (some ⟨d, 0, none⟩)] w fun r w' => r = .returned (.int .i64 (cE M.fails M.ahead)) ∧ PD B w' d (syX M) ∧ Dfr B w w' := by
  obtain ⟨o, h⟩ := h
  unfold syX
  rcases cE_codes M.fails M.ahead with e | e
  · rw [e, if_pos rfl]
    exact (DskAt.sync h hF e hin hl hpl).mono fun r w' ⟨e1, e2, e3⟩ => ⟨e1, ⟨o, e2⟩, e3⟩
  · rw [e, if_neg (by decide)]
    exact (DskAt.sync_io h hF e).mono fun r w' ⟨e1, e2, e3⟩ => ⟨e1, ⟨o, e2⟩, e3⟩
theorem deE_cE (M : SM) : deE (cE M.fails M.ahead) = cE M.fails M.ahead := by
  rcases cE_codes M.fails M.ahead with e | e <;> rw [e] <;> decide

/-- What a meta's page is written. -/
def jwmM (M : SM) (m : Mt) : SM := wrX M (m.t % 2) (mpage m M.size)
set_option maxHeartbeats 4000000 in
theorem writeMeta_any {B d : Nat} {w : World} {M : SM} (h : PD B w d M) (hF : Fine M) (s1 : 512 ≤ M.size) (s2 : M.size ≤ 4096) (m : Mt) (hm : MtOk m) (hr : mright m = true) (hlen : m.t % 2 < M.pg.length) (hl : M.loose.length ≤ 100000) :
    Calls Tryz.prog 107 #[.pointer (some ⟨d, 0, none⟩), .agg (mtC m)] w fun r w' => r = .returned (.int .i64 (cE M.fails M.ahead)) ∧ PD B w' d (jwmM M m) ∧ Dfr B w w' := by
  have hD := Lib.hid h
  have HP := Lib.hid (fun W => mput_ok W m hm hr M.size s1 s2)
  have HW := Lib.hid (fun W (k : PD B W d M) ao c bs (o : Own8 w.heap.size W M.size (.slice ao M.size c) bs) x hx => PD.write (i := m.t % 2) k rfl hF hlen s2 o hl x hx)
  have HE := Lib.hid (deE_cE M)
  have HS := Lib.hid (fun W (k : PD B W d M) => k.dsize)
  have HSL := Lib.hid (mslot_any m.t hm.t)
  have HMM : Hid (∀ bs, bs = mpage m M.size → wrX M (m.t % 2) bs = jwmM M m) := Lib.hid fun bs e => by rw [e]; rfl
  generalize cE M.fails M.ahead = E at HE HW ⊢
  have hmc : mtC m = #[.int .u64 (m.t : Int), .int .u32 (m.e : Int), .int .u32 (m.m : Int), .int .u32 (m.f : Int)] := rfl
  rw [hmc] at HP ⊢
  clear hF hlen hl hr s1 s2 hm hmc h
  generalize hq : w.heap.size = q
  go_enter Tryz.func107, Tryz.ntmps107
  go_wp2
  have hb0 : (w.alloc (.cells #[.int .u64 (m.t : Int), .int .u32 (m.e : Int), .int .u32 (m.m : Int), .int .u32 (m.f : Int)] 44)).heap[w.heap.size]? = some (.cells #[.int .u64 (m.t : Int), .int .u32 (m.e : Int), .int .u32 (m.m : Int), .int .u32 (m.f : Int)] 44 (0, 0)) := heap_alloc_new _ _
  rw [hq] at hb0
  have hg0 : w.grownBy (w.alloc (.cells #[.int .u64 (m.t : Int), .int .u32 (m.e : Int), .int .u32 (m.m : Int), .int .u32 (m.f : Int)] 44)) none := World.grownBy_alloc _ _ _
  generalize w.alloc (.cells #[.int .u64 (m.t : Int), .int .u32 (m.e : Int), .int .u32 (m.m : Int), .int .u32 (m.f : Int)] 44) = w1 at hb0 hg0 ⊢
  have HC := Lib.hid (fun w' (k : w1.grownBy w' none) => mt_cells ((k.block _ (lt_of_block hb0) (by simp)).trans hb0))
  have HG0 := Lib.hid hg0
  clear hb0 hg0
  go_region_held3 (fun w' => w'.cell? ⟨q, 0, none⟩ = some (.int .u64 (m.t : Int)) ∧ w'.cell? ⟨q, 1, none⟩ = some (.int .u32 (m.e : Int)) ∧ w'.cell? ⟨q, 2, none⟩ = some (.int .u32 (m.m : Int)) ∧ w'.cell? ⟨q, 3, none⟩ = some (.int .u32 (m.f : Int)))
    (first | (with_reducible exact (HC.out _ (gdrew w1))) | (with_reducible exact (HC.out _ HG13.out)))
    (first
      | (go_at_call 80; ((with_reducible refine (HS.out _ (hD.out.new (gtrans HG0.out (gdrew w1)))).mono ?_); rintro r w2 ⟨rfl, rfl⟩))
      | (go_at_call 26; ((with_reducible refine (HP.out w1.drew).mono ?_); rintro r w3 ⟨ao, c, rfl, ho, hg⟩); have HO3 := Lib.hid ho; have HG3 := Lib.hid (gtrans HG0.out (gtrans (gdrew w1) hg)); have HG13 := Lib.hid (gtrans (gdrew w1) hg); clear ho hg))
  obtain ⟨c0, c1, c2, c3⟩ := HC.out _ HG13.out
  go_wp2_with (first
    | (go_at_call 27; ((with_reducible refine (HSL.out _).mono ?_); rintro r w4 ⟨rfl, rfl⟩))
    | (go_at_call 149; have HO4 : Own8 w.heap.size w3 M.size (.slice ao M.size c) _ := own_base HO3.out HG0.out.size; ((with_reducible refine (HW.out w3 (hD.out.new HG3.out) ao c _ HO4 ((m.t : Int) % 2) (by omega)).mono ?_); rintro r w4 ⟨rfl, hd, hf⟩; have HD4 := Lib.hid hd; have HF4 := Lib.hid ((dfr_new (B := B) HG3.out).trans hf); clear hd hf))
    | (go_at_call 52; ((with_reducible refine (diskError_as E E HE.out _).mono ?_); rintro r w5 ⟨rfl, rfl⟩)))
  go_ret
  exact ⟨rfl, by have := HD4.out; rwa [HMM.out _ rfl] at this, HF4.out⟩

end Go.Proofs.YtildjdhoeilcfaaGreat

namespace Go.Proofs.YtildjdhoeilcfaaGreat
open Go.RowKit

theorem mget_as {W : World} {ao : Option Addr} {n c : Nat} {b : List Int} (h : Seq W.heap.size W (.slice ao n c) b) (hb : Byt b) {X : Mt} (hX : X = mgetM b) {E : Int} (hE : E = mgetE b) :
    Calls Tryz.prog 182 #[.slice ao n c] W fun r w' => r = .returned (.tuple #[.agg #[.int .u64 (X.t : Int), .int .u32 (X.e : Int), .int .u32 (X.m : Int), .int .u32 (X.f : Int)], .int .i64 E]) ∧ W.grownBy w' none := by
  subst hX hE
  exact mget_any W ao n c b h hb
theorem other4 {W : World} {q i : Nat} {x : Option Obj} (h : W.heap[i]? = x) (hi : i ≠ q) (a b c d : Value) : ((((W.setCell ⟨q, 0, none⟩ a).setCell ⟨q, 1, none⟩ b).setCell ⟨q, 2, none⟩ c).setCell ⟨q, 3, none⟩ d).heap[i]? = x :=
  ((Below.heap_setCell _ _ _ _ (by simpa using hi)).trans ((Below.heap_setCell _ _ _ _ (by simpa using hi)).trans ((Below.heap_setCell _ _ _ _ (by simpa using hi)).trans (Below.heap_setCell _ _ _ _ (by simpa using hi))))).trans h

/-- What stands while both pages are gone through: the newest one yet is N, in block q + 1. -/
structure CS7 (q : Nat) (w0 w : World) (va vb : Value) (a b : List Int) (N : Mt) : Prop where
  hq : w.heap[q]? = some (.cells zC 44 (0, 0))
  hn : w.heap[q + 1]? = some (.cells (mtC N) 44 (0, 0))
  bel : Below w0.heap.size w0 w
  q0 : w0.heap.size ≤ q
  sa : Seq w0.heap.size w va a
  sb : Seq w0.heap.size w vb b
theorem CS7.far {q : Nat} {w0 w w' : World} {va vb : Value} {a b : List Int} {N : Mt} (h : CS7 q w0 w va vb a b N) (k : w.grownBy w' none) : CS7 q w0 w' va vb a b N :=
  ⟨(k.block q (lt_of_block h.hq) (by simp)).trans h.hq, (k.block (q + 1) (lt_of_block h.hn) (by simp)).trans h.hn, h.bel.trans ((gbelow k).mono h.bel.size), h.q0,
    h.sa.below (fun i hi => k.block i (by have := h.bel.size; omega) (by simp)), h.sb.below (fun i hi => k.block i (by have := h.bel.size; omega) (by simp))⟩
theorem CS7.put {q : Nat} {w0 w : World} {va vb : Value} {a b : List Int} {N : Mt} (h : CS7 q w0 w va vb a b N) (X : Mt) :
    CS7 q w0 ((((w.setCell ⟨q + 1, 0, none⟩ (.int .u64 (X.t : Int))).setCell ⟨q + 1, 1, none⟩ (.int .u32 (X.e : Int))).setCell ⟨q + 1, 2, none⟩ (.int .u32 (X.m : Int))).setCell ⟨q + 1, 3, none⟩ (.int .u32 (X.f : Int))) va vb a b X := by
  have hg := grown4 w (q + 1) (.int .u64 (X.t : Int)) (.int .u32 (X.e : Int)) (.int .u32 (X.m : Int)) (.int .u32 (X.f : Int))
  have kk : ∀ i, i < w0.heap.size → _ := fun i hi => hg.block i (by have := h.bel.size; omega) (by intro e; injection e with e; have := h.q0; omega)
  exact ⟨other4 h.hq (by omega) _ _ _ _, store4 h.hn _ _ _ _, below4 h.bel (by have := h.q0; omega) _ _ _ _, h.q0, h.sa.below kk, h.sb.below kk⟩
theorem CS7.start {w : World} {va vb : Value} {a b : List Int} (ha : Seq w.heap.size w va a) (hb : Seq w.heap.size w vb b) :
    CS7 w.heap.size w ((w.alloc (.cells zC 44)).alloc (.cells zC 44)) va vb a b mt0 := by
  have hg := two_grown w (.cells zC 44) (.cells zC 44)
  exact ⟨two_lit0 _ _ _, two_lit1 _ _ _, gbelow hg, Nat.le_refl _, ha.below (fun i hi => hg.block i hi (by simp)), hb.below (fun i hi => hg.block i hi (by simp))⟩

/-- The newest one, a page later. -/
def nextM (k : Nat) (l : List Int) (N : Mt) : Mt := if isOf k l = true ∧ N.t < (mgetM l).t then mgetM l else N
def pkM (a b : List Int) : Nat → Mt
  | 0 => mt0
  | 1 => nextM 0 a mt0
  | _ => nextM 1 b (nextM 0 a mt0)
theorem nextM_first (a : List Int) : nextM 0 a mt0 = firstM a := by
  unfold nextM firstM
  by_cases h : isOf 0 a = true
  · rw [if_pos ⟨h, (isOf_t h).2.2⟩, if_pos h]
  · rw [if_neg (fun k => h k.1), if_neg h]
theorem pkM_2 (a b : List Int) : pkM a b 2 = chM a b := by
  show nextM 1 b (nextM 0 a mt0) = _
  rw [nextM_first]; rfl
theorem next_e {k : Nat} {l : List Int} {N : Mt} (h : mgetE l ≠ 0) : nextM k l N = N := by
  unfold nextM isOf; rw [if_neg (by simp [h])]
theorem next_s {k : Nat} {l : List Int} {N : Mt} (h : (mgetM l).t % 2 ≠ k) : nextM k l N = N := by
  unfold nextM isOf; rw [if_neg (by simp [h])]
theorem next_t {k : Nat} {l : List Int} {N : Mt} (h : ¬ N.t < (mgetM l).t) : nextM k l N = N := by
  unfold nextM; rw [if_neg (fun k => h k.2)]
theorem next_y {k : Nat} {l : List Int} {N : Mt} (h1 : mgetE l = 0) (h2 : (mgetM l).t % 2 = k) (h3 : N.t < (mgetM l).t) : nextM k l N = mgetM l := by
  unfold nextM isOf; rw [if_pos ⟨by simp [h1, h2], h3⟩]

/-- What Choose tells. -/
def ChoseM (a b : List Int) (w w' : World) (r : Ending) : Prop := r = .returned (.tuple #[.agg (mtC (chM a b)), .int .i64 (chE a b)]) ∧ w.grownBy w' none

set_option maxHeartbeats 4000000 in
theorem choose_any (w : World) (a0 : Option Addr) (n0 c0 : Nat) (a : List Int) (a1 : Option Addr) (n1 c1 : Nat) (b : List Int) (ha : Seq w.heap.size w (.slice a0 n0 c0) a) (hb : Seq w.heap.size w (.slice a1 n1 c1) b) (hba : Byt a) (hbb : Byt b) :
    Calls Tryz.prog 134 #[.slice a0 n0 c0, .slice a1 n1 c1] w fun r w' => ChoseM a b w w' r := by
  have i0 : ∀ w : World, (Instr.index 185 (.agg #[.slice a0 n0 c0, .slice a1 n1 c1]) (.int .i64 0)).run Tryz.prog w = .ok (.slice a0 n0 c0) w := fun _ => by kernel_rfl
  have i1 : ∀ w : World, (Instr.index 185 (.agg #[.slice a0 n0 c0, .slice a1 n1 c1]) (.int .i64 1)).run Tryz.prog w = .ok (.slice a1 n1 c1) w := fun _ => by kernel_rfl
  have HS := Lib.hid (CS7.start ha hb)
  have HBA := Lib.hid hba
  have HBB := Lib.hid hbb
  clear ha hb hba hbb
  go_enter Tryz.func134, Tryz.ntmps134
  go_wp2
  go_loopw [14] (fun i wr => ∃ k : Nat, k ≤ 2 ∧ i = .int .i64 k ∧ Hid (CS7 w.heap.size w wr (.slice a0 n0 c0) (.slice a1 n1 c1) a b (pkM a b k))) (fun i _ => 2 - (intOf i).toNat)
  case atStart => exact ⟨0, by omega, rfl, HS⟩
  case round =>
    obtain ⟨k, hk, rfl, HR⟩ := hrel
    clear HS
    by_cases hlt : k < 2
    · rcases (by omega : k = 0 ∨ k = 1) with rfl | rfl
      · obtain ⟨X, hX⟩ : ∃ X, X = mgetM a := ⟨_, rfl⟩
        obtain ⟨E, hE⟩ : ∃ E, E = mgetE a := ⟨_, rfl⟩
        obtain ⟨N, hN⟩ : ∃ N, N = pkM a b 0 := ⟨_, rfl⟩
        rw [← hN] at HR
        have HXo := Lib.hid (show MtOk X by rw [hX]; exact mgetM_ok HBA.out)
        have HX := Lib.hid hX
        have HE := Lib.hid hE
        have HN := Lib.hid (show pkM a b 1 = nextM 0 a N by rw [hN]; rfl)
        clear hN hX hE
        by_cases he : E = 0
        · subst he
          by_cases hs : X.t % 2 = 0
          · by_cases ht : N.t < X.t
            · have hti : (N.t : Int) < (X.t : Int) := by omega
              have htd : decide ((N.t : Int) < (X.t : Int)) = true := by simpa using ht
              have HNX := Lib.hid (show pkM a b 1 = X by rw [HN.out, next_y HE.out.symm (by rw [← HX.out]; exact hs) (by rw [← HX.out]; exact ht), HX.out])
              go_wp2_with (first
            | (go_at_call 182; have K := mget_as (HR.out.sa.mono HR.out.bel.size) HBA.out HX.out HE.out; ((with_reducible refine K.mono ?_); clear K; rintro r w1 ⟨rfl, hg⟩); have HC := Lib.hid ((HR.out.far hg).far (World.grownBy_alloc w1 (.cells #[.int .u64 (X.t : Int), .int .u32 (X.e : Int), .int .u32 (X.m : Int), .int .u32 (X.f : Int)] 44) none)); obtain ⟨⟨y0, y1, y2, y3⟩, f0, f1, f2, f3⟩ := cells4 HC.out.hn; clear hg)
            | (go_at_call 27; have K := mslot_any X.t HXo.out.t (w1.alloc (.cells #[.int .u64 (X.t : Int), .int .u32 (X.e : Int), .int .u32 (X.m : Int), .int .u32 (X.f : Int)] 44)); rw [hs] at K; ((with_reducible refine K.mono ?_); clear K; rintro r w2 ⟨rfl, rfl⟩)))
              go_roundw
              case rel => exact ⟨1, by omega, by go_num, Lib.hid (by rw [HNX.out]; exact HC.out.put X)⟩
              case measure => simp [intOf]
            · have hti : ¬ (N.t : Int) < (X.t : Int) := by omega
              have htd : decide ((N.t : Int) < (X.t : Int)) = false := by simpa using ht
              have HNX := Lib.hid (show pkM a b 1 = N by rw [HN.out, next_t (by rw [← HX.out]; exact ht)])
              go_wp2_with (first
            | (go_at_call 182; have K := mget_as (HR.out.sa.mono HR.out.bel.size) HBA.out HX.out HE.out; ((with_reducible refine K.mono ?_); clear K; rintro r w1 ⟨rfl, hg⟩); have HC := Lib.hid ((HR.out.far hg).far (World.grownBy_alloc w1 (.cells #[.int .u64 (X.t : Int), .int .u32 (X.e : Int), .int .u32 (X.m : Int), .int .u32 (X.f : Int)] 44) none)); obtain ⟨⟨y0, y1, y2, y3⟩, f0, f1, f2, f3⟩ := cells4 HC.out.hn; clear hg)
            | (go_at_call 27; have K := mslot_any X.t HXo.out.t (w1.alloc (.cells #[.int .u64 (X.t : Int), .int .u32 (X.e : Int), .int .u32 (X.m : Int), .int .u32 (X.f : Int)] 44)); rw [hs] at K; ((with_reducible refine K.mono ?_); clear K; rintro r w2 ⟨rfl, rfl⟩)))
              go_roundw
              case rel => exact ⟨1, by omega, by go_num, Lib.hid (by rw [HNX.out]; exact HC.out)⟩
              case measure => simp [intOf]
          · have hs2 : X.t % 2 = 1 := by omega
            have HNX := Lib.hid (show pkM a b 1 = N by rw [HN.out, next_s (by rw [← HX.out]; exact hs)])
            go_wp2_with (first
            | (go_at_call 182; have K := mget_as (HR.out.sa.mono HR.out.bel.size) HBA.out HX.out HE.out; ((with_reducible refine K.mono ?_); clear K; rintro r w1 ⟨rfl, hg⟩); have HC := Lib.hid ((HR.out.far hg).far (World.grownBy_alloc w1 (.cells #[.int .u64 (X.t : Int), .int .u32 (X.e : Int), .int .u32 (X.m : Int), .int .u32 (X.f : Int)] 44) none)); obtain ⟨⟨y0, y1, y2, y3⟩, f0, f1, f2, f3⟩ := cells4 HC.out.hn; clear hg)
            | (go_at_call 27; have K := mslot_any X.t HXo.out.t (w1.alloc (.cells #[.int .u64 (X.t : Int), .int .u32 (X.e : Int), .int .u32 (X.m : Int), .int .u32 (X.f : Int)] 44)); rw [hs2] at K; ((with_reducible refine K.mono ?_); clear K; rintro r w2 ⟨rfl, rfl⟩)))
            go_roundw
            case rel => exact ⟨1, by omega, by go_num, Lib.hid (by rw [HNX.out]; exact HC.out)⟩
            case measure => simp [intOf]
        · have hed : (E == 0) = false := by simpa using he
          have HNX := Lib.hid (show pkM a b 1 = N by rw [HN.out, next_e (by rw [← HE.out]; exact he)])
          go_wp2_with (first
            | (go_at_call 182; have K := mget_as (HR.out.sa.mono HR.out.bel.size) HBA.out HX.out HE.out; ((with_reducible refine K.mono ?_); clear K; rintro r w1 ⟨rfl, hg⟩); have HC := Lib.hid ((HR.out.far hg).far (World.grownBy_alloc w1 (.cells #[.int .u64 (X.t : Int), .int .u32 (X.e : Int), .int .u32 (X.m : Int), .int .u32 (X.f : Int)] 44) none)); obtain ⟨⟨y0, y1, y2, y3⟩, f0, f1, f2, f3⟩ := cells4 HC.out.hn; clear hg)
            | (go_at_call 27; have K := mslot_any X.t HXo.out.t (w1.alloc (.cells #[.int .u64 (X.t : Int), .int .u32 (X.e : Int), .int .u32 (X.m : Int), .int .u32 (X.f : Int)] 44)); ((with_reducible refine K.mono ?_); clear K; rintro r w2 ⟨rfl, rfl⟩)))
          go_roundw
          case rel => exact ⟨1, by omega, by go_num, Lib.hid (by rw [HNX.out]; exact HC.out)⟩
          case measure => simp [intOf]
      · obtain ⟨X, hX⟩ : ∃ X, X = mgetM b := ⟨_, rfl⟩
        obtain ⟨E, hE⟩ : ∃ E, E = mgetE b := ⟨_, rfl⟩
        obtain ⟨N, hN⟩ : ∃ N, N = pkM a b 1 := ⟨_, rfl⟩
        rw [← hN] at HR
        have HXo := Lib.hid (show MtOk X by rw [hX]; exact mgetM_ok HBB.out)
        have HX := Lib.hid hX
        have HE := Lib.hid hE
        have HN := Lib.hid (show pkM a b 2 = nextM 1 b N by rw [hN]; rfl)
        clear hN hX hE
        by_cases he : E = 0
        · subst he
          by_cases hs : X.t % 2 = 1
          · by_cases ht : N.t < X.t
            · have hti : (N.t : Int) < (X.t : Int) := by omega
              have htd : decide ((N.t : Int) < (X.t : Int)) = true := by simpa using ht
              have HNX := Lib.hid (show pkM a b 2 = X by rw [HN.out, next_y HE.out.symm (by rw [← HX.out]; exact hs) (by rw [← HX.out]; exact ht), HX.out])
              go_wp2_with (first
            | (go_at_call 182; have K := mget_as (HR.out.sb.mono HR.out.bel.size) HBB.out HX.out HE.out; ((with_reducible refine K.mono ?_); clear K; rintro r w1 ⟨rfl, hg⟩); have HC := Lib.hid ((HR.out.far hg).far (World.grownBy_alloc w1 (.cells #[.int .u64 (X.t : Int), .int .u32 (X.e : Int), .int .u32 (X.m : Int), .int .u32 (X.f : Int)] 44) none)); obtain ⟨⟨y0, y1, y2, y3⟩, f0, f1, f2, f3⟩ := cells4 HC.out.hn; clear hg)
            | (go_at_call 27; have K := mslot_any X.t HXo.out.t (w1.alloc (.cells #[.int .u64 (X.t : Int), .int .u32 (X.e : Int), .int .u32 (X.m : Int), .int .u32 (X.f : Int)] 44)); rw [hs] at K; ((with_reducible refine K.mono ?_); clear K; rintro r w2 ⟨rfl, rfl⟩)))
              go_roundw
              case rel => exact ⟨2, by omega, by go_num, Lib.hid (by rw [HNX.out]; exact HC.out.put X)⟩
              case measure => simp [intOf]
            · have hti : ¬ (N.t : Int) < (X.t : Int) := by omega
              have htd : decide ((N.t : Int) < (X.t : Int)) = false := by simpa using ht
              have HNX := Lib.hid (show pkM a b 2 = N by rw [HN.out, next_t (by rw [← HX.out]; exact ht)])
              go_wp2_with (first
            | (go_at_call 182; have K := mget_as (HR.out.sb.mono HR.out.bel.size) HBB.out HX.out HE.out; ((with_reducible refine K.mono ?_); clear K; rintro r w1 ⟨rfl, hg⟩); have HC := Lib.hid ((HR.out.far hg).far (World.grownBy_alloc w1 (.cells #[.int .u64 (X.t : Int), .int .u32 (X.e : Int), .int .u32 (X.m : Int), .int .u32 (X.f : Int)] 44) none)); obtain ⟨⟨y0, y1, y2, y3⟩, f0, f1, f2, f3⟩ := cells4 HC.out.hn; clear hg)
            | (go_at_call 27; have K := mslot_any X.t HXo.out.t (w1.alloc (.cells #[.int .u64 (X.t : Int), .int .u32 (X.e : Int), .int .u32 (X.m : Int), .int .u32 (X.f : Int)] 44)); rw [hs] at K; ((with_reducible refine K.mono ?_); clear K; rintro r w2 ⟨rfl, rfl⟩)))
              go_roundw
              case rel => exact ⟨2, by omega, by go_num, Lib.hid (by rw [HNX.out]; exact HC.out)⟩
              case measure => simp [intOf]
          · have hs2 : X.t % 2 = 0 := by omega
            have HNX := Lib.hid (show pkM a b 2 = N by rw [HN.out, next_s (by rw [← HX.out]; exact hs)])
            go_wp2_with (first
            | (go_at_call 182; have K := mget_as (HR.out.sb.mono HR.out.bel.size) HBB.out HX.out HE.out; ((with_reducible refine K.mono ?_); clear K; rintro r w1 ⟨rfl, hg⟩); have HC := Lib.hid ((HR.out.far hg).far (World.grownBy_alloc w1 (.cells #[.int .u64 (X.t : Int), .int .u32 (X.e : Int), .int .u32 (X.m : Int), .int .u32 (X.f : Int)] 44) none)); obtain ⟨⟨y0, y1, y2, y3⟩, f0, f1, f2, f3⟩ := cells4 HC.out.hn; clear hg)
            | (go_at_call 27; have K := mslot_any X.t HXo.out.t (w1.alloc (.cells #[.int .u64 (X.t : Int), .int .u32 (X.e : Int), .int .u32 (X.m : Int), .int .u32 (X.f : Int)] 44)); rw [hs2] at K; ((with_reducible refine K.mono ?_); clear K; rintro r w2 ⟨rfl, rfl⟩)))
            go_roundw
            case rel => exact ⟨2, by omega, by go_num, Lib.hid (by rw [HNX.out]; exact HC.out)⟩
            case measure => simp [intOf]
        · have hed : (E == 0) = false := by simpa using he
          have HNX := Lib.hid (show pkM a b 2 = N by rw [HN.out, next_e (by rw [← HE.out]; exact he)])
          go_wp2_with (first
            | (go_at_call 182; have K := mget_as (HR.out.sb.mono HR.out.bel.size) HBB.out HX.out HE.out; ((with_reducible refine K.mono ?_); clear K; rintro r w1 ⟨rfl, hg⟩); have HC := Lib.hid ((HR.out.far hg).far (World.grownBy_alloc w1 (.cells #[.int .u64 (X.t : Int), .int .u32 (X.e : Int), .int .u32 (X.m : Int), .int .u32 (X.f : Int)] 44) none)); obtain ⟨⟨y0, y1, y2, y3⟩, f0, f1, f2, f3⟩ := cells4 HC.out.hn; clear hg)
            | (go_at_call 27; have K := mslot_any X.t HXo.out.t (w1.alloc (.cells #[.int .u64 (X.t : Int), .int .u32 (X.e : Int), .int .u32 (X.m : Int), .int .u32 (X.f : Int)] 44)); ((with_reducible refine K.mono ?_); clear K; rintro r w2 ⟨rfl, rfl⟩)))
          go_roundw
          case rel => exact ⟨2, by omega, by go_num, Lib.hid (by rw [HNX.out]; exact HC.out)⟩
          case measure => simp [intOf]
    · obtain rfl : k = 2 := by omega
      rw [pkM_2] at HR
      obtain ⟨X, hX⟩ : ∃ X, X = chM a b := ⟨_, rfl⟩
      rw [← hX] at HR
      obtain ⟨⟨x0, x1, x2, x3⟩, _⟩ := cells4 HR.out.hq
      obtain ⟨⟨_, _, _, _⟩, e0, e1, e2, e3⟩ := cells4 HR.out.hq
      obtain ⟨⟨y0, y1, y2, y3⟩, _⟩ := cells4 HR.out.hn
      by_cases h1 : X.t < 1
      · have hd : decide ((X.t : Int) < 1) = true := by simp; omega
        have hXz : X = mt0 := by rw [hX]; exact (chM_0 (by rw [← hX]; exact h1)).1
        have HE := Lib.hid (show chE a b = 24 by unfold chE; rw [← hX, if_pos h1])
        have HX := Lib.hid (show chM a b = mt0 by rw [← hX, hXz])
        have h1i : (X.t : Int) < 1 := by omega
        clear hX hXz
        go_wp2
        exact bodyPost_ret (results_M rfl _ _ w.heap.size _ _ rfl rfl (store4 HR.out.hq _ _ _ _) rfl) rfl ⟨by rw [HE.out, HX.out]; rfl, gof (below4 HR.out.bel (Nat.le_refl _) _ _ _ _) none⟩
      · have hd : decide ((X.t : Int) < 1) = false := by simp; omega
        have HE := Lib.hid (show chE a b = 0 by unfold chE; rw [← hX, if_neg h1])
        have HX := Lib.hid hX
        have h1i : ¬ (X.t : Int) < 1 := by omega
        clear hX
        go_wp2
        exact bodyPost_ret (results_M rfl _ _ w.heap.size _ _ rfl rfl (store4 HR.out.hq _ _ _ _) rfl) rfl ⟨by rw [HE.out, ← HX.out]; rfl, gof (below4 HR.out.bel (Nat.le_refl _) _ _ _ _) none⟩

end Go.Proofs.YtildjdhoeilcfaaGreat

namespace Go.Proofs.YtildjdhoeilcfaaGreat
open Go.RowKit Go.Maps

theorem dfr_cells {B q : Nat} {w w' : World} {cs : Array Value} {t : TypeId} {f : Nat × Nat} (h : Dfr B w w') (k : w.heap[q]? = some (.cells cs t f)) (ht : ¬ (t = 112 ∨ t = 146 ∨ t = 143)) : w'.heap[q]? = some (.cells cs t f) := (kfr_dfr h).cells k (not_KD ht)
theorem two_blocks {w w1 : World} {a b : Obj} (h : w1 = (w.alloc a).alloc b) : w1.heap[w.heap.size]? = some a ∧ w1.heap[w.heap.size + 1]? = some b ∧ w.grownBy w1 none := by
  subst h
  exact ⟨two_lit0 _ _ _, two_lit1 _ _ _, two_grown _ _ _⟩

/-- The first meta. -/
def fm0 : Mt := ⟨1, 2, 0, 0⟩
theorem fm0_ok : MtOk fm0 := ⟨by decide, by decide, by decide, by decide⟩
/-- The disk behind it. -/
def fmM (M : SM) : SM := syncM (wrM (jgrM M 2) 1 (mpage fm0 M.size))

theorem calm_cE {M : SM} (h : M.fails = false) : cE M.fails M.ahead = 0 := cE_calm h
theorem jgrM_calm {M : SM} (h : M.fails = false) (n : Nat) : (jgrM M n).fails = false := by
  unfold jgrM
  split
  · exact h
  · rw [if_pos (calm_cE h)]; show cF M.fails M.ahead = false; rw [h]; rfl
theorem jgrM_size (M : SM) (n : Nat) : (jgrM M n).size = M.size ∧ (jgrM M n).limit = M.limit ∧ (jgrM M n).loose = M.loose := by
  unfold jgrM
  split
  · exact ⟨rfl, rfl, rfl⟩
  · split <;> exact ⟨rfl, rfl, rfl⟩
theorem jgrM_len {M : SM} (h : M.fails = false) {n : Nat} (hn : n ≤ M.limit) : n ≤ (jgrM M n).pg.length := by
  unfold jgrM
  split
  · rename_i k; rcases k with k | k
    · exact k
    · omega
  · rw [if_pos (calm_cE h)]
    show n ≤ (M.pg ++ List.replicate (n - M.pg.length) _).length
    simp; omega
theorem Wel.jgr {M : SM} {c n : Nat} (h : Wel M c) : Wel (jgrM M n) (c + 1) := by
  unfold jgrM
  split
  · exact h.mono (by omega)
  · rename_i k
    split
    · exact h.grow (by omega)
    · exact h.cnt
theorem wel_wrX {M : SM} {c i : Nat} {b : List Int} (h : Wel M c) (hi : i < M.pg.length) : Wel (wrX M i b) (c + 1) := by
  unfold wrX
  split
  · exact h.wr hi
  · exact h.cnt
theorem wel_syX {M : SM} {c : Nat} (h : Wel M c) : Wel (syX M) (c + 1) := by
  unfold syX
  split
  · exact h.sync
  · exact h.cnt
theorem wr_calm {M : SM} (h : M.fails = false) (i : Nat) (b : List Int) : (wrM M i b).fails = false := by show cF M.fails M.ahead = false; rw [h]; rfl
theorem sync_calm {M : SM} (h : M.fails = false) : (syncM M).fails = false := by show cF M.fails M.ahead = false; rw [h]; rfl
theorem wrX_calm {M : SM} (h : M.fails = false) (i : Nat) (b : List Int) : wrX M i b = wrM M i b := if_pos (calm_cE h)
theorem syX_calm {M : SM} (h : M.fails = false) : syX M = syncM M := if_pos (calm_cE h)
theorem jgrE_calm {M : SM} (h : M.fails = false) {n : Nat} (hn : n ≤ M.limit) : jgrE M n = 0 := by
  unfold jgrE
  split
  · rfl
  · rw [if_neg (by omega)]; exact calm_cE h

set_option maxRecDepth 20000 in
set_option maxHeartbeats 4000000 in
theorem firstMeta_any {B d c : Nat} {w : World} {M : SM} (h : PD B w d M) (hW : Wel M c) (hc : c ≤ 99000) (hf : M.fails = false) (hl : 2 ≤ M.limit) :
    Calls Tryz.prog 95 #[.pointer (some ⟨d, 0, none⟩)] w fun r w' => r = .returned (.tuple #[.agg (mtC fm0), .int .i64 0]) ∧ PD B w' d (fmM M) ∧ Dfr B w w' := by
  have w1 := hW.jgr (n := 2)
  have f1 := jgrM_calm hf 2
  have l1 := jgrM_len hf hl
  obtain ⟨z1, z2, z3⟩ := jgrM_size M 2
  have K1 := Lib.hid (fun W (k : PD B W d M) => jgrow_at (n := 2) k (hW.fine (by omega)) hW.s2 hW.l (by decide) 2 rfl)
  rw [jgrE_calm hf hl] at K1
  have w2 : Wel (wrM (jgrM M 2) 1 (mpage fm0 M.size)) (c + 2) := w1.wr (by omega)
  have K2 := Lib.hid (fun W (k : PD B W d (jgrM M 2)) => writeMeta_any k (w1.fine (by omega)) (by rw [z1]; exact hW.s1) (by rw [z1]; exact hW.s2) fm0 fm0_ok (by decide) (by show 1 < _; omega) (by have := w1.lo; omega))
  rw [calm_cE f1, show jwmM (jgrM M 2) fm0 = wrM (jgrM M 2) 1 (mpage fm0 M.size) by unfold jwmM; rw [z1, wrX_calm f1]; rfl] at K2
  have f2 : (wrM (jgrM M 2) 1 (mpage fm0 M.size)).fails = false := wr_calm f1 _ _
  have K3 := Lib.hid (fun W (k : PD B W d (wrM (jgrM M 2) 1 (mpage fm0 M.size))) => PD.sync k (w2.fine (by omega)) w2.lin (by have := w2.lo; omega) (by have := w2.p; have := w2.l; omega))
  rw [calm_cE f2, syX_calm f2] at K3
  have HF : Hid (syncM (wrM (jgrM M 2) 1 (mpage fm0 M.size)) = fmM M) := Lib.hid rfl
  generalize syncM (wrM (jgrM M 2) 1 (mpage fm0 M.size)) = M3 at K3 HF
  generalize wrM (jgrM M 2) 1 (mpage fm0 M.size) = M2 at K2 K3
  generalize jgrM M 2 = M1 at K1 K2
  have hD := Lib.hid h
  clear h hW hc hf hl w1 f1 l1 z1 z2 z3 w2 f2
  rw [show mtC fm0 = #[.int .u64 1, .int .u32 2, .int .u32 0, .int .u32 0] from rfl] at K2 ⊢
  go_enter Tryz.func95, Tryz.ntmps95
  go_wp2_with (first
    | (go_at_call 131; have HT := Lib.hid (two_blocks (w := w) rfl (a := .cells #[.int .u64 0, .int .u32 0, .int .u32 0, .int .u32 0] 44) (b := .cells #[.int .u64 1, .int .u32 2, .int .u32 0, .int .u32 0] 44)); ((with_reducible refine (K1.out _ (hD.out.new HT.out.2.2)).mono ?_); rintro e w1 ⟨rfl, hd, hf⟩); have HD1 := Lib.hid hd; have HQ := Lib.hid (dfr_cells hf HT.out.1 (by decide)); have HM := Lib.hid (dfr_cells hf HT.out.2.1 (by decide)); have HF1 := Lib.hid ((dfr_new (B := B) HT.out.2.2).trans hf); clear hd hf HT; obtain ⟨m0, m1, m2, m3⟩ := mt_cells HM.out)
    | (go_at_call 107; ((with_reducible refine (K2.out _ HD1.out).mono ?_); rintro e w2 ⟨rfl, hd, hf⟩); have HD2 := Lib.hid hd; have HQ2 := Lib.hid (dfr_cells hf HQ.out (by decide)); have HM2 := Lib.hid (dfr_cells hf HM.out (by decide)); have HF2 := Lib.hid (HF1.out.trans hf); clear hd hf m0 m1 m2 m3 HQ HM HF1 HD1)
    | (go_at_call 51; ((with_reducible refine (K3.out _ HD2.out).mono ?_); rintro e w3 ⟨rfl, hd, hf⟩); have HD3 := Lib.hid hd; have HQ3 := Lib.hid (dfr_cells hf HQ2.out (by decide)); have HM3 := Lib.hid (dfr_cells hf HM2.out (by decide)); have HF3 := Lib.hid (HF2.out.trans hf); clear hd hf HQ2 HM2 HF2 HD2; obtain ⟨m0, m1, m2, m3⟩ := mt_cells HM3.out; obtain ⟨⟨q0, q1, q2, q3⟩, p0, p1, p2, p3⟩ := cells4 HQ3.out))
  exact bodyPost_ret (results_M rfl _ _ w.heap.size _ _ rfl rfl (store4 HQ3.out _ _ _ _) rfl) rfl ⟨rfl, by rw [← HF.out]; exact HD3.out.set4 HQ3.out _ _ _ _, HF3.out.set4 (Nat.le_refl _) _ _ _ _⟩

end Go.Proofs.YtildjdhoeilcfaaGreat

namespace Go.Proofs.YtildjdhoeilcfaaGreat
open Go.RowKit Go.Maps

/-- What the newest one of two pages is, if there is what it tells of. -/
def nmOk (M : SM) (a b : List Int) : Prop := 1 ≤ (chM a b).t ∧ (chM a b).e ≤ min M.pg.length M.limit
instance (M : SM) (a b : List Int) : Decidable (nmOk M a b) := by unfold nmOk; exact inferInstance
def nmR (M : SM) (a b : List Int) : Mt × Int := if nmOk M a b then (chM a b, 0) else (mt0, 24)

theorem lit_block (w : World) (o : Obj) : (w.alloc o).heap[w.heap.size]? = some o := heap_alloc_new _ _

set_option maxRecDepth 20000 in
set_option maxHeartbeats 4000000 in
theorem newestMeta_any {B d : Nat} {w : World} {M : SM} (h : PD B w d M) (hl : M.limit ≤ 65536) (hp : M.pg.length ≤ 65536) (a0 : Option Addr) (n0 c0 : Nat) (a : List Int) (a1 : Option Addr) (n1 c1 : Nat) (b : List Int)
    (ha : Seq w.heap.size w (.slice a0 n0 c0) a) (hb : Seq w.heap.size w (.slice a1 n1 c1) b) (hba : Byt a) (hbb : Byt b) :
    Calls Tryz.prog 97 #[.pointer (some ⟨d, 0, none⟩), .agg #[.slice a0 n0 c0, .slice a1 n1 c1]] w fun r w' => r = .returned (.tuple #[.agg (mtC (nmR M a b).1), .int .i64 (nmR M a b).2]) ∧ w.grownBy w' none := by
  have HMO := Lib.hid (chM_ok hba hbb)
  have HC := Lib.hid (fun W (k : w.grownBy W none) => choose_any W a0 n0 c0 a a1 n1 c1 b ((ha.below (fun i hi => k.block i hi (by simp))).mono k.size) ((hb.below (fun i hi => k.block i hi (by simp))).mono k.size) hba hbb)
  have hcE : Hid (chE a b = if (chM a b).t < 1 then 24 else 0) := Lib.hid rfl
  have hNM : Hid (nmR M a b = if 1 ≤ (chM a b).t ∧ (chM a b).e ≤ min M.pg.length M.limit then (chM a b, 0) else (mt0, 24)) := Lib.hid rfl
  have HS := Lib.hid (fun W (k : w.grownBy W none) => (h.new k).dlen)
  have HSL := Lib.hid (fun W (k : w.grownBy W none) => (h.new k).dlimit)
  unfold ChoseM at HC
  generalize chM a b = N at HMO HC hcE hNM
  generalize chE a b = E at HC hcE
  rw [hNM.out]
  obtain ⟨T, e, m, f⟩ := N
  have hmc : mtC ⟨T, e, m, f⟩ = #[.int .u64 (T : Int), .int .u32 (e : Int), .int .u32 (m : Int), .int .u32 (f : Int)] := rfl
  rw [hmc] at HC
  clear ha hb hba hbb hNM h
  generalize hP : M.pg.length = Pn at HS hp ⊢
  generalize hQ : M.limit = Ln at HSL hl ⊢
  obtain ⟨q, hq⟩ : ∃ q, q = w.heap.size := ⟨_, rfl⟩
  by_cases hT : T < 1
  · have e1 : E = 24 := hcE.out.trans (if_pos hT)
    subst e1
    have e2 : (if 1 ≤ T ∧ e ≤ min Pn Ln then ((⟨T, e, m, f⟩ : Mt), (0 : Int)) else (mt0, 24)) = (mt0, 24) := if_neg (fun k => by omega)
    simp only [e2]
    clear hcE e2 HMO hP hQ
    go_enter Tryz.func97, Tryz.ntmps97
    go_wp2_with (first
      | (go_at_call 134; have HT := Lib.hid (two_blocks (w := w) rfl (a := .cells #[.slice a0 n0 c0, .slice a1 n1 c1] 185) (b := .cells #[.int .u64 0, .int .u32 0, .int .u32 0, .int .u32 0] 44)); ((with_reducible refine (HC.out _ HT.out.2.2).mono ?_); rintro r w3 ⟨rfl, hg⟩); have HQ := Lib.hid (keep_alloc1 ((hg.block _ (lt_of_block HT.out.2.1) (by simp)).trans HT.out.2.1) (.cells #[.int .u64 (T : Int), .int .u32 (e : Int), .int .u32 (m : Int), .int .u32 (f : Int)] 44)); have HG := Lib.hid (gtrans (gtrans HT.out.2.2 hg) (World.grownBy_alloc w3 (.cells #[.int .u64 (T : Int), .int .u32 (e : Int), .int .u32 (m : Int), .int .u32 (f : Int)] 44) none)); clear hg HT; obtain ⟨⟨q0, q1, q2, q3⟩, p0, p1, p2, p3⟩ := cells4 HQ.out))
    exact bodyPost_ret (results_M rfl _ _ (w.heap.size + 1) _ _ rfl rfl (store4 HQ.out _ _ _ _) rfl) rfl ⟨rfl, gof (below4 (gbelow HG.out) (Nat.le_succ _) _ _ _ _) none⟩
  · have e1 : E = 0 := hcE.out.trans (if_neg hT)
    subst e1
    obtain ⟨K, hK⟩ : ∃ K, K = min Pn Ln := ⟨_, rfl⟩
    have HMN := Lib.hid (show (if Ln < Pn then (Ln : Int) else (Pn : Int)) = (K : Int) by split <;> omega)
    have hK6 : K ≤ 65536 := by omega
    have HWR := Lib.hid (IntWalk.u32_in (K : Int) ⟨by omega, by omega⟩)
    simp only [← hK]
    clear hK
    by_cases he : e ≤ K
    · have e2 : (if 1 ≤ T ∧ e ≤ K then ((⟨T, e, m, f⟩ : Mt), (0 : Int)) else (mt0, 24)) = (⟨T, e, m, f⟩, 0) := if_pos ⟨by omega, he⟩
      simp only [e2]
      clear hcE e2 HMO hP hQ
      go_enter Tryz.func97, Tryz.ntmps97
      go_wp2_with (first
        | (go_at_call 134; have HT := Lib.hid (two_blocks (w := w) rfl (a := .cells #[.slice a0 n0 c0, .slice a1 n1 c1] 185) (b := .cells #[.int .u64 0, .int .u32 0, .int .u32 0, .int .u32 0] 44)); ((with_reducible refine (HC.out _ HT.out.2.2).mono ?_); rintro r w3 ⟨rfl, hg⟩); have HQ := Lib.hid (keep_alloc1 ((hg.block _ (lt_of_block HT.out.2.1) (by simp)).trans HT.out.2.1) (.cells #[.int .u64 (T : Int), .int .u32 (e : Int), .int .u32 (m : Int), .int .u32 (f : Int)] 44)); have HG := Lib.hid (gtrans (gtrans HT.out.2.2 hg) (World.grownBy_alloc w3 (.cells #[.int .u64 (T : Int), .int .u32 (e : Int), .int .u32 (m : Int), .int .u32 (f : Int)] 44) none)); clear hg HT; obtain ⟨⟨q0, q1, q2, q3⟩, p0, p1, p2, p3⟩ := cells4 HQ.out))
      have HM := Lib.hid (lit_block w3 (.cells #[.int .u64 (T : Int), .int .u32 (e : Int), .int .u32 (m : Int), .int .u32 (f : Int)] 44))
      obtain ⟨q2v, hq2⟩ : ∃ q2v, q2v = w3.heap.size := ⟨_, rfl⟩
      rw [← hq2] at HM ⊢
      clear hq2
      generalize w3.alloc (.cells #[.int .u64 (T : Int), .int .u32 (e : Int), .int .u32 (m : Int), .int .u32 (f : Int)] 44) = W at HQ HG HM q0 q1 q2 q3 p0 p1 p2 p3 ⊢
      clear q0 q1 q2 q3 p0 p1 p2 p3
      have HMC := Lib.hid (fun w' (k : W.grownBy w' none) => mt_cells ((k.block _ (lt_of_block HM.out) (by simp)).trans HM.out))
      have HGD := Lib.hid (gtrans HG.out (gdrew W))
      go_region_held3 (fun w' => w'.cell? ⟨q2v, 1, none⟩ = some (.int .u32 (e : Int)))
        (first | (with_reducible exact (HMC.out _ (gdrew W)).2.1))
        (first
          | (go_at_call 33; ((with_reducible refine (HS.out _ HGD.out).mono ?_); rintro r w4 ⟨rfl, rfl⟩))
          | (go_at_call 57; ((with_reducible refine (HSL.out _ HGD.out).mono ?_); rintro r w4 ⟨rfl, rfl⟩)))
      have HQX : Hid (W.drew.heap[w.heap.size + 1]? = _) := Lib.hid HQ.out
      have HMX : Hid (W.drew.heap[q2v]? = _) := Lib.hid HM.out
      rw [HMN.out, HWR.out]
      clear HQ HM HMC HG
      generalize W.drew = X at HQX HMX HGD ⊢
      obtain ⟨⟨q0, q1, q2, q3⟩, p0, p1, p2, p3⟩ := cells4 HQX.out
      obtain ⟨m0, m1, m2, m3⟩ := mt_cells HMX.out
      have hdec : decide ((K : Int) < (e : Int)) = false := by simp; omega
      rw [hdec]
      go_wp2
      exact bodyPost_ret (results_M rfl _ _ (w.heap.size + 1) _ _ rfl rfl (store4 HQX.out _ _ _ _) rfl) rfl ⟨rfl, gof (below4 (gbelow HGD.out) (Nat.le_succ _) _ _ _ _) none⟩
    · have e2 : (if 1 ≤ T ∧ e ≤ K then ((⟨T, e, m, f⟩ : Mt), (0 : Int)) else (mt0, 24)) = (mt0, 24) := if_neg (fun k => he k.2)
      simp only [e2]
      clear hcE e2 HMO hP hQ
      go_enter Tryz.func97, Tryz.ntmps97
      go_wp2_with (first
        | (go_at_call 134; have HT := Lib.hid (two_blocks (w := w) rfl (a := .cells #[.slice a0 n0 c0, .slice a1 n1 c1] 185) (b := .cells #[.int .u64 0, .int .u32 0, .int .u32 0, .int .u32 0] 44)); ((with_reducible refine (HC.out _ HT.out.2.2).mono ?_); rintro r w3 ⟨rfl, hg⟩); have HQ := Lib.hid (keep_alloc1 ((hg.block _ (lt_of_block HT.out.2.1) (by simp)).trans HT.out.2.1) (.cells #[.int .u64 (T : Int), .int .u32 (e : Int), .int .u32 (m : Int), .int .u32 (f : Int)] 44)); have HG := Lib.hid (gtrans (gtrans HT.out.2.2 hg) (World.grownBy_alloc w3 (.cells #[.int .u64 (T : Int), .int .u32 (e : Int), .int .u32 (m : Int), .int .u32 (f : Int)] 44) none)); clear hg HT; obtain ⟨⟨q0, q1, q2, q3⟩, p0, p1, p2, p3⟩ := cells4 HQ.out))
      have HM := Lib.hid (lit_block w3 (.cells #[.int .u64 (T : Int), .int .u32 (e : Int), .int .u32 (m : Int), .int .u32 (f : Int)] 44))
      obtain ⟨q2v, hq2⟩ : ∃ q2v, q2v = w3.heap.size := ⟨_, rfl⟩
      rw [← hq2] at HM ⊢
      clear hq2
      generalize w3.alloc (.cells #[.int .u64 (T : Int), .int .u32 (e : Int), .int .u32 (m : Int), .int .u32 (f : Int)] 44) = W at HQ HG HM q0 q1 q2 q3 p0 p1 p2 p3 ⊢
      clear q0 q1 q2 q3 p0 p1 p2 p3
      have HMC := Lib.hid (fun w' (k : W.grownBy w' none) => mt_cells ((k.block _ (lt_of_block HM.out) (by simp)).trans HM.out))
      have HGD := Lib.hid (gtrans HG.out (gdrew W))
      go_region_held3 (fun w' => w'.cell? ⟨q2v, 1, none⟩ = some (.int .u32 (e : Int)))
        (first | (with_reducible exact (HMC.out _ (gdrew W)).2.1))
        (first
          | (go_at_call 33; ((with_reducible refine (HS.out _ HGD.out).mono ?_); rintro r w4 ⟨rfl, rfl⟩))
          | (go_at_call 57; ((with_reducible refine (HSL.out _ HGD.out).mono ?_); rintro r w4 ⟨rfl, rfl⟩)))
      have HQX : Hid (W.drew.heap[w.heap.size + 1]? = _) := Lib.hid HQ.out
      have HMX : Hid (W.drew.heap[q2v]? = _) := Lib.hid HM.out
      rw [HMN.out, HWR.out]
      clear HQ HM HMC HG
      generalize W.drew = X at HQX HMX HGD ⊢
      obtain ⟨⟨q0, q1, q2, q3⟩, p0, p1, p2, p3⟩ := cells4 HQX.out
      have hdec : decide ((K : Int) < (e : Int)) = true := by simp; omega
      rw [hdec]
      go_wp2
      exact bodyPost_ret (results_M rfl _ _ (w.heap.size + 1) _ _ rfl rfl (store4 HQX.out _ _ _ _) rfl) rfl ⟨rfl, gof (below4 (gbelow HGD.out) (Nat.le_succ _) _ _ _ _) none⟩

end Go.Proofs.YtildjdhoeilcfaaGreat
