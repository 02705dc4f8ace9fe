/-
  'DiskFails' returns true for every input: a disk fails just at the call that was told, which does nothing; then it goes on. No condition. Own work.
-/
import Derived.Test.YtkcadiiahbkmcaaDskT
import Derived.ProofKit
import Derived.OpenShut
import Derived.ShutString
import Derived.ChangeOld
import Derived.Laws.BitsAllLaws
namespace Go.Proofs.Ytkcadiiahbkmcaa
open Go.RowKit

/-- The disk behind i calls, of which the one behind k is to fail. -/
structure FSt (M : SM) (i k : Nat) : Prop where
  cl : M.calls = i + 1
  sz : M.size = 512
  lm : M.limit = 90
  p1 : 2 ≤ M.pg.length
  p2 : M.pg.length ≤ 2 + i
  f1 : i ≤ k → M.fails = true ∧ M.ahead = (k : Int) - i
  f2 : k < i → M.fails = false
  w : Wel M (1 + i)
theorem FSt.ok {M : SM} {i k : Nat} (h : FSt M i k) (hne : i ≠ k) : cE M.fails M.ahead = 0 := by
  by_cases hk : i < k
  · obtain ⟨h1, h2⟩ := h.f1 (by omega)
    have : decide ((0 : Int) < (k : Int) - i) = true := by simp; omega
    rw [cE, h1, h2, this]; rfl
  · simp [cE, h.f2 (by omega)]
theorem FSt.io {M : SM} {i k : Nat} (h : FSt M i k) (he : i = k) : cE M.fails M.ahead = 20 := by
  obtain ⟨h1, h2⟩ := h.f1 (by omega)
  subst he
  have : M.ahead = 0 := by rw [h2]; omega
  simp [cE, h1, this]
theorem FSt.next1 {M : SM} {i k : Nat} (h : FSt M i k) : i + 1 ≤ k → cF M.fails M.ahead = true ∧ cA M.fails M.ahead = (k : Int) - ((i + 1 : Nat) : Int) := fun hk => by
  obtain ⟨h1, h2⟩ := h.f1 (by omega)
  have : (0 : Int) < (k : Int) - i := by omega
  simp only [cF, cA, h1, h2, this, decide_true, Bool.and_self, if_true]
  exact ⟨trivial, by omega⟩
theorem FSt.next2 {M : SM} {i k : Nat} (h : FSt M i k) : k < i + 1 → cF M.fails M.ahead = false := fun hk => by
  by_cases e : i = k
  · obtain ⟨h1, h2⟩ := h.f1 (by omega)
    have h3 : M.ahead = 0 := by rw [h2]; omega
    simp [cF, h1, h3]
  · simp [cF, h.f2 (by omega)]
theorem FSt.cnt {M : SM} {i k : Nat} (h : FSt M i k) : FSt (cntM M) (i + 1) k :=
  ⟨by show M.calls + 1 = _; rw [h.cl], h.sz, h.lm, h.p1, by have := h.p2; show M.pg.length ≤ _; omega, h.next1, h.next2, (h.w.cnt).mono (by omega)⟩
theorem FSt.wr {M : SM} {i k : Nat} {bs : List Int} (h : FSt M i k) : FSt (wrM M 0 bs) (i + 1) k :=
  ⟨by show M.calls + 1 = _; rw [h.cl], h.sz, h.lm, by simpa [wrM] using h.p1, by have := h.p2; simp only [wrM, List.length_set]; omega, h.next1, h.next2, (h.w.wr (by have := h.p1; omega)).mono (by omega)⟩
theorem FSt.sync {M : SM} {i k : Nat} (h : FSt M i k) : FSt (syncM M) (i + 1) k :=
  ⟨by show M.calls + 1 = _; rw [h.cl], h.sz, h.lm, by simpa [syncM, syncP_len] using h.p1, by have := h.p2; simp only [syncM, syncP_len]; omega, h.next1, h.next2, (h.w.sync).mono (by omega)⟩
theorem FSt.grow {M : SM} {i k : Nat} {o : Bool} (h : FSt M i k) (hi : i < 40) : FSt (growM (cntM M) 1 o) (i + 1) k :=
  ⟨by show M.calls + 1 = _; rw [h.cl], h.sz, h.lm, by have := h.p1; simp [growM, cntM]; omega, by have := h.p2; simp [growM, cntM]; omega, h.next1, h.next2, (h.w.grow (by have := h.p2; rw [h.lm]; omega)).mono (by omega)⟩

def fl0 (o : Bool) (k : Nat) : SM := { growM (cntM { size := 512, limit := 90, pg := [], loose := [], fails := false, ahead := 0, calls := 0, once := false }) 2 o with fails := decide ((0 : Int) ≤ (k : Int)), ahead := (k : Int) }
theorem fl0_st (o : Bool) (k : Nat) (hk : k < 30) : FSt (fl0 o k) 0 k := by
  have hw : Wel (growM (cntM { size := 512, limit := 90, pg := [], loose := [], fails := false, ahead := 0, calls := 0, once := false }) 2 o) 1 := Wel.grow (wel_new (s := 512) (l := 90) (by decide)) (by decide)
  refine ⟨rfl, rfl, rfl, by show 2 ≤ 2; omega, by show 2 ≤ 2 + 0; omega, fun _ => ⟨by show decide ((0 : Int) ≤ (k : Int)) = true; simp, by show (k : Int) = _; omega⟩, fun h => by omega, ?_⟩
  exact (hw.fail (k : Int) (by omega) (by omega)).mono (by omega)

theorem u8_and3v (s r : Nat) (h : s < 256) (hr : r = s % 4) : bits BinOp.and IntKind.u8 (s : Int) 3 = (r : Int) := by
  rw [show (3 : Int) = ((3 : Nat) : Int) from rfl, u8_and_nat s 3 h (by decide), show s &&& 3 = s % 4 from Nat.and_two_pow_sub_one_eq_mod s 2, hr]

set_option maxRecDepth 100000 in
set_option maxHeartbeats 8000000 in
theorem fails_yes (W : World) (a : Nat) (ao : Option Addr) (n c : Nat) (bs : List Int) (ha : a < 256) (hs : Seq W.heap.size W (.slice ao n c) bs) (hy : Byt bs) (hn : n ≤ 40) :
    Calls Try.prog 6 #[.int .u8 (a : Int), .slice ao n c] W fun r w' => r = .returned (.bool true) ∧ Below W.heap.size W w' := by
  have hnot : ∀ (x : Bool) (w : World), (Op.unary .not (.bool x)).run Try.prog w = .ok (.bool (!x)) w := fun _ _ => rfl
  have hmay : May ((512 : Nat) : Int) ((90 : Nat) : Int) := by decide
  have HL := Lib.hid (show n = bs.length by obtain ⟨_, _, hv, _⟩ := hs; injection hv)
  have HS := Lib.hid hs
  have HY := Lib.hid hy
  have hni : ¬ (40 : Int) < (n : Int) := by omega
  obtain ⟨k, hk⟩ : ∃ k : Nat, (a : Int) % 30 = (k : Int) := ⟨a % 30, by omega⟩
  have hk30 : k < 30 := by omega
  have HT0 := Lib.hid (fun o => fl0_st o k hk30)
  clear hs hy
  go_enter Try.func6, Try.ntmps6
  go_wp2_with (first
    | (go_at_call 9; refine (awake3_any _).mono ?_; rintro e wA ⟨rfl, hA⟩; have HA := Lib.hid hA; clear hA)
    | (go_at_call 31; refine (new_good _ 512 90 hmay).mono ?_; rintro e w0 ⟨rfl, hw0⟩; have HD0 : Hid (DskAt wA.heap.size w0 wA.heap.size { size := 512, limit := 90, pg := [], loose := [], fails := false, ahead := 0, calls := 0, once := false }) := Lib.hid (by rw [← hw0]; exact newM (Nat.le_refl _)); have HG0 : Hid (Dfr wA.heap.size wA w0) := Lib.hid (by rw [← hw0]; exact dfr_new (World.grownBy_alloc _ _ _)); clear hw0)
    | (go_at_call 17; refine (HD0.out.grow (n := 2) aw_fine.1 (by decide) (by decide) (by decide) (by decide) (by decide)).mono ?_; rintro e w1 ⟨o, rfl, hd, hf⟩; have HD1 := Lib.hid hd; have HG1 := Lib.hid (HG0.out.trans hf); clear hd hf)
    | (go_at_call 21; refine (HD1.out.fail (k : Int)).mono ?_; rintro e w2 ⟨rfl, hd, hf⟩; have HD2 : Hid (DskAt wA.heap.size w2 wA.heap.size (fl0 o k)) := Lib.hid hd; have HB2 : Hid (Below W.heap.size W w2) := Lib.hid ((gbelow HA.out).trans (((HG1.out.trans hf).below (Nat.le_refl _)).mono HA.out.size)); clear hd hf))
  have HSz := Lib.hid HA.out.size
  clear hk
  go_loopg [9, 10] n (fun g v t wr => ∃ (i : Nat) (M : SM), i + g = n ∧ v = .int .i64 (M.loose.length : Int) ∧ t = .int .i64 (i : Int) ∧ DskAt wA.heap.size wr wA.heap.size M ∧ FSt M i k ∧ Below W.heap.size W wr)
  case atStart => exact ⟨0, fl0 o k, by omega, rfl, rfl, HD2.out, HT0.out o, HB2.out⟩
  case round =>
    obtain ⟨i, M, hi, rfl, rfl, hd, ht, hb⟩ := hrel
    have HDi := Lib.hid hd
    have HTi := Lib.hid ht
    have HBi := Lib.hid hb
    clear hd ht hb HD2 HB2
    by_cases hlt : i < n
    · obtain ⟨g, rfl⟩ : ∃ g, gk = g + 1 := ⟨gk - 1, by omega⟩
      have hki : (i : Int) < (n : Int) := by omega
      obtain ⟨p1, o1, rfl, e1⟩ := (HS.out.below HBi.out.block).cellAt i (by have := HL.out; omega)
      have hb1 := Byt.get HY.out i
      obtain ⟨s, hs⟩ : ∃ s : Nat, bs.getD i 0 = (s : Int) := ⟨(bs.getD i 0).toNat, by omega⟩
      rw [hs] at e1 hb1
      clear hs
      have hs256 : s < 256 := by omega
      obtain ⟨m, hm⟩ : ∃ m, m = M.pg.length := ⟨_, rfl⟩
      obtain ⟨lo, hlo⟩ : ∃ lo, lo = M.loose.length := ⟨_, rfl⟩
      have HM := Lib.hid hm
      have HLo := Lib.hid hlo
      have hlo4 : lo ≤ 100 := by have := HTi.out.w.lo; omega
      have hm4 : m ≤ 42 := by have := HTi.out.p2; omega
      rw [← hlo]
      clear hm hlo
      obtain ⟨r, hr⟩ : ∃ r, r = s % 4 := ⟨_, rfl⟩
      have hand := u8_and3v s r hs256 hr
      have hr4 : r < 4 := by omega
      clear hr
      by_cases hik : i = k
      · have q1 : ((i : Int) == (k : Int)) = true := by rw [hik]; simp
        have q2 : ((i : Int) != (k : Int)) = false := by rw [hik]; simp
        have HE := Lib.hid (HTi.out.io hik)
        have HTn := Lib.hid HTi.out.cnt
        have q1' : (i == k) = true := by simpa using hik
        have q2' : (i != k) = false := by simpa using hik
        clear hik
        obtain rfl | rfl | rfl | rfl : r = 0 ∨ r = 1 ∨ r = 2 ∨ r = 3 := by omega
        · go_wp2_with (first
            | (go_at_call 26; obtain ⟨al, cl, hl⟩ := HDi.out.len; rw [← HM.out] at hl; ((with_reducible refine (len_any _ _ al m cl hl).mono ?_); rintro e w' ⟨rfl, rfl⟩); clear hl)
            | (go_at_call 19; ((with_reducible refine (HDi.out.sync_io (HTi.out.w.fine (by omega)) HE.out).mono ?_); rintro e w3 ⟨rfl, hd, hf⟩); have HD3 := Lib.hid hd; have HT3 := HTn; have HB3 : Hid (Below W.heap.size W w3) := Lib.hid (HBi.out.trans ((hf.below (Nat.le_of_lt HDi.out.lt)).mono HSz.out)); clear hd hf)
            | (go_at_call 27; obtain ⟨al, cl, hl⟩ := HD3.out.los; refine (loose_any _ _ al lo cl (by rw [hl]; simp [HLo.out, cntM, wrM, syncM, growM])).mono ?_; rintro e w' ⟨rfl, rfl⟩; clear hl)
            | (go_at_call 30; have hl := HD3.out.lim.2.2; refine (calls_any _ _ ((i : Int) + 2) (by rw [hl]; congr 2; have h := HT3.out.cl; rw [h]; push_cast; omega)).mono ?_; rintro e w' ⟨rfl, rfl⟩; clear hl))
          go_roundg g
          case measure => omega
          case rel => exact ⟨i + 1, _, by omega, by simp [HLo.out, cntM, wrM, syncM, growM], by go_num, HD3.out, HT3.out, HB3.out⟩
        · go_wp2_with (first
            | (go_at_call 26; obtain ⟨al, cl, hl⟩ := HDi.out.len; rw [← HM.out] at hl; ((with_reducible refine (len_any _ _ al m cl hl).mono ?_); rintro e w' ⟨rfl, rfl⟩); clear hl)
            | (go_at_call 17; refine (HDi.out.grow_io (n := (m : Int) + 1) (HTi.out.w.fine (by omega)) (by have := HM.out; omega) (by rw [HTi.out.lm]; omega) HE.out).mono ?_; rintro e w3 ⟨rfl, hd, hf⟩; have HD3 := Lib.hid hd; have HT3 := HTn; have HB3 : Hid (Below W.heap.size W w3) := Lib.hid (HBi.out.trans ((hf.below (Nat.le_of_lt HDi.out.lt)).mono HSz.out)); clear hd hf)
            | (go_at_call 26; obtain ⟨al, cl, hl⟩ := HD3.out.len; ((with_reducible refine (len_any _ _ al m cl (by rw [hl]; simp [cntM, HM.out])).mono ?_); rintro e w' ⟨rfl, rfl⟩); clear hl)
            | (go_at_call 27; obtain ⟨al, cl, hl⟩ := HD3.out.los; refine (loose_any _ _ al lo cl (by rw [hl]; simp [HLo.out, cntM, wrM, syncM, growM])).mono ?_; rintro e w' ⟨rfl, rfl⟩; clear hl)
            | (go_at_call 30; have hl := HD3.out.lim.2.2; refine (calls_any _ _ ((i : Int) + 2) (by rw [hl]; congr 2; have h := HT3.out.cl; rw [h]; push_cast; omega)).mono ?_; rintro e w' ⟨rfl, rfl⟩; clear hl))
          go_roundg g
          case measure => omega
          case rel => exact ⟨i + 1, _, by omega, by simp [HLo.out, cntM, wrM, syncM, growM], by go_num, HD3.out, HT3.out, HB3.out⟩
        · go_wp2_with (first
            | (go_at_call 26; obtain ⟨al, cl, hl⟩ := HDi.out.len; rw [← HM.out] at hl; ((with_reducible refine (len_any _ _ al m cl hl).mono ?_); rintro e w' ⟨rfl, rfl⟩); clear hl)
            | (go_at_call 15; refine (HDi.out.read_io (i := 1) (HTi.out.w.fine (by omega)) (by have := HTi.out.p1; omega) HE.out).mono ?_; rintro e w3 ⟨rfl, hd, hf⟩; have HD3 := Lib.hid hd; have HT3 := HTn; have HB3 : Hid (Below W.heap.size W w3) := Lib.hid (HBi.out.trans ((hf.below (Nat.le_of_lt HDi.out.lt)).mono HSz.out)); clear hd hf)
            | (go_at_call 27; obtain ⟨al, cl, hl⟩ := HD3.out.los; refine (loose_any _ _ al lo cl (by rw [hl]; simp [HLo.out, cntM, wrM, syncM, growM])).mono ?_; rintro e w' ⟨rfl, rfl⟩; clear hl)
            | (go_at_call 30; have hl := HD3.out.lim.2.2; refine (calls_any _ _ ((i : Int) + 2) (by rw [hl]; congr 2; have h := HT3.out.cl; rw [h]; push_cast; omega)).mono ?_; rintro e w' ⟨rfl, rfl⟩; clear hl))
          go_roundg g
          case measure => omega
          case rel => exact ⟨i + 1, _, by omega, by simp [HLo.out, cntM, wrM, syncM, growM], by go_num, HD3.out, HT3.out, HB3.out⟩
        · go_wp2_with (first
            | (go_at_call 26; obtain ⟨al, cl, hl⟩ := HDi.out.len; rw [← HM.out] at hl; ((with_reducible refine (len_any _ _ al m cl hl).mono ?_); rintro e w' ⟨rfl, rfl⟩); clear hl)
            | (go_at_call 12; refine (full_any _ 512 _ n c bs false ((HS.out.below HBi.out.block).mono HBi.out.size) (by decide)).mono ?_; rintro e w2 ⟨gf, kf, rfl, hof, hgf⟩; obtain rfl := full_own hof; have HO2 : Hid (Own8 wr.heap.size w2 512 (.slice (some ⟨gf, 0, none⟩) 512 512) (fullB 512 bs 512)) := Lib.hid hof; have HDf := Lib.hid (HDi.out.new hgf); have HGf := Lib.hid (dfr_new (B := wA.heap.size) hgf); clear hof hgf)
            | (go_at_call 13; refine (HDf.out.write_io (n := 0) (i := 0) (HTi.out.w.fine (by omega)) (by have := HTi.out.p1; omega) HTi.out.sz.symm HE.out).mono ?_; rintro e w3 ⟨rfl, hd, hf0⟩; have hf := HGf.out.trans hf0; have HD3 := Lib.hid hd; have HT3 := HTn; have HB3 : Hid (Below W.heap.size W w3) := Lib.hid (HBi.out.trans ((hf.below (Nat.le_of_lt HDi.out.lt)).mono HSz.out)); clear hd hf; clear hf0)
            | (go_at_call 27; obtain ⟨al, cl, hl⟩ := HD3.out.los; refine (loose_any _ _ al lo cl (by rw [hl]; simp [HLo.out, cntM, wrM, syncM, growM])).mono ?_; rintro e w' ⟨rfl, rfl⟩; clear hl)
            | (go_at_call 30; have hl := HD3.out.lim.2.2; refine (calls_any _ _ ((i : Int) + 2) (by rw [hl]; congr 2; have h := HT3.out.cl; rw [h]; push_cast; omega)).mono ?_; rintro e w' ⟨rfl, rfl⟩; clear hl))
          go_roundg g
          case measure => omega
          case rel => exact ⟨i + 1, _, by omega, by simp [HLo.out, cntM, wrM, syncM, growM], by go_num, HD3.out, HT3.out, HB3.out⟩
      · have q1 : ((i : Int) == (k : Int)) = false := by simpa using (by omega : ¬ (i : Int) = (k : Int))
        have q2 : ((i : Int) != (k : Int)) = true := by simpa using (by omega : ¬ (i : Int) = (k : Int))
        have q1' : (i == k) = false := by simpa using hik
        have q2' : (i != k) = true := by simpa using hik
        have HE := Lib.hid (HTi.out.ok hik)
        have HTn := Lib.hid HTi.out.cnt
        clear hik
        obtain rfl | rfl | rfl | rfl : r = 0 ∨ r = 1 ∨ r = 2 ∨ r = 3 := by omega
        · go_wp2_with (first
            | (go_at_call 26; obtain ⟨al, cl, hl⟩ := HDi.out.len; rw [← HM.out] at hl; ((with_reducible refine (len_any _ _ al m cl hl).mono ?_); rintro e w' ⟨rfl, rfl⟩); clear hl)
            | (go_at_call 19; ((with_reducible refine (HDi.out.sync (HTi.out.w.fine (by omega)) HE.out HTi.out.w.lin (by have := HLo.out; omega) (by have := HM.out; omega)).mono ?_); rintro e w3 ⟨rfl, hd, hf⟩); have HD3 := Lib.hid hd; have HT3 := Lib.hid HTi.out.sync; have HB3 : Hid (Below W.heap.size W w3) := Lib.hid (HBi.out.trans ((hf.below (Nat.le_of_lt HDi.out.lt)).mono HSz.out)); clear hd hf)
            | (go_at_call 27; obtain ⟨al, cl, hl⟩ := HD3.out.los; refine (loose_any _ _ al 0 cl (by rw [hl]; simp [HLo.out, cntM, wrM, syncM, growM])).mono ?_; rintro e w' ⟨rfl, rfl⟩; clear hl)
            | (go_at_call 30; have hl := HD3.out.lim.2.2; refine (calls_any _ _ ((i : Int) + 2) (by rw [hl]; congr 2; have h := HT3.out.cl; rw [h]; push_cast; omega)).mono ?_; rintro e w' ⟨rfl, rfl⟩; clear hl))
          go_roundg g
          case measure => omega
          case rel => exact ⟨i + 1, _, by omega, by simp [syncM], by go_num, HD3.out, HT3.out, HB3.out⟩
        · go_wp2_with (first
            | (go_at_call 26; obtain ⟨al, cl, hl⟩ := HDi.out.len; rw [← HM.out] at hl; ((with_reducible refine (len_any _ _ al m cl hl).mono ?_); rintro e w' ⟨rfl, rfl⟩); clear hl)
            | (go_at_call 17; refine (HDi.out.grow (n := m + 1) (HTi.out.w.fine (by omega)) (by have := HM.out; omega) (by rw [HTi.out.lm]; omega) (by rw [HTi.out.sz]; decide) (by rw [HTi.out.lm]; decide) HE.out).mono ?_; rintro e w3 ⟨o3, rfl, hd, hf⟩; rw [show m + 1 - M.pg.length = 1 by have := HM.out; omega] at hd; have HD3 := Lib.hid hd; have HT3 := Lib.hid (HTi.out.grow (o := o3) (by omega)); have HB3 : Hid (Below W.heap.size W w3) := Lib.hid (HBi.out.trans ((hf.below (Nat.le_of_lt HDi.out.lt)).mono HSz.out)); clear hd hf)
            | (go_at_call 26; obtain ⟨al, cl, hl⟩ := HD3.out.len; ((with_reducible refine (len_any _ _ al (m + 1) cl (by rw [hl]; simp [growM, cntM, HM.out])).mono ?_); rintro e w' ⟨rfl, rfl⟩); clear hl)
            | (go_at_call 27; obtain ⟨al, cl, hl⟩ := HD3.out.los; refine (loose_any _ _ al lo cl (by rw [hl]; simp [HLo.out, cntM, wrM, syncM, growM])).mono ?_; rintro e w' ⟨rfl, rfl⟩; clear hl)
            | (go_at_call 30; have hl := HD3.out.lim.2.2; refine (calls_any _ _ ((i : Int) + 2) (by rw [hl]; congr 2; have h := HT3.out.cl; rw [h]; push_cast; omega)).mono ?_; rintro e w' ⟨rfl, rfl⟩; clear hl))
          go_roundg g
          case measure => omega
          case rel => exact ⟨i + 1, _, by omega, by simp [HLo.out, cntM, wrM, syncM, growM], by go_num, HD3.out, HT3.out, HB3.out⟩
        · go_wp2_with (first
            | (go_at_call 26; obtain ⟨al, cl, hl⟩ := HDi.out.len; rw [← HM.out] at hl; ((with_reducible refine (len_any _ _ al m cl hl).mono ?_); rintro e w' ⟨rfl, rfl⟩); clear hl)
            | (go_at_call 15; refine (HDi.out.readN (i := 1) HTi.out.sz (HTi.out.w.fine (by omega)) (by have := HTi.out.p1; omega) (by decide) HE.out).mono ?_; rintro e w3 ⟨wc, ar, er, rfl, hd0, hz, hf0, hg, hor⟩; have hd := hd0.new hg; have hf := hf0.trans (dfr_new (B := wA.heap.size) hg); have HD3 := Lib.hid hd; have HT3 := HTn; have HB3 : Hid (Below W.heap.size W w3) := Lib.hid (HBi.out.trans ((hf.below (Nat.le_of_lt HDi.out.lt)).mono HSz.out)); clear hd hf; clear hd0 hz hf0 hg hor)
            | (go_at_call 27; obtain ⟨al, cl, hl⟩ := HD3.out.los; refine (loose_any _ _ al lo cl (by rw [hl]; simp [HLo.out, cntM, wrM, syncM, growM])).mono ?_; rintro e w' ⟨rfl, rfl⟩; clear hl)
            | (go_at_call 30; have hl := HD3.out.lim.2.2; refine (calls_any _ _ ((i : Int) + 2) (by rw [hl]; congr 2; have h := HT3.out.cl; rw [h]; push_cast; omega)).mono ?_; rintro e w' ⟨rfl, rfl⟩; clear hl))
          go_roundg g
          case measure => omega
          case rel => exact ⟨i + 1, _, by omega, by simp [HLo.out, cntM, wrM, syncM, growM], by go_num, HD3.out, HT3.out, HB3.out⟩
        · go_wp2_with (first
            | (go_at_call 26; obtain ⟨al, cl, hl⟩ := HDi.out.len; rw [← HM.out] at hl; ((with_reducible refine (len_any _ _ al m cl hl).mono ?_); rintro e w' ⟨rfl, rfl⟩); clear hl)
            | (go_at_call 12; refine (full_any _ 512 _ n c bs false ((HS.out.below HBi.out.block).mono HBi.out.size) (by decide)).mono ?_; rintro e w2 ⟨gf, kf, rfl, hof, hgf⟩; obtain rfl := full_own hof; have HO2 : Hid (Own8 wr.heap.size w2 512 (.slice (some ⟨gf, 0, none⟩) 512 512) (fullB 512 bs 512)) := Lib.hid hof; have HDf := Lib.hid (HDi.out.new hgf); have HGf := Lib.hid (dfr_new (B := wA.heap.size) hgf); clear hof hgf)
            | (go_at_call 13; refine (HDf.out.writeN (i := 0) HTi.out.sz (HTi.out.w.fine (by omega)) (by have := HTi.out.p1; omega) (by decide) HE.out HO2.out (by have := HLo.out; omega)).mono ?_; rintro e w3 ⟨rfl, hd, hf0⟩; have hf := HGf.out.trans hf0; have HD3 := Lib.hid hd; have HT3 := Lib.hid (HTi.out.wr (bs := fullB 512 bs 512)); have HB3 : Hid (Below W.heap.size W w3) := Lib.hid (HBi.out.trans ((hf.below (Nat.le_of_lt HDi.out.lt)).mono HSz.out)); clear hd hf; clear hf0)
            | (go_at_call 27; obtain ⟨al, cl, hl⟩ := HD3.out.los; refine (loose_any _ _ al (lo + 1) cl (by rw [hl]; simp [HLo.out, cntM, wrM, syncM, growM])).mono ?_; rintro e w' ⟨rfl, rfl⟩; clear hl)
            | (go_at_call 30; have hl := HD3.out.lim.2.2; refine (calls_any _ _ ((i : Int) + 2) (by rw [hl]; congr 2; have h := HT3.out.cl; rw [h]; push_cast; omega)).mono ?_; rintro e w' ⟨rfl, rfl⟩; clear hl))
          go_roundg g
          case measure => omega
          case rel => exact ⟨i + 1, _, by omega, by simp [HLo.out, cntM, wrM, syncM, growM], by go_num, HD3.out, HT3.out, HB3.out⟩
    · obtain rfl : i = n := by omega
      go_wp2
      go_ret
      exact ⟨rfl, HBi.out⟩

set_option maxRecDepth 100000 in
set_option maxHeartbeats 4000000 in
theorem fails_no (W : World) (a : Int) (ao : Option Addr) (n c : Nat) (hn : 40 < n) (hm : n ≤ maxLen) :
    Calls Try.prog 6 #[.int .u8 a, .slice ao n c] W fun r w' => r = .returned (.bool true) ∧ Below W.heap.size W w' := by
  have hnot : ∀ (x : Bool) (w : World), (Op.unary .not (.bool x)).run Try.prog w = .ok (.bool (!x)) w := fun _ _ => rfl
  unfold maxLen at hm
  have hni : (40 : Int) < (n : Int) := by omega
  go_enter Try.func6, Try.ntmps6
  go_wp2_with (first
    | (go_at_call 9; refine (awake3_any _).mono ?_; rintro e wA ⟨rfl, hA⟩; have HA := Lib.hid (gbelow hA); clear hA))
  go_ret
  exact ⟨rfl, HA.out⟩

theorem fails_any (W : World) (a : Int) (ao : Option Addr) (n c : Nat) (bs : List Int) (h1 : 0 ≤ a) (h2 : a ≤ 255) (hs : Seq W.heap.size W (.slice ao n c) bs) (hy : Byt bs) :
    Calls Try.prog 6 #[.int .u8 a, .slice ao n c] W fun r w' => r = .returned (.bool true) ∧ Below W.heap.size W w' := by
  by_cases h : 40 < n
  · exact fails_no W a ao n c h (by obtain ⟨_, _, hv, k1, k2, _⟩ := hs; cases hv; omega)
  · obtain ⟨b, rfl⟩ : ∃ b : Nat, a = (b : Int) := ⟨a.toNat, by omega⟩
    exact fails_yes W b ao n c bs (by omega) hs hy (by omega)

open Go.ChangeShapes Go.WideShapes Go.ChangeAt
set_option linter.unusedVariables false
set_option maxRecDepth 100000 in
theorem fails_lifted (os : Os) (started : os.Started) (H : Type) (enc : TypeId × Value → H) :
    ReturnsInHanded {} Try.checked os 6 .any (Rows.diskFailsSpec.pre6 enc Try.prog Try.f6 Rows.diskFailsRow.domain false) (Rows.diskFailsSpec.post enc Try.prog Try.f6 false true false false) := by
  refine returnsInHanded_of_change (C := Try.checked) ownKnob0 started (by kernel_rfl) Try.func6
    (ChangeSpec.witness6 (enc := enc) (C := Try.checked) false ⟨#[], #[.int .u8 0, .slice none 0 0], []⟩ 8 (by kernel_rfl) (by kernel_rfl) (by kernel_rfl) (by kernel_rfl)) ?_
  intro W base args ds gs before hval0 hW hcnd _
  have hval : ∀ (j : Nat) t v, Try.f6.params[j]? = some t → args[j]? = some v → Value.okWide Try.prog W .any base t v := hval0
  have hW' := hW
  obtain ⟨p, q, hA0, hV, rfl, hfz, hnd⟩ := hW
  have hA : DataW.TrodAll enc Try.prog W 0 (fun _ => true) true Try.f6.params.toList args.toList ds p := hA0
  rw [Try.params6] at hA hval
  obtain ⟨v0, vs0, d0, ds0, p0, q0, hargs, rfl, rfl, h0, r0⟩ := trodAll_cons hA
  obtain ⟨v1, vs1, d1, ds1, p1, q1, rfl, rfl, rfl, h1, r1⟩ := trodAll_cons r0
  obtain ⟨rfl, rfl, rfl⟩ := trodAll_nil r1
  obtain rfl : args = #[v0, v1] := by cases args; simp_all
  obtain ⟨rfl, rfl⟩ := trodVars_none hV
  obtain ⟨a0, rfl, rfl, rfl, w0⟩ := open_int Try.underlying5 (hval 0 5 v0 rfl rfl) h0
  have b0 := bounds_u8 w0
  obtain ⟨a1, len1, cap1, rfl⟩ := okWide_slice Try.underlying22 (hval 1 22 v1 rfl rfl)
  have lt1 : ∀ x ∈ p1, x.block < W.heap.size := by obtain ⟨m, hm⟩ := h1; exact DataW.trod_lt m _ _ _ hm
  obtain ⟨z1, w1, y1⟩ := open_bytes h1
  clear hA0 hval0
  refine (fails_any W a0 a1 len1 cap1 z1 b0.1 b0.2 w1 y1).mono fun e W' ⟨he, bel⟩ => ?_
  subst he
  exact ⟨_, rfl, _, _, _, [], _, [], hW', trodAll_mk1 (shut_bool Try.underlying4 _), (trodAll_cons_mk (shut_int Try.underlying5 w0) (trodAll_cons_mk (Below.trod laidOut0 (by kernel_rfl) (of_decide_eq_true (by kernel_rfl)) h1 bel lt1) trodAll_mk0)), rfl, bel.frame _, fun h => by cases h⟩

/-- DiskFails, for every input. -/
theorem diskFails_holds : Rows.DiskFailsSaid :=
  OpenClaim.holds_of_wide 6 Try.f6 rfl rfl rfl rfl rfl rfl rfl ⟨rfl, rfl, rfl, rfl, rfl⟩ rfl rfl rfl rfl rfl (by kernel_rfl) Try.func6 (by kernel_rfl)
    (of_decide_eq_true (by kernel_rfl)) (by unfold Func.isWrapper; first | (rw [if_pos (by decide +kernel)]; kernel_rfl) | (rw [if_neg (by decide +kernel)]; exact ⟨rfl, rfl⟩))
    (fun os started H enc _ => fails_lifted os started H enc)
#print axioms diskFails_holds

end Go.Proofs.Ytkcadiiahbkmcaa
