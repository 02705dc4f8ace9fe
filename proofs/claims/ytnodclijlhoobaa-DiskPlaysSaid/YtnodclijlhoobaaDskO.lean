/-
  Layer 3: the contracts of Grow and From. Own work.
-/
import Derived.Test.YtnodclijlhoobaaDskN
namespace Go.Proofs.Ytnodclijlhoobaa
open Go.RowKit

theorem DskAt.len {B d : Nat} {w : World} {M : SM} (h : DskAt B w d M) : ∃ ao c, w.cell? ⟨d, 2, none⟩ = some (.slice ao M.pg.length c) := by
  obtain ⟨pv, lv, nv, ps, ls, h1, h2, h3, h4, h5⟩ := h
  have c2 := (cells11 h2).2.2.1
  obtain ⟨pa, pc, rfl⟩ := own_shape h3.pown
  exact ⟨pa, pc, by rw [c2, h4]; simp⟩
theorem DskAt.lim {B d : Nat} {w : World} {M : SM} (h : DskAt B w d M) : w.cell? ⟨d, 0, none⟩ = some (.int .i64 (M.size : Int)) ∧ w.cell? ⟨d, 1, none⟩ = some (.int .i64 (M.limit : Int)) ∧ w.cell? ⟨d, 4, none⟩ = some (.int .i64 (M.calls : Int)) := by
  obtain ⟨pv, lv, nv, ps, ls, h1, h2, h3, h4, h5⟩ := h
  exact ⟨(cells11 h2).1, (cells11 h2).2.1, (cells11 h2).2.2.2.2.1⟩
theorem DskAt.los {B d : Nat} {w : World} {M : SM} (h : DskAt B w d M) : ∃ ao c, w.cell? ⟨d, 3, none⟩ = some (.slice ao M.loose.length c) := by
  obtain ⟨pv, lv, nv, ps, ls, h1, h2, h3, h4, h5⟩ := h
  have c2 := (cells11 h2).2.2.2.1
  obtain ⟨pa, pc, rfl⟩ := own_shape h3.lown
  exact ⟨pa, pc, by rw [c2, h5]; simp⟩

/-- More pages, of noughts. -/
def growM (M : SM) (k : Nat) (o : Bool) : SM := { M with pg := M.pg ++ List.replicate k (List.replicate M.size 0, List.replicate M.size 0), once := o }
theorem growM_zero (M : SM) : growM M 0 M.once = M := by simp [growM]
theorem growM_succ (M : SM) (k : Nat) (o o' : Bool) : growM M (k + 1) o' = { growM M k o with once := o', pg := (growM M k o).pg ++ [(List.replicate (growM M k o).size 0, List.replicate (growM M k o).size 0)] } := by
  simp [growM, List.replicate_succ']

set_option maxHeartbeats 1000000 in
theorem grow_nil (w : World) (n : Int) : Calls Try.prog 18 #[.pointer none, .int .i64 n] w fun r w' => r = .returned (.int .i64 1) ∧ w = w' := by
  go_enter Try.func18, Try.ntmps18
  go_wp2
  go_ret
  exact ⟨rfl, rfl⟩
set_option maxHeartbeats 1000000 in
theorem DskAt.grow_arg {B d : Nat} {n : Int} {w : World} {M : SM} (h : DskAt B w d M) (hn : n < (M.pg.length : Int)) :
    Calls Try.prog 18 #[.pointer (some ⟨d, 0, none⟩), .int .i64 n] w fun r w' => r = .returned (.int .i64 1) ∧ w = w' := by
  obtain ⟨ao, c, c2⟩ := h.len
  generalize M.pg.length = m at hn c2
  clear h
  go_enter Try.func18, Try.ntmps18
  go_wp2_with (first | (go_at_call 27; ((with_reducible refine (len_any _ d ao m c c2).mono ?_); rintro e w' ⟨rfl, rfl⟩)))
  go_ret
  exact ⟨rfl, rfl⟩
set_option maxHeartbeats 1000000 in
theorem DskAt.grow_full {B d : Nat} {n : Int} {w : World} {M : SM} (h : DskAt B w d M) (hn : ¬ n < (M.pg.length : Int)) (hl : (M.limit : Int) < n) :
    Calls Try.prog 18 #[.pointer (some ⟨d, 0, none⟩), .int .i64 n] w fun r w' => r = .returned (.int .i64 21) ∧ w = w' := by
  obtain ⟨ao, c, c2⟩ := h.len
  have c1 := h.lim.2.1
  generalize M.pg.length = m at hn c2
  generalize M.limit = l at hl c1
  clear h
  go_enter Try.func18, Try.ntmps18
  go_wp2_with (first | (go_at_call 27; ((with_reducible refine (len_any _ d ao m c c2).mono ?_); rintro e w' ⟨rfl, rfl⟩)))
  go_ret
  exact ⟨rfl, rfl⟩
set_option maxHeartbeats 1000000 in
theorem DskAt.grow_io {B d : Nat} {n : Int} {w : World} {M : SM} (h : DskAt B w d M) (hF : Fine M) (hn : ¬ n < (M.pg.length : Int)) (hl : ¬ (M.limit : Int) < n) (h0 : cE M.fails M.ahead = 20) :
    Calls Try.prog 18 #[.pointer (some ⟨d, 0, none⟩), .int .i64 n] w fun r w' => r = .returned (.int .i64 20) ∧ DskAt B w' d (cntM M) ∧ Dfr B w w' := by
  obtain ⟨ao, c, c2⟩ := h.len
  have c1 := h.lim.2.1
  have H0 := Lib.hid h0
  have HD := Lib.hid h
  have HF := Lib.hid hF
  generalize M.pg.length = m at hn c2
  generalize M.limit = l at hl c1
  clear h h0 hF
  go_enter Try.func18, Try.ntmps18
  go_wp2_with (first
    | (go_at_call 27; ((with_reducible refine (len_any _ d ao m c c2).mono ?_); rintro e w' ⟨rfl, rfl⟩))
    | (go_at_call 53; ((with_reducible refine (HD.out.count HF.out).mono ?_); rintro e w1 ⟨rfl, b1, g1, s1, d1⟩; rw [H0.out]; have B1 := Lib.hid b1; have D1 := Lib.hid d1; clear b1 g1 s1 d1)))
  go_ret
  exact ⟨rfl, B1.out, D1.out⟩

set_option maxHeartbeats 2000000 in
theorem DskAt.grow {B d n : Nat} {w : World} {M : SM} (h : DskAt B w d M) (hF : Fine M) (hn : M.pg.length ≤ n) (hl : n ≤ M.limit) (hs : M.size ≤ 4096) (hl2 : M.limit ≤ 65536) (h0 : cE M.fails M.ahead = 0) :
    Calls Try.prog 18 #[.pointer (some ⟨d, 0, none⟩), .int .i64 (n : Int)] w fun r w' => ∃ o, r = .returned (.int .i64 0) ∧ DskAt B w' d (growM (cntM M) (n - M.pg.length) o) ∧ Dfr B w w' := by
  obtain ⟨ao, c, c2⟩ := h.len
  have c1 := h.lim.2.1
  have H0 := Lib.hid h0
  have HD := Lib.hid h
  have HF := Lib.hid hF
  obtain ⟨m, hm⟩ : ∃ m, m = M.pg.length := ⟨_, rfl⟩
  have HM := Lib.hid hm
  have HS := Lib.hid hs
  rw [← hm] at hn c2 ⊢
  have hl3 : n ≤ 65536 := by omega
  have hn1 : ¬ (n : Int) < (m : Int) := by omega
  generalize M.limit = l at hl c1
  have hl1 : ¬ (l : Int) < (n : Int) := by omega
  clear h h0 hF hm hl2 hs
  go_enter Try.func18, Try.ntmps18
  go_wp2_with (first
    | (go_at_call 27; ((with_reducible refine (len_any _ d ao m c c2).mono ?_); rintro e w' ⟨rfl, rfl⟩))
    | (go_at_call 53; ((with_reducible refine (HD.out.count HF.out).mono ?_); rintro e w1 ⟨rfl, b1, g1, s1, d1⟩; rw [H0.out]; have B1 := Lib.hid b1; have D1 := Lib.hid d1; clear b1 g1 s1 d1 c1 c2)))
  go_loopg [] (n - m) (fun g wr => ∃ k o, k + g = n - m ∧ DskAt B wr d (growM (cntM M) k o) ∧ Dfr B w wr)
  case atStart => exact ⟨0, _, by omega, by rw [growM_zero]; exact B1.out, D1.out⟩
  case round =>
    obtain ⟨k, o, hk, hd, hf⟩ := hrel
    obtain ⟨ak, ck, c3⟩ := hd.len
    obtain ⟨q, hq⟩ : ∃ q, q = m + k := ⟨_, rfl⟩
    have HL := Lib.hid (show (growM (cntM M) k o).pg.length = q by rw [hq]; simp [growM, cntM, HM.out])
    have HZ := Lib.hid (show (growM (cntM M) k o).size ≤ 4096 from HS.out)
    have HQ := Lib.hid hq
    rw [HL.out] at c3
    have HG3 := Lib.hid (show q ≤ 65536 → (growM (cntM M) k o).pg.length ≤ 100000 by rw [HL.out]; omega)
    have HDk := Lib.hid hd
    have HFk := Lib.hid hf
    clear hd hf B1 D1 hq
    by_cases hlt : q < n
    · obtain ⟨g, rfl⟩ : ∃ g, gk = g + 1 := ⟨gk - 1, by have := HQ.out; omega⟩
      have hlti : (q : Int) < (n : Int) := by omega
      go_wp2_with (first
        | (go_at_call 27; ((with_reducible refine (len_any _ d ak q ck c3).mono ?_); rintro e w' ⟨rfl, rfl⟩))
        | (go_at_call 56; ((with_reducible refine (HDk.out.blank HZ.out).mono ?_); rintro e w2 ⟨nv, rfl, o2, b2, d2⟩; have O2 := Lib.hid o2; have B2 := Lib.hid b2; have D2 := Lib.hid (HFk.out.trans d2); clear o2 b2 d2 c3))
        | (go_at_call 49; ((with_reducible refine (B2.out.add O2.out (HG3.out (by omega))).mono ?_); rintro e w3 ⟨rfl, b3, d3⟩; have B3 := Lib.hid b3; have D3 := Lib.hid (D2.out.trans d3); clear b3 d3)))
      go_roundg g
      case measure => (have := HQ.out; omega)
      case rel => exact ⟨k + 1, true, by have := HQ.out; omega, by rw [growM_succ (cntM M) k o true]; exact B3.out, D3.out⟩
    · have hlti : ¬ (q : Int) < (n : Int) := by omega
      have hkn : q = m + k := HQ.out
      obtain rfl : k = n - m := by omega
      clear hkn
      go_wp2_with (first
        | (go_at_call 27; ((with_reducible refine (len_any _ d ak q ck c3).mono ?_); rintro e w' ⟨rfl, rfl⟩)))
      go_ret
      exact ⟨o, rfl, HDk.out, HFk.out⟩

/-- The pages of raw bytes. -/
def chunk (bs : List Int) (s j : Nat) : List Int := (bs.drop (j * s)).take s
def chunks (bs : List Int) (s k : Nat) : List (List Int × List Int) := (List.range k).map fun j => (chunk bs s j, chunk bs s j)
theorem chunks_succ (bs : List Int) (s k : Nat) : chunks bs s (k + 1) = chunks bs s k ++ [(chunk bs s k, chunk bs s k)] := by simp [chunks, List.range_succ]
theorem chunk_len (bs : List Int) (s j : Nat) (h : j * s + s ≤ bs.length) : (chunk bs s j).length = s := by simp [chunk]; omega

set_option maxHeartbeats 1000000 in
theorem from_bad (w : World) (v : Value) (s l : Int) (h : ¬ May s l) :
    Calls Try.prog 11 #[v, .int .i64 s, .int .i64 l] w fun r w' => r = .returned (.tuple #[.pointer none, .int .i64 1]) ∧ w = w' := by
  have HM := Lib.hid h
  clear h
  go_enter Try.func11, Try.ntmps11
  go_wp2_with (first
    | (go_at_call 48; ((with_reducible refine (new_bad _ s l HM.out).mono ?_); rintro e w' ⟨rfl, rfl⟩)))
  go_ret2
  exact ⟨rfl, rfl⟩
set_option maxHeartbeats 1000000 in
theorem from_len (w : World) (ao : Option Addr) (n c : Nat) (s l : Nat) (h : May s l) (h9 : n ≤ maxLen) (hn : n % s ≠ 0 ∨ l < n / s) :
    Calls Try.prog 11 #[.slice ao n c, .int .i64 (s : Int), .int .i64 (l : Int)] w fun r w' => r = .returned (.tuple #[.pointer none, .int .i64 1]) ∧ w.grownBy w' none := by
  have HM := Lib.hid h
  have hs0 : (512 : Int) ≤ (s : Int) := h.1
  have hs1 : ¬ (s : Int) = 0 := by omega
  have hs2 : ((s : Int) == 0) = false := by simpa using hs1
  obtain ⟨q, hq⟩ : ∃ q, q = n % s := ⟨_, rfl⟩
  obtain ⟨p, hp⟩ : ∃ p, p = n / s := ⟨_, rfl⟩
  have hqi : (n : Int) % (s : Int) = (q : Int) := by rw [hq]; simp
  have hpi : (n : Int) / (s : Int) = (p : Int) := by rw [hp]; simp
  have hp9 : (p : Int) ≤ 9223372036854775807 := by have := Nat.div_le_self n s; unfold maxLen at h9; omega
  clear h9
  rw [← hq, ← hp] at hn
  by_cases hz : q = 0
  · subst hz
    have hpl : (l : Int) < (p : Int) := by omega
    clear hq hp hn h
    go_enter Try.func11, Try.ntmps11
    go_wp2_with (first
      | (go_at_call 48; ((with_reducible refine (new_good _ s l HM.out).mono ?_); rintro e w' ⟨rfl, rfl⟩)))
    go_ret2
    exact ⟨rfl, World.grownBy_alloc _ _ _⟩
  · have hqz : ((q : Int) != 0) = true := by simpa using hz
    clear hq hp hn h hz
    go_enter Try.func11, Try.ntmps11
    go_wp2_with (first
      | (go_at_call 48; ((with_reducible refine (new_good _ s l HM.out).mono ?_); rintro e w' ⟨rfl, rfl⟩)))
    go_ret2
    exact ⟨rfl, World.grownBy_alloc _ _ _⟩

set_option maxHeartbeats 2000000 in
theorem from_ok (w : World) (ao : Option Addr) (n c : Nat) (bs : List Int) (s l k : Nat) (h : May s l) (hb : Seq w.heap.size w (.slice ao n c) bs) (hn : n = k * s) (hk : k ≤ l) :
    Calls Try.prog 11 #[.slice ao n c, .int .i64 (s : Int), .int .i64 (l : Int)] w fun r w' => r = .returned (.tuple #[.pointer (some ⟨w.heap.size, 0, none⟩), .int .i64 0]) ∧
      DskAt w.heap.size w' w.heap.size { size := s, limit := l, pg := chunks bs s k, loose := [], fails := false, ahead := 0, calls := 0, once := false } ∧ w.grownBy w' none := by
  have HM := Lib.hid h
  have hs0 : (512 : Int) ≤ (s : Int) := h.1
  have hs9 : (s : Int) ≤ (4096 : Int) := h.2.1
  have hl9 : (l : Int) ≤ (65536 : Int) := h.2.2.2.2
  have hs1 : ¬ (s : Int) = 0 := by omega
  have hs2 : ((s : Int) == 0) = false := by simpa using hs1
  have hqi : (n : Int) % (s : Int) = 0 := by rw [hn]; simp
  have hpi : (n : Int) / (s : Int) = (k : Int) := by rw [hn, Int.natCast_mul]; exact Int.mul_ediv_cancel _ hs1
  have hpl : ¬ (l : Int) < (k : Int) := by omega
  have hdl : decide (l < k) = false := by simpa using hk
  have hlen : n = bs.length ∧ n ≤ c ∧ c ≤ maxLen := by obtain ⟨_, _, hv, h1, h2, _⟩ := hb; cases hv; exact ⟨rfl, h1, h2⟩
  have hnk : n ≤ 268435456 := by rw [hn]; exact Nat.le_trans (Nat.mul_le_mul (show k ≤ 65536 by omega) (show s ≤ 4096 by omega)) (by decide)
  have HN := Lib.hid hn
  have HL := Lib.hid hlen
  have HB := Lib.hid hb
  have hnc := hlen.2.1
  clear h hn hb hlen
  go_enter Try.func11, Try.ntmps11
  go_wp2_with (first
    | (go_at_call 48; ((with_reducible refine (new_good _ s l HM.out).mono ?_); rintro e w' ⟨rfl, rfl⟩)))
  clear hqi hpi hpl hs2
  go_loopg [10] k (fun g v wr => ∃ j p, j + g = k ∧ p = j * s ∧ v = .int .i64 (p : Int) ∧ DskAt w.heap.size wr w.heap.size { size := s, limit := l, pg := chunks bs s j, loose := [], fails := false, ahead := 0, calls := 0, once := false } ∧ w.grownBy wr none)
  case atStart => exact ⟨0, 0, by omega, by simp, rfl, newM (Nat.le_refl _), World.grownBy_alloc _ _ _⟩
  case round =>
    obtain ⟨j, p, hj, hp, rfl, hd, hg⟩ := hrel
    have HD := Lib.hid hd
    have HG := Lib.hid hg
    have HP := Lib.hid hp
    clear hd hg
    by_cases hlt : j < k
    · obtain ⟨g, rfl⟩ : ∃ g, gk = g + 1 := ⟨gk - 1, by omega⟩
      have hps : p + s ≤ n := by
        rw [hp, HN.out, ← Nat.succ_mul]; exact Nat.mul_le_mul_right _ hlt
      have hpi : (p : Int) < (n : Int) := by omega
      clear hp
      have hcp : ¬ c = p := by omega
      have S : Hid (Seq wr.heap.size wr (.slice (ao.map fun x => x.add p) s (c - p)) (chunk bs s j)) := Lib.hid (by
        have h1 := (((HB.out.below (fun i hi => HG.out.block i hi (by simp))).mono HG.out.size).tail (k := p) (by have := HL.out.1; omega)).pre s (by rw [List.length_drop]; have := HL.out.1; omega)
        unfold chunk; rw [← HP.out]; exact h1)
      have HCl := Lib.hid (chunk_len bs s j (by rw [← HP.out]; have := HL.out.1; omega))
      have HCk := Lib.hid (show (chunks bs s j).length ≤ 100000 by simp [chunks]; omega)
      clear hs1
      go_wp2_with (first
        | (go_at_call 50; have K := clone_any wr _ _ _ S.out (Nat.le_refl _) (by have := HCl.out; omega); rw [HCl.out] at K; ((with_reducible refine K.mono ?_); clear K; rintro e w2 ⟨va, vc, rfl, hown, hg2⟩; have HV : Hid (Own8 w.heap.size w2 s (.slice va s vc) (chunk bs s j)) := Lib.hid (own_base hown HG.out.size); have HD2 := Lib.hid (HD.out.new hg2); have HG2 := Lib.hid (gtrans HG.out hg2); clear hown hg2))
        | (go_at_call 49; ((with_reducible refine (HD2.out.add HV.out HCk.out).mono ?_); rintro e w3 ⟨rfl, b3, d3⟩; have B3 := Lib.hid b3; have D3 := Lib.hid d3; clear b3 d3)))
      go_roundg g
      case measure => omega
      case rel =>
        refine ⟨j + 1, p + s, by omega, by rw [HP.out, Nat.succ_mul], by go_num, ?_, ?_⟩
        · rw [chunks_succ]; exact B3.out
        · exact gof (Below.trans (gbelow HG2.out) (D3.out.below HG2.out.size)) none
    · obtain rfl : j = k := by omega
      have hpn : p = n := by rw [hp, HN.out]
      subst hpn
      clear hp
      go_wp2
      go_ret2
      exact ⟨rfl, HD.out, HG.out⟩

end Go.Proofs.Ytnodclijlhoobaa
