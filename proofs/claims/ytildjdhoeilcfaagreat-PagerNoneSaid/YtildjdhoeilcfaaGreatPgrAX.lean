/-
  slices.partitionOrdered at pages. Own work; printed by tools/sort/mkpart.py.
-/
import Derived.Test.YtildjdhoeilcfaaGreatPgrAW

namespace Go.Proofs.YtildjdhoeilcfaaGreat
open Go.RowKit Go.Maps

structure PInv (a b i j : Nat) (d : Array Nat) : Prop where
  i1 : a + 1 ≤ i
  j1 : a ≤ j
  j2 : j < b
  ij : i ≤ j + 1
  lo : ∀ k, a < k → k < i → d[k]! < d[a]!
  hi : ∀ k, j < k → k < b → d[a]! ≤ d[k]!
theorem PInv.start {a b : Nat} (d : Array Nat) (h : a + 12 < b) : PInv a b (a + 1) (b - 1) d :=
  ⟨Nat.le_refl _, by omega, by omega, by omega, fun k h1 h2 => by omega, fun k h1 h2 => by omega⟩
theorem PInv.up {a b i j : Nat} {d : Array Nat} (h : PInv a b i j d) (hij : i ≤ j) (hl : d[i]! < d[a]!) : PInv a b (i + 1) j d :=
  ⟨by have := h.i1; omega, h.j1, h.j2, by omega, fun k h1 h2 => by
    rcases Nat.lt_or_ge k i with e | e
    · exact h.lo k h1 e
    · obtain rfl : k = i := by omega
      exact hl, h.hi⟩
theorem PInv.down {a b i j : Nat} {d : Array Nat} (h : PInv a b i j d) (hij : i ≤ j) (hl : d[a]! ≤ d[j]!) : PInv a b i (j - 1) d :=
  ⟨h.i1, by have := h.i1; omega, by have := h.j2; omega, by have := h.i1; omega, h.lo, fun k h1 h2 => by
    rcases Nat.lt_or_ge j k with e | e
    · exact h.hi k e h2
    · obtain rfl : k = j := by omega
      exact hl⟩
theorem PInv.swap {a b i j : Nat} {d : Array Nat} (h : PInv a b i j d) (hij : i ≤ j) (hb : b ≤ d.size) (hi : d[a]! ≤ d[i]!) (hj : d[j]! < d[a]!) : PInv a b (i + 1) (j - 1) (Sort.swp d i j) := by
  have hne : i ≠ j := fun e => by subst e; omega
  have h1 := h.i1
  have h2 := h.j2
  have ha : (Sort.swp d i j)[a]! = d[a]! := Sort.swp_other d i j a (by omega) (by omega)
  refine ⟨by omega, by omega, by omega, by omega, fun k k1 k2 => ?_, fun k k1 k2 => ?_⟩
  · rw [ha]
    rcases Nat.lt_or_ge k i with e | e
    · rw [Sort.swp_other d i j k (by omega) (by omega)]; exact h.lo k k1 e
    · obtain rfl : k = i := by omega
      rw [Sort.swp_left d k j (by omega) hne]; exact hj
  · rw [ha]
    rcases Nat.lt_or_ge j k with e | e
    · rw [Sort.swp_other d i j k (by omega) (by omega)]; exact h.hi k e k2
    · obtain rfl : k = j := by omega
      rw [Sort.swp_right d i k (by omega)]; exact hi
theorem PInv.fin {a b i j : Nat} {d : Array Nat} (h : PInv a b i j d) (hij : j < i) (hb : b ≤ d.size) :
    (∀ k, a ≤ k → k < j → (Sort.swp d j a)[k]! < (Sort.swp d j a)[j]!) ∧ (∀ k, j < k → k < b → (Sort.swp d j a)[j]! ≤ (Sort.swp d j a)[k]!) := by
  have h1 := h.i1
  have h2 := h.j2
  have h3 := h.j1
  have e1 : (Sort.swp d j a)[j]! = d[a]! := by
    by_cases e : j = a
    · subst e; rw [Sort.swp_right d j j (by omega)]
    · exact Sort.swp_left d j a (by omega) e
  refine ⟨fun k k1 k2 => ?_, fun k k1 k2 => ?_⟩
  · rw [e1]
    rcases Nat.lt_or_ge a k with e | e
    · rw [Sort.swp_other d j a k (by omega) (by omega)]; exact h.lo k e (by omega)
    · obtain rfl : k = a := by omega
      rw [Sort.swp_right d j k (by omega)]; exact h.lo j k2 (by omega)
  · rw [e1, Sort.swp_other d j a k (by omega) (by omega)]
    exact h.hi k k1 k2

/-- What partition leaves. -/
def Parted (w0 : World) (blk cap : Nat) (d : Array Nat) (a b : Nat) (r : Ending) (w' : World) : Prop :=
  ∃ (m : Nat) (t : Bool) (dk : Array Nat), r = .returned (.tuple #[.int .i64 (m : Int), .bool t]) ∧ RowAt w0 blk cap w' dk ∧ Sort.PermIn a b d dk ∧ a ≤ m ∧ m < b ∧ (∀ k, a ≤ k → k < m → dk[k]! < dk[m]!) ∧ (∀ k, m < k → k < b → dk[m]! ≤ dk[k]!)

set_option maxRecDepth 100000 in
set_option maxHeartbeats 8000000 in
theorem partition_any (w0 w : World) (blk cap a b pv : Nat) (d : Array Nat) (h : RowAt w0 blk cap w d) (hb : b ≤ d.size) (hsz : d.size ≤ 100000) (hab : a + 12 < b) (hp1 : a ≤ pv) (hp2 : pv < b) :
    Calls Tryz.prog 266 #[.slice (some ⟨blk, 0, none⟩) d.size cap, .int .i64 (a : Int), .int .i64 (b : Int), .int .i64 (pv : Int)] w fun r w' => Parted w0 blk cap d a b r w' := by
  obtain ⟨n, hn⟩ : ∃ n, n = d.size := ⟨_, rfl⟩
  have HN := Lib.hid hn
  rw [← hn] at hb hsz ⊢
  have HR := Lib.hid h
  have HAB := Lib.hid hab
  have HBN := Lib.hid hb
  obtain ⟨i0, hi0⟩ : ∃ i0 : Nat, (a : Int) + 1 = (i0 : Int) := ⟨a + 1, by omega⟩
  obtain ⟨j0, hj0⟩ : ∃ j0 : Nat, (b : Int) - 1 = (j0 : Int) := ⟨b - 1, by omega⟩
  have HI0 := Lib.hid (show i0 = a + 1 by omega)
  have HJ0 := Lib.hid (show j0 = b - 1 by omega)
  have han : (a : Int) < (n : Int) := by omega
  have hj05 : (j0 : Int) ≤ 100000 := by omega
  have hi05 : (i0 : Int) ≤ 100000 := by omega
  have hb05 : (b : Int) ≤ 100000 := by omega
  have hb01 : (1 : Int) ≤ (b : Int) := by omega
  have hn05 : (n : Int) ≤ 100000 := by omega
  have hpn : (pv : Int) < (n : Int) := by omega
  have HPV := Lib.hid (And.intro hp1 hp2)
  have c1 := h.cell (show a < d.size by omega)
  have c2 := h.cell (show pv < d.size by omega)
  have f1 := h.froz a
  have f2 := h.froz pv
  obtain ⟨x, hx⟩ : ∃ x, d[a]! = x := ⟨_, rfl⟩
  obtain ⟨y, hy⟩ : ∃ y, d[pv]! = y := ⟨_, rfl⟩
  rw [hx] at c1
  rw [hy] at c2
  have HX := Lib.hid hx
  have HY := Lib.hid hy
  clear hx hy h hn hab hb hp2
  obtain ⟨sp, hsp⟩ : ∃ sp, sp = Sort.swp d a pv := ⟨_, rfl⟩
  rcases Nat.lt_or_eq_of_le hp1 with hltp | e
  · clear hp1
    have hrs := (HR.out.swap (i := a) (j := pv) (by have := HN.out; have := HPV.out; have := HBN.out; omega) (by have := HN.out; have := HPV.out; have := HBN.out; omega) HY.out HX.out).drew
    have hs1 := And.intro ((size_swp' d a pv).trans HN.out.symm) (permIn_swp (Sort.permIn_refl d a b) (Nat.le_refl a) (by have := HAB.out; omega) HPV.out.1 HPV.out.2 (by rw [← HN.out]; exact HBN.out))
    rw [← hsp] at hrs hs1
    have HS1 := Lib.hid hs1
    have HPI0 := Lib.hid (PInv.start (a := a) (b := b) sp HAB.out)
    rw [← HI0.out, ← HJ0.out] at HPI0
    clear hsp hs1
    go_enter Tryz.func266, Tryz.ntmps266
    go_wp2_with fail
    go_region
    all_goals
      clear c1 f1 c2 f2
      generalize ((w.setCell ⟨blk, a, none⟩ (.int .u32 (y : Int))).setCell ⟨blk, pv, none⟩ (.int .u32 (x : Int))).drew = WS at hrs ⊢
      have HRS := Lib.hid hrs
      clear hrs
      go_wp2
      go_loopg [10] b (fun g iv wr => ∃ i : Nat, iv = .int .i64 (i : Int) ∧ b ≤ g + i ∧ i0 ≤ i ∧ Hid (PInv a b i j0 sp) ∧ RowAt w0 blk cap wr sp)
      case atStart => exact ⟨i0, rfl, by omega, Nat.le_refl _, HPI0, HRS.out⟩
      case round =>
        obtain ⟨ifu, rfl, hgfu, hstfu, HPfu, hrowfu⟩ := hrel
        have pinvfu := HPfu.out
        by_cases hlefu : ifu ≤ j0
        · have hlei : (ifu : Int) ≤ (j0 : Int) := by omega
          have c1fu := hrowfu.cell (j := ifu) (by rw [HS1.out.1]; have := pinvfu.i1; have := pinvfu.j2; have := pinvfu.ij; have := HBN.out; omega)
          have c2fu := hrowfu.cell (j := a) (by rw [HS1.out.1]; have := HAB.out; have := HBN.out; omega)
          have hinfu : (ifu : Int) < (n : Int) := by have := pinvfu.i1; have := pinvfu.j2; have := pinvfu.ij; have := HBN.out; omega
          obtain ⟨xfu, hxfu⟩ : ∃ x, sp[ifu]! = x := ⟨_, rfl⟩
          obtain ⟨yfu, hyfu⟩ : ∃ y, sp[a]! = y := ⟨_, rfl⟩
          rw [hxfu] at c1fu
          rw [hyfu] at c2fu
          have HXfu := Lib.hid hxfu
          have HYfu := Lib.hid hyfu
          obtain ⟨lb, hlb⟩ : ∃ lb, ltN xfu yfu = lb := ⟨_, rfl⟩
          have HLfu := Lib.hid hlb
          have HRWfu := Lib.hid hrowfu
          clear hxfu hyfu hlb hrowfu pinvfu
          go_wp2_with fail
          go_quiet (first | (go_at_call 264; refine Calls.quiet_of_same (less_any xfu yfu lb HLfu.out _)))
          have HRVfu := Lib.hid (HRWfu.out.drewN nq)
          clear c1fu c2fu
          generalize wr.drewN nq = Wfu at HRVfu ⊢
          cases lb with
          | true =>
            have HLTfu := Lib.hid (show sp[ifu]! < sp[a]! by have h9 := HLfu.out; rw [HXfu.out, HYfu.out]; simpa [ltN] using h9)
            go_wp2
            go_roundg (b - (ifu + 1))
            case rel => exact ⟨ifu + 1, by simp, by omega, by omega, Lib.hid (HPfu.out.up hlefu HLTfu.out), HRVfu.out⟩
            case measure => have := HPfu.out.j2; omega
          | false =>
            have HGEfu := Lib.hid (show sp[a]! ≤ sp[ifu]! by have h9 := HLfu.out; rw [HXfu.out, HYfu.out]; simpa [ltN] using h9)
            clear hlei
            go_wp2
            go_loopg [11] b (fun g jv wr => ∃ j : Nat, jv = .int .i64 (j : Int) ∧ j ≤ g ∧ Hid (PInv a b ifu j sp) ∧ RowAt w0 blk cap wr sp)
            case atStart => exact ⟨j0, rfl, by have := HPfu.out.j2; omega, HPfu, HRVfu.out⟩
            case round =>
              obtain ⟨jfd, rfl, hgfd, HPfd, hrowfd⟩ := hrel
              have pinvfd := HPfd.out
              by_cases hlefd : ifu ≤ jfd
              · have hlei : (ifu : Int) ≤ (jfd : Int) := by omega
                have hj1 : (1 : Int) ≤ (jfd : Int) := by have := pinvfd.i1; omega
                have c1fd := hrowfd.cell (j := jfd) (by rw [HS1.out.1]; have := pinvfd.i1; have := pinvfd.j2; have := pinvfd.ij; have := HBN.out; omega)
                have c2fd := hrowfd.cell (j := a) (by rw [HS1.out.1]; have := HAB.out; have := HBN.out; omega)
                have hinfd : (jfd : Int) < (n : Int) := by have := pinvfd.i1; have := pinvfd.j2; have := pinvfd.ij; have := HBN.out; omega
                obtain ⟨xfd, hxfd⟩ : ∃ x, sp[jfd]! = x := ⟨_, rfl⟩
                obtain ⟨yfd, hyfd⟩ : ∃ y, sp[a]! = y := ⟨_, rfl⟩
                rw [hxfd] at c1fd
                rw [hyfd] at c2fd
                have HXfd := Lib.hid hxfd
                have HYfd := Lib.hid hyfd
                obtain ⟨lb, hlb⟩ : ∃ lb, ltN xfd yfd = lb := ⟨_, rfl⟩
                have HLfd := Lib.hid hlb
                have HRWfd := Lib.hid hrowfd
                clear hxfd hyfd hlb hrowfd pinvfd
                go_wp2_with fail
                go_quiet (first | (go_at_call 264; refine Calls.quiet_of_same (less_any xfd yfd lb HLfd.out _)))
                have HRVfd := Lib.hid (HRWfd.out.drewN nq)
                clear c1fd c2fd
                generalize wr.drewN nq = Wfd at HRVfd ⊢
                cases lb with
                | true =>
                  have HLTfd := Lib.hid (show sp[jfd]! < sp[a]! by have h9 := HLfd.out; rw [HXfd.out, HYfd.out]; simpa [ltN] using h9)
                  have hgt9 : ¬ (jfd : Int) < (ifu : Int) := by omega
                  go_wp2_with fail
                  have hijfd : ifu < jfd := by
                    rcases Nat.lt_or_eq_of_le hlefd with e | e
                    · exact e
                    · exfalso
                      have h1 := HGEfu.out
                      have h2 := HLTfd.out
                      rw [e] at h1
                      omega
                  have hgt : ¬ (jfd : Int) < (ifu : Int) := by omega
                  have hjn : (jfd : Int) < (n : Int) := by have := HPfd.out.j2; have := HBN.out; omega
                  have hin : (ifu : Int) < (n : Int) := by omega
                  have e1 := HRVfd.out.cell (j := jfd) (by rw [HS1.out.1]; have := HPfd.out.j2; have := HBN.out; omega)
                  have e2 := HRVfd.out.cell (j := ifu) (by rw [HS1.out.1]; have := HPfd.out.j2; have := HBN.out; omega)
                  have g1 := HRVfd.out.froz jfd
                  have g2 := HRVfd.out.froz ifu
                  obtain ⟨xf, hxf⟩ : ∃ x, sp[ifu]! = x := ⟨_, rfl⟩
                  obtain ⟨yf, hyf⟩ : ∃ y, sp[jfd]! = y := ⟨_, rfl⟩
                  rw [hyf] at e1
                  rw [hxf] at e2
                  have HFX := Lib.hid hxf
                  have HFY := Lib.hid hyf
                  have hj1 : (1 : Int) ≤ (jfd : Int) := by omega
                  have HNR := Lib.hid (HRVfd.out.drew.swap (i := ifu) (j := jfd) (by rw [HS1.out.1]; omega) (by rw [HS1.out.1]; omega) HFY.out HFX.out)
                  have HNP := Lib.hid (HPfd.out.swap hlefd (by rw [HS1.out.1]; exact HBN.out) HGEfu.out HLTfd.out)
                  have HNS := Lib.hid (And.intro ((size_swp' sp ifu jfd).trans HS1.out.1) (permIn_swp (i := ifu) (j := jfd) HS1.out.2 (by have := HPfd.out.i1; omega) (by have := HPfd.out.j2; omega) HPfd.out.j1 HPfd.out.j2 (by rw [← HN.out]; exact HBN.out)))
                  clear hxf hyf
                  go_region
                  all_goals
                    go_wp2
                    go_loopg [10, 11] b (fun g iv jv wr => ∃ (i j : Nat) (dk : Array Nat), iv = .int .i64 (i : Int) ∧ jv = .int .i64 (j : Int) ∧ b ≤ g + i ∧ Hid (PInv a b i j dk) ∧ Hid (dk.size = n ∧ Sort.PermIn a b d dk) ∧ RowAt w0 blk cap wr dk)
                    case atStart => exact ⟨ifu + 1, jfd - 1, Sort.swp sp ifu jfd, by simp, by congr 1; omega, by omega, HNP, HNS, HNR.out⟩
                    case round =>
                      obtain ⟨im, jm, dk, rfl, rfl, hgm, HPM, HSM, hrowm⟩ := hrel
                      have HRM := Lib.hid hrowm
                      clear hrowm
                      go_wp2
                      go_loopg [10] b (fun g iv wr => ∃ i : Nat, iv = .int .i64 (i : Int) ∧ b ≤ g + i ∧ im ≤ i ∧ Hid (PInv a b i jm dk) ∧ RowAt w0 blk cap wr dk)
                      case atStart => exact ⟨im, rfl, by omega, Nat.le_refl _, HPM, HRM.out⟩
                      case round =>
                        obtain ⟨imu, rfl, hgmu, hstmu, HPmu, hrowmu⟩ := hrel
                        have pinvmu := HPmu.out
                        by_cases hlemu : imu ≤ jm
                        · have hlei : (imu : Int) ≤ (jm : Int) := by omega
                          have c1mu := hrowmu.cell (j := imu) (by rw [HSM.out.1]; have := pinvmu.i1; have := pinvmu.j2; have := pinvmu.ij; have := HBN.out; omega)
                          have c2mu := hrowmu.cell (j := a) (by rw [HSM.out.1]; have := HAB.out; have := HBN.out; omega)
                          have hinmu : (imu : Int) < (n : Int) := by have := pinvmu.i1; have := pinvmu.j2; have := pinvmu.ij; have := HBN.out; omega
                          obtain ⟨xmu, hxmu⟩ : ∃ x, dk[imu]! = x := ⟨_, rfl⟩
                          obtain ⟨ymu, hymu⟩ : ∃ y, dk[a]! = y := ⟨_, rfl⟩
                          rw [hxmu] at c1mu
                          rw [hymu] at c2mu
                          have HXmu := Lib.hid hxmu
                          have HYmu := Lib.hid hymu
                          obtain ⟨lb, hlb⟩ : ∃ lb, ltN xmu ymu = lb := ⟨_, rfl⟩
                          have HLmu := Lib.hid hlb
                          have HRWmu := Lib.hid hrowmu
                          clear hxmu hymu hlb hrowmu pinvmu
                          go_wp2_with fail
                          go_quiet (first | (go_at_call 264; refine Calls.quiet_of_same (less_any xmu ymu lb HLmu.out _)))
                          have HRVmu := Lib.hid (HRWmu.out.drewN nq)
                          clear c1mu c2mu
                          generalize wr.drewN nq = Wmu at HRVmu ⊢
                          cases lb with
                          | true =>
                            have HLTmu := Lib.hid (show dk[imu]! < dk[a]! by have h9 := HLmu.out; rw [HXmu.out, HYmu.out]; simpa [ltN] using h9)
                            go_wp2
                            go_roundg (b - (imu + 1))
                            case rel => exact ⟨imu + 1, by simp, by omega, by omega, Lib.hid (HPmu.out.up hlemu HLTmu.out), HRVmu.out⟩
                            case measure => have := HPmu.out.j2; omega
                          | false =>
                            have HGEmu := Lib.hid (show dk[a]! ≤ dk[imu]! by have h9 := HLmu.out; rw [HXmu.out, HYmu.out]; simpa [ltN] using h9)
                            clear hlei
                            go_wp2
                            go_loopg [11] b (fun g jv wr => ∃ j : Nat, jv = .int .i64 (j : Int) ∧ j ≤ g ∧ Hid (PInv a b imu j dk) ∧ RowAt w0 blk cap wr dk)
                            case atStart => exact ⟨jm, rfl, by have := HPmu.out.j2; omega, HPmu, HRVmu.out⟩
                            case round =>
                              obtain ⟨jmd, rfl, hgmd, HPmd, hrowmd⟩ := hrel
                              have pinvmd := HPmd.out
                              by_cases hlemd : imu ≤ jmd
                              · have hlei : (imu : Int) ≤ (jmd : Int) := by omega
                                have hj1 : (1 : Int) ≤ (jmd : Int) := by have := pinvmd.i1; omega
                                have c1md := hrowmd.cell (j := jmd) (by rw [HSM.out.1]; have := pinvmd.i1; have := pinvmd.j2; have := pinvmd.ij; have := HBN.out; omega)
                                have c2md := hrowmd.cell (j := a) (by rw [HSM.out.1]; have := HAB.out; have := HBN.out; omega)
                                have hinmd : (jmd : Int) < (n : Int) := by have := pinvmd.i1; have := pinvmd.j2; have := pinvmd.ij; have := HBN.out; omega
                                obtain ⟨xmd, hxmd⟩ : ∃ x, dk[jmd]! = x := ⟨_, rfl⟩
                                obtain ⟨ymd, hymd⟩ : ∃ y, dk[a]! = y := ⟨_, rfl⟩
                                rw [hxmd] at c1md
                                rw [hymd] at c2md
                                have HXmd := Lib.hid hxmd
                                have HYmd := Lib.hid hymd
                                obtain ⟨lb, hlb⟩ : ∃ lb, ltN xmd ymd = lb := ⟨_, rfl⟩
                                have HLmd := Lib.hid hlb
                                have HRWmd := Lib.hid hrowmd
                                clear hxmd hymd hlb hrowmd pinvmd
                                go_wp2_with fail
                                go_quiet (first | (go_at_call 264; refine Calls.quiet_of_same (less_any xmd ymd lb HLmd.out _)))
                                have HRVmd := Lib.hid (HRWmd.out.drewN nq)
                                clear c1md c2md
                                generalize wr.drewN nq = Wmd at HRVmd ⊢
                                cases lb with
                                | true =>
                                  have HLTmd := Lib.hid (show dk[jmd]! < dk[a]! by have h9 := HLmd.out; rw [HXmd.out, HYmd.out]; simpa [ltN] using h9)
                                  have hgt9 : ¬ (jmd : Int) < (imu : Int) := by omega
                                  go_wp2_with fail
                                  have hijmd : imu < jmd := by
                                    rcases Nat.lt_or_eq_of_le hlemd with e | e
                                    · exact e
                                    · exfalso
                                      have h1 := HGEmu.out
                                      have h2 := HLTmd.out
                                      rw [e] at h1
                                      omega
                                  have hgt : ¬ (jmd : Int) < (imu : Int) := by omega
                                  have hjn : (jmd : Int) < (n : Int) := by have := HPmd.out.j2; have := HBN.out; omega
                                  have hin : (imu : Int) < (n : Int) := by omega
                                  have e1 := HRVmd.out.cell (j := jmd) (by rw [HSM.out.1]; have := HPmd.out.j2; have := HBN.out; omega)
                                  have e2 := HRVmd.out.cell (j := imu) (by rw [HSM.out.1]; have := HPmd.out.j2; have := HBN.out; omega)
                                  have g1 := HRVmd.out.froz jmd
                                  have g2 := HRVmd.out.froz imu
                                  obtain ⟨xf, hxf⟩ : ∃ x, dk[imu]! = x := ⟨_, rfl⟩
                                  obtain ⟨yf, hyf⟩ : ∃ y, dk[jmd]! = y := ⟨_, rfl⟩
                                  rw [hyf] at e1
                                  rw [hxf] at e2
                                  have HFX := Lib.hid hxf
                                  have HFY := Lib.hid hyf
                                  have hj1 : (1 : Int) ≤ (jmd : Int) := by omega
                                  have HNR := Lib.hid (HRVmd.out.drew.swap (i := imu) (j := jmd) (by rw [HSM.out.1]; omega) (by rw [HSM.out.1]; omega) HFY.out HFX.out)
                                  have HNP := Lib.hid (HPmd.out.swap hlemd (by rw [HSM.out.1]; exact HBN.out) HGEmu.out HLTmd.out)
                                  have HNS := Lib.hid (And.intro ((size_swp' dk imu jmd).trans HSM.out.1) (permIn_swp (i := imu) (j := jmd) HSM.out.2 (by have := HPmd.out.i1; omega) (by have := HPmd.out.j2; omega) HPmd.out.j1 HPmd.out.j2 (by rw [← HN.out]; exact HBN.out)))
                                  clear hxf hyf
                                  go_region
                                  all_goals
                                    go_wp2
                                    go_roundg (b - (imu + 1))
                                    case rel => exact ⟨imu + 1, jmd - 1, Sort.swp dk imu jmd, by simp, by congr 1; omega, by omega, HNP, HNS, HNR.out⟩
                                    case measure => have := HPmd.out.j2; omega
                                | false =>
                                  have HGEmd := Lib.hid (show dk[a]! ≤ dk[jmd]! by have h9 := HLmd.out; rw [HXmd.out, HYmd.out]; simpa [ltN] using h9)
                                  go_wp2
                                  go_roundg (jmd - 1)
                                  case rel => exact ⟨jmd - 1, by congr 1; omega, Nat.le_refl _, Lib.hid (HPmd.out.down hlemd HGEmd.out), HRVmd.out⟩
                                  case measure => have := HPmd.out.i1; omega
                              · have hlei : ¬ (imu : Int) ≤ (jmd : Int) := by omega
                                have HRWmd := Lib.hid hrowmd
                                clear hrowmd pinvmd
                                go_wp2_with fail
                                go_quiet (first | (go_at_call 264; refine Calls.quiet_of_same (less_any 0 0 false rfl _)))
                                have HRVmd := Lib.hid (HRWmd.out.drewN nq)
                                generalize wr.drewN nq = Wmd at HRVmd ⊢
                                have hgt : (jmd : Int) < (imu : Int) := by omega
                                have hjn : (jmd : Int) < (n : Int) := by have := HPmd.out.j2; have := HBN.out; omega
                                have e1 := HRVmd.out.cell (j := jmd) (by rw [HSM.out.1]; have := HPmd.out.j2; have := HBN.out; omega)
                                have e2 := HRVmd.out.cell (j := a) (by rw [HSM.out.1]; have := HAB.out; have := HBN.out; omega)
                                have g1 := HRVmd.out.froz jmd
                                have g2 := HRVmd.out.froz a
                                obtain ⟨xf, hxf⟩ : ∃ x, dk[a]! = x := ⟨_, rfl⟩
                                obtain ⟨yf, hyf⟩ : ∃ y, dk[jmd]! = y := ⟨_, rfl⟩
                                rw [hyf] at e1
                                rw [hxf] at e2
                                have HFX := Lib.hid hxf
                                have HFY := Lib.hid hyf
                                clear hxf hyf
                                rcases Nat.lt_or_eq_of_le HPmd.out.j1 with hja | hja
                                · go_wp2_with fail
                                  go_region
                                  all_goals
                                    go_wp2
                                    go_ret2
                                    exact ⟨jmd, false, Sort.swp dk jmd a, rfl, HRVmd.out.drew.swap (by rw [HSM.out.1]; have := HAB.out; have := HBN.out; have := HPmd.out.j2; omega) (by rw [HSM.out.1]; have := HAB.out; have := HBN.out; omega) HFX.out HFY.out, permIn_swp HSM.out.2 HPmd.out.j1 HPmd.out.j2 (Nat.le_refl _) (by have := HAB.out; omega) (by rw [← HN.out]; exact HBN.out), HPmd.out.j1, HPmd.out.j2, (HPmd.out.fin (by omega) (by rw [HSM.out.1]; exact HBN.out)).1, (HPmd.out.fin (by omega) (by rw [HSM.out.1]; exact HBN.out)).2⟩
                                · subst hja
                                  obtain rfl : xf = yf := by rw [← HFX.out, ← HFY.out]
                                  clear e1 g1
                                  go_wp2_with fail
                                  go_region
                                  all_goals
                                    go_wp2
                                    go_ret2
                                    exact ⟨a, false, Sort.swp dk a a, rfl, HRVmd.out.drew.swap (by rw [HSM.out.1]; have := HAB.out; have := HBN.out; have := HPmd.out.j2; omega) (by rw [HSM.out.1]; have := HAB.out; have := HBN.out; omega) HFX.out HFY.out, permIn_swp HSM.out.2 HPmd.out.j1 HPmd.out.j2 (Nat.le_refl _) (by have := HAB.out; omega) (by rw [← HN.out]; exact HBN.out), HPmd.out.j1, HPmd.out.j2, (HPmd.out.fin (by omega) (by rw [HSM.out.1]; exact HBN.out)).1, (HPmd.out.fin (by omega) (by rw [HSM.out.1]; exact HBN.out)).2⟩
                        · have hlei : ¬ (imu : Int) ≤ (jm : Int) := by omega
                          have HRWmu := Lib.hid hrowmu
                          clear hrowmu pinvmu
                          go_wp2_with fail
                          go_quiet (first | (go_at_call 264; refine Calls.quiet_of_same (less_any 0 0 false rfl _)))
                          have HRVmu := Lib.hid (HRWmu.out.drewN nq)
                          generalize wr.drewN nq = Wmu at HRVmu ⊢
                          go_wp2
                          go_loopg [11] 1 (fun g jv wr => jv = .int .i64 (jm : Int) ∧ RowAt w0 blk cap wr dk)
                          case atStart => exact ⟨rfl, HRVmu.out⟩
                          case round =>
                            obtain ⟨rfl, hrowms⟩ := hrel
                            have pinvms := HPmu.out
                            have hlei : ¬ (imu : Int) ≤ (jm : Int) := by omega
                            have HRWms := Lib.hid hrowms
                            clear hrowms pinvms
                            go_wp2_with fail
                            go_quiet (first | (go_at_call 264; refine Calls.quiet_of_same (less_any 0 0 false rfl _)))
                            have HRVms := Lib.hid (HRWms.out.drewN nq)
                            generalize wr.drewN nq = Wms at HRVms ⊢
                            have hgt : (jm : Int) < (imu : Int) := by omega
                            have hjn : (jm : Int) < (n : Int) := by have := HPmu.out.j2; have := HBN.out; omega
                            have e1 := HRVms.out.cell (j := jm) (by rw [HSM.out.1]; have := HPmu.out.j2; have := HBN.out; omega)
                            have e2 := HRVms.out.cell (j := a) (by rw [HSM.out.1]; have := HAB.out; have := HBN.out; omega)
                            have g1 := HRVms.out.froz jm
                            have g2 := HRVms.out.froz a
                            obtain ⟨xf, hxf⟩ : ∃ x, dk[a]! = x := ⟨_, rfl⟩
                            obtain ⟨yf, hyf⟩ : ∃ y, dk[jm]! = y := ⟨_, rfl⟩
                            rw [hyf] at e1
                            rw [hxf] at e2
                            have HFX := Lib.hid hxf
                            have HFY := Lib.hid hyf
                            clear hxf hyf
                            rcases Nat.lt_or_eq_of_le HPmu.out.j1 with hja | hja
                            · go_wp2_with fail
                              go_region
                              all_goals
                                go_wp2
                                go_ret2
                                exact ⟨jm, false, Sort.swp dk jm a, rfl, HRVms.out.drew.swap (by rw [HSM.out.1]; have := HAB.out; have := HBN.out; have := HPmu.out.j2; omega) (by rw [HSM.out.1]; have := HAB.out; have := HBN.out; omega) HFX.out HFY.out, permIn_swp HSM.out.2 HPmu.out.j1 HPmu.out.j2 (Nat.le_refl _) (by have := HAB.out; omega) (by rw [← HN.out]; exact HBN.out), HPmu.out.j1, HPmu.out.j2, (HPmu.out.fin (by omega) (by rw [HSM.out.1]; exact HBN.out)).1, (HPmu.out.fin (by omega) (by rw [HSM.out.1]; exact HBN.out)).2⟩
                            · subst hja
                              obtain rfl : xf = yf := by rw [← HFX.out, ← HFY.out]
                              clear e1 g1
                              go_wp2_with fail
                              go_region
                              all_goals
                                go_wp2
                                go_ret2
                                exact ⟨a, false, Sort.swp dk a a, rfl, HRVms.out.drew.swap (by rw [HSM.out.1]; have := HAB.out; have := HBN.out; have := HPmu.out.j2; omega) (by rw [HSM.out.1]; have := HAB.out; have := HBN.out; omega) HFX.out HFY.out, permIn_swp HSM.out.2 HPmu.out.j1 HPmu.out.j2 (Nat.le_refl _) (by have := HAB.out; omega) (by rw [← HN.out]; exact HBN.out), HPmu.out.j1, HPmu.out.j2, (HPmu.out.fin (by omega) (by rw [HSM.out.1]; exact HBN.out)).1, (HPmu.out.fin (by omega) (by rw [HSM.out.1]; exact HBN.out)).2⟩
                | false =>
                  have HGEfd := Lib.hid (show sp[a]! ≤ sp[jfd]! by have h9 := HLfd.out; rw [HXfd.out, HYfd.out]; simpa [ltN] using h9)
                  go_wp2
                  go_roundg (jfd - 1)
                  case rel => exact ⟨jfd - 1, by congr 1; omega, Nat.le_refl _, Lib.hid (HPfd.out.down hlefd HGEfd.out), HRVfd.out⟩
                  case measure => have := HPfd.out.i1; omega
              · have hlei : ¬ (ifu : Int) ≤ (jfd : Int) := by omega
                have HRWfd := Lib.hid hrowfd
                clear hrowfd pinvfd
                go_wp2_with fail
                go_quiet (first | (go_at_call 264; refine Calls.quiet_of_same (less_any 0 0 false rfl _)))
                have HRVfd := Lib.hid (HRWfd.out.drewN nq)
                generalize wr.drewN nq = Wfd at HRVfd ⊢
                have hgt : (jfd : Int) < (ifu : Int) := by omega
                have hjn : (jfd : Int) < (n : Int) := by have := HPfd.out.j2; have := HBN.out; omega
                have e1 := HRVfd.out.cell (j := jfd) (by rw [HS1.out.1]; have := HPfd.out.j2; have := HBN.out; omega)
                have e2 := HRVfd.out.cell (j := a) (by rw [HS1.out.1]; have := HAB.out; have := HBN.out; omega)
                have g1 := HRVfd.out.froz jfd
                have g2 := HRVfd.out.froz a
                obtain ⟨xf, hxf⟩ : ∃ x, sp[a]! = x := ⟨_, rfl⟩
                obtain ⟨yf, hyf⟩ : ∃ y, sp[jfd]! = y := ⟨_, rfl⟩
                rw [hyf] at e1
                rw [hxf] at e2
                have HFX := Lib.hid hxf
                have HFY := Lib.hid hyf
                clear hxf hyf
                rcases Nat.lt_or_eq_of_le HPfd.out.j1 with hja | hja
                · go_wp2_with fail
                  go_region
                  all_goals
                    go_wp2
                    go_ret2
                    exact ⟨jfd, true, Sort.swp sp jfd a, rfl, HRVfd.out.drew.swap (by rw [HS1.out.1]; have := HAB.out; have := HBN.out; have := HPfd.out.j2; omega) (by rw [HS1.out.1]; have := HAB.out; have := HBN.out; omega) HFX.out HFY.out, permIn_swp HS1.out.2 HPfd.out.j1 HPfd.out.j2 (Nat.le_refl _) (by have := HAB.out; omega) (by rw [← HN.out]; exact HBN.out), HPfd.out.j1, HPfd.out.j2, (HPfd.out.fin (by omega) (by rw [HS1.out.1]; exact HBN.out)).1, (HPfd.out.fin (by omega) (by rw [HS1.out.1]; exact HBN.out)).2⟩
                · subst hja
                  obtain rfl : xf = yf := by rw [← HFX.out, ← HFY.out]
                  clear e1 g1
                  go_wp2_with fail
                  go_region
                  all_goals
                    go_wp2
                    go_ret2
                    exact ⟨a, true, Sort.swp sp a a, rfl, HRVfd.out.drew.swap (by rw [HS1.out.1]; have := HAB.out; have := HBN.out; have := HPfd.out.j2; omega) (by rw [HS1.out.1]; have := HAB.out; have := HBN.out; omega) HFX.out HFY.out, permIn_swp HS1.out.2 HPfd.out.j1 HPfd.out.j2 (Nat.le_refl _) (by have := HAB.out; omega) (by rw [← HN.out]; exact HBN.out), HPfd.out.j1, HPfd.out.j2, (HPfd.out.fin (by omega) (by rw [HS1.out.1]; exact HBN.out)).1, (HPfd.out.fin (by omega) (by rw [HS1.out.1]; exact HBN.out)).2⟩
        · have hlei : ¬ (ifu : Int) ≤ (j0 : Int) := by omega
          have HRWfu := Lib.hid hrowfu
          clear hrowfu pinvfu
          go_wp2_with fail
          go_quiet (first | (go_at_call 264; refine Calls.quiet_of_same (less_any 0 0 false rfl _)))
          have HRVfu := Lib.hid (HRWfu.out.drewN nq)
          generalize wr.drewN nq = Wfu at HRVfu ⊢
          go_wp2
          go_loopg [11] 1 (fun g jv wr => jv = .int .i64 (j0 : Int) ∧ RowAt w0 blk cap wr sp)
          case atStart => exact ⟨rfl, HRVfu.out⟩
          case round =>
            obtain ⟨rfl, hrowfs⟩ := hrel
            have pinvfs := HPfu.out
            have hlei : ¬ (ifu : Int) ≤ (j0 : Int) := by omega
            have HRWfs := Lib.hid hrowfs
            clear hrowfs pinvfs
            go_wp2_with fail
            go_quiet (first | (go_at_call 264; refine Calls.quiet_of_same (less_any 0 0 false rfl _)))
            have HRVfs := Lib.hid (HRWfs.out.drewN nq)
            generalize wr.drewN nq = Wfs at HRVfs ⊢
            have hgt : (j0 : Int) < (ifu : Int) := by omega
            have hjn : (j0 : Int) < (n : Int) := by have := HPfu.out.j2; have := HBN.out; omega
            have e1 := HRVfs.out.cell (j := j0) (by rw [HS1.out.1]; have := HPfu.out.j2; have := HBN.out; omega)
            have e2 := HRVfs.out.cell (j := a) (by rw [HS1.out.1]; have := HAB.out; have := HBN.out; omega)
            have g1 := HRVfs.out.froz j0
            have g2 := HRVfs.out.froz a
            obtain ⟨xf, hxf⟩ : ∃ x, sp[a]! = x := ⟨_, rfl⟩
            obtain ⟨yf, hyf⟩ : ∃ y, sp[j0]! = y := ⟨_, rfl⟩
            rw [hyf] at e1
            rw [hxf] at e2
            have HFX := Lib.hid hxf
            have HFY := Lib.hid hyf
            clear hxf hyf
            rcases Nat.lt_or_eq_of_le HPfu.out.j1 with hja | hja
            · go_wp2_with fail
              go_region
              all_goals
                go_wp2
                go_ret2
                exact ⟨j0, true, Sort.swp sp j0 a, rfl, HRVfs.out.drew.swap (by rw [HS1.out.1]; have := HAB.out; have := HBN.out; have := HPfu.out.j2; omega) (by rw [HS1.out.1]; have := HAB.out; have := HBN.out; omega) HFX.out HFY.out, permIn_swp HS1.out.2 HPfu.out.j1 HPfu.out.j2 (Nat.le_refl _) (by have := HAB.out; omega) (by rw [← HN.out]; exact HBN.out), HPfu.out.j1, HPfu.out.j2, (HPfu.out.fin (by omega) (by rw [HS1.out.1]; exact HBN.out)).1, (HPfu.out.fin (by omega) (by rw [HS1.out.1]; exact HBN.out)).2⟩
            · exact absurd hja (by have := HJ0.out; have := HAB.out; omega)
  · subst e
    obtain rfl : x = y := by rw [← HX.out, ← HY.out]
    clear c2 f2 hp1
    have hrs := (HR.out.swap (i := a) (j := a) (by have := HN.out; have := HPV.out; have := HBN.out; omega) (by have := HN.out; have := HPV.out; have := HBN.out; omega) HY.out HX.out).drew
    have hs1 := And.intro ((size_swp' d a a).trans HN.out.symm) (permIn_swp (Sort.permIn_refl d a b) (Nat.le_refl a) (by have := HAB.out; omega) HPV.out.1 HPV.out.2 (by rw [← HN.out]; exact HBN.out))
    rw [← hsp] at hrs hs1
    have HS1 := Lib.hid hs1
    have HPI0 := Lib.hid (PInv.start (a := a) (b := b) sp HAB.out)
    rw [← HI0.out, ← HJ0.out] at HPI0
    clear hsp hs1
    go_enter Tryz.func266, Tryz.ntmps266
    go_wp2_with fail
    go_region
    all_goals
      clear c1 f1
      generalize ((w.setCell ⟨blk, a, none⟩ (.int .u32 (x : Int))).setCell ⟨blk, a, none⟩ (.int .u32 (x : Int))).drew = WS at hrs ⊢
      have HRS := Lib.hid hrs
      clear hrs
      go_wp2
      go_loopg [10] b (fun g iv wr => ∃ i : Nat, iv = .int .i64 (i : Int) ∧ b ≤ g + i ∧ i0 ≤ i ∧ Hid (PInv a b i j0 sp) ∧ RowAt w0 blk cap wr sp)
      case atStart => exact ⟨i0, rfl, by omega, Nat.le_refl _, HPI0, HRS.out⟩
      case round =>
        obtain ⟨ifu, rfl, hgfu, hstfu, HPfu, hrowfu⟩ := hrel
        have pinvfu := HPfu.out
        by_cases hlefu : ifu ≤ j0
        · have hlei : (ifu : Int) ≤ (j0 : Int) := by omega
          have c1fu := hrowfu.cell (j := ifu) (by rw [HS1.out.1]; have := pinvfu.i1; have := pinvfu.j2; have := pinvfu.ij; have := HBN.out; omega)
          have c2fu := hrowfu.cell (j := a) (by rw [HS1.out.1]; have := HAB.out; have := HBN.out; omega)
          have hinfu : (ifu : Int) < (n : Int) := by have := pinvfu.i1; have := pinvfu.j2; have := pinvfu.ij; have := HBN.out; omega
          obtain ⟨xfu, hxfu⟩ : ∃ x, sp[ifu]! = x := ⟨_, rfl⟩
          obtain ⟨yfu, hyfu⟩ : ∃ y, sp[a]! = y := ⟨_, rfl⟩
          rw [hxfu] at c1fu
          rw [hyfu] at c2fu
          have HXfu := Lib.hid hxfu
          have HYfu := Lib.hid hyfu
          obtain ⟨lb, hlb⟩ : ∃ lb, ltN xfu yfu = lb := ⟨_, rfl⟩
          have HLfu := Lib.hid hlb
          have HRWfu := Lib.hid hrowfu
          clear hxfu hyfu hlb hrowfu pinvfu
          go_wp2_with fail
          go_quiet (first | (go_at_call 264; refine Calls.quiet_of_same (less_any xfu yfu lb HLfu.out _)))
          have HRVfu := Lib.hid (HRWfu.out.drewN nq)
          clear c1fu c2fu
          generalize wr.drewN nq = Wfu at HRVfu ⊢
          cases lb with
          | true =>
            have HLTfu := Lib.hid (show sp[ifu]! < sp[a]! by have h9 := HLfu.out; rw [HXfu.out, HYfu.out]; simpa [ltN] using h9)
            go_wp2
            go_roundg (b - (ifu + 1))
            case rel => exact ⟨ifu + 1, by simp, by omega, by omega, Lib.hid (HPfu.out.up hlefu HLTfu.out), HRVfu.out⟩
            case measure => have := HPfu.out.j2; omega
          | false =>
            have HGEfu := Lib.hid (show sp[a]! ≤ sp[ifu]! by have h9 := HLfu.out; rw [HXfu.out, HYfu.out]; simpa [ltN] using h9)
            clear hlei
            go_wp2
            go_loopg [11] b (fun g jv wr => ∃ j : Nat, jv = .int .i64 (j : Int) ∧ j ≤ g ∧ Hid (PInv a b ifu j sp) ∧ RowAt w0 blk cap wr sp)
            case atStart => exact ⟨j0, rfl, by have := HPfu.out.j2; omega, HPfu, HRVfu.out⟩
            case round =>
              obtain ⟨jfd, rfl, hgfd, HPfd, hrowfd⟩ := hrel
              have pinvfd := HPfd.out
              by_cases hlefd : ifu ≤ jfd
              · have hlei : (ifu : Int) ≤ (jfd : Int) := by omega
                have hj1 : (1 : Int) ≤ (jfd : Int) := by have := pinvfd.i1; omega
                have c1fd := hrowfd.cell (j := jfd) (by rw [HS1.out.1]; have := pinvfd.i1; have := pinvfd.j2; have := pinvfd.ij; have := HBN.out; omega)
                have c2fd := hrowfd.cell (j := a) (by rw [HS1.out.1]; have := HAB.out; have := HBN.out; omega)
                have hinfd : (jfd : Int) < (n : Int) := by have := pinvfd.i1; have := pinvfd.j2; have := pinvfd.ij; have := HBN.out; omega
                obtain ⟨xfd, hxfd⟩ : ∃ x, sp[jfd]! = x := ⟨_, rfl⟩
                obtain ⟨yfd, hyfd⟩ : ∃ y, sp[a]! = y := ⟨_, rfl⟩
                rw [hxfd] at c1fd
                rw [hyfd] at c2fd
                have HXfd := Lib.hid hxfd
                have HYfd := Lib.hid hyfd
                obtain ⟨lb, hlb⟩ : ∃ lb, ltN xfd yfd = lb := ⟨_, rfl⟩
                have HLfd := Lib.hid hlb
                have HRWfd := Lib.hid hrowfd
                clear hxfd hyfd hlb hrowfd pinvfd
                go_wp2_with fail
                go_quiet (first | (go_at_call 264; refine Calls.quiet_of_same (less_any xfd yfd lb HLfd.out _)))
                have HRVfd := Lib.hid (HRWfd.out.drewN nq)
                clear c1fd c2fd
                generalize wr.drewN nq = Wfd at HRVfd ⊢
                cases lb with
                | true =>
                  have HLTfd := Lib.hid (show sp[jfd]! < sp[a]! by have h9 := HLfd.out; rw [HXfd.out, HYfd.out]; simpa [ltN] using h9)
                  have hgt9 : ¬ (jfd : Int) < (ifu : Int) := by omega
                  go_wp2_with fail
                  have hijfd : ifu < jfd := by
                    rcases Nat.lt_or_eq_of_le hlefd with e | e
                    · exact e
                    · exfalso
                      have h1 := HGEfu.out
                      have h2 := HLTfd.out
                      rw [e] at h1
                      omega
                  have hgt : ¬ (jfd : Int) < (ifu : Int) := by omega
                  have hjn : (jfd : Int) < (n : Int) := by have := HPfd.out.j2; have := HBN.out; omega
                  have hin : (ifu : Int) < (n : Int) := by omega
                  have e1 := HRVfd.out.cell (j := jfd) (by rw [HS1.out.1]; have := HPfd.out.j2; have := HBN.out; omega)
                  have e2 := HRVfd.out.cell (j := ifu) (by rw [HS1.out.1]; have := HPfd.out.j2; have := HBN.out; omega)
                  have g1 := HRVfd.out.froz jfd
                  have g2 := HRVfd.out.froz ifu
                  obtain ⟨xf, hxf⟩ : ∃ x, sp[ifu]! = x := ⟨_, rfl⟩
                  obtain ⟨yf, hyf⟩ : ∃ y, sp[jfd]! = y := ⟨_, rfl⟩
                  rw [hyf] at e1
                  rw [hxf] at e2
                  have HFX := Lib.hid hxf
                  have HFY := Lib.hid hyf
                  have hj1 : (1 : Int) ≤ (jfd : Int) := by omega
                  have HNR := Lib.hid (HRVfd.out.drew.swap (i := ifu) (j := jfd) (by rw [HS1.out.1]; omega) (by rw [HS1.out.1]; omega) HFY.out HFX.out)
                  have HNP := Lib.hid (HPfd.out.swap hlefd (by rw [HS1.out.1]; exact HBN.out) HGEfu.out HLTfd.out)
                  have HNS := Lib.hid (And.intro ((size_swp' sp ifu jfd).trans HS1.out.1) (permIn_swp (i := ifu) (j := jfd) HS1.out.2 (by have := HPfd.out.i1; omega) (by have := HPfd.out.j2; omega) HPfd.out.j1 HPfd.out.j2 (by rw [← HN.out]; exact HBN.out)))
                  clear hxf hyf
                  go_region
                  all_goals
                    go_wp2
                    go_loopg [10, 11] b (fun g iv jv wr => ∃ (i j : Nat) (dk : Array Nat), iv = .int .i64 (i : Int) ∧ jv = .int .i64 (j : Int) ∧ b ≤ g + i ∧ Hid (PInv a b i j dk) ∧ Hid (dk.size = n ∧ Sort.PermIn a b d dk) ∧ RowAt w0 blk cap wr dk)
                    case atStart => exact ⟨ifu + 1, jfd - 1, Sort.swp sp ifu jfd, by simp, by congr 1; omega, by omega, HNP, HNS, HNR.out⟩
                    case round =>
                      obtain ⟨im, jm, dk, rfl, rfl, hgm, HPM, HSM, hrowm⟩ := hrel
                      have HRM := Lib.hid hrowm
                      clear hrowm
                      go_wp2
                      go_loopg [10] b (fun g iv wr => ∃ i : Nat, iv = .int .i64 (i : Int) ∧ b ≤ g + i ∧ im ≤ i ∧ Hid (PInv a b i jm dk) ∧ RowAt w0 blk cap wr dk)
                      case atStart => exact ⟨im, rfl, by omega, Nat.le_refl _, HPM, HRM.out⟩
                      case round =>
                        obtain ⟨imu, rfl, hgmu, hstmu, HPmu, hrowmu⟩ := hrel
                        have pinvmu := HPmu.out
                        by_cases hlemu : imu ≤ jm
                        · have hlei : (imu : Int) ≤ (jm : Int) := by omega
                          have c1mu := hrowmu.cell (j := imu) (by rw [HSM.out.1]; have := pinvmu.i1; have := pinvmu.j2; have := pinvmu.ij; have := HBN.out; omega)
                          have c2mu := hrowmu.cell (j := a) (by rw [HSM.out.1]; have := HAB.out; have := HBN.out; omega)
                          have hinmu : (imu : Int) < (n : Int) := by have := pinvmu.i1; have := pinvmu.j2; have := pinvmu.ij; have := HBN.out; omega
                          obtain ⟨xmu, hxmu⟩ : ∃ x, dk[imu]! = x := ⟨_, rfl⟩
                          obtain ⟨ymu, hymu⟩ : ∃ y, dk[a]! = y := ⟨_, rfl⟩
                          rw [hxmu] at c1mu
                          rw [hymu] at c2mu
                          have HXmu := Lib.hid hxmu
                          have HYmu := Lib.hid hymu
                          obtain ⟨lb, hlb⟩ : ∃ lb, ltN xmu ymu = lb := ⟨_, rfl⟩
                          have HLmu := Lib.hid hlb
                          have HRWmu := Lib.hid hrowmu
                          clear hxmu hymu hlb hrowmu pinvmu
                          go_wp2_with fail
                          go_quiet (first | (go_at_call 264; refine Calls.quiet_of_same (less_any xmu ymu lb HLmu.out _)))
                          have HRVmu := Lib.hid (HRWmu.out.drewN nq)
                          clear c1mu c2mu
                          generalize wr.drewN nq = Wmu at HRVmu ⊢
                          cases lb with
                          | true =>
                            have HLTmu := Lib.hid (show dk[imu]! < dk[a]! by have h9 := HLmu.out; rw [HXmu.out, HYmu.out]; simpa [ltN] using h9)
                            go_wp2
                            go_roundg (b - (imu + 1))
                            case rel => exact ⟨imu + 1, by simp, by omega, by omega, Lib.hid (HPmu.out.up hlemu HLTmu.out), HRVmu.out⟩
                            case measure => have := HPmu.out.j2; omega
                          | false =>
                            have HGEmu := Lib.hid (show dk[a]! ≤ dk[imu]! by have h9 := HLmu.out; rw [HXmu.out, HYmu.out]; simpa [ltN] using h9)
                            clear hlei
                            go_wp2
                            go_loopg [11] b (fun g jv wr => ∃ j : Nat, jv = .int .i64 (j : Int) ∧ j ≤ g ∧ Hid (PInv a b imu j dk) ∧ RowAt w0 blk cap wr dk)
                            case atStart => exact ⟨jm, rfl, by have := HPmu.out.j2; omega, HPmu, HRVmu.out⟩
                            case round =>
                              obtain ⟨jmd, rfl, hgmd, HPmd, hrowmd⟩ := hrel
                              have pinvmd := HPmd.out
                              by_cases hlemd : imu ≤ jmd
                              · have hlei : (imu : Int) ≤ (jmd : Int) := by omega
                                have hj1 : (1 : Int) ≤ (jmd : Int) := by have := pinvmd.i1; omega
                                have c1md := hrowmd.cell (j := jmd) (by rw [HSM.out.1]; have := pinvmd.i1; have := pinvmd.j2; have := pinvmd.ij; have := HBN.out; omega)
                                have c2md := hrowmd.cell (j := a) (by rw [HSM.out.1]; have := HAB.out; have := HBN.out; omega)
                                have hinmd : (jmd : Int) < (n : Int) := by have := pinvmd.i1; have := pinvmd.j2; have := pinvmd.ij; have := HBN.out; omega
                                obtain ⟨xmd, hxmd⟩ : ∃ x, dk[jmd]! = x := ⟨_, rfl⟩
                                obtain ⟨ymd, hymd⟩ : ∃ y, dk[a]! = y := ⟨_, rfl⟩
                                rw [hxmd] at c1md
                                rw [hymd] at c2md
                                have HXmd := Lib.hid hxmd
                                have HYmd := Lib.hid hymd
                                obtain ⟨lb, hlb⟩ : ∃ lb, ltN xmd ymd = lb := ⟨_, rfl⟩
                                have HLmd := Lib.hid hlb
                                have HRWmd := Lib.hid hrowmd
                                clear hxmd hymd hlb hrowmd pinvmd
                                go_wp2_with fail
                                go_quiet (first | (go_at_call 264; refine Calls.quiet_of_same (less_any xmd ymd lb HLmd.out _)))
                                have HRVmd := Lib.hid (HRWmd.out.drewN nq)
                                clear c1md c2md
                                generalize wr.drewN nq = Wmd at HRVmd ⊢
                                cases lb with
                                | true =>
                                  have HLTmd := Lib.hid (show dk[jmd]! < dk[a]! by have h9 := HLmd.out; rw [HXmd.out, HYmd.out]; simpa [ltN] using h9)
                                  have hgt9 : ¬ (jmd : Int) < (imu : Int) := by omega
                                  go_wp2_with fail
                                  have hijmd : imu < jmd := by
                                    rcases Nat.lt_or_eq_of_le hlemd with e | e
                                    · exact e
                                    · exfalso
                                      have h1 := HGEmu.out
                                      have h2 := HLTmd.out
                                      rw [e] at h1
                                      omega
                                  have hgt : ¬ (jmd : Int) < (imu : Int) := by omega
                                  have hjn : (jmd : Int) < (n : Int) := by have := HPmd.out.j2; have := HBN.out; omega
                                  have hin : (imu : Int) < (n : Int) := by omega
                                  have e1 := HRVmd.out.cell (j := jmd) (by rw [HSM.out.1]; have := HPmd.out.j2; have := HBN.out; omega)
                                  have e2 := HRVmd.out.cell (j := imu) (by rw [HSM.out.1]; have := HPmd.out.j2; have := HBN.out; omega)
                                  have g1 := HRVmd.out.froz jmd
                                  have g2 := HRVmd.out.froz imu
                                  obtain ⟨xf, hxf⟩ : ∃ x, dk[imu]! = x := ⟨_, rfl⟩
                                  obtain ⟨yf, hyf⟩ : ∃ y, dk[jmd]! = y := ⟨_, rfl⟩
                                  rw [hyf] at e1
                                  rw [hxf] at e2
                                  have HFX := Lib.hid hxf
                                  have HFY := Lib.hid hyf
                                  have hj1 : (1 : Int) ≤ (jmd : Int) := by omega
                                  have HNR := Lib.hid (HRVmd.out.drew.swap (i := imu) (j := jmd) (by rw [HSM.out.1]; omega) (by rw [HSM.out.1]; omega) HFY.out HFX.out)
                                  have HNP := Lib.hid (HPmd.out.swap hlemd (by rw [HSM.out.1]; exact HBN.out) HGEmu.out HLTmd.out)
                                  have HNS := Lib.hid (And.intro ((size_swp' dk imu jmd).trans HSM.out.1) (permIn_swp (i := imu) (j := jmd) HSM.out.2 (by have := HPmd.out.i1; omega) (by have := HPmd.out.j2; omega) HPmd.out.j1 HPmd.out.j2 (by rw [← HN.out]; exact HBN.out)))
                                  clear hxf hyf
                                  go_region
                                  all_goals
                                    go_wp2
                                    go_roundg (b - (imu + 1))
                                    case rel => exact ⟨imu + 1, jmd - 1, Sort.swp dk imu jmd, by simp, by congr 1; omega, by omega, HNP, HNS, HNR.out⟩
                                    case measure => have := HPmd.out.j2; omega
                                | false =>
                                  have HGEmd := Lib.hid (show dk[a]! ≤ dk[jmd]! by have h9 := HLmd.out; rw [HXmd.out, HYmd.out]; simpa [ltN] using h9)
                                  go_wp2
                                  go_roundg (jmd - 1)
                                  case rel => exact ⟨jmd - 1, by congr 1; omega, Nat.le_refl _, Lib.hid (HPmd.out.down hlemd HGEmd.out), HRVmd.out⟩
                                  case measure => have := HPmd.out.i1; omega
                              · have hlei : ¬ (imu : Int) ≤ (jmd : Int) := by omega
                                have HRWmd := Lib.hid hrowmd
                                clear hrowmd pinvmd
                                go_wp2_with fail
                                go_quiet (first | (go_at_call 264; refine Calls.quiet_of_same (less_any 0 0 false rfl _)))
                                have HRVmd := Lib.hid (HRWmd.out.drewN nq)
                                generalize wr.drewN nq = Wmd at HRVmd ⊢
                                have hgt : (jmd : Int) < (imu : Int) := by omega
                                have hjn : (jmd : Int) < (n : Int) := by have := HPmd.out.j2; have := HBN.out; omega
                                have e1 := HRVmd.out.cell (j := jmd) (by rw [HSM.out.1]; have := HPmd.out.j2; have := HBN.out; omega)
                                have e2 := HRVmd.out.cell (j := a) (by rw [HSM.out.1]; have := HAB.out; have := HBN.out; omega)
                                have g1 := HRVmd.out.froz jmd
                                have g2 := HRVmd.out.froz a
                                obtain ⟨xf, hxf⟩ : ∃ x, dk[a]! = x := ⟨_, rfl⟩
                                obtain ⟨yf, hyf⟩ : ∃ y, dk[jmd]! = y := ⟨_, rfl⟩
                                rw [hyf] at e1
                                rw [hxf] at e2
                                have HFX := Lib.hid hxf
                                have HFY := Lib.hid hyf
                                clear hxf hyf
                                rcases Nat.lt_or_eq_of_le HPmd.out.j1 with hja | hja
                                · go_wp2_with fail
                                  go_region
                                  all_goals
                                    go_wp2
                                    go_ret2
                                    exact ⟨jmd, false, Sort.swp dk jmd a, rfl, HRVmd.out.drew.swap (by rw [HSM.out.1]; have := HAB.out; have := HBN.out; have := HPmd.out.j2; omega) (by rw [HSM.out.1]; have := HAB.out; have := HBN.out; omega) HFX.out HFY.out, permIn_swp HSM.out.2 HPmd.out.j1 HPmd.out.j2 (Nat.le_refl _) (by have := HAB.out; omega) (by rw [← HN.out]; exact HBN.out), HPmd.out.j1, HPmd.out.j2, (HPmd.out.fin (by omega) (by rw [HSM.out.1]; exact HBN.out)).1, (HPmd.out.fin (by omega) (by rw [HSM.out.1]; exact HBN.out)).2⟩
                                · subst hja
                                  obtain rfl : xf = yf := by rw [← HFX.out, ← HFY.out]
                                  clear e1 g1
                                  go_wp2_with fail
                                  go_region
                                  all_goals
                                    go_wp2
                                    go_ret2
                                    exact ⟨a, false, Sort.swp dk a a, rfl, HRVmd.out.drew.swap (by rw [HSM.out.1]; have := HAB.out; have := HBN.out; have := HPmd.out.j2; omega) (by rw [HSM.out.1]; have := HAB.out; have := HBN.out; omega) HFX.out HFY.out, permIn_swp HSM.out.2 HPmd.out.j1 HPmd.out.j2 (Nat.le_refl _) (by have := HAB.out; omega) (by rw [← HN.out]; exact HBN.out), HPmd.out.j1, HPmd.out.j2, (HPmd.out.fin (by omega) (by rw [HSM.out.1]; exact HBN.out)).1, (HPmd.out.fin (by omega) (by rw [HSM.out.1]; exact HBN.out)).2⟩
                        · have hlei : ¬ (imu : Int) ≤ (jm : Int) := by omega
                          have HRWmu := Lib.hid hrowmu
                          clear hrowmu pinvmu
                          go_wp2_with fail
                          go_quiet (first | (go_at_call 264; refine Calls.quiet_of_same (less_any 0 0 false rfl _)))
                          have HRVmu := Lib.hid (HRWmu.out.drewN nq)
                          generalize wr.drewN nq = Wmu at HRVmu ⊢
                          go_wp2
                          go_loopg [11] 1 (fun g jv wr => jv = .int .i64 (jm : Int) ∧ RowAt w0 blk cap wr dk)
                          case atStart => exact ⟨rfl, HRVmu.out⟩
                          case round =>
                            obtain ⟨rfl, hrowms⟩ := hrel
                            have pinvms := HPmu.out
                            have hlei : ¬ (imu : Int) ≤ (jm : Int) := by omega
                            have HRWms := Lib.hid hrowms
                            clear hrowms pinvms
                            go_wp2_with fail
                            go_quiet (first | (go_at_call 264; refine Calls.quiet_of_same (less_any 0 0 false rfl _)))
                            have HRVms := Lib.hid (HRWms.out.drewN nq)
                            generalize wr.drewN nq = Wms at HRVms ⊢
                            have hgt : (jm : Int) < (imu : Int) := by omega
                            have hjn : (jm : Int) < (n : Int) := by have := HPmu.out.j2; have := HBN.out; omega
                            have e1 := HRVms.out.cell (j := jm) (by rw [HSM.out.1]; have := HPmu.out.j2; have := HBN.out; omega)
                            have e2 := HRVms.out.cell (j := a) (by rw [HSM.out.1]; have := HAB.out; have := HBN.out; omega)
                            have g1 := HRVms.out.froz jm
                            have g2 := HRVms.out.froz a
                            obtain ⟨xf, hxf⟩ : ∃ x, dk[a]! = x := ⟨_, rfl⟩
                            obtain ⟨yf, hyf⟩ : ∃ y, dk[jm]! = y := ⟨_, rfl⟩
                            rw [hyf] at e1
                            rw [hxf] at e2
                            have HFX := Lib.hid hxf
                            have HFY := Lib.hid hyf
                            clear hxf hyf
                            rcases Nat.lt_or_eq_of_le HPmu.out.j1 with hja | hja
                            · go_wp2_with fail
                              go_region
                              all_goals
                                go_wp2
                                go_ret2
                                exact ⟨jm, false, Sort.swp dk jm a, rfl, HRVms.out.drew.swap (by rw [HSM.out.1]; have := HAB.out; have := HBN.out; have := HPmu.out.j2; omega) (by rw [HSM.out.1]; have := HAB.out; have := HBN.out; omega) HFX.out HFY.out, permIn_swp HSM.out.2 HPmu.out.j1 HPmu.out.j2 (Nat.le_refl _) (by have := HAB.out; omega) (by rw [← HN.out]; exact HBN.out), HPmu.out.j1, HPmu.out.j2, (HPmu.out.fin (by omega) (by rw [HSM.out.1]; exact HBN.out)).1, (HPmu.out.fin (by omega) (by rw [HSM.out.1]; exact HBN.out)).2⟩
                            · subst hja
                              obtain rfl : xf = yf := by rw [← HFX.out, ← HFY.out]
                              clear e1 g1
                              go_wp2_with fail
                              go_region
                              all_goals
                                go_wp2
                                go_ret2
                                exact ⟨a, false, Sort.swp dk a a, rfl, HRVms.out.drew.swap (by rw [HSM.out.1]; have := HAB.out; have := HBN.out; have := HPmu.out.j2; omega) (by rw [HSM.out.1]; have := HAB.out; have := HBN.out; omega) HFX.out HFY.out, permIn_swp HSM.out.2 HPmu.out.j1 HPmu.out.j2 (Nat.le_refl _) (by have := HAB.out; omega) (by rw [← HN.out]; exact HBN.out), HPmu.out.j1, HPmu.out.j2, (HPmu.out.fin (by omega) (by rw [HSM.out.1]; exact HBN.out)).1, (HPmu.out.fin (by omega) (by rw [HSM.out.1]; exact HBN.out)).2⟩
                | false =>
                  have HGEfd := Lib.hid (show sp[a]! ≤ sp[jfd]! by have h9 := HLfd.out; rw [HXfd.out, HYfd.out]; simpa [ltN] using h9)
                  go_wp2
                  go_roundg (jfd - 1)
                  case rel => exact ⟨jfd - 1, by congr 1; omega, Nat.le_refl _, Lib.hid (HPfd.out.down hlefd HGEfd.out), HRVfd.out⟩
                  case measure => have := HPfd.out.i1; omega
              · have hlei : ¬ (ifu : Int) ≤ (jfd : Int) := by omega
                have HRWfd := Lib.hid hrowfd
                clear hrowfd pinvfd
                go_wp2_with fail
                go_quiet (first | (go_at_call 264; refine Calls.quiet_of_same (less_any 0 0 false rfl _)))
                have HRVfd := Lib.hid (HRWfd.out.drewN nq)
                generalize wr.drewN nq = Wfd at HRVfd ⊢
                have hgt : (jfd : Int) < (ifu : Int) := by omega
                have hjn : (jfd : Int) < (n : Int) := by have := HPfd.out.j2; have := HBN.out; omega
                have e1 := HRVfd.out.cell (j := jfd) (by rw [HS1.out.1]; have := HPfd.out.j2; have := HBN.out; omega)
                have e2 := HRVfd.out.cell (j := a) (by rw [HS1.out.1]; have := HAB.out; have := HBN.out; omega)
                have g1 := HRVfd.out.froz jfd
                have g2 := HRVfd.out.froz a
                obtain ⟨xf, hxf⟩ : ∃ x, sp[a]! = x := ⟨_, rfl⟩
                obtain ⟨yf, hyf⟩ : ∃ y, sp[jfd]! = y := ⟨_, rfl⟩
                rw [hyf] at e1
                rw [hxf] at e2
                have HFX := Lib.hid hxf
                have HFY := Lib.hid hyf
                clear hxf hyf
                rcases Nat.lt_or_eq_of_le HPfd.out.j1 with hja | hja
                · go_wp2_with fail
                  go_region
                  all_goals
                    go_wp2
                    go_ret2
                    exact ⟨jfd, true, Sort.swp sp jfd a, rfl, HRVfd.out.drew.swap (by rw [HS1.out.1]; have := HAB.out; have := HBN.out; have := HPfd.out.j2; omega) (by rw [HS1.out.1]; have := HAB.out; have := HBN.out; omega) HFX.out HFY.out, permIn_swp HS1.out.2 HPfd.out.j1 HPfd.out.j2 (Nat.le_refl _) (by have := HAB.out; omega) (by rw [← HN.out]; exact HBN.out), HPfd.out.j1, HPfd.out.j2, (HPfd.out.fin (by omega) (by rw [HS1.out.1]; exact HBN.out)).1, (HPfd.out.fin (by omega) (by rw [HS1.out.1]; exact HBN.out)).2⟩
                · subst hja
                  obtain rfl : xf = yf := by rw [← HFX.out, ← HFY.out]
                  clear e1 g1
                  go_wp2_with fail
                  go_region
                  all_goals
                    go_wp2
                    go_ret2
                    exact ⟨a, true, Sort.swp sp a a, rfl, HRVfd.out.drew.swap (by rw [HS1.out.1]; have := HAB.out; have := HBN.out; have := HPfd.out.j2; omega) (by rw [HS1.out.1]; have := HAB.out; have := HBN.out; omega) HFX.out HFY.out, permIn_swp HS1.out.2 HPfd.out.j1 HPfd.out.j2 (Nat.le_refl _) (by have := HAB.out; omega) (by rw [← HN.out]; exact HBN.out), HPfd.out.j1, HPfd.out.j2, (HPfd.out.fin (by omega) (by rw [HS1.out.1]; exact HBN.out)).1, (HPfd.out.fin (by omega) (by rw [HS1.out.1]; exact HBN.out)).2⟩
        · have hlei : ¬ (ifu : Int) ≤ (j0 : Int) := by omega
          have HRWfu := Lib.hid hrowfu
          clear hrowfu pinvfu
          go_wp2_with fail
          go_quiet (first | (go_at_call 264; refine Calls.quiet_of_same (less_any 0 0 false rfl _)))
          have HRVfu := Lib.hid (HRWfu.out.drewN nq)
          generalize wr.drewN nq = Wfu at HRVfu ⊢
          go_wp2
          go_loopg [11] 1 (fun g jv wr => jv = .int .i64 (j0 : Int) ∧ RowAt w0 blk cap wr sp)
          case atStart => exact ⟨rfl, HRVfu.out⟩
          case round =>
            obtain ⟨rfl, hrowfs⟩ := hrel
            have pinvfs := HPfu.out
            have hlei : ¬ (ifu : Int) ≤ (j0 : Int) := by omega
            have HRWfs := Lib.hid hrowfs
            clear hrowfs pinvfs
            go_wp2_with fail
            go_quiet (first | (go_at_call 264; refine Calls.quiet_of_same (less_any 0 0 false rfl _)))
            have HRVfs := Lib.hid (HRWfs.out.drewN nq)
            generalize wr.drewN nq = Wfs at HRVfs ⊢
            have hgt : (j0 : Int) < (ifu : Int) := by omega
            have hjn : (j0 : Int) < (n : Int) := by have := HPfu.out.j2; have := HBN.out; omega
            have e1 := HRVfs.out.cell (j := j0) (by rw [HS1.out.1]; have := HPfu.out.j2; have := HBN.out; omega)
            have e2 := HRVfs.out.cell (j := a) (by rw [HS1.out.1]; have := HAB.out; have := HBN.out; omega)
            have g1 := HRVfs.out.froz j0
            have g2 := HRVfs.out.froz a
            obtain ⟨xf, hxf⟩ : ∃ x, sp[a]! = x := ⟨_, rfl⟩
            obtain ⟨yf, hyf⟩ : ∃ y, sp[j0]! = y := ⟨_, rfl⟩
            rw [hyf] at e1
            rw [hxf] at e2
            have HFX := Lib.hid hxf
            have HFY := Lib.hid hyf
            clear hxf hyf
            rcases Nat.lt_or_eq_of_le HPfu.out.j1 with hja | hja
            · go_wp2_with fail
              go_region
              all_goals
                go_wp2
                go_ret2
                exact ⟨j0, true, Sort.swp sp j0 a, rfl, HRVfs.out.drew.swap (by rw [HS1.out.1]; have := HAB.out; have := HBN.out; have := HPfu.out.j2; omega) (by rw [HS1.out.1]; have := HAB.out; have := HBN.out; omega) HFX.out HFY.out, permIn_swp HS1.out.2 HPfu.out.j1 HPfu.out.j2 (Nat.le_refl _) (by have := HAB.out; omega) (by rw [← HN.out]; exact HBN.out), HPfu.out.j1, HPfu.out.j2, (HPfu.out.fin (by omega) (by rw [HS1.out.1]; exact HBN.out)).1, (HPfu.out.fin (by omega) (by rw [HS1.out.1]; exact HBN.out)).2⟩
            · exact absurd hja (by have := HJ0.out; have := HAB.out; omega)

end Go.Proofs.YtildjdhoeilcfaaGreat
