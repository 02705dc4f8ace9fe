/-
  slices.partialInsertionSortOrdered at pages: it is the library's plain function. Own work; printed by tools/sort/mkpins.py.
-/
import Derived.Test.YtnnmpaenainogaaGreatPrnBI

set_option linter.unusedVariables false
set_option linter.unusedSimpArgs false
namespace Go.Proofs.YtnnmpaenainogaaGreat
open Go.RowKit Go.Maps
theorem sd_go {j : Nat} {d : Array Nat} (h : 1≤j) (hl : ltN d[j]! d[j - 1]! = true) : Sort.shiftDown ltN j d = Sort.shiftDown ltN (j - 1) (Sort.swp d j (j - 1)) := by
  obtain ⟨k,rfl⟩ : ∃ k,j = k + 1 := ⟨j - 1,by omega⟩
  rw [Nat.add_sub_cancel] at hl ⊢
  conv => lhs; unfold Sort.shiftDown
  rw [if_neg (by simp [hl])]
theorem sd_stop {j : Nat} {d : Array Nat} (hl : ltN d[j]! d[j - 1]! = false) : Sort.shiftDown ltN j d = d := by
  cases j with
  | zero => rfl
  | succ k =>
    rw [Nat.add_sub_cancel] at hl
    conv => lhs; unfold Sort.shiftDown
    rw [if_pos (by simp [hl])]
theorem sd_zero (d : Array Nat) : Sort.shiftDown ltN 0 d = d := rfl
theorem su_go {b j : Nat} {d : Array Nat} (h : j < b) (hl : ltN d[j]! d[j - 1]! = true) : Sort.shiftUp ltN b j d = Sort.shiftUp ltN b (j + 1) (Sort.swp d j (j - 1)) := by
  conv => lhs; unfold Sort.shiftUp
  rw [if_pos h,if_neg (by simp [hl])]
theorem su_stop {b j : Nat} {d : Array Nat} (hl : ltN d[j]! d[j - 1]! = false) : Sort.shiftUp ltN b j d = d := by
  unfold Sort.shiftUp
  split
  · rw [if_pos (by simp [hl])]
  · rfl
theorem su_end {b j : Nat} {d : Array Nat} (h : ¬ j < b) : Sort.shiftUp ltN b j d = d := by
  unfold Sort.shiftUp
  rw [if_neg h]
theorem ss_go {b i : Nat} {d : Array Nat} (h : i < b) (hl : ltN d[i]! d[i - 1]! = false) : Sort.scanSorted ltN d b i = Sort.scanSorted ltN d b (i + 1) := by
  conv => lhs; unfold Sort.scanSorted
  rw [if_pos (by simp [hl,h])]
theorem ss_stop {b i : Nat} {d : Array Nat} (hl : ltN d[i]! d[i - 1]! = true) : Sort.scanSorted ltN d b i = i := by
  unfold Sort.scanSorted
  rw [if_neg (by simp [hl])]
theorem ss_end {b i : Nat} {d : Array Nat} (h : ¬ i < b) : Sort.scanSorted ltN d b i = i := by
  unfold Sort.scanSorted
  rw [if_neg (by simp [h])]
theorem pi_done {a b s i : Nat} {d : Array Nat} (hs : Sort.scanSorted ltN d b i = b) : Sort.partialIns ltN a b (s + 1) i d = (d,true) := by
  unfold Sort.partialIns
  simp only [hs,if_pos]
theorem pi_small {a b s i I : Nat} {d : Array Nat} (hs : Sort.scanSorted ltN d b i = I) (hne : I≠b) (h : b - a < 50) : Sort.partialIns ltN a b (s + 1) i d = (d,false) := by
  unfold Sort.partialIns
  simp only [hs,if_neg hne,if_pos h]
theorem pi_step {a b s i I : Nat} {d d2 d3 : Array Nat} (hs : Sort.scanSorted ltN d b i = I) (hne : I≠b) (h : ¬ b - a < 50)
    (h2 : (if I - a ≥ 2 then Sort.shiftDown ltN (I - 1) (Sort.swp d I (I - 1)) else Sort.swp d I (I - 1)) = d2) (h3 : (if b - I ≥ 2 then Sort.shiftUp ltN b (I + 1) d2 else d2) = d3) :
    Sort.partialIns ltN a b (s + 1) i d = Sort.partialIns ltN a b s I d3 := by
  subst h3 h2
  conv => lhs; unfold Sort.partialIns
  simp only [hs,if_neg hne,if_neg h]
def PIns (w0 : World) (blk cap : Nat) (d : Array Nat) (a b : Nat) (r : Ending) (w' : World) : Prop :=
  ∃ (t : Bool) (dk : Array Nat),r = .returned (.bool t)∧RowAt w0 blk cap w' dk∧Sort.partialInsertionSort ltN d a b = (dk,t)
set_option maxRecDepth 100000 in
set_option maxHeartbeats 16000000 in
theorem pins_any (w0 w : World) (blk cap a b : Nat) (d : Array Nat) (h : RowAt w0 blk cap w d) (hb : b≤d.size) (hsz : d.size≤100000) (hab : a + 12 < b) :
    Calls Tryz.prog 270 #[.slice (some ⟨blk,0,none⟩) d.size cap,.int .i64 (a : Int),.int .i64 (b : Int)] w fun r w' => PIns w0 blk cap d a b r w' := by
  obtain ⟨n,hn⟩ : ∃ n,n = d.size := ⟨_,rfl⟩
  have HN := Lib.hid hn
  rw [← hn] at hb hsz ⊢
  have HR := Lib.hid h
  have HB := Lib.hid hb
  have HAB := Lib.hid hab
  have ha5 : (a : Int)≤100000 := by omega
  have hb5 : (b : Int)≤100000 := by omega
  have hn5 : (n : Int)≤100000 := by omega
  clear h hn hb hab
  go_enter Tryz.func270,Tryz.ntmps270
  go_wp2
  go_loopg [7,8] 5 (fun g iv sv wr => ∃ (i s : Nat) (dk : Array Nat),iv = .int .i64 (i : Int)∧sv = .int .i64 (s : Int)∧s + g = 5∧a + 1≤i∧i≤b∧RowAt w0 blk cap wr dk∧Hid (dk.size = n∧Sort.partialIns ltN a b g i dk = Sort.partialInsertionSort ltN d a b))
  case atStart => exact ⟨a + 1,0,d,by simp,rfl,rfl,Nat.le_refl _,by have := HAB.out; omega,HR.out,Lib.hid ⟨HN.out.symm,rfl⟩⟩
  case round =>
    obtain ⟨i,s,dk,rfl,rfl,hs,hi1,hib,hrow,HK⟩ := hrel
    have HRW := Lib.hid hrow
    clear hrow
    obtain ⟨g,rfl⟩ : ∃ g,g = gk := ⟨_,rfl⟩
    rcases Nat.eq_zero_or_pos g with hg0 | hg0
    · subst hg0
      have hs5 : ¬ (s : Int) < 5 := by omega
      have HE := Lib.hid (show Sort.partialInsertionSort ltN d a b = (dk,false) by rw [← HK.out.2]; rfl)
      go_wp2
      go_ret
      exact ⟨false,dk,rfl,HRW.out,HE.out⟩
    · obtain ⟨m,rfl⟩ : ∃ m,g = m + 1 := ⟨g - 1,by omega⟩
      have hs5 : (s : Int) < 5 := by omega
      go_wp2
      go_loopg [7] b (fun g2 iv wr => ∃ i2 : Nat,iv = .int .i64 (i2 : Int)∧b≤g2 + i2∧i≤i2∧i2≤b∧RowAt w0 blk cap wr dk∧Hid (Sort.scanSorted ltN dk b i2 = Sort.scanSorted ltN dk b i))
      case atStart => exact ⟨i,rfl,by omega,Nat.le_refl _,hib,HRW.out,Lib.hid rfl⟩
      case round =>
        obtain ⟨i2,rfl,hg2,hii,hi2b,hrow,HSC⟩ := hrel
        have HRV := Lib.hid hrow
        by_cases hlt : i2 < b
        · have hlti : (i2 : Int) < (b : Int) := by omega
          have hi21 : (1 : Int)≤(i2 : Int) := by omega
          have hi2n : (i2 : Int) < (n : Int) := by have := HB.out; omega
          have hi2n' : (i2 : Int) - 1 < (n : Int) := by omega
          have hw1 : IntKind.i64.wrap ((i2 : Int) - 1) = (i2 : Int) - 1 := IntWalk.i64_in _ ⟨by omega,by omega⟩
          have c1 := hrow.cell (j := i2) (by rw [HK.out.1]; omega)
          have c2 := hrow.cell (j := i2 - 1) (by rw [HK.out.1]; omega)
          obtain ⟨x,hx⟩ : ∃ x,dk[i2]! = x := ⟨_,rfl⟩
          obtain ⟨y,hy⟩ : ∃ y,dk[i2 - 1]! = y := ⟨_,rfl⟩
          rw [hx] at c1
          rw [hy] at c2
          have HX := Lib.hid hx
          have HY := Lib.hid hy
          obtain ⟨lb,hlb⟩ : ∃ lb,ltN x y = lb := ⟨_,rfl⟩
          have HL := Lib.hid (show ltN dk[i2]! dk[i2 - 1]! = lb by rw [hx,hy]; exact hlb)
          have HL2 := Lib.hid hlb
          clear hx hy hlb hrow
          go_wp2_with fail
          go_quiet (first | (go_at_call 271; refine Calls.quiet_of_same (less_any x y lb HL2.out _)))
          have HRU := Lib.hid (HRV.out.drewN nq)
          have e1 : (wr.drewN nq).cell? ⟨blk,i2,none⟩ = _ := c1
          have e2 : (wr.drewN nq).cell? ⟨blk,i2 - 1,none⟩ = _ := c2
          have k1 := HRU.out.froz i2
          have k2 := HRU.out.froz (i2 - 1)
          clear c1 c2
          generalize wr.drewN nq = W at HRU e1 e2 k1 k2 ⊢
          cases lb with
          | false =>
            clear e1 e2 k1 k2
            go_wp2
            go_roundg (b - (i2 + 1))
            case rel => exact ⟨i2 + 1,by simp,by omega,by omega,by omega,HRU.out,Lib.hid (by rw [← HSC.out,ss_go hlt HL.out])⟩
            case measure => omega
          | true =>
            have HI := Lib.hid (show Sort.scanSorted ltN dk b i = i2 by rw [← HSC.out,ss_stop HL.out])
            have hne : ¬ (i2 : Int) = (b : Int) := by omega
            obtain ⟨l,hl⟩ : ∃ l : Nat,(b : Int) - (a : Int) = (l : Int) := ⟨b - a,by have := HAB.out; omega⟩
            by_cases h50 : l < 50
            · have h50i : (l : Int) < 50 := by omega
              have HE := Lib.hid (show Sort.partialInsertionSort ltN d a b = (dk,false) by rw [← HK.out.2,pi_small HI.out (by omega) (by omega)])
              clear e1 e2 k1 k2
              go_wp2
              go_ret
              exact ⟨false,dk,rfl,HRU.out,HE.out⟩
            · have h50i : ¬ (l : Int) < 50 := by omega
              have H50 := Lib.hid (show ¬ b - a < 50 by omega)
              have HNE := Lib.hid (show i2≠b by omega)
              have HSW := Lib.hid ((HRU.out.swap (i := i2) (j := i2 - 1) (by rw [HK.out.1]; omega) (by rw [HK.out.1]; omega) HY.out HX.out).drew)
              obtain ⟨d1,hd1⟩ : ∃ d1,Sort.swp dk i2 (i2 - 1) = d1 := ⟨_,rfl⟩
              have HS1 := Lib.hid (show d1.size = n by rw [← hd1,size_swp']; exact HK.out.1)
              rw [hd1] at HSW
              have HD1 := Lib.hid hd1
              clear hd1
              go_wp2_with fail
              go_region
              all_goals
                clear e1 e2 k1 k2
                generalize ((W.setCell ⟨blk,i2,none⟩ (.int .u32 (y : Int))).setCell ⟨blk,i2 - 1,none⟩ (.int .u32 (x : Int))).drew = WS at HSW ⊢
                by_cases h2 : 2≤i2 - a
                · have h2i : (2 : Int)≤(i2 : Int) - (a : Int) := by omega
                  go_wp2
                  go_loopg [9] i2 (fun g jv wr => ∃ (j : Nat) (dj : Array Nat),jv = .int .i64 (j : Int)∧j≤g∧j + 1≤i2∧RowAt w0 blk cap wr dj∧Hid (dj.size = n∧Sort.shiftDown ltN j dj = Sort.shiftDown ltN (i2 - 1) d1))
                  case atStart => exact ⟨i2 - 1,d1,by congr 1; omega,by omega,by omega,HSW.out,Lib.hid ⟨HS1.out,rfl⟩⟩
                  case round =>
                    obtain ⟨j2,dj2,rfl,hg3,hj2i,hrow,HJ2⟩ := hrel
                    by_cases hj0 : 1≤j2
                    · have hj1 : (1 : Int)≤(j2 : Int) := by omega
                      have hjn : (j2 : Int) < (n : Int) := by have := HB.out; omega
                      have hjn' : (j2 : Int) - 1 < (n : Int) := by omega
                      have hwj : IntKind.i64.wrap ((j2 : Int) - 1) = (j2 : Int) - 1 := IntWalk.i64_in _ ⟨by omega,by omega⟩
                      have c1 := hrow.cell (j := j2) (by rw [HJ2.out.1]; omega)
                      have c2 := hrow.cell (j := j2 - 1) (by rw [HJ2.out.1]; omega)
                      obtain ⟨xj,hxj⟩ : ∃ x,dj2[j2]! = x := ⟨_,rfl⟩
                      obtain ⟨yj,hyj⟩ : ∃ y,dj2[j2 - 1]! = y := ⟨_,rfl⟩
                      rw [hxj] at c1
                      rw [hyj] at c2
                      have HXJ := Lib.hid hxj
                      have HYJ := Lib.hid hyj
                      obtain ⟨lj,hlj⟩ : ∃ lb,ltN xj yj = lb := ⟨_,rfl⟩
                      have HLJ := Lib.hid (show ltN dj2[j2]! dj2[j2 - 1]! = lj by rw [hxj,hyj]; exact hlj)
                      have HLJ2 := Lib.hid hlj
                      have HRJ := Lib.hid hrow
                      clear hxj hyj hlj hrow
                      go_wp2_with fail
                      go_quiet (first | (go_at_call 271; refine Calls.quiet_of_same (less_any xj yj lj HLJ2.out _)))
                      have HRJ2 := Lib.hid (HRJ.out.drewN nq)
                      have e1 : (wr.drewN nq).cell? ⟨blk,j2,none⟩ = _ := c1
                      have e2 : (wr.drewN nq).cell? ⟨blk,j2 - 1,none⟩ = _ := c2
                      have k1 := HRJ2.out.froz j2
                      have k2 := HRJ2.out.froz (j2 - 1)
                      clear c1 c2
                      generalize wr.drewN nq = WJ at HRJ2 e1 e2 k1 k2 ⊢
                      cases lj with
                      | true =>
                        have HSJ := Lib.hid (HRJ2.out.drew.swap (i := j2) (j := j2 - 1) (by rw [HJ2.out.1]; omega) (by rw [HJ2.out.1]; omega) HYJ.out HXJ.out)
                        go_wp2_with fail
                        go_region
                        all_goals
                          go_wp2
                          go_roundg (j2 - 1)
                          case rel => exact ⟨j2 - 1,Sort.swp dj2 j2 (j2 - 1),by congr 1; omega,Nat.le_refl _,by omega,HSJ.out,Lib.hid ⟨by rw [size_swp']; exact HJ2.out.1,by rw [← HJ2.out.2,sd_go hj0 HLJ.out]⟩⟩
                          case measure => omega
                      | false =>
                        have HD2 := Lib.hid (show (if i2 - a ≥ 2 then Sort.shiftDown ltN (i2 - 1) (Sort.swp dk i2 (i2 - 1)) else Sort.swp dk i2 (i2 - 1)) = dj2 by rw [if_pos h2,HD1.out,← HJ2.out.2,sd_stop HLJ.out])
                        have HS2 := Lib.hid HJ2.out.1
                        clear e1 e2 k1 k2 hj1 hjn hjn' hwj
                        have HRD := HRJ2
                        clear HRJ2
                        by_cases h3 : 2≤b - i2
                        · have h3i : (2 : Int)≤(b : Int) - (i2 : Int) := by omega
                          go_wp2
                          go_loopg [10] b (fun g jv wr => ∃ (j : Nat) (dj : Array Nat),jv = .int .i64 (j : Int)∧b≤g + j∧i2 + 1≤j∧j≤b∧RowAt w0 blk cap wr dj∧Hid (dj.size = n∧Sort.shiftUp ltN b j dj = Sort.shiftUp ltN b (i2 + 1) dj2))
                          case atStart => exact ⟨i2 + 1,dj2,by simp,by omega,Nat.le_refl _,by omega,HRD.out,Lib.hid ⟨HS2.out,rfl⟩⟩
                          case round =>
                            obtain ⟨j3,dj3,rfl,hg3,hj31,hj3b,hrow,HJ3⟩ := hrel
                            by_cases hjb : j3 < b
                            · have hjbi : (j3 : Int) < (b : Int) := by omega
                              have hj1 : (1 : Int)≤(j3 : Int) := by omega
                              have hjn : (j3 : Int) < (n : Int) := by have := HB.out; omega
                              have hjn' : (j3 : Int) - 1 < (n : Int) := by omega
                              have hwj : IntKind.i64.wrap ((j3 : Int) - 1) = (j3 : Int) - 1 := IntWalk.i64_in _ ⟨by omega,by omega⟩
                              have c1 := hrow.cell (j := j3) (by rw [HJ3.out.1]; omega)
                              have c2 := hrow.cell (j := j3 - 1) (by rw [HJ3.out.1]; omega)
                              obtain ⟨xj,hxj⟩ : ∃ x,dj3[j3]! = x := ⟨_,rfl⟩
                              obtain ⟨yj,hyj⟩ : ∃ y,dj3[j3 - 1]! = y := ⟨_,rfl⟩
                              rw [hxj] at c1
                              rw [hyj] at c2
                              have HXJ := Lib.hid hxj
                              have HYJ := Lib.hid hyj
                              obtain ⟨lj,hlj⟩ : ∃ lb,ltN xj yj = lb := ⟨_,rfl⟩
                              have HLJ := Lib.hid (show ltN dj3[j3]! dj3[j3 - 1]! = lj by rw [hxj,hyj]; exact hlj)
                              have HLJ2 := Lib.hid hlj
                              have HRJ := Lib.hid hrow
                              clear hxj hyj hlj hrow
                              go_wp2_with fail
                              go_quiet (first | (go_at_call 271; refine Calls.quiet_of_same (less_any xj yj lj HLJ2.out _)))
                              have HRJ2 := Lib.hid (HRJ.out.drewN nq)
                              have e1 : (wr.drewN nq).cell? ⟨blk,j3,none⟩ = _ := c1
                              have e2 : (wr.drewN nq).cell? ⟨blk,j3 - 1,none⟩ = _ := c2
                              have k1 := HRJ2.out.froz j3
                              have k2 := HRJ2.out.froz (j3 - 1)
                              clear c1 c2
                              generalize wr.drewN nq = WJ at HRJ2 e1 e2 k1 k2 ⊢
                              cases lj with
                              | true =>
                                have HSJ := Lib.hid (HRJ2.out.drew.swap (i := j3) (j := j3 - 1) (by rw [HJ3.out.1]; omega) (by rw [HJ3.out.1]; omega) HYJ.out HXJ.out)
                                go_wp2_with fail
                                go_region
                                all_goals
                                  go_wp2
                                  go_roundg (b - (j3 + 1))
                                  case rel => exact ⟨j3 + 1,Sort.swp dj3 j3 (j3 - 1),by simp,by omega,by omega,by omega,HSJ.out,Lib.hid ⟨by rw [size_swp']; exact HJ3.out.1,by rw [← HJ3.out.2,su_go hjb HLJ.out]⟩⟩
                                  case measure => omega
                              | false =>
                                have HD3 := Lib.hid (show (if b - i2 ≥ 2 then Sort.shiftUp ltN b (i2 + 1) dj2 else dj2) = dj3 by rw [if_pos h3,← HJ3.out.2,su_stop HLJ.out])
                                have HS3 := Lib.hid HJ3.out.1
                                clear e1 e2 k1 k2
                                go_wp2
                                go_roundg m
                                case rel => exact ⟨i2,s + 1,dj3,rfl,by simp,by omega,by omega,by omega,HRJ2.out,Lib.hid ⟨HS3.out,by rw [← HK.out.2,pi_step (s := m) HI.out HNE.out H50.out HD2.out HD3.out]⟩⟩
                                case measure => omega
                            · have hjbi : ¬ (j3 : Int) < (b : Int) := by omega
                              have HD3 := Lib.hid (show (if b - i2 ≥ 2 then Sort.shiftUp ltN b (i2 + 1) dj2 else dj2) = dj3 by rw [if_pos h3,← HJ3.out.2,su_end hjb])
                              have HS3 := Lib.hid HJ3.out.1
                              have HRJ := Lib.hid hrow
                              clear hrow
                              go_wp2
                              go_roundg m
                              case rel => exact ⟨i2,s + 1,dj3,rfl,by simp,by omega,by omega,by omega,HRJ.out,Lib.hid ⟨HS3.out,by rw [← HK.out.2,pi_step (s := m) HI.out HNE.out H50.out HD2.out HD3.out]⟩⟩
                              case measure => omega
                        · have h3i : ¬ (2 : Int)≤(b : Int) - (i2 : Int) := by omega
                          have HD3 := Lib.hid (show (if b - i2 ≥ 2 then Sort.shiftUp ltN b (i2 + 1) dj2 else dj2) = dj2 by rw [if_neg h3])
                          have HS3 := HS2
                          go_wp2
                          go_roundg m
                          case rel => exact ⟨i2,s + 1,dj2,rfl,by simp,by omega,by omega,by omega,HRD.out,Lib.hid ⟨HS3.out,by rw [← HK.out.2,pi_step (s := m) HI.out HNE.out H50.out HD2.out HD3.out]⟩⟩
                          case measure => omega
                    · have hj0i : ¬ (1 : Int)≤(j2 : Int) := by omega
                      have HD2 := Lib.hid (show (if i2 - a ≥ 2 then Sort.shiftDown ltN (i2 - 1) (Sort.swp dk i2 (i2 - 1)) else Sort.swp dk i2 (i2 - 1)) = dj2 by rw [if_pos h2,HD1.out,← HJ2.out.2,show j2 = 0 by omega,sd_zero])
                      have HS2 := Lib.hid HJ2.out.1
                      have HRD := Lib.hid hrow
                      clear hrow
                      by_cases h3 : 2≤b - i2
                      · have h3i : (2 : Int)≤(b : Int) - (i2 : Int) := by omega
                        go_wp2
                        go_loopg [10] b (fun g jv wr => ∃ (j : Nat) (dj : Array Nat),jv = .int .i64 (j : Int)∧b≤g + j∧i2 + 1≤j∧j≤b∧RowAt w0 blk cap wr dj∧Hid (dj.size = n∧Sort.shiftUp ltN b j dj = Sort.shiftUp ltN b (i2 + 1) dj2))
                        case atStart => exact ⟨i2 + 1,dj2,by simp,by omega,Nat.le_refl _,by omega,HRD.out,Lib.hid ⟨HS2.out,rfl⟩⟩
                        case round =>
                          obtain ⟨j3,dj3,rfl,hg3,hj31,hj3b,hrow,HJ3⟩ := hrel
                          by_cases hjb : j3 < b
                          · have hjbi : (j3 : Int) < (b : Int) := by omega
                            have hj1 : (1 : Int)≤(j3 : Int) := by omega
                            have hjn : (j3 : Int) < (n : Int) := by have := HB.out; omega
                            have hjn' : (j3 : Int) - 1 < (n : Int) := by omega
                            have hwj : IntKind.i64.wrap ((j3 : Int) - 1) = (j3 : Int) - 1 := IntWalk.i64_in _ ⟨by omega,by omega⟩
                            have c1 := hrow.cell (j := j3) (by rw [HJ3.out.1]; omega)
                            have c2 := hrow.cell (j := j3 - 1) (by rw [HJ3.out.1]; omega)
                            obtain ⟨xj,hxj⟩ : ∃ x,dj3[j3]! = x := ⟨_,rfl⟩
                            obtain ⟨yj,hyj⟩ : ∃ y,dj3[j3 - 1]! = y := ⟨_,rfl⟩
                            rw [hxj] at c1
                            rw [hyj] at c2
                            have HXJ := Lib.hid hxj
                            have HYJ := Lib.hid hyj
                            obtain ⟨lj,hlj⟩ : ∃ lb,ltN xj yj = lb := ⟨_,rfl⟩
                            have HLJ := Lib.hid (show ltN dj3[j3]! dj3[j3 - 1]! = lj by rw [hxj,hyj]; exact hlj)
                            have HLJ2 := Lib.hid hlj
                            have HRJ := Lib.hid hrow
                            clear hxj hyj hlj hrow
                            go_wp2_with fail
                            go_quiet (first | (go_at_call 271; refine Calls.quiet_of_same (less_any xj yj lj HLJ2.out _)))
                            have HRJ2 := Lib.hid (HRJ.out.drewN nq)
                            have e1 : (wr.drewN nq).cell? ⟨blk,j3,none⟩ = _ := c1
                            have e2 : (wr.drewN nq).cell? ⟨blk,j3 - 1,none⟩ = _ := c2
                            have k1 := HRJ2.out.froz j3
                            have k2 := HRJ2.out.froz (j3 - 1)
                            clear c1 c2
                            generalize wr.drewN nq = WJ at HRJ2 e1 e2 k1 k2 ⊢
                            cases lj with
                            | true =>
                              have HSJ := Lib.hid (HRJ2.out.drew.swap (i := j3) (j := j3 - 1) (by rw [HJ3.out.1]; omega) (by rw [HJ3.out.1]; omega) HYJ.out HXJ.out)
                              go_wp2_with fail
                              go_region
                              all_goals
                                go_wp2
                                go_roundg (b - (j3 + 1))
                                case rel => exact ⟨j3 + 1,Sort.swp dj3 j3 (j3 - 1),by simp,by omega,by omega,by omega,HSJ.out,Lib.hid ⟨by rw [size_swp']; exact HJ3.out.1,by rw [← HJ3.out.2,su_go hjb HLJ.out]⟩⟩
                                case measure => omega
                            | false =>
                              have HD3 := Lib.hid (show (if b - i2 ≥ 2 then Sort.shiftUp ltN b (i2 + 1) dj2 else dj2) = dj3 by rw [if_pos h3,← HJ3.out.2,su_stop HLJ.out])
                              have HS3 := Lib.hid HJ3.out.1
                              clear e1 e2 k1 k2
                              go_wp2
                              go_roundg m
                              case rel => exact ⟨i2,s + 1,dj3,rfl,by simp,by omega,by omega,by omega,HRJ2.out,Lib.hid ⟨HS3.out,by rw [← HK.out.2,pi_step (s := m) HI.out HNE.out H50.out HD2.out HD3.out]⟩⟩
                              case measure => omega
                          · have hjbi : ¬ (j3 : Int) < (b : Int) := by omega
                            have HD3 := Lib.hid (show (if b - i2 ≥ 2 then Sort.shiftUp ltN b (i2 + 1) dj2 else dj2) = dj3 by rw [if_pos h3,← HJ3.out.2,su_end hjb])
                            have HS3 := Lib.hid HJ3.out.1
                            have HRJ := Lib.hid hrow
                            clear hrow
                            go_wp2
                            go_roundg m
                            case rel => exact ⟨i2,s + 1,dj3,rfl,by simp,by omega,by omega,by omega,HRJ.out,Lib.hid ⟨HS3.out,by rw [← HK.out.2,pi_step (s := m) HI.out HNE.out H50.out HD2.out HD3.out]⟩⟩
                            case measure => omega
                      · have h3i : ¬ (2 : Int)≤(b : Int) - (i2 : Int) := by omega
                        have HD3 := Lib.hid (show (if b - i2 ≥ 2 then Sort.shiftUp ltN b (i2 + 1) dj2 else dj2) = dj2 by rw [if_neg h3])
                        have HS3 := HS2
                        go_wp2
                        go_roundg m
                        case rel => exact ⟨i2,s + 1,dj2,rfl,by simp,by omega,by omega,by omega,HRD.out,Lib.hid ⟨HS3.out,by rw [← HK.out.2,pi_step (s := m) HI.out HNE.out H50.out HD2.out HD3.out]⟩⟩
                        case measure => omega
                · have h2i : ¬ (2 : Int)≤(i2 : Int) - (a : Int) := by omega
                  have HD2 := Lib.hid (show (if i2 - a ≥ 2 then Sort.shiftDown ltN (i2 - 1) (Sort.swp dk i2 (i2 - 1)) else Sort.swp dk i2 (i2 - 1)) = d1 by rw [if_neg (by omega)]; exact HD1.out)
                  by_cases h3 : 2≤b - i2
                  · have h3i : (2 : Int)≤(b : Int) - (i2 : Int) := by omega
                    go_wp2
                    go_loopg [10] b (fun g jv wr => ∃ (j : Nat) (dj : Array Nat),jv = .int .i64 (j : Int)∧b≤g + j∧i2 + 1≤j∧j≤b∧RowAt w0 blk cap wr dj∧Hid (dj.size = n∧Sort.shiftUp ltN b j dj = Sort.shiftUp ltN b (i2 + 1) d1))
                    case atStart => exact ⟨i2 + 1,d1,by simp,by omega,Nat.le_refl _,by omega,HSW.out,Lib.hid ⟨HS1.out,rfl⟩⟩
                    case round =>
                      obtain ⟨j3,dj3,rfl,hg3,hj31,hj3b,hrow,HJ3⟩ := hrel
                      by_cases hjb : j3 < b
                      · have hjbi : (j3 : Int) < (b : Int) := by omega
                        have hj1 : (1 : Int)≤(j3 : Int) := by omega
                        have hjn : (j3 : Int) < (n : Int) := by have := HB.out; omega
                        have hjn' : (j3 : Int) - 1 < (n : Int) := by omega
                        have hwj : IntKind.i64.wrap ((j3 : Int) - 1) = (j3 : Int) - 1 := IntWalk.i64_in _ ⟨by omega,by omega⟩
                        have c1 := hrow.cell (j := j3) (by rw [HJ3.out.1]; omega)
                        have c2 := hrow.cell (j := j3 - 1) (by rw [HJ3.out.1]; omega)
                        obtain ⟨xj,hxj⟩ : ∃ x,dj3[j3]! = x := ⟨_,rfl⟩
                        obtain ⟨yj,hyj⟩ : ∃ y,dj3[j3 - 1]! = y := ⟨_,rfl⟩
                        rw [hxj] at c1
                        rw [hyj] at c2
                        have HXJ := Lib.hid hxj
                        have HYJ := Lib.hid hyj
                        obtain ⟨lj,hlj⟩ : ∃ lb,ltN xj yj = lb := ⟨_,rfl⟩
                        have HLJ := Lib.hid (show ltN dj3[j3]! dj3[j3 - 1]! = lj by rw [hxj,hyj]; exact hlj)
                        have HLJ2 := Lib.hid hlj
                        have HRJ := Lib.hid hrow
                        clear hxj hyj hlj hrow
                        go_wp2_with fail
                        go_quiet (first | (go_at_call 271; refine Calls.quiet_of_same (less_any xj yj lj HLJ2.out _)))
                        have HRJ2 := Lib.hid (HRJ.out.drewN nq)
                        have e1 : (wr.drewN nq).cell? ⟨blk,j3,none⟩ = _ := c1
                        have e2 : (wr.drewN nq).cell? ⟨blk,j3 - 1,none⟩ = _ := c2
                        have k1 := HRJ2.out.froz j3
                        have k2 := HRJ2.out.froz (j3 - 1)
                        clear c1 c2
                        generalize wr.drewN nq = WJ at HRJ2 e1 e2 k1 k2 ⊢
                        cases lj with
                        | true =>
                          have HSJ := Lib.hid (HRJ2.out.drew.swap (i := j3) (j := j3 - 1) (by rw [HJ3.out.1]; omega) (by rw [HJ3.out.1]; omega) HYJ.out HXJ.out)
                          go_wp2_with fail
                          go_region
                          all_goals
                            go_wp2
                            go_roundg (b - (j3 + 1))
                            case rel => exact ⟨j3 + 1,Sort.swp dj3 j3 (j3 - 1),by simp,by omega,by omega,by omega,HSJ.out,Lib.hid ⟨by rw [size_swp']; exact HJ3.out.1,by rw [← HJ3.out.2,su_go hjb HLJ.out]⟩⟩
                            case measure => omega
                        | false =>
                          have HD3 := Lib.hid (show (if b - i2 ≥ 2 then Sort.shiftUp ltN b (i2 + 1) d1 else d1) = dj3 by rw [if_pos h3,← HJ3.out.2,su_stop HLJ.out])
                          have HS3 := Lib.hid HJ3.out.1
                          clear e1 e2 k1 k2
                          go_wp2
                          go_roundg m
                          case rel => exact ⟨i2,s + 1,dj3,rfl,by simp,by omega,by omega,by omega,HRJ2.out,Lib.hid ⟨HS3.out,by rw [← HK.out.2,pi_step (s := m) HI.out HNE.out H50.out HD2.out HD3.out]⟩⟩
                          case measure => omega
                      · have hjbi : ¬ (j3 : Int) < (b : Int) := by omega
                        have HD3 := Lib.hid (show (if b - i2 ≥ 2 then Sort.shiftUp ltN b (i2 + 1) d1 else d1) = dj3 by rw [if_pos h3,← HJ3.out.2,su_end hjb])
                        have HS3 := Lib.hid HJ3.out.1
                        have HRJ := Lib.hid hrow
                        clear hrow
                        go_wp2
                        go_roundg m
                        case rel => exact ⟨i2,s + 1,dj3,rfl,by simp,by omega,by omega,by omega,HRJ.out,Lib.hid ⟨HS3.out,by rw [← HK.out.2,pi_step (s := m) HI.out HNE.out H50.out HD2.out HD3.out]⟩⟩
                        case measure => omega
                  · have h3i : ¬ (2 : Int)≤(b : Int) - (i2 : Int) := by omega
                    have HD3 := Lib.hid (show (if b - i2 ≥ 2 then Sort.shiftUp ltN b (i2 + 1) d1 else d1) = d1 by rw [if_neg h3])
                    have HS3 := HS1
                    go_wp2
                    go_roundg m
                    case rel => exact ⟨i2,s + 1,d1,rfl,by simp,by omega,by omega,by omega,HSW.out,Lib.hid ⟨HS3.out,by rw [← HK.out.2,pi_step (s := m) HI.out HNE.out H50.out HD2.out HD3.out]⟩⟩
                    case measure => omega
        · have hlti : ¬ (i2 : Int) < (b : Int) := by omega
          have e : i2 = b := by omega
          have HE := Lib.hid (show Sort.partialInsertionSort ltN d a b = (dk,true) by rw [← HK.out.2,pi_done (by rw [← HSC.out,ss_end hlt,e])])
          subst e
          clear hrow
          go_wp2_with fail
          go_quiet (first | (go_at_call 271; refine Calls.quiet_of_same (less_any 0 0 false rfl _)))
          have HRU := Lib.hid (HRV.out.drewN nq)
          generalize wr.drewN nq = W at HRU ⊢
          go_wp2
          go_ret
          exact ⟨true,dk,rfl,HRU.out,HE.out⟩
end Go.Proofs.YtnnmpaenainogaaGreat
