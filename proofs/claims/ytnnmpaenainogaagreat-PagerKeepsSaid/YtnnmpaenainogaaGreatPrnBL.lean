/-
  slices' nextPowerOfTwo and (*xorshift).Next. Own work.
-/
import Derived.Test.YtnnmpaenainogaaGreatPrnBK
import Derived.Laws.Bits64
import Derived.Laws.Bits64b

set_option linter.unusedVariables false
set_option linter.unusedSimpArgs false
namespace Go.Proofs.YtnnmpaenainogaaGreat
open Go.RowKit Go.Maps
theorem bla_zero : ∀ f,Lib.bitLenAux f 0 = 0
  | 0 => rfl
  | f + 1 => by simp [Lib.bitLenAux]
theorem bla_le : ∀ (f x : Nat),0 < x→2 ^ Lib.bitLenAux f x≤2 * x
  | 0,x,h => by simp [Lib.bitLenAux]; omega
  | f + 1,x,h => by
    unfold Lib.bitLenAux
    rw [if_neg (by omega),Nat.pow_add]
    by_cases h2 : x / 2 = 0
    · rw [h2,bla_zero]; omega
    · have := bla_le f (x / 2) (by omega)
      omega
theorem blen_le {x : Nat} (h : 0 < x) : 2 ^ Lib.bitLen x≤2 * x := bla_le 64 x h
theorem blen_62 {x : Nat} (h : 0 < x) (h2 : x≤100000) : Lib.bitLen x≤62 := by
  have h1 := blen_le h
  rcases Nat.lt_or_ge 62 (Lib.bitLen x) with e | e
  · exfalso
    have h3 : 2 ^ 62≤2 ^ Lib.bitLen x := Nat.pow_le_pow_right (by decide) (by omega)
    omega
  · exact e
set_option maxHeartbeats 1000000 in
theorem nextPow_any (x : Nat) (hx : 0 < x) (hx2 : x≤100000) (w : World) :
    Calls Tryz.prog 285 #[.int .i64 (x : Int)] w fun r w' => (∃ M : Nat,r = .returned (.int .u64 (M : Int))∧1≤M∧M≤2 * x)∧w = w' := by
  obtain ⟨k,hk⟩ : ∃ k,k = Lib.bitLen x := ⟨_,rfl⟩
  obtain ⟨M,hM⟩ : ∃ M,M = 2 ^ k := ⟨_,rfl⟩
  have hk62 : k≤62 := by rw [hk]; exact blen_62 hx hx2
  have HM := Lib.hid (show 1≤M∧M≤2 * x by rw [hM]; exact ⟨Nat.one_le_two_pow,by rw [hk]; exact blen_le hx⟩)
  have hp : IntKind.u64.wrap ((2 : Int) ^ k) = (M : Int) := by
    have := HM.out
    rw [IntKind.wrap_u64,show ((2 : Int) ^ k) = ((2 ^ k : Nat) : Int) by push_cast; rfl,← hM]
    omega
  have HK := Lib.hid hk
  clear hk hM
  go_enter Tryz.func285,Tryz.ntmps285
  go_wp2_with (first
    | (go_at_call 248; have K := len_any x (by omega) w; rw [← HK.out] at K; refine K.mono ?_; clear K; rintro r w1 ⟨rfl,rfl⟩))
  go_ret
  exact ⟨⟨M,rfl,HM.out⟩,rfl⟩
structure RndAt (w0 : World) (blk cap : Nat) (w : World) (d : Array Nat) (g x : Nat) : Prop where
  row : RowAt w0 blk cap w d
  hg : w0.heap.size≤g
  box : w.heap[g]? = some (.cells #[.int .u64 (x : Int)] 396 (0,0))
  lt : x < 18446744073709551616
theorem RndAt.cell {w0 w : World} {blk cap g s : Nat} {d : Array Nat} (h : RndAt w0 blk cap w d g s) : w.cell? ⟨g,0,none⟩ = some (.int .u64 (s : Int)) := by
  simp only [World.cell?,h.box]
  rfl
theorem RndAt.froz {w0 w : World} {blk cap g s : Nat} {d : Array Nat} (h : RndAt w0 blk cap w d g s) : w.frozen? ⟨g,0,none⟩ = false := free_row h.box 0
theorem RndAt.put {w0 w : World} {blk cap g s : Nat} {d : Array Nat} (h : RndAt w0 blk cap w d g s) (y : Nat) (hy : y < 18446744073709551616) : RndAt w0 blk cap (w.setCell ⟨g,0,none⟩ (.int .u64 (y : Int))) d g y := by
  refine ⟨h.row.beside h.hg 0 _,h.hg,?_,hy⟩
  simp [World.setCell,Array.getElem?_modify,h.box]
theorem RndAt.drew {w0 w : World} {blk cap g s : Nat} {d : Array Nat} (h : RndAt w0 blk cap w d g s) : RndAt w0 blk cap w.drew d g s := ⟨h.row.drew,h.hg,h.box,h.lt⟩
def Nxt (w0 : World) (blk cap : Nat) (d : Array Nat) (g : Nat) (r : Ending) (w' : World) : Prop := ∃ y : Nat,r = .returned (.int .u64 (y : Int))∧RndAt w0 blk cap w' d g y
set_option maxRecDepth 100000 in
set_option maxHeartbeats 1000000 in
theorem xnext_any (w0 w : World) (blk cap g X : Nat) (d : Array Nat) (h : RndAt w0 blk cap w d g X) :
    Calls Tryz.prog 286 #[.pointer (some ⟨g,0,none⟩)] w fun r w' => Nxt w0 blk cap d g r w' := by
  have hX := h.lt
  obtain ⟨A,hA⟩ : ∃ A : Nat,A = X ^^^ (X * 8192 % 18446744073709551616) := ⟨_,rfl⟩
  obtain ⟨B,hB⟩ : ∃ B : Nat,B = A ^^^ (A / 128) := ⟨_,rfl⟩
  obtain ⟨C,hC⟩ : ∃ C : Nat,C = B ^^^ (B * 131072 % 18446744073709551616) := ⟨_,rfl⟩
  have lA : A < 18446744073709551616 := by rw [hA]; exact Nat.xor_lt_two_pow (n := 64) (by omega) (by omega)
  have lB : B < 18446744073709551616 := by rw [hB]; exact Nat.xor_lt_two_pow (n := 64) (by omega) (by omega)
  have lC : C < 18446744073709551616 := by rw [hC]; exact Nat.xor_lt_two_pow (n := 64) (by omega) (by omega)
  have e1 : bits .xor .u64 (X : Int) (IntKind.u64.wrap ((X : Int) * 8192)) = (A : Int) := by
    rw [IntKind.wrap_u64,show ((X : Int) * 8192 % 18446744073709551616) = ((X * 8192 % 18446744073709551616 : Nat) : Int) by omega,bits_xor_u64_nat _ _ hX (by omega),hA]
  have e2 : bits .xor .u64 (A : Int) ((A : Int) / 128) = (B : Int) := by
    rw [show ((A : Int) / 128) = ((A / 128 : Nat) : Int) by omega,bits_xor_u64_nat _ _ lA (by omega),hB]
  have e3 : bits .xor .u64 (B : Int) (IntKind.u64.wrap ((B : Int) * 131072)) = (C : Int) := by
    rw [IntKind.wrap_u64,show ((B : Int) * 131072 % 18446744073709551616) = ((B * 131072 % 18446744073709551616 : Nat) : Int) by omega,bits_xor_u64_nat _ _ lB (by omega),hC]
  clear hA hB hC
  have c0 := h.cell
  have f0 := h.froz
  have HN := Lib.hid (h.put A lA).drew
  clear h
  go_enter Tryz.func286,Tryz.ntmps286
  go_wp2_with fail
  go_region
  all_goals
    clear c0 f0
    generalize ((w.setCell ⟨g,0,none⟩ (.int .u64 (A : Int)))).drew = W1 at HN ⊢
    have c1 := HN.out.cell
    have f1 := HN.out.froz
    have HN2 := Lib.hid (HN.out.put B lB).drew
    go_wp2_with fail
    go_region
  all_goals
    clear c1 f1
    generalize ((W1.setCell ⟨g,0,none⟩ (.int .u64 (B : Int)))).drew = W2 at HN2 ⊢
    have c2 := HN2.out.cell
    have f2 := HN2.out.froz
    have HN3 := Lib.hid (HN2.out.put C lC).drew
    go_wp2_with fail
    go_region
  all_goals
    clear c2 f2
    generalize ((W2.setCell ⟨g,0,none⟩ (.int .u64 (C : Int)))).drew = W3 at HN3 ⊢
    have c3 := HN3.out.cell
    go_wp2
    go_ret
    exact ⟨C,rfl,HN3.out⟩
end Go.Proofs.YtnnmpaenainogaaGreat

namespace Go.Proofs.YtnnmpaenainogaaGreat
open Go.RowKit Go.Maps
theorem rnd_new {w0 w : World} {blk cap : Nat} {d : Array Nat} (h : RowAt w0 blk cap w d) : RndAt w0 blk cap (w.alloc (.cells #[.int .u64 0] 396)) d w.heap.size 0 :=
  ⟨h.grown (World.grownBy_alloc _ _ _),h.gr.size,heap_alloc_new _ _,by decide⟩
theorem rnd_lit {w0 w : World} {blk cap : Nat} {d : Array Nat} (h : RowAt w0 blk cap w d) (x : Nat) (hx : x < 18446744073709551616) : RndAt w0 blk cap (w.alloc (.cells #[.int .u64 (x : Int)] 396)) d w.heap.size x :=
  ⟨h.grown (World.grownBy_alloc _ _ _),h.gr.size,heap_alloc_new _ _,hx⟩
theorem RndAt.swap {w0 w : World} {blk cap g s : Nat} {d : Array Nat} (h : RndAt w0 blk cap w d g s) {i j x y : Nat} (hi : i < d.size) (hj : j < d.size) (hx : d[j]! = x) (hy : d[i]! = y) :
    RndAt w0 blk cap ((w.setCell ⟨blk,i,none⟩ (.int .u32 (x : Int))).setCell ⟨blk,j,none⟩ (.int .u32 (y : Int))).drew (Sort.swp d i j) g s := by
  have hne : g≠blk := by have := h.hg; have := h.row.lt; omega
  exact ⟨(h.row.swap hi hj hx hy).drew,h.hg,(set_other _ _ _ hne).trans ((set_other _ _ _ hne).trans h.box),h.lt⟩
set_option maxRecDepth 100000 in
set_option maxHeartbeats 8000000 in
theorem break_any (w0 w : World) (blk cap a b : Nat) (d : Array Nat) (h : RowAt w0 blk cap w d) (hb : b≤d.size) (hsz : d.size≤100000) (hab : a + 12 < b) :
    Calls Tryz.prog 267 #[.slice (some ⟨blk,0,none⟩) d.size cap,.int .i64 (a : Int),.int .i64 (b : Int)] w fun r w' => Turned w0 blk cap d a b r w' := by
  obtain ⟨n,hn⟩ : ∃ n,n = d.size := ⟨_,rfl⟩
  have HN := Lib.hid hn
  rw [← hn] at hb hsz ⊢
  have HR := Lib.hid h
  have HB := Lib.hid hb
  have HAB := Lib.hid hab
  obtain ⟨l,hl⟩ : ∃ l : Nat,(b : Int) - (a : Int) = (l : Int) := ⟨b - a,by omega⟩
  have hl12 : (12 : Int) < (l : Int) := by omega
  have hl8 : (8 : Int)≤(l : Int) := by omega
  have hl5 : (l : Int)≤100000 := by omega
  obtain ⟨q,hq⟩ : ∃ q : Nat,Int.tdiv (l : Int) 4 = (q : Int) := ⟨l / 4,by rw [Int.tdiv_eq_ediv_of_nonneg (by omega)]; omega⟩
  have HQ := Lib.hid (show q = l / 4 by rw [Int.tdiv_eq_ediv_of_nonneg (by omega)] at hq; omega)
  obtain ⟨e,he⟩ : ∃ e : Nat,(a : Int) + (q : Int) * 2 = (e : Int) := ⟨a + q * 2,by omega⟩
  have hq5 : (q : Int)≤25000 := by have := HQ.out; omega
  have HE := Lib.hid (show e = a + q * 2 by omega)
  obtain ⟨i0,hi0⟩ : ∃ i0 : Nat,(e : Int) - 1 = (i0 : Int) := ⟨e - 1,by have := HQ.out; omega⟩
  obtain ⟨i2,hi2⟩ : ∃ i2 : Nat,(e : Int) + 1 = (i2 : Int) := ⟨e + 1,by omega⟩
  have HI0 := Lib.hid (show i0 + 1 = e by omega)
  have HI2 := Lib.hid (show i2 = e + 1 by omega)
  have HLB := Lib.hid (show b = a + l by omega)
  have he5 : (e : Int)≤200000 := by have := HQ.out; omega
  have ha5 : (a : Int)≤100000 := by omega
  have hb5 : (b : Int)≤100000 := by omega
  have hn5 : (n : Int)≤100000 := by omega
  have HRG := Lib.hid (show a < i0∧i2 < b by have := HQ.out; have := HE.out; have := HLB.out; omega)
  have HR0 := Lib.hid (rnd_lit h l (by omega))
  have HR1 := Lib.hid ((rnd_new h).put l (by omega))
  clear h hn hb hab
  go_enter Tryz.func267,Tryz.ntmps267
  go_wp2_with (first
    | (go_at_call 285; (with_reducible refine (nextPow_any l (by omega) (by omega) _).mono ?_); rintro r w1 ⟨⟨M,rfl,hM⟩,rfl⟩; have HM := Lib.hid hM; clear hM))
  have hM1 : (1 : Int)≤(M : Int) := by have := HM.out; omega
  have hM2 : (M : Int)≤200000 := by have := HM.out; omega
  obtain ⟨g,hg⟩ : ∃ g,g = w.heap.size := ⟨_,rfl⟩
  rw [← hg] at HR0
  simp only [← hg]
  generalize w.alloc (.cells #[.int .u64 (l : Int)] 396) = W0 at HR0 ⊢
  clear hg HR1
  go_loopg [9] 3 (fun gg iv wr => ∃ (i x : Nat) (dk : Array Nat),iv = .int .i64 (i : Int)∧e + 2≤gg + i∧i0≤i∧i≤i2 + 1∧RndAt w0 blk cap wr dk g x∧Hid (dk.size = n∧Sort.PermIn a b d dk))
  case atStart => exact ⟨i0,l,d,rfl,by have := HI0.out; omega,Nat.le_refl _,by have := HI0.out; have := HI2.out; omega,HR0.out,Lib.hid ⟨HN.out.symm,Sort.permIn_refl _ _ _⟩⟩
  case round =>
    obtain ⟨i,x,dk,rfl,hgg,hi0i,hi2i,hrow,HK⟩ := hrel
    have HRW := Lib.hid hrow
    clear hrow
    by_cases hlt : i≤i2
    · have hlti : (i : Int)≤(i2 : Int) := by omega
      have HIB := Lib.hid (show a≤i∧i < b by have := HRG.out; omega)
      go_wp2_with fail
      (with_reducible refine (xnext_any w0 wr blk cap g x dk HRW.out).mono ?_)
      rintro r w1 ⟨y,rfl,h1⟩
      have H1 := Lib.hid h1
      obtain ⟨O,hO⟩ : ∃ O : Nat,O = y &&& (M - 1) := ⟨_,rfl⟩
      have lO : O≤M - 1 := by rw [hO]; exact Nat.and_le_right
      have eAnd : bits .and .u64 (y : Int) ((M : Int) - 1) = (O : Int) := by
        rw [show ((M : Int) - 1) = ((M - 1 : Nat) : Int) by omega,bits_and_u64_nat _ _ h1.lt (by omega),hO]
      have hO5 : (O : Int)≤200000 := by omega
      have HO2 := Lib.hid (show O < 2 * l by have := HM.out; omega)
      clear hO h1
      by_cases hOl : l≤O
      · have hOli : (l : Int)≤(O : Int) := by omega
        obtain ⟨o,ho⟩ : ∃ o : Nat,(O : Int) - (l : Int) = (o : Int) := ⟨O - l,by omega⟩
        have HOL := Lib.hid (show o < l by have := HO2.out; omega)
        obtain ⟨p,hp⟩ : ∃ p : Nat,(a : Int) + (o : Int) = (p : Int) := ⟨a + o,by omega⟩
        have HPB := Lib.hid (show a≤p∧p < b by have := HOL.out; have := HLB.out; omega)
        have hpn : (p : Int) < (n : Int) := by have := HPB.out; have := HB.out; omega
        have hin : (i : Int) < (n : Int) := by have := HIB.out; have := HB.out; omega
        have e1 := H1.out.row.cell (j := i) (by rw [HK.out.1]; omega)
        have e2 := H1.out.row.cell (j := p) (by rw [HK.out.1]; omega)
        have g1 := H1.out.row.froz i
        have g2 := H1.out.row.froz p
        obtain ⟨x2,hx2⟩ : ∃ x,dk[i]! = x := ⟨_,rfl⟩
        obtain ⟨y2,hy2⟩ : ∃ x,dk[p]! = x := ⟨_,rfl⟩
        rw [hx2] at e1
        rw [hy2] at e2
        have HX2 := Lib.hid hx2
        have HY2 := Lib.hid hy2
        have HSW := Lib.hid (H1.out.swap (i := i) (j := p) (by rw [HK.out.1]; omega) (by rw [HK.out.1]; omega) HY2.out HX2.out)
        clear hx2 hy2
        by_cases hip : i = p
        · subst hip
          obtain rfl : x2 = y2 := by rw [← HX2.out,← HY2.out]
          clear e2 g2
          go_wp2_with fail
          go_region
          all_goals
            clear e1 g1
            generalize ((w1.setCell ⟨blk,i,none⟩ (.int .u32 (x2 : Int))).setCell ⟨blk,i,none⟩ (.int .u32 (x2 : Int))).drew = W2 at HSW ⊢
            go_wp2
            go_roundg (e + 2 - (i + 1))
            case rel => exact ⟨i + 1,y,Sort.swp dk i i,by simp,by omega,by omega,by omega,HSW.out,Lib.hid ⟨by rw [size_swp']; exact HK.out.1,permIn_swp HK.out.2 HIB.out.1 HIB.out.2 HPB.out.1 HPB.out.2 (by rw [← HN.out]; exact HB.out)⟩⟩
            case measure => have := HI2.out; omega
        · have hne : p≠i := fun h => hip h.symm
          go_wp2_with fail
          go_region
          all_goals
            clear e1 g1 e2 g2
            generalize ((w1.setCell ⟨blk,i,none⟩ (.int .u32 (y2 : Int))).setCell ⟨blk,p,none⟩ (.int .u32 (x2 : Int))).drew = W2 at HSW ⊢
            go_wp2
            go_roundg (e + 2 - (i + 1))
            case rel => exact ⟨i + 1,y,Sort.swp dk i p,by simp,by omega,by omega,by omega,HSW.out,Lib.hid ⟨by rw [size_swp']; exact HK.out.1,permIn_swp HK.out.2 HIB.out.1 HIB.out.2 HPB.out.1 HPB.out.2 (by rw [← HN.out]; exact HB.out)⟩⟩
            case measure => have := HI2.out; omega
      · have hOli : ¬ (l : Int)≤(O : Int) := by omega
        obtain ⟨o,ho⟩ : ∃ o : Nat,o = O := ⟨_,rfl⟩
        have HOL := Lib.hid (show o < l by omega)
        subst ho
        obtain ⟨p,hp⟩ : ∃ p : Nat,(a : Int) + (o : Int) = (p : Int) := ⟨a + o,by omega⟩
        have HPB := Lib.hid (show a≤p∧p < b by have := HOL.out; have := HLB.out; omega)
        have hpn : (p : Int) < (n : Int) := by have := HPB.out; have := HB.out; omega
        have hin : (i : Int) < (n : Int) := by have := HIB.out; have := HB.out; omega
        have e1 := H1.out.row.cell (j := i) (by rw [HK.out.1]; omega)
        have e2 := H1.out.row.cell (j := p) (by rw [HK.out.1]; omega)
        have g1 := H1.out.row.froz i
        have g2 := H1.out.row.froz p
        obtain ⟨x2,hx2⟩ : ∃ x,dk[i]! = x := ⟨_,rfl⟩
        obtain ⟨y2,hy2⟩ : ∃ x,dk[p]! = x := ⟨_,rfl⟩
        rw [hx2] at e1
        rw [hy2] at e2
        have HX2 := Lib.hid hx2
        have HY2 := Lib.hid hy2
        have HSW := Lib.hid (H1.out.swap (i := i) (j := p) (by rw [HK.out.1]; omega) (by rw [HK.out.1]; omega) HY2.out HX2.out)
        clear hx2 hy2
        by_cases hip : i = p
        · subst hip
          obtain rfl : x2 = y2 := by rw [← HX2.out,← HY2.out]
          clear e2 g2
          go_wp2_with fail
          go_region
          all_goals
            clear e1 g1
            generalize ((w1.setCell ⟨blk,i,none⟩ (.int .u32 (x2 : Int))).setCell ⟨blk,i,none⟩ (.int .u32 (x2 : Int))).drew = W2 at HSW ⊢
            go_wp2
            go_roundg (e + 2 - (i + 1))
            case rel => exact ⟨i + 1,y,Sort.swp dk i i,by simp,by omega,by omega,by omega,HSW.out,Lib.hid ⟨by rw [size_swp']; exact HK.out.1,permIn_swp HK.out.2 HIB.out.1 HIB.out.2 HPB.out.1 HPB.out.2 (by rw [← HN.out]; exact HB.out)⟩⟩
            case measure => have := HI2.out; omega
        · have hne : p≠i := fun h => hip h.symm
          go_wp2_with fail
          go_region
          all_goals
            clear e1 g1 e2 g2
            generalize ((w1.setCell ⟨blk,i,none⟩ (.int .u32 (y2 : Int))).setCell ⟨blk,p,none⟩ (.int .u32 (x2 : Int))).drew = W2 at HSW ⊢
            go_wp2
            go_roundg (e + 2 - (i + 1))
            case rel => exact ⟨i + 1,y,Sort.swp dk i p,by simp,by omega,by omega,by omega,HSW.out,Lib.hid ⟨by rw [size_swp']; exact HK.out.1,permIn_swp HK.out.2 HIB.out.1 HIB.out.2 HPB.out.1 HPB.out.2 (by rw [← HN.out]; exact HB.out)⟩⟩
            case measure => have := HI2.out; omega
    · have hlti : ¬ (i : Int)≤(i2 : Int) := by omega
      go_wp2
      (try simp only [Exit.inBlock,Exit.then])
      first
        | (refine bodyPost_ret (results_none rfl _ _ _) rfl ?_; exact ⟨dk,rfl,HRW.out.row,HK.out.2⟩)
        | (go_end0; exact ⟨dk,rfl,HRW.out.row,HK.out.2⟩)
end Go.Proofs.YtnnmpaenainogaaGreat

namespace Go.Proofs.YtnnmpaenainogaaGreat
theorem nodup_perm {a b : Nat} {d dk : Array Nat} (h : Sort.PermIn a b d dk) (hb : b≤d.size) (nd : d.toList.Nodup) : dk.toList.Nodup := by
  have h2 := Sort.permIn_mono d dk a b 0 d.size (Nat.zero_le _) hb (Nat.le_refl _) h
  have h3 := h2.2.2
  have e1 : (dk.extract 0 d.size).toList = dk.toList := by rw [← h.1]; simp
  have e2 : (d.extract 0 d.size).toList = d.toList := by simp
  rw [e1,e2] at h3
  exact h3.nodup_iff.2 nd
theorem nodup_ne {d : Array Nat} (h : d.toList.Nodup) {i j : Nat} (hi : i < d.size) (hj : j < d.size) (hij : i < j) : d[i]!≠d[j]! := by
  have h2 := List.pairwise_iff_getElem.1 h i j (by simpa using hi) (by simpa using hj) hij
  rw [getElem!_pos d i hi,getElem!_pos d j hj]
  simpa using h2
structure QInv (a b A B : Nat) (d dk : Array Nat) : Prop where
  aA : a≤A
  AB : A≤B
  Bb : B≤b
  bd : b≤d.size
  perm : Sort.PermIn a b d dk
  below : Sort.Below ltN A B dk
  rest : ∀ dz,Sort.PermIn A B dk dz→Sort.SortedIn ltN A B dz→Sort.SortedIn ltN a b dz
theorem QInv.start {a b : Nat} {d : Array Nat} (hab : a≤b) (hb : b≤d.size) (h : Sort.Below ltN a b d) : QInv a b a b d d :=
  ⟨Nat.le_refl _,hab,Nat.le_refl _,hb,Sort.permIn_refl _ _ _,h,fun _ _ hs => hs⟩
theorem QInv.size {a b A B : Nat} {d dk : Array Nat} (h : QInv a b A B d dk) : dk.size = d.size := h.perm.1
theorem QInv.bk {a b A B : Nat} {d dk : Array Nat} (h : QInv a b A B d dk) : B≤dk.size := by
  rw [h.size]; exact Nat.le_trans h.Bb h.bd
theorem QInv.wide {a b A B : Nat} {d dk dz : Array Nat} (h : QInv a b A B d dk) (hp : Sort.PermIn A B dk dz) : Sort.PermIn a b d dz :=
  Sort.permIn_trans _ _ _ _ _ h.perm (Sort.permIn_mono dk dz A B a b h.aA h.Bb (by rw [h.size]; exact h.bd) hp)
theorem QInv.turn {a b A B : Nat} {d dk dz : Array Nat} (h : QInv a b A B d dk) (hp : Sort.PermIn A B dk dz) : QInv a b A B d dz :=
  ⟨h.aA,h.AB,h.Bb,h.bd,h.wide hp,h.below.perm h.bk hp,fun _ k hs => h.rest _ (Sort.permIn_trans _ _ _ _ _ hp k) hs⟩
theorem QInv.done {a b A B : Nat} {d dk dz : Array Nat} (h : QInv a b A B d dk) (hp : Sort.PermIn A B dk dz) (hs : Sort.SortedIn ltN A B dz) : Sort.PermIn a b d dz∧Sort.SortedIn ltN a b dz :=
  ⟨h.wide hp,h.rest _ hp hs⟩
theorem glue {A m B : Nat} {R : Array Nat} (hL : Sort.SortedIn ltN A m R) (hR : Sort.SortedIn ltN (m + 1) B R) (h1 : ∀ k,A≤k→k < m→R[k]! < R[m]!) (h2 : ∀ k,m < k→k < B→R[m]!≤R[k]!) : Sort.SortedIn ltN A B R := by
  intro i j hi hij hj
  simp only [ltN,decide_eq_false_iff_not,Nat.not_lt]
  rcases Nat.lt_trichotomy j m with e | e | e
  · have := hL i j hi hij e
    simpa [ltN] using this
  · subst e; exact Nat.le_of_lt (h1 i hi hij)
  · rcases Nat.lt_trichotomy i m with e2 | e2 | e2
    · exact Nat.le_trans (Nat.le_of_lt (h1 i hi e2)) (h2 j e hj)
    · subst e2; exact h2 j e hj
    · have := hR i j (by omega) hij hj
      simpa [ltN] using this
theorem below_left {a b A B m : Nat} {d dk : Array Nat} (h : QInv a b A B d dk) (hm : m < B) : Sort.Below ltN A m dk := h.below.mono (Nat.le_of_lt hm)
theorem below_right {B m : Nat} {dk : Array Nat} (h2 : ∀ k,m < k→k < B→dk[m]!≤dk[k]!) : Sort.Below ltN (m + 1) B dk :=
  .inr fun i hi hi2 => by
    rw [Nat.add_sub_cancel]
    have := h2 i (by omega) hi2
    simp [ltN]; omega
theorem QInv.left {a b A B m : Nat} {d dk d5 : Array Nat} (h : QInv a b A B d dk) (hm1 : A≤m) (hm2 : m < B) (h1 : ∀ k,A≤k→k < m→dk[k]! < dk[m]!) (h2 : ∀ k,m < k→k < B→dk[m]!≤dk[k]!)
    (hp : Sort.PermIn A m dk d5) (hs : Sort.SortedIn ltN A m d5) : QInv a b (m + 1) B d d5 := by
  have hp2 : Sort.PermIn A B dk d5 := Sort.permIn_mono dk d5 A m A B (Nat.le_refl _) (by omega) h.bk hp
  have hl := Sort.permIn_all dk d5 A m (fun x => x < dk[m]!) (by have := h.bk; omega) hp h1
  have em : d5[m]! = dk[m]! := hp.2.1 m (.inr (Nat.le_refl _))
  have er : ∀ k,m < k→d5[k]! = dk[k]! := fun k hk => hp.2.1 k (.inr (by omega))
  have hr5 : ∀ k,m < k→k < B→d5[m]!≤d5[k]! := fun k k1 k2 => by rw [em,er k k1]; exact h2 k k1 k2
  have hsz : d5.size = dk.size := hp.1
  refine ⟨by have := h.aA; omega,by omega,h.Bb,h.bd,h.wide hp2,below_right hr5,fun dz hz hsz2 => ?_⟩
  have hz2 : Sort.PermIn A B dk dz := Sort.permIn_trans _ _ _ _ _ hp2 (Sort.permIn_mono d5 dz (m + 1) B A B (by omega) (Nat.le_refl _) (by rw [hsz]; exact h.bk) hz)
  refine h.rest dz hz2 ?_
  have zl : ∀ k,k < m + 1→dz[k]! = d5[k]! := fun k hk => hz.2.1 k (.inl hk)
  have zr := Sort.permIn_all d5 dz (m + 1) B (fun x => d5[m]!≤x) (by rw [hsz]; exact h.bk) hz (fun i hi hi2 => hr5 i (by omega) hi2)
  refine glue (m := m) (fun i j hi hij hj => ?_) hsz2 (fun k k1 k2 => ?_) (fun k k1 k2 => ?_)
  · rw [zl i (by omega),zl j (by omega)]; exact hs i j hi hij hj
  · rw [zl k (by omega),zl m (by omega),em]; exact hl k k1 k2
  · rw [zl m (by omega)]; exact zr k (by omega) k2
theorem QInv.right {a b A B m : Nat} {d dk d5 : Array Nat} (h : QInv a b A B d dk) (hm1 : A≤m) (hm2 : m < B) (h1 : ∀ k,A≤k→k < m→dk[k]! < dk[m]!) (h2 : ∀ k,m < k→k < B→dk[m]!≤dk[k]!)
    (hp : Sort.PermIn (m + 1) B dk d5) (hs : Sort.SortedIn ltN (m + 1) B d5) : QInv a b A m d d5 := by
  have hp2 : Sort.PermIn A B dk d5 := Sort.permIn_mono dk d5 (m + 1) B A B (by omega) (Nat.le_refl _) h.bk hp
  have el : ∀ k,k < m + 1→d5[k]! = dk[k]! := fun k hk => hp.2.1 k (.inl hk)
  have hr5 := Sort.permIn_all dk d5 (m + 1) B (fun x => dk[m]!≤x) h.bk hp (fun i hi hi2 => h2 i (by omega) hi2)
  have hsz : d5.size = dk.size := hp.1
  have hq := h.turn hp2
  refine ⟨h.aA,hm1,by have := h.Bb; omega,h.bd,h.wide hp2,hq.below.mono (Nat.le_of_lt hm2),fun dz hz hsz2 => ?_⟩
  refine hq.rest dz (Sort.permIn_mono d5 dz A m A B (Nat.le_refl _) (by omega) (by rw [hsz]; exact h.bk) hz) ?_
  have zr : ∀ k,m≤k→dz[k]! = d5[k]! := fun k hk => hz.2.1 k (.inr hk)
  have zl := Sort.permIn_all d5 dz A m (fun x => x < dk[m]!) (by rw [hsz]; have := h.bk; omega) hz (fun i hi hi2 => by rw [el i (by omega)]; exact h1 i hi hi2)
  refine glue (m := m) hsz2 (fun i j hi hij hj => ?_) (fun k k1 k2 => ?_) (fun k k1 k2 => ?_)
  · rw [zr i (by omega),zr j (by omega)]; exact hs i j hi hij hj
  · rw [zr m (Nat.le_refl _),el m (by omega)]; exact zl k k1 k2
  · rw [zr m (Nat.le_refl _),zr k (by omega),el m (by omega)]; exact hr5 k (by omega) k2
theorem QInv.less {a b A B p : Nat} {d dk : Array Nat} (h : QInv a b A B d dk) (nd : d.toList.Nodup) (hA : 0 < A) (hp1 : A≤p) (hp2 : p < B) : ltN dk[A - 1]! dk[p]! = true := by
  have hb := h.bk
  rcases h.below with e | e
  · omega
  · have h1 := e p hp1 hp2
    have h2 := nodup_ne (nodup_perm h.perm h.bd nd) (i := A - 1) (j := p) (by omega) (by omega) (by omega)
    simp [ltN] at h1 ⊢
    omega
end Go.Proofs.YtnnmpaenainogaaGreat

namespace Go.Proofs.YtnnmpaenainogaaGreat
open Go.RowKit Go.Maps
def firstLoop : Code→Option Code
  | .loop c => some c
  | .seq a b => match firstLoop a with
    | some c => some c
    | none => firstLoop b
  | .block _ c => firstLoop c
  | .scope c => firstLoop c
  | .cond _ a b => match firstLoop a with
    | some c => some c
    | none => firstLoop b
  | _ => none
def cL : Code→Code
  | .seq a _ => a
  | .block _ c => c
  | .scope c => c
  | c => c
def cR : Code→Code
  | .seq _ b => b
  | .block _ c => c
  | .scope c => c
  | c => c
noncomputable def pdqIn : Code := cR ((Tryz.f247.body.bind firstLoop).getD .skip)
noncomputable def pdqS1 : Code := cL (cR pdqIn)
noncomputable def pdqS2 : Code := cL (cR (cR pdqIn))
noncomputable def pdqS3 : Code := cL (cR (cR (cR pdqIn)))
noncomputable def pdqS4 : Code := cL (cR (cR (cR (cR pdqIn))))
noncomputable def pdqS5 : Code := cL (cR (cR (cR (cR (cR pdqIn)))))
noncomputable def pdqS6 : Code := cL (cR (cR (cR (cR (cR (cR pdqIn))))))
noncomputable def pdqS7 : Code := cL (cR (cR (cR (cR (cR (cR (cR pdqIn)))))))
noncomputable def pdqS8 : Code := cR (cR (cR (cR (cR (cR (cR (cR pdqIn)))))))
def PdqR (w0 : World) (blk cap : Nat) (d : Array Nat) (a b : Nat) (r : Ending) (w' : World) : Prop :=
  r = .returned (.tuple #[])∧∃ dk,RowAt w0 blk cap w' dk∧Sort.PermIn a b d dk∧Sort.SortedIn ltN a b dk
end Go.Proofs.YtnnmpaenainogaaGreat

namespace Go.Proofs.YtnnmpaenainogaaGreat
open Go.RowKit Go.Maps
set_option maxRecDepth 1000000 in
set_option maxHeartbeats 8000000 in
theorem pdq1_any (w0 w : World) (blk cap a b A B n l : Nat) (d dk : Array Nat) (h : RowAt w0 blk cap w dk) (hq : QInv a b A B d dk) (hn : n = d.size) (hsz : n≤100000) (hl : (B : Int) - (A : Int) = (l : Int))
    (u22 u23 u24 u25 u26 u27 v3 v4 v5 v6 v7 v8 v9 v11 v12 v13 v14 v15 v16 v17 v18 v19 v20 v21 v28 v29 v30 v31 v32 v33 v34 v35 v36 v37 v38 v39 v40 v41 v42 v43 v44 v45 v46 v47 v48 v49 v50 v51 v52 v53 v54 v55 v56 v57 v58 v59 v60 v61 v62 v63 v64 v65 v66 v67 v68 v69 v70 v71 v72 v73 v74 v75 v76 v77 v78 v79 v80 v81 v82 v83 v84 v85 v86 v87 v88 v89 v90 v91 v92 v93 v94 v95 v96 v97 v98 v99 v100 v101 v102 v103 v104 v105 v106 v107 v108 v109 v110 v111 v112 v113 v114 v115 v116 v117 v118 v119 v120 v121 v122 v123 v124 v125 v126 v127 v128 v129 v130 v131 v132 v133 : Value) (Kc : Act→World→Prop) (Qc : Exit→Act→World→Prop)
    (hR : ∀ (tm : Array Value) (w5 : World),PdqR w0 blk cap d a b (.returned (.tuple #[])) w5→Qc .ret ⟨tm,[]⟩ w5)
    (hK : ∀ (x22 x23 x24 x25 x26 x27 : Value),¬ l≤12→Kc ⟨#[.slice (some ⟨blk,0,none⟩) n cap,.int .i64 (A : Int),.int .i64 (B : Int),v3,v4,v5,v6,v7,v8,v9,.int .i64 (l : Int),v11,v12,v13,v14,v15,v16,v17,v18,v19,v20,v21,x22,x23,x24,x25,x26,x27,v28,v29,v30,v31,v32,v33,v34,v35,v36,v37,v38,v39,v40,v41,v42,v43,v44,v45,v46,v47,v48,v49,v50,v51,v52,v53,v54,v55,v56,v57,v58,v59,v60,v61,v62,v63,v64,v65,v66,v67,v68,v69,v70,v71,v72,v73,v74,v75,v76,v77,v78,v79,v80,v81,v82,v83,v84,v85,v86,v87,v88,v89,v90,v91,v92,v93,v94,v95,v96,v97,v98,v99,v100,v101,v102,v103,v104,v105,v106,v107,v108,v109,v110,v111,v112,v113,v114,v115,v116,v117,v118,v119,v120,v121,v122,v123,v124,v125,v126,v127,v128,v129,v130,v131,v132,v133],[]⟩ w) :
    Code.wp Tryz.prog pdqS1 (Exit.then Kc Qc) ⟨#[.slice (some ⟨blk,0,none⟩) n cap,.int .i64 (A : Int),.int .i64 (B : Int),v3,v4,v5,v6,v7,v8,v9,.int .i64 (l : Int),v11,v12,v13,v14,v15,v16,v17,v18,v19,v20,v21,u22,u23,u24,u25,u26,u27,v28,v29,v30,v31,v32,v33,v34,v35,v36,v37,v38,v39,v40,v41,v42,v43,v44,v45,v46,v47,v48,v49,v50,v51,v52,v53,v54,v55,v56,v57,v58,v59,v60,v61,v62,v63,v64,v65,v66,v67,v68,v69,v70,v71,v72,v73,v74,v75,v76,v77,v78,v79,v80,v81,v82,v83,v84,v85,v86,v87,v88,v89,v90,v91,v92,v93,v94,v95,v96,v97,v98,v99,v100,v101,v102,v103,v104,v105,v106,v107,v108,v109,v110,v111,v112,v113,v114,v115,v116,v117,v118,v119,v120,v121,v122,v123,v124,v125,v126,v127,v128,v129,v130,v131,v132,v133],[]⟩ w := by
  conv => arg 2; whnf
  have HK := Lib.hid hK
  have HX := Lib.hid hR
  have HR := Lib.hid h
  have HQ := Lib.hid hq
  have HN := Lib.hid hn
  have hAB := hq.AB
  have hBn : B≤n := by have := hq.bk; rw [hq.size,← hn] at this; exact this
  have hn5 : (n : Int)≤100000 := by omega
  have hA5 : (A : Int)≤100000 := by omega
  have hB5 : (B : Int)≤100000 := by omega
  have hl5 : (l : Int)≤100000 := by omega
  clear hK h hq hn hR
  by_cases h12 : l≤12
  · have h12i : (l : Int)≤12 := by omega
    have hins := Sort.insertionSort_holds (lt := ltN) swo_ltN dk A B hAB HQ.out.bk
    have HF := Lib.hid (HQ.out.done hins.1 hins.2)
    clear hins
    go_wp2_with (first
      | (go_at_call 265; have K := insertion_any w0 w blk cap A B dk HR.out hAB HQ.out.bk (by rw [HQ.out.size,← HN.out]; exact hsz); rw [show (dk).size = n from HQ.out.size.trans HN.out.symm] at K; (with_reducible refine K.mono ?_); clear K; rintro r w1 ⟨rfl,hr⟩; have HRZ := Lib.hid hr; clear hr))
    exact HX.out _ _ ⟨rfl,_,HRZ.out,HF.out.1,HF.out.2⟩
  · have h12i : ¬ (l : Int)≤12 := by omega
    go_wp2
    exact HK.out _ _ _ _ _ _ h12
end Go.Proofs.YtnnmpaenainogaaGreat

namespace Go.Proofs.YtnnmpaenainogaaGreat
open Go.RowKit Go.Maps
set_option maxRecDepth 1000000 in
set_option maxHeartbeats 8000000 in
theorem pdq2_any (w0 w : World) (blk cap a b A B n l : Nat) (d dk : Array Nat) (h : RowAt w0 blk cap w dk) (hq : QInv a b A B d dk) (hn : n = d.size) (hsz : n≤100000) (hl : (B : Int) - (A : Int) = (l : Int)) (lm : Nat) (h12 : ¬ l≤12)
    (u28 u29 u30 u31 u32 u33 v4 v5 v6 v7 v8 v9 v10 v11 v12 v13 v14 v15 v16 v17 v18 v19 v20 v21 v22 v23 v24 v25 v26 v27 v34 v35 v36 v37 v38 v39 v40 v41 v42 v43 v44 v45 v46 v47 v48 v49 v50 v51 v52 v53 v54 v55 v56 v57 v58 v59 v60 v61 v62 v63 v64 v65 v66 v67 v68 v69 v70 v71 v72 v73 v74 v75 v76 v77 v78 v79 v80 v81 v82 v83 v84 v85 v86 v87 v88 v89 v90 v91 v92 v93 v94 v95 v96 v97 v98 v99 v100 v101 v102 v103 v104 v105 v106 v107 v108 v109 v110 v111 v112 v113 v114 v115 v116 v117 v118 v119 v120 v121 v122 v123 v124 v125 v126 v127 v128 v129 v130 v131 v132 v133 : Value) (Kc : Act→World→Prop) (Qc : Exit→Act→World→Prop)
    (hR : ∀ (tm : Array Value) (w5 : World),PdqR w0 blk cap d a b (.returned (.tuple #[])) w5→Qc .ret ⟨tm,[]⟩ w5)
    (hK : ∀ (x28 x29 x30 x31 x32 x33 : Value),lm≠0→Kc ⟨#[.slice (some ⟨blk,0,none⟩) n cap,.int .i64 (A : Int),.int .i64 (B : Int),.int .i64 (lm : Int),v4,v5,v6,v7,v8,v9,v10,v11,v12,v13,v14,v15,v16,v17,v18,v19,v20,v21,v22,v23,v24,v25,v26,v27,x28,x29,x30,x31,x32,x33,v34,v35,v36,v37,v38,v39,v40,v41,v42,v43,v44,v45,v46,v47,v48,v49,v50,v51,v52,v53,v54,v55,v56,v57,v58,v59,v60,v61,v62,v63,v64,v65,v66,v67,v68,v69,v70,v71,v72,v73,v74,v75,v76,v77,v78,v79,v80,v81,v82,v83,v84,v85,v86,v87,v88,v89,v90,v91,v92,v93,v94,v95,v96,v97,v98,v99,v100,v101,v102,v103,v104,v105,v106,v107,v108,v109,v110,v111,v112,v113,v114,v115,v116,v117,v118,v119,v120,v121,v122,v123,v124,v125,v126,v127,v128,v129,v130,v131,v132,v133],[]⟩ w) :
    Code.wp Tryz.prog pdqS2 (Exit.then Kc Qc) ⟨#[.slice (some ⟨blk,0,none⟩) n cap,.int .i64 (A : Int),.int .i64 (B : Int),.int .i64 (lm : Int),v4,v5,v6,v7,v8,v9,v10,v11,v12,v13,v14,v15,v16,v17,v18,v19,v20,v21,v22,v23,v24,v25,v26,v27,u28,u29,u30,u31,u32,u33,v34,v35,v36,v37,v38,v39,v40,v41,v42,v43,v44,v45,v46,v47,v48,v49,v50,v51,v52,v53,v54,v55,v56,v57,v58,v59,v60,v61,v62,v63,v64,v65,v66,v67,v68,v69,v70,v71,v72,v73,v74,v75,v76,v77,v78,v79,v80,v81,v82,v83,v84,v85,v86,v87,v88,v89,v90,v91,v92,v93,v94,v95,v96,v97,v98,v99,v100,v101,v102,v103,v104,v105,v106,v107,v108,v109,v110,v111,v112,v113,v114,v115,v116,v117,v118,v119,v120,v121,v122,v123,v124,v125,v126,v127,v128,v129,v130,v131,v132,v133],[]⟩ w := by
  conv => arg 2; whnf
  have HK := Lib.hid hK
  have HX := Lib.hid hR
  have HR := Lib.hid h
  have HQ := Lib.hid hq
  have HN := Lib.hid hn
  have hAB := hq.AB
  have hBn : B≤n := by have := hq.bk; rw [hq.size,← hn] at this; exact this
  have hn5 : (n : Int)≤100000 := by omega
  have hA5 : (A : Int)≤100000 := by omega
  have hB5 : (B : Int)≤100000 := by omega
  have hl5 : (l : Int)≤100000 := by omega
  clear hK h hq hn hR
  by_cases hl0 : lm = 0
  · subst hl0
    have hh := Sort.heapSort_holds (lt := ltN) swo_ltN dk A B hAB HQ.out.bk
    have HF := Lib.hid (HQ.out.done hh.1 hh.2)
    clear hh
    go_wp2_with (first
      | (go_at_call 266; have K := heap_any w0 w blk cap A B dk HR.out HQ.out.bk (by rw [HQ.out.size,← HN.out]; exact hsz) (by omega); rw [show (dk).size = n from HQ.out.size.trans HN.out.symm] at K; (with_reducible refine K.mono ?_); clear K; rintro r w1 ⟨rfl,hr⟩; have HRZ := Lib.hid hr; clear hr))
    exact HX.out _ _ ⟨rfl,_,HRZ.out,HF.out.1,HF.out.2⟩
  · have hl0i : ¬ (lm : Int) = 0 := by omega
    go_wp2
    exact HK.out _ _ _ _ _ _ hl0
end Go.Proofs.YtnnmpaenainogaaGreat

namespace Go.Proofs.YtnnmpaenainogaaGreat
open Go.RowKit Go.Maps
set_option maxRecDepth 1000000 in
set_option maxHeartbeats 8000000 in
theorem pdq3_any (w0 w : World) (blk cap a b A B n l : Nat) (d dk : Array Nat) (h : RowAt w0 blk cap w dk) (hq : QInv a b A B d dk) (hn : n = d.size) (hsz : n≤100000) (hl : (B : Int) - (A : Int) = (l : Int)) (lm : Nat) (wb : Bool) (h12 : ¬ l≤12) (hl0 : lm≠0) (hlm : lm≤1000)
    (u34 u35 u36 u37 u38 u39 u40 u41 v4 v5 v6 v7 v9 v10 v11 v12 v13 v14 v15 v16 v17 v18 v19 v20 v21 v22 v23 v24 v25 v26 v27 v28 v29 v30 v31 v32 v33 v42 v43 v44 v45 v46 v47 v48 v49 v50 v51 v52 v53 v54 v55 v56 v57 v58 v59 v60 v61 v62 v63 v64 v65 v66 v67 v68 v69 v70 v71 v72 v73 v74 v75 v76 v77 v78 v79 v80 v81 v82 v83 v84 v85 v86 v87 v88 v89 v90 v91 v92 v93 v94 v95 v96 v97 v98 v99 v100 v101 v102 v103 v104 v105 v106 v107 v108 v109 v110 v111 v112 v113 v114 v115 v116 v117 v118 v119 v120 v121 v122 v123 v124 v125 v126 v127 v128 v129 v130 v131 v132 v133 : Value) (Kc : Act→World→Prop) (Qc : Exit→Act→World→Prop)
    (hK : ∀ (x34 x35 x36 x37 x38 x39 x40 x41 : Value) (lm2 : Nat) (dk1 : Array Nat) (w5 : World),lm2≤1000→RowAt w0 blk cap w5 dk1→QInv a b A B d dk1→Kc ⟨#[.slice (some ⟨blk,0,none⟩) n cap,.int .i64 (A : Int),.int .i64 (B : Int),.int .i64 (lm2 : Int),v4,v5,v6,v7,.bool wb,v9,v10,v11,v12,v13,v14,v15,v16,v17,v18,v19,v20,v21,v22,v23,v24,v25,v26,v27,v28,v29,v30,v31,v32,v33,x34,x35,x36,x37,x38,x39,x40,x41,v42,v43,v44,v45,v46,v47,v48,v49,v50,v51,v52,v53,v54,v55,v56,v57,v58,v59,v60,v61,v62,v63,v64,v65,v66,v67,v68,v69,v70,v71,v72,v73,v74,v75,v76,v77,v78,v79,v80,v81,v82,v83,v84,v85,v86,v87,v88,v89,v90,v91,v92,v93,v94,v95,v96,v97,v98,v99,v100,v101,v102,v103,v104,v105,v106,v107,v108,v109,v110,v111,v112,v113,v114,v115,v116,v117,v118,v119,v120,v121,v122,v123,v124,v125,v126,v127,v128,v129,v130,v131,v132,v133],[]⟩ w5) :
    Code.wp Tryz.prog pdqS3 (Exit.then Kc Qc) ⟨#[.slice (some ⟨blk,0,none⟩) n cap,.int .i64 (A : Int),.int .i64 (B : Int),.int .i64 (lm : Int),v4,v5,v6,v7,.bool wb,v9,v10,v11,v12,v13,v14,v15,v16,v17,v18,v19,v20,v21,v22,v23,v24,v25,v26,v27,v28,v29,v30,v31,v32,v33,u34,u35,u36,u37,u38,u39,u40,u41,v42,v43,v44,v45,v46,v47,v48,v49,v50,v51,v52,v53,v54,v55,v56,v57,v58,v59,v60,v61,v62,v63,v64,v65,v66,v67,v68,v69,v70,v71,v72,v73,v74,v75,v76,v77,v78,v79,v80,v81,v82,v83,v84,v85,v86,v87,v88,v89,v90,v91,v92,v93,v94,v95,v96,v97,v98,v99,v100,v101,v102,v103,v104,v105,v106,v107,v108,v109,v110,v111,v112,v113,v114,v115,v116,v117,v118,v119,v120,v121,v122,v123,v124,v125,v126,v127,v128,v129,v130,v131,v132,v133],[]⟩ w := by
  conv => arg 2; whnf
  have HK := Lib.hid hK
  have HR := Lib.hid h
  have HQ := Lib.hid hq
  have HN := Lib.hid hn
  have hAB := hq.AB
  have hBn : B≤n := by have := hq.bk; rw [hq.size,← hn] at this; exact this
  have hn5 : (n : Int)≤100000 := by omega
  have hA5 : (A : Int)≤100000 := by omega
  have hB5 : (B : Int)≤100000 := by omega
  have hl5 : (l : Int)≤100000 := by omega
  clear hK h hq hn
  cases wb with
  | true =>
    go_wp2
    exact HK.out _ _ _ _ _ _ _ _ lm dk w hlm HR.out HQ.out
  | false =>
    have hlmw : (lm : Int) - 1 = ((lm - 1 : Nat) : Int) := by omega
    have HL := Lib.hid hlmw
    clear hlmw
    go_wp2_with (first
      | (go_at_call 267; have K := break_any w0 w blk cap A B dk HR.out HQ.out.bk (by rw [HQ.out.size,← HN.out]; exact hsz) (by omega); rw [show (dk).size = n from HQ.out.size.trans HN.out.symm] at K; (with_reducible refine K.mono ?_); clear K; rintro r w4 ⟨dkb,rfl,hrb,hpb⟩; have HRB := Lib.hid hrb; have HQB := Lib.hid (HQ.out.turn hpb); clear hrb hpb))
    rw [HL.out]
    exact HK.out _ _ _ _ _ _ _ _ (lm - 1) dkb _ (by omega) HRB.out HQB.out
end Go.Proofs.YtnnmpaenainogaaGreat

namespace Go.Proofs.YtnnmpaenainogaaGreat
open Go.RowKit Go.Maps
set_option maxRecDepth 1000000 in
set_option maxHeartbeats 8000000 in
theorem pdq4_any (w0 w : World) (blk cap a b A B n l : Nat) (d dk : Array Nat) (h : RowAt w0 blk cap w dk) (hq : QInv a b A B d dk) (hn : n = d.size) (hsz : n≤100000) (hl : (B : Int) - (A : Int) = (l : Int)) (h12 : ¬ l≤12)
    (u11 u12 u42 u43 u44 u45 u46 u47 u48 v3 v4 v5 v6 v7 v8 v9 v10 v13 v14 v15 v16 v17 v18 v19 v20 v21 v22 v23 v24 v25 v26 v27 v28 v29 v30 v31 v32 v33 v34 v35 v36 v37 v38 v39 v40 v41 v49 v50 v51 v52 v53 v54 v55 v56 v57 v58 v59 v60 v61 v62 v63 v64 v65 v66 v67 v68 v69 v70 v71 v72 v73 v74 v75 v76 v77 v78 v79 v80 v81 v82 v83 v84 v85 v86 v87 v88 v89 v90 v91 v92 v93 v94 v95 v96 v97 v98 v99 v100 v101 v102 v103 v104 v105 v106 v107 v108 v109 v110 v111 v112 v113 v114 v115 v116 v117 v118 v119 v120 v121 v122 v123 v124 v125 v126 v127 v128 v129 v130 v131 v132 v133 : Value) (Kc : Act→World→Prop) (Qc : Exit→Act→World→Prop)
    (hK : ∀ (x42 x43 x44 x45 x46 x47 x48 : Value) (p t : Nat) (w5 : World),A≤p→p < B→t≤2→RowAt w0 blk cap w5 dk→Kc ⟨#[.slice (some ⟨blk,0,none⟩) n cap,.int .i64 (A : Int),.int .i64 (B : Int),v3,v4,v5,v6,v7,v8,v9,v10,.int .i64 (p : Int),.int .i64 (t : Int),v13,v14,v15,v16,v17,v18,v19,v20,v21,v22,v23,v24,v25,v26,v27,v28,v29,v30,v31,v32,v33,v34,v35,v36,v37,v38,v39,v40,v41,x42,x43,x44,x45,x46,x47,x48,v49,v50,v51,v52,v53,v54,v55,v56,v57,v58,v59,v60,v61,v62,v63,v64,v65,v66,v67,v68,v69,v70,v71,v72,v73,v74,v75,v76,v77,v78,v79,v80,v81,v82,v83,v84,v85,v86,v87,v88,v89,v90,v91,v92,v93,v94,v95,v96,v97,v98,v99,v100,v101,v102,v103,v104,v105,v106,v107,v108,v109,v110,v111,v112,v113,v114,v115,v116,v117,v118,v119,v120,v121,v122,v123,v124,v125,v126,v127,v128,v129,v130,v131,v132,v133],[]⟩ w5) :
    Code.wp Tryz.prog pdqS4 (Exit.then Kc Qc) ⟨#[.slice (some ⟨blk,0,none⟩) n cap,.int .i64 (A : Int),.int .i64 (B : Int),v3,v4,v5,v6,v7,v8,v9,v10,u11,u12,v13,v14,v15,v16,v17,v18,v19,v20,v21,v22,v23,v24,v25,v26,v27,v28,v29,v30,v31,v32,v33,v34,v35,v36,v37,v38,v39,v40,v41,u42,u43,u44,u45,u46,u47,u48,v49,v50,v51,v52,v53,v54,v55,v56,v57,v58,v59,v60,v61,v62,v63,v64,v65,v66,v67,v68,v69,v70,v71,v72,v73,v74,v75,v76,v77,v78,v79,v80,v81,v82,v83,v84,v85,v86,v87,v88,v89,v90,v91,v92,v93,v94,v95,v96,v97,v98,v99,v100,v101,v102,v103,v104,v105,v106,v107,v108,v109,v110,v111,v112,v113,v114,v115,v116,v117,v118,v119,v120,v121,v122,v123,v124,v125,v126,v127,v128,v129,v130,v131,v132,v133],[]⟩ w := by
  conv => arg 2; whnf
  have HK := Lib.hid hK
  have HR := Lib.hid h
  have HQ := Lib.hid hq
  have HN := Lib.hid hn
  have hAB := hq.AB
  have hBn : B≤n := by have := hq.bk; rw [hq.size,← hn] at this; exact this
  have hn5 : (n : Int)≤100000 := by omega
  have hA5 : (A : Int)≤100000 := by omega
  have hB5 : (B : Int)≤100000 := by omega
  have hl5 : (l : Int)≤100000 := by omega
  clear hK h hq hn
  go_wp2_with (first
    | (go_at_call 268; have K := pivot_any w0 w blk cap A B dk HR.out HQ.out.bk (by rw [HQ.out.size,← HN.out]; exact hsz) (by omega); rw [show (dk).size = n from HQ.out.size.trans HN.out.symm] at K; (with_reducible refine K.mono ?_); clear K; rintro r w3 ⟨p,t,rfl,hpa,hpb,ht,hr3⟩; have HR3 := Lib.hid hr3; clear hr3))
  exact HK.out _ _ _ _ _ _ _ p t w3 hpa hpb ht HR3.out
end Go.Proofs.YtnnmpaenainogaaGreat

namespace Go.Proofs.YtnnmpaenainogaaGreat
open Go.RowKit Go.Maps
set_option maxRecDepth 1000000 in
set_option maxHeartbeats 8000000 in
theorem pdq5_any (w0 w : World) (blk cap a b A B n l : Nat) (d dk : Array Nat) (h : RowAt w0 blk cap w dk) (hq : QInv a b A B d dk) (hn : n = d.size) (hsz : n≤100000) (hl : (B : Int) - (A : Int) = (l : Int)) (p t : Nat) (h12 : ¬ l≤12) (hpa : A≤p) (hpb : p < B) (ht : t≤2)
    (u49 u50 u51 u52 u53 u54 u55 u56 u57 u58 u59 u60 v3 v4 v5 v6 v7 v8 v9 v10 v13 v14 v15 v16 v17 v18 v19 v20 v21 v22 v23 v24 v25 v26 v27 v28 v29 v30 v31 v32 v33 v34 v35 v36 v37 v38 v39 v40 v41 v42 v43 v44 v45 v46 v47 v48 v61 v62 v63 v64 v65 v66 v67 v68 v69 v70 v71 v72 v73 v74 v75 v76 v77 v78 v79 v80 v81 v82 v83 v84 v85 v86 v87 v88 v89 v90 v91 v92 v93 v94 v95 v96 v97 v98 v99 v100 v101 v102 v103 v104 v105 v106 v107 v108 v109 v110 v111 v112 v113 v114 v115 v116 v117 v118 v119 v120 v121 v122 v123 v124 v125 v126 v127 v128 v129 v130 v131 v132 v133 : Value) (Kc : Act→World→Prop) (Qc : Exit→Act→World→Prop)
    (hK : ∀ (x49 x50 x51 x52 x53 x54 x55 x56 x57 x58 x59 x60 : Value) (pv t2 : Nat) (dk2 : Array Nat) (w5 : World),A≤pv→pv < B→t2≤2→RowAt w0 blk cap w5 dk2→QInv a b A B d dk2→Kc ⟨#[.slice (some ⟨blk,0,none⟩) n cap,.int .i64 (A : Int),.int .i64 (B : Int),v3,v4,v5,v6,v7,v8,v9,v10,.int .i64 (pv : Int),.int .i64 (t2 : Int),v13,v14,v15,v16,v17,v18,v19,v20,v21,v22,v23,v24,v25,v26,v27,v28,v29,v30,v31,v32,v33,v34,v35,v36,v37,v38,v39,v40,v41,v42,v43,v44,v45,v46,v47,v48,x49,x50,x51,x52,x53,x54,x55,x56,x57,x58,x59,x60,v61,v62,v63,v64,v65,v66,v67,v68,v69,v70,v71,v72,v73,v74,v75,v76,v77,v78,v79,v80,v81,v82,v83,v84,v85,v86,v87,v88,v89,v90,v91,v92,v93,v94,v95,v96,v97,v98,v99,v100,v101,v102,v103,v104,v105,v106,v107,v108,v109,v110,v111,v112,v113,v114,v115,v116,v117,v118,v119,v120,v121,v122,v123,v124,v125,v126,v127,v128,v129,v130,v131,v132,v133],[]⟩ w5) :
    Code.wp Tryz.prog pdqS5 (Exit.then Kc Qc) ⟨#[.slice (some ⟨blk,0,none⟩) n cap,.int .i64 (A : Int),.int .i64 (B : Int),v3,v4,v5,v6,v7,v8,v9,v10,.int .i64 (p : Int),.int .i64 (t : Int),v13,v14,v15,v16,v17,v18,v19,v20,v21,v22,v23,v24,v25,v26,v27,v28,v29,v30,v31,v32,v33,v34,v35,v36,v37,v38,v39,v40,v41,v42,v43,v44,v45,v46,v47,v48,u49,u50,u51,u52,u53,u54,u55,u56,u57,u58,u59,u60,v61,v62,v63,v64,v65,v66,v67,v68,v69,v70,v71,v72,v73,v74,v75,v76,v77,v78,v79,v80,v81,v82,v83,v84,v85,v86,v87,v88,v89,v90,v91,v92,v93,v94,v95,v96,v97,v98,v99,v100,v101,v102,v103,v104,v105,v106,v107,v108,v109,v110,v111,v112,v113,v114,v115,v116,v117,v118,v119,v120,v121,v122,v123,v124,v125,v126,v127,v128,v129,v130,v131,v132,v133],[]⟩ w := by
  conv => arg 2; whnf
  have HK := Lib.hid hK
  have HR := Lib.hid h
  have HQ := Lib.hid hq
  have HN := Lib.hid hn
  have hAB := hq.AB
  have hBn : B≤n := by have := hq.bk; rw [hq.size,← hn] at this; exact this
  have hn5 : (n : Int)≤100000 := by omega
  have hA5 : (A : Int)≤100000 := by omega
  have hB5 : (B : Int)≤100000 := by omega
  have hl5 : (l : Int)≤100000 := by omega
  clear hK h hq hn
  have hp5 : (p : Int)≤100000 := by omega
  by_cases ht2 : t = 2
  · subst ht2
    obtain ⟨B1,hB1⟩ : ∃ B1 : Nat,(B : Int) - 1 = (B1 : Int) := ⟨B - 1,by omega⟩
    obtain ⟨pA,hpA⟩ : ∃ pA : Nat,(p : Int) - (A : Int) = (pA : Int) := ⟨p - A,by omega⟩
    obtain ⟨pv,hpv⟩ : ∃ pv : Nat,(B1 : Int) - (pA : Int) = (pv : Int) := ⟨B1 - pA,by omega⟩
    have hB15 : (B1 : Int)≤100000 := by omega
    have hpA5 : (pA : Int)≤100000 := by omega
    have hpv5 : (pv : Int)≤100000 := by omega
    go_wp2_with (first
      | (go_at_call 269; have K := reverse_any w0 w blk cap A B dk HR.out HQ.out.bk (by rw [HQ.out.size,← HN.out]; exact hsz) (by omega); rw [show (dk).size = n from HQ.out.size.trans HN.out.symm] at K; (with_reducible refine K.mono ?_); clear K; rintro r w4 ⟨dkr,rfl,hrr,hpr⟩; have HRR := Lib.hid hrr; have HQR := Lib.hid (HQ.out.turn hpr); clear hrr hpr))
    exact HK.out _ _ _ _ _ _ _ _ _ _ _ _ pv 1 dkr w4 (by omega) (by omega) (by decide) HRR.out HQR.out
  · have ht2i : ¬ (t : Int) = 2 := by omega
    go_wp2
    exact HK.out _ _ _ _ _ _ _ _ _ _ _ _ p t dk w hpa hpb ht HR.out HQ.out
end Go.Proofs.YtnnmpaenainogaaGreat

namespace Go.Proofs.YtnnmpaenainogaaGreat
open Go.RowKit Go.Maps
set_option maxRecDepth 1000000 in
set_option maxHeartbeats 8000000 in
theorem pdq6_any (w0 w : World) (blk cap a b A B n l : Nat) (d dk : Array Nat) (h : RowAt w0 blk cap w dk) (hq : QInv a b A B d dk) (hn : n = d.size) (hsz : n≤100000) (hl : (B : Int) - (A : Int) = (l : Int)) (t2 : Nat) (wb wp : Bool) (h12 : ¬ l≤12)
    (u61 u62 u63 u64 u65 u66 u67 u68 u69 u70 u71 u72 v3 v4 v5 v6 v7 v10 v11 v13 v14 v15 v16 v17 v18 v19 v20 v21 v22 v23 v24 v25 v26 v27 v28 v29 v30 v31 v32 v33 v34 v35 v36 v37 v38 v39 v40 v41 v42 v43 v44 v45 v46 v47 v48 v49 v50 v51 v52 v53 v54 v55 v56 v57 v58 v59 v60 v73 v74 v75 v76 v77 v78 v79 v80 v81 v82 v83 v84 v85 v86 v87 v88 v89 v90 v91 v92 v93 v94 v95 v96 v97 v98 v99 v100 v101 v102 v103 v104 v105 v106 v107 v108 v109 v110 v111 v112 v113 v114 v115 v116 v117 v118 v119 v120 v121 v122 v123 v124 v125 v126 v127 v128 v129 v130 v131 v132 v133 : Value) (Kc : Act→World→Prop) (Qc : Exit→Act→World→Prop)
    (hR : ∀ (tm : Array Value) (w5 : World),PdqR w0 blk cap d a b (.returned (.tuple #[])) w5→Qc .ret ⟨tm,[]⟩ w5)
    (hK : ∀ (x61 x62 x63 x64 x65 x66 x67 x68 x69 x70 x71 x72 : Value) (dk3 : Array Nat) (w5 : World),RowAt w0 blk cap w5 dk3→QInv a b A B d dk3→Kc ⟨#[.slice (some ⟨blk,0,none⟩) n cap,.int .i64 (A : Int),.int .i64 (B : Int),v3,v4,v5,v6,v7,.bool wb,.bool wp,v10,v11,.int .i64 (t2 : Int),v13,v14,v15,v16,v17,v18,v19,v20,v21,v22,v23,v24,v25,v26,v27,v28,v29,v30,v31,v32,v33,v34,v35,v36,v37,v38,v39,v40,v41,v42,v43,v44,v45,v46,v47,v48,v49,v50,v51,v52,v53,v54,v55,v56,v57,v58,v59,v60,x61,x62,x63,x64,x65,x66,x67,x68,x69,x70,x71,x72,v73,v74,v75,v76,v77,v78,v79,v80,v81,v82,v83,v84,v85,v86,v87,v88,v89,v90,v91,v92,v93,v94,v95,v96,v97,v98,v99,v100,v101,v102,v103,v104,v105,v106,v107,v108,v109,v110,v111,v112,v113,v114,v115,v116,v117,v118,v119,v120,v121,v122,v123,v124,v125,v126,v127,v128,v129,v130,v131,v132,v133],[]⟩ w5) :
    Code.wp Tryz.prog pdqS6 (Exit.then Kc Qc) ⟨#[.slice (some ⟨blk,0,none⟩) n cap,.int .i64 (A : Int),.int .i64 (B : Int),v3,v4,v5,v6,v7,.bool wb,.bool wp,v10,v11,.int .i64 (t2 : Int),v13,v14,v15,v16,v17,v18,v19,v20,v21,v22,v23,v24,v25,v26,v27,v28,v29,v30,v31,v32,v33,v34,v35,v36,v37,v38,v39,v40,v41,v42,v43,v44,v45,v46,v47,v48,v49,v50,v51,v52,v53,v54,v55,v56,v57,v58,v59,v60,u61,u62,u63,u64,u65,u66,u67,u68,u69,u70,u71,u72,v73,v74,v75,v76,v77,v78,v79,v80,v81,v82,v83,v84,v85,v86,v87,v88,v89,v90,v91,v92,v93,v94,v95,v96,v97,v98,v99,v100,v101,v102,v103,v104,v105,v106,v107,v108,v109,v110,v111,v112,v113,v114,v115,v116,v117,v118,v119,v120,v121,v122,v123,v124,v125,v126,v127,v128,v129,v130,v131,v132,v133],[]⟩ w := by
  conv => arg 2; whnf
  have HK := Lib.hid hK
  have HX := Lib.hid hR
  have HR := Lib.hid h
  have HQ := Lib.hid hq
  have HN := Lib.hid hn
  have hAB := hq.AB
  have hBn : B≤n := by have := hq.bk; rw [hq.size,← hn] at this; exact this
  have hn5 : (n : Int)≤100000 := by omega
  have hA5 : (A : Int)≤100000 := by omega
  have hB5 : (B : Int)≤100000 := by omega
  have hl5 : (l : Int)≤100000 := by omega
  clear hK h hq hn hR
  cases wb with
  | false =>
    go_wp2
    exact HK.out _ _ _ _ _ _ _ _ _ _ _ _ dk w HR.out HQ.out
  | true =>
    cases wp with
    | false =>
      go_wp2
      exact HK.out _ _ _ _ _ _ _ _ _ _ _ _ dk w HR.out HQ.out
    | true =>
      by_cases ht1 : t2 = 1
      · subst ht1
        go_wp2_with fail
        have K := pins_any w0 w blk cap A B dk HR.out HQ.out.bk (by rw [HQ.out.size,← HN.out]; exact hsz) (by omega)
        rw [show (dk).size = n from HQ.out.size.trans HN.out.symm] at K
        (with_reducible refine K.mono ?_)
        clear K
        rintro r wp2 ⟨pt0,dkp,rfl,hrp,hep⟩
        have HRP := Lib.hid hrp
        have hpp := Sort.partialInsertionSort_holds (lt := ltN) swo_ltN dk A B (by omega) HQ.out.bk HQ.out.below
        rw [hep] at hpp
        cases pt0 with
        | true =>
          have HF := Lib.hid (HQ.out.done hpp.1 (hpp.2 rfl))
          clear hpp hep hrp
          go_wp2
          exact HX.out _ _ ⟨rfl,dkp,HRP.out,HF.out.1,HF.out.2⟩
        | false =>
          have HQP := Lib.hid (HQ.out.turn (show Sort.PermIn A B dk dkp from hpp.1))
          clear hpp hep hrp
          go_wp2
          exact HK.out _ _ _ _ _ _ _ _ _ _ _ _ dkp wp2 HRP.out HQP.out
      · have ht1i : ¬ (t2 : Int) = 1 := by omega
        have ht1b : ((t2 : Int) == 1) = false := by simpa using ht1i
        go_wp2
        exact HK.out _ _ _ _ _ _ _ _ _ _ _ _ dk w HR.out HQ.out
end Go.Proofs.YtnnmpaenainogaaGreat

namespace Go.Proofs.YtnnmpaenainogaaGreat
open Go.RowKit Go.Maps
set_option maxRecDepth 1000000 in
set_option maxHeartbeats 8000000 in
theorem pdq7_any (w0 w : World) (blk cap a b A B n l : Nat) (d dk : Array Nat) (h : RowAt w0 blk cap w dk) (hq : QInv a b A B d dk) (hn : n = d.size) (hsz : n≤100000) (hl : (B : Int) - (A : Int) = (l : Int)) (pv : Nat) (hpv1 : A≤pv) (hpv2 : pv < B) (nd : d.toList.Nodup)
    (u13 u73 u74 u75 u76 u77 u78 u79 u80 u81 u82 u83 u84 u85 u86 u87 u88 u89 u90 u91 u92 u93 v3 v4 v5 v6 v7 v8 v9 v10 v12 v14 v15 v16 v17 v18 v19 v20 v21 v22 v23 v24 v25 v26 v27 v28 v29 v30 v31 v32 v33 v34 v35 v36 v37 v38 v39 v40 v41 v42 v43 v44 v45 v46 v47 v48 v49 v50 v51 v52 v53 v54 v55 v56 v57 v58 v59 v60 v61 v62 v63 v64 v65 v66 v67 v68 v69 v70 v71 v72 v94 v95 v96 v97 v98 v99 v100 v101 v102 v103 v104 v105 v106 v107 v108 v109 v110 v111 v112 v113 v114 v115 v116 v117 v118 v119 v120 v121 v122 v123 v124 v125 v126 v127 v128 v129 v130 v131 v132 v133 : Value) (Kc : Act→World→Prop) (Qc : Exit→Act→World→Prop)
    (hK : ∀ (x13 x73 x74 x75 x76 x77 x78 x79 x80 x81 x82 x83 x84 x85 x86 x87 x88 x89 x90 x91 x92 x93 : Value) (w5 : World),RowAt w0 blk cap w5 dk→Kc ⟨#[.slice (some ⟨blk,0,none⟩) n cap,.int .i64 (A : Int),.int .i64 (B : Int),v3,v4,v5,v6,v7,v8,v9,v10,.int .i64 (pv : Int),v12,x13,v14,v15,v16,v17,v18,v19,v20,v21,v22,v23,v24,v25,v26,v27,v28,v29,v30,v31,v32,v33,v34,v35,v36,v37,v38,v39,v40,v41,v42,v43,v44,v45,v46,v47,v48,v49,v50,v51,v52,v53,v54,v55,v56,v57,v58,v59,v60,v61,v62,v63,v64,v65,v66,v67,v68,v69,v70,v71,v72,x73,x74,x75,x76,x77,x78,x79,x80,x81,x82,x83,x84,x85,x86,x87,x88,x89,x90,x91,x92,x93,v94,v95,v96,v97,v98,v99,v100,v101,v102,v103,v104,v105,v106,v107,v108,v109,v110,v111,v112,v113,v114,v115,v116,v117,v118,v119,v120,v121,v122,v123,v124,v125,v126,v127,v128,v129,v130,v131,v132,v133],[]⟩ w5) :
    Code.wp Tryz.prog pdqS7 (Exit.then Kc Qc) ⟨#[.slice (some ⟨blk,0,none⟩) n cap,.int .i64 (A : Int),.int .i64 (B : Int),v3,v4,v5,v6,v7,v8,v9,v10,.int .i64 (pv : Int),v12,u13,v14,v15,v16,v17,v18,v19,v20,v21,v22,v23,v24,v25,v26,v27,v28,v29,v30,v31,v32,v33,v34,v35,v36,v37,v38,v39,v40,v41,v42,v43,v44,v45,v46,v47,v48,v49,v50,v51,v52,v53,v54,v55,v56,v57,v58,v59,v60,v61,v62,v63,v64,v65,v66,v67,v68,v69,v70,v71,v72,u73,u74,u75,u76,u77,u78,u79,u80,u81,u82,u83,u84,u85,u86,u87,u88,u89,u90,u91,u92,u93,v94,v95,v96,v97,v98,v99,v100,v101,v102,v103,v104,v105,v106,v107,v108,v109,v110,v111,v112,v113,v114,v115,v116,v117,v118,v119,v120,v121,v122,v123,v124,v125,v126,v127,v128,v129,v130,v131,v132,v133],[]⟩ w := by
  conv => arg 2; whnf
  have HK := Lib.hid hK
  have HR := Lib.hid h
  have HQ := Lib.hid hq
  have HN := Lib.hid hn
  have hAB := hq.AB
  have hBn : B≤n := by have := hq.bk; rw [hq.size,← hn] at this; exact this
  have hn5 : (n : Int)≤100000 := by omega
  have hA5 : (A : Int)≤100000 := by omega
  have hB5 : (B : Int)≤100000 := by omega
  have hl5 : (l : Int)≤100000 := by omega
  clear hK h hq hn
  rcases Nat.eq_zero_or_pos A with hA0 | hA0
  · subst hA0
    go_wp2_with fail
    go_quiet (first | (go_at_call 271; refine Calls.quiet_of_same (less_any 0 0 false rfl _)))
    have HRe := Lib.hid (HR.out.drewN nq)
    generalize w.drewN nq = WV at HRe ⊢
    go_wp2
    exact HK.out _ _ _ _ _ _ _ _ _ _ _ _ _ _ _ _ _ _ _ _ _ _ WV HRe.out
  · have hA0i : (0 : Int) < (A : Int) := by omega
    have hA1 : (A : Int) - 1 < (n : Int) := by omega
    have hwA : IntKind.i64.wrap ((A : Int) - 1) = (A : Int) - 1 := IntWalk.i64_in _ ⟨by omega,by omega⟩
    have hpvn : (pv : Int) < (n : Int) := by omega
    have c1 := HR.out.cell (j := A - 1) (by have := HQ.out.bk; omega)
    have c2 := HR.out.cell (j := pv) (by have := HQ.out.bk; omega)
    obtain ⟨x,hx⟩ : ∃ x,(dk)[A - 1]! = x := ⟨_,rfl⟩
    obtain ⟨y,hy⟩ : ∃ y,(dk)[pv]! = y := ⟨_,rfl⟩
    have HL := Lib.hid (show ltN x y = true by rw [← hx,← hy]; exact HQ.out.less nd hA0 hpv1 hpv2)
    rw [hx] at c1
    rw [hy] at c2
    clear hx hy nd
    go_wp2_with fail
    go_quiet (first | (go_at_call 271; refine Calls.quiet_of_same (less_any x y true HL.out _)))
    have HRe := Lib.hid (HR.out.drewN nq)
    clear c1 c2
    generalize w.drewN nq = WV at HRe ⊢
    go_wp2
    exact HK.out _ _ _ _ _ _ _ _ _ _ _ _ _ _ _ _ _ _ _ _ _ _ WV HRe.out
end Go.Proofs.YtnnmpaenainogaaGreat

namespace Go.Proofs.YtnnmpaenainogaaGreat
open Go.RowKit Go.Maps
set_option maxRecDepth 1000000 in
set_option maxHeartbeats 8000000 in
theorem pdq8_any (w0 w : World) (blk cap a b A B n l : Nat) (d dk : Array Nat) (h : RowAt w0 blk cap w dk) (hq : QInv a b A B d dk) (hn : n = d.size) (hsz : n≤100000) (hl : (B : Int) - (A : Int) = (l : Int)) (lm2 pv M : Nat) (hpv1 : A≤pv) (hpv2 : pv < B) (nd : d.toList.Nodup) (h12 : ¬ l≤12) (hlm2 : lm2≤1000) (hM : B - A≤M)
    (IH : ∀ (w : World) (a b lim : Nat) (d : Array Nat),b - a < M→RowAt w0 blk cap w d→a≤b→b≤d.size→d.size≤100000→d.toList.Nodup→Sort.Below ltN a b d→lim≤1000 →
      Calls Tryz.prog 247 #[.slice (some ⟨blk,0,none⟩) d.size cap,.int .i64 (a : Int),.int .i64 (b : Int),.int .i64 (lim : Int)] w fun r w' => PdqR w0 blk cap d a b r w')
    (u8 u9 u14 u15 u16 u17 u18 u94 u95 u96 u97 u98 u99 u100 u101 u102 u103 u104 u105 u106 u107 u108 u109 u110 u111 u112 u113 u114 u115 u116 u117 u118 u119 u120 u121 u122 u123 u124 u125 u126 u127 u128 u129 u130 u131 u132 u133 v4 v5 v6 v7 v12 v13 v19 v20 v21 v22 v23 v24 v25 v26 v27 v28 v29 v30 v31 v32 v33 v34 v35 v36 v37 v38 v39 v40 v41 v42 v43 v44 v45 v46 v47 v48 v49 v50 v51 v52 v53 v54 v55 v56 v57 v58 v59 v60 v61 v62 v63 v64 v65 v66 v67 v68 v69 v70 v71 v72 v73 v74 v75 v76 v77 v78 v79 v80 v81 v82 v83 v84 v85 v86 v87 v88 v89 v90 v91 v92 v93 : Value) (Kc : Act→World→Prop) (Qc : Exit→Act→World→Prop)
    (hK : ∀ (x14 x15 x16 x17 x18 x94 x95 x96 x97 x98 x99 x100 x101 x102 x103 x104 x105 x106 x107 x108 x109 x110 x111 x112 x113 x114 x115 x116 x117 x118 x119 x120 x121 x122 x123 x124 x125 x126 x127 x128 x129 x130 x131 x132 x133 : Value) (A' B' : Nat) (wb' wp' : Bool) (dk5 : Array Nat) (w5 : World),B' - A' < B - A→A'≤B'→RowAt w0 blk cap w5 dk5→QInv a b A' B' d dk5→Qc .normal ⟨#[.slice (some ⟨blk,0,none⟩) n cap,.int .i64 (A' : Int),.int .i64 (B' : Int),.int .i64 (lm2 : Int),v4,v5,v6,v7,.bool wb',.bool wp',.int .i64 (l : Int),.int .i64 (pv : Int),v12,v13,x14,x15,x16,x17,x18,v19,v20,v21,v22,v23,v24,v25,v26,v27,v28,v29,v30,v31,v32,v33,v34,v35,v36,v37,v38,v39,v40,v41,v42,v43,v44,v45,v46,v47,v48,v49,v50,v51,v52,v53,v54,v55,v56,v57,v58,v59,v60,v61,v62,v63,v64,v65,v66,v67,v68,v69,v70,v71,v72,v73,v74,v75,v76,v77,v78,v79,v80,v81,v82,v83,v84,v85,v86,v87,v88,v89,v90,v91,v92,v93,x94,x95,x96,x97,x98,x99,x100,x101,x102,x103,x104,x105,x106,x107,x108,x109,x110,x111,x112,x113,x114,x115,x116,x117,x118,x119,x120,x121,x122,x123,x124,x125,x126,x127,x128,x129,x130,x131,x132,x133],[]⟩ w5) :
    Code.wp Tryz.prog pdqS8 Qc ⟨#[.slice (some ⟨blk,0,none⟩) n cap,.int .i64 (A : Int),.int .i64 (B : Int),.int .i64 (lm2 : Int),v4,v5,v6,v7,u8,u9,.int .i64 (l : Int),.int .i64 (pv : Int),v12,v13,u14,u15,u16,u17,u18,v19,v20,v21,v22,v23,v24,v25,v26,v27,v28,v29,v30,v31,v32,v33,v34,v35,v36,v37,v38,v39,v40,v41,v42,v43,v44,v45,v46,v47,v48,v49,v50,v51,v52,v53,v54,v55,v56,v57,v58,v59,v60,v61,v62,v63,v64,v65,v66,v67,v68,v69,v70,v71,v72,v73,v74,v75,v76,v77,v78,v79,v80,v81,v82,v83,v84,v85,v86,v87,v88,v89,v90,v91,v92,v93,u94,u95,u96,u97,u98,u99,u100,u101,u102,u103,u104,u105,u106,u107,u108,u109,u110,u111,u112,u113,u114,u115,u116,u117,u118,u119,u120,u121,u122,u123,u124,u125,u126,u127,u128,u129,u130,u131,u132,u133],[]⟩ w := by
  conv => arg 2; whnf
  have HK := Lib.hid hK
  have HR := Lib.hid h
  have HQ := Lib.hid hq
  have HN := Lib.hid hn
  have hAB := hq.AB
  have hBn : B≤n := by have := hq.bk; rw [hq.size,← hn] at this; exact this
  have hn5 : (n : Int)≤100000 := by omega
  have hA5 : (A : Int)≤100000 := by omega
  have hB5 : (B : Int)≤100000 := by omega
  have hl5 : (l : Int)≤100000 := by omega
  clear hK h hq hn
  have ND := Lib.hid nd
  have HI := Lib.hid IH
  clear nd IH
  go_wp2_with fail
  have K := partition_any w0 w blk cap A B pv dk HR.out HQ.out.bk (by rw [HQ.out.size,← HN.out]; exact hsz) (by omega) hpv1 hpv2
  rw [show (dk).size = n from HQ.out.size.trans HN.out.symm] at K
  (with_reducible refine K.mono ?_)
  clear K
  rintro r w5 ⟨m,pt,dk4,rfl,hr4,hp4,hm1,hm2,hlt4,hge4⟩
  have HR4 := Lib.hid hr4
  have HQ4 := Lib.hid (HQ.out.turn hp4)
  have HLT4 := Lib.hid hlt4
  have HGE4 := Lib.hid hge4
  obtain ⟨lf,hlf⟩ : ∃ lf : Nat,(m : Int) - (A : Int) = (lf : Int) := ⟨m - A,by omega⟩
  obtain ⟨rt,hrt⟩ : ∃ rt : Nat,(B : Int) - (m : Int) = (rt : Int) := ⟨B - m,by omega⟩
  have hm5 : (m : Int)≤100000 := by omega
  clear hr4 hp4 hlt4 hge4
  have HM1 := Lib.hid (show (m : Int) + 1 = ((m + 1 : Nat) : Int) by omega)
  by_cases hlr : lf < rt
  · have hlri : (lf : Int) < (rt : Int) := by omega
    go_wp2_with (first
      | (go_at_call 247; have K := HI.out w5 A m lm2 dk4 (by omega) HR4.out (by omega) (by have := HQ4.out.bk; omega) (by rw [HQ4.out.size,← HN.out]; exact hsz) (nodup_perm HQ4.out.perm HQ4.out.bd ND.out) (below_left HQ4.out hm2) (by omega); rw [show dk4.size = n from HQ4.out.size.trans HN.out.symm] at K; (with_reducible refine K.mono ?_); clear K; rintro r w6 ⟨rfl,dk5,hr5,hp5,hs5⟩; have HR5 := Lib.hid hr5; have HQ5 := Lib.hid (HQ4.out.left hm1 hm2 HLT4.out HGE4.out hp5 hs5); clear hr5 hp5 hs5))
    rw [HM1.out]
    exact HK.out _ _ _ _ _ _ _ _ _ _ _ _ _ _ _ _ _ _ _ _ _ _ _ _ _ _ _ _ _ _ _ _ _ _ _ _ _ _ _ _ _ _ _ _ _ (m + 1) B _ _ dk5 w6 (by omega) (by omega) HR5.out HQ5.out
  · have hlri : ¬ (lf : Int) < (rt : Int) := by omega
    go_wp2_with (first
      | (go_at_call 247; have K := HI.out w5 (m + 1) B lm2 dk4 (by omega) HR4.out (by omega) HQ4.out.bk (by rw [HQ4.out.size,← HN.out]; exact hsz) (nodup_perm HQ4.out.perm HQ4.out.bd ND.out) (below_right HGE4.out) (by omega); rw [show dk4.size = n from HQ4.out.size.trans HN.out.symm,← HM1.out] at K; (with_reducible refine K.mono ?_); clear K; rintro r w6 ⟨rfl,dk5,hr5,hp5,hs5⟩; have HR5 := Lib.hid hr5; have HQ5 := Lib.hid (HQ4.out.right hm1 hm2 HLT4.out HGE4.out hp5 hs5); clear hr5 hp5 hs5))
    exact HK.out _ _ _ _ _ _ _ _ _ _ _ _ _ _ _ _ _ _ _ _ _ _ _ _ _ _ _ _ _ _ _ _ _ _ _ _ _ _ _ _ _ _ _ _ _ A m _ _ dk5 w6 (by omega) (by omega) HR5.out HQ5.out
end Go.Proofs.YtnnmpaenainogaaGreat
