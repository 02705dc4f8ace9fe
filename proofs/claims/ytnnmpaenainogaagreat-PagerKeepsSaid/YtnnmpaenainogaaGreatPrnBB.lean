/-
  The contract of crc's Of: whatever rows of bytes, the sum is the document's; nothing that was there turns. Own work.
-/
import Derived.Test.YtnnmpaenainogaaGreatPrnAA
import Derived.Test.YtnnmpaenainogaaGreatPrnBA

set_option linter.unusedVariables false
set_option linter.unusedSimpArgs false
namespace Go.Proofs.YtnnmpaenainogaaGreat
open Go.RowKit
def SeqS (B : Nat) (w : World) (v : Value) (ls : List (List Int)) : Prop :=
  ∃ ao c,v = .slice ao ls.length c∧ls.length≤9223372036854775807∧(ls≠[]→∃ b o,ao = some ⟨b,o,none⟩∧b < B∧∀ j,j < ls.length→∃ vj,w.cell? ⟨b,o + j,none⟩ = some vj∧Seq B w vj (ls.getD j []))
theorem xorI_div (x m : Nat) (hx : x < 4294967296) (hm : (x : Int) % 16 = m) : bits .xor .u32 ((x : Int) / 16) ((bms 4 m : Nat) : Int) = ((bms 4 x : Nat) : Int) := by
  have e : m = x % 16 := by omega
  subst e
  have := xorI (x / 16) (bms 4 (x % 16)) (by omega) (bms_lt 4 (by omega))
  rw [show ((x / 16 : Nat) : Int) = (x : Int) / 16 by omega] at this
  rw [this,bm4 x]
theorem halfC_one (k : Nat) : (halfC k).all (·.oneCell') = true := by simp [halfC,halfV,Value.oneCell']
theorem flat_take {ls : List (List Int)} {k : Nat} (hk : k < ls.length) : (ls.take (k + 1)).flatten = (ls.take k).flatten++ls.getD k [] := by
  rw [List.take_succ_eq_append_getElem hk,List.flatten_append]; simp [List.getElem?_eq_getElem hk]
theorem byt_row {ls : List (List Int)} (h : ∀ l∈ls,Byt l) (k : Nat) : Byt (ls.getD k []) := by
  rw [List.getD_eq_getElem?_getD]
  rcases Nat.lt_or_ge k ls.length with hk | hk
  · rw [List.getElem?_eq_getElem hk]; exact h _ (List.getElem_mem hk)
  · rw [List.getElem?_eq_none hk]; intro x hx; simp at hx
theorem byt_flat {ls : List (List Int)} (h : ∀ l∈ls,Byt l) : Byt ls.flatten := by
  intro x hx
  obtain ⟨l,hl,hxl⟩ := List.mem_flatten.1 hx
  exact h l hl x hxl
set_option maxHeartbeats 2000000 in
theorem of_any (w : World) (v : Value) (ls : List (List Int)) (h : SeqS w.heap.size w v ls) (hb : ∀ l∈ls,Byt l) :
    Calls Tryz.prog 78 #[v] w fun r w' => r = .returned (.int .u32 ((crcN ls.flatten : Nat) : Int))∧w.grownBy w' none := by
  obtain ⟨ao,c,rfl,hl,h4⟩ := h
  obtain ⟨n,hn⟩ : ∃ n,n = ls.length := ⟨_,rfl⟩
  rw [← hn] at hl ⊢
  have HN := Lib.hid hn
  have HB := Lib.hid hb
  have H4 := Lib.hid h4
  clear h4 hn hb
  go_enter Tryz.func78,Tryz.ntmps78
  go_wp2_with (go_at_call 123; refine (halfSums_any _).mono ?_; rintro r w1 ⟨rfl,hg1⟩; have H1 := Lib.hid hg1; clear hg1; have hsc := run_storeCells_new (P := Tryz.prog) w1 230 (halfC 0) (halfC 16) (by rw [halfC_size]; kernel_rfl) (by rw [halfC_size,halfC_size]) (halfC_one 16); rw [halfC_none] at hsc)
  clear hsc
  have HC : ∀ m,m < 16→(w1.alloc (.cells (halfC 16) 230)).cell? ⟨w1.heap.size,m,none⟩ = some (.int .u32 ((bms 4 m : Nat) : Int)) := fun m hm => by
    rw [World.cell?_alloc_mark,halfC_get 16 m hm]; simp [halfV,hm]
  have HG : w.grownBy (w1.alloc (.cells (halfC 16) 230)) none := gtrans H1.out (World.grownBy_alloc _ _ _)
  generalize w1.alloc (.cells (halfC 16) 230) = W at HC HG ⊢
  generalize w1.heap.size = q at HC HG ⊢
  clear H1
  have HC := Lib.hid HC
  have HG := Lib.hid HG
  generalize halfC 16 = hh
  go_loopg [4,12] n (fun g x i wr => ∃ k : Nat,k + g = n∧i = .int .i64 k∧x = .int .u32 ((more 4294967295 (ls.take k).flatten : Nat) : Int)∧wr = W)
  case atStart => exact ⟨0,by omega,rfl,rfl,rfl⟩
  case round =>
    obtain ⟨k,hk,rfl,rfl,rfl⟩ := hrel
    by_cases hlt : k < n
    · obtain ⟨g,rfl⟩ : ∃ g,gk = g + 1 := ⟨gk - 1,by omega⟩
      have hki : (k : Int) < (n : Int) := by omega
      obtain ⟨b,o,rfl,hbb,hc⟩ := H4.out (by rintro rfl; have := HN.out; simp at this; omega)
      obtain ⟨vk,hck,hsk⟩ := hc k (by rw [← HN.out]; exact hlt)
      have hck := HG.out.cell (row := none) hck (by simp)
      have hsk := hsk.below (fun i hi => HG.out.block i hi (by simp))
      have HBk := Lib.hid (byt_row HB.out k)
      have HX0 := Lib.hid (more_lt _ (byt_flat (ls := ls.take k) fun l hl => HB.out l (List.mem_of_mem_take hl)) (x := 4294967295) (by decide))
      have HT := Lib.hid (show more 4294967295 (ls.take (k + 1)).flatten = more (more 4294967295 (ls.take k).flatten) (ls.getD k []) by rw [flat_take (by rw [← HN.out]; exact hlt),more_app])
      generalize more 4294967295 (ls.take k).flatten = X at HX0 HT ⊢
      generalize ls.getD k [] = bs at hsk HBk HT
      obtain ⟨ak,ck,rfl,hl1,hl2,_,hs4⟩ := hsk
      have hlm : bs.length≤9223372036854775807 := by unfold maxLen at hl2; omega
      obtain ⟨m,hm⟩ : ∃ m,m = bs.length := ⟨_,rfl⟩
      rw [← hm] at hck hlm hl1
      have HM := Lib.hid hm
      have HS := Lib.hid hs4
      clear hm hs4 hc
      go_wp2
      go_loopg [4,18] m (fun g x i wq => ∃ j : Nat,j + g = m∧i = .int .i64 j∧x = .int .u32 ((more X (bs.take j) : Nat) : Int)∧wq = wr)
      case atStart => exact ⟨0,by omega,rfl,rfl,rfl⟩
      case round =>
        obtain ⟨j,hj,rfl,rfl,rfl⟩ := hrel
        by_cases hjm : j < m
        · obtain ⟨h,rfl⟩ : ∃ h,gk = h + 1 := ⟨gk - 1,by omega⟩
          have hji : (j : Int) < (m : Int) := by omega
          obtain ⟨b',o',rfl,_,hc'⟩ := HS.out (by rintro rfl; have := HM.out; simp at this; omega)
          have hcj := hc' j (by rw [← HM.out]; exact hjm)
          have hbj := Byt.get HBk.out j
          clear hc'
          have HX1 := Lib.hid (more_lt (bs.take j) (Byt.take HBk.out j) HX0.out)
          have HU := Lib.hid (show more X (bs.take (j + 1)) = bms 8 (more X (bs.take j) ^^^ (bs.getD j 0).toNat) by
            rw [show bs.take (j + 1) = bs.take j++[bs.getD j 0] by rw [List.take_succ_eq_append_getElem (by rw [← HM.out]; exact hjm)]; simp [List.getElem?_eq_getElem (show j < bs.length by rw [← HM.out]; exact hjm)],more_app]; rfl)
          generalize more X (bs.take j) = Y at HX1 HU ⊢
          obtain ⟨z,hz⟩ : ∃ z : Nat,bs.getD j 0 = (z : Int) := ⟨(bs.getD j 0).toNat,by omega⟩
          rw [hz] at hcj hbj HU
          rw [Int.toNat_natCast] at HU
          clear hz
          have hxr := xorI Y z HX1.out (by omega)
          have HZ := Lib.hid (show Y ^^^ z < 4294967296 from Nat.xor_lt_two_pow (n := 32) HX1.out (by omega))
          go_wp2
          generalize (Y ^^^ z : Nat) = Z at HZ HU ⊢
          clear hxr
          go_loopg [4,26] 2 (fun g x i wq => ∃ e : Nat,e + g = 2∧i = .int .i64 e∧x = .int .u32 ((bms (4 * e) Z : Nat) : Int)∧wq = wr)
          case atStart => exact ⟨0,rfl,rfl,rfl,rfl⟩
          case round =>
            obtain ⟨e,he,rfl,rfl,rfl⟩ := hrel
            by_cases he2 : e < 2
            · obtain ⟨f,rfl⟩ : ∃ f,gk = f + 1 := ⟨gk - 1,by omega⟩
              have hei : (e : Int) < 2 := by omega
              have HE := Lib.hid (show bms (4 * (e + 1)) Z = bms 4 (bms (4 * e) Z) by rw [show 4 * (e + 1) = 4 * e + 4 by omega,bms_add])
              have HV := Lib.hid (bms_lt (4 * e) HZ.out)
              generalize bms (4 * e) Z = V at HE HV ⊢
              obtain ⟨i,hi⟩ : ∃ i : Nat,(V : Int) % 16 = i := ⟨V % 16,by omega⟩
              have hi16 : i < 16 := by omega
              have hii : (i : Int) < 16 := by omega
              have hci := HC.out i hi16
              have hxd := xorI_div V i HV.out hi
              go_wp2
              go_roundg f
              case measure => omega
              case rel => exact ⟨e + 1,by omega,by go_num,by rw [HE.out],rfl⟩
            · obtain rfl : e = 2 := by omega
              go_wp2
              go_roundg h
              case measure => omega
              case rel => exact ⟨j + 1,by omega,by go_num,by rw [HU.out],rfl⟩
        · obtain rfl : j = m := by omega
          have HF := Lib.hid (show bs.take j = bs by rw [HM.out]; exact List.take_length)
          go_wp2
          go_roundg g
          case measure => omega
          case rel => exact ⟨k + 1,by omega,by go_num,by rw [HT.out,HF.out],rfl⟩
    · obtain rfl : k = n := by omega
      have HF := Lib.hid (show ls.take k = ls by rw [HN.out]; exact List.take_length)
      have HX0 := Lib.hid (more_lt _ (byt_flat HB.out) (x := 4294967295) (by decide))
      have HR := Lib.hid (show crcN ls.flatten = more 4294967295 ls.flatten ^^^ 4294967295 from rfl)
      rw [HF.out]
      generalize more 4294967295 ls.flatten = X at HX0 HR ⊢
      have hfin : bits .xor .u32 IntKind.u32.max (X : Int) = ((X ^^^ 4294967295 : Nat) : Int) := by
        rw [Nat.xor_comm]; exact xorI 4294967295 X (by decide) HX0.out
      have HFin := Lib.hid hfin
      clear hfin
      go_wp2
      go_ret
      exact ⟨by rw [HR.out,← HFin.out]; rfl,HG.out⟩
end Go.Proofs.YtnnmpaenainogaaGreat

namespace Go.Proofs.YtnnmpaenainogaaGreat
open Go.RowKit
theorem of_lit (w : World) (C : Array Value) (t : TypeId) (ls : List (List Int)) (n : Nat) (hn : n = ls.length) (hl : n≤100)
    (hC : ∀ j,j < n→∃ vj,C[j]? = some vj∧Seq w.heap.size w vj (ls.getD j [])) (hb : ∀ l∈ls,Byt l) :
    Calls Tryz.prog 78 #[.slice (some ⟨w.heap.size,0,none⟩) n n] (w.alloc (.cells C t)) fun r w' => r = .returned (.int .u32 ((crcN ls.flatten : Nat) : Int))∧(w.alloc (.cells C t)).grownBy w' none := by
  subst hn
  have hsz : (w.alloc (.cells C t)).heap.size = w.heap.size + 1 := by simp
  refine of_any _ _ ls ⟨_,_,rfl,by omega,fun _ => ⟨w.heap.size,0,rfl,by rw [hsz]; omega,fun j hj => ?_⟩⟩ hb
  obtain ⟨vj,h1,h2⟩ := hC j hj
  refine ⟨vj,?_,?_⟩
  · rw [Nat.zero_add,World.cell?_alloc_mark]; exact h1
  · rw [hsz]
    exact (h2.below (fun i hi => Below.heap_alloc w _ i hi)).mono (by omega)
theorem glit0 {b c : World} {o : Obj} (k : (b.alloc o).grownBy c none) : b.grownBy c none := gtrans (World.grownBy_alloc _ _ _) k
theorem of_blk (W : World) (q : Nat) (C : Array Value) (t : TypeId) (fr : Nat × Nat) (ls : List (List Int)) (n : Nat) (hq : W.heap[q]? = some (.cells C t fr)) (hn : n = ls.length) (hl : n≤100)
    (hC : ∀ j,j < n→∃ vj,C[j]? = some vj∧Seq W.heap.size W vj (ls.getD j [])) (hb : ∀ l∈ls,Byt l) :
    Calls Tryz.prog 78 #[.slice (some ⟨q,0,none⟩) n n] W fun r w' => r = .returned (.int .u32 ((crcN ls.flatten : Nat) : Int))∧W.grownBy w' none := by
  subst hn
  refine of_any _ _ ls ⟨_,_,rfl,by omega,fun _ => ⟨q,0,rfl,lt_of_block hq,fun j hj => ?_⟩⟩ hb
  obtain ⟨vj,h1,h2⟩ := hC j hj
  refine ⟨vj,?_,h2⟩
  rw [Nat.zero_add,cell_of_row W q j C t fr hq]; exact h1
theorem ofb1 {W : World} {q : Nat} {t : TypeId} {fr : Nat × Nat} {v : Value} {l : List Int} (hq : W.heap[q]? = some (.cells #[v] t fr)) (h : Seq W.heap.size W v l) (hb : Byt l) :
    Calls Tryz.prog 78 #[.slice (some ⟨q,0,none⟩) 1 1] W fun r w' => r = .returned (.int .u32 ((crcN l : Nat) : Int))∧W.grownBy w' none := by
  have := of_blk W q #[v] t fr [l] 1 hq rfl (by decide) (fun j hj => match j,hj with | 0,_ => ⟨v,rfl,h⟩) (by simpa using hb)
  simpa only [List.flatten_cons,List.flatten_nil,List.append_nil] using this
theorem of1 {w : World} {t : TypeId} {v : Value} {l : List Int} {q : Nat} (hq : q = w.heap.size) (h : Seq w.heap.size w v l) (hb : Byt l) :
    Calls Tryz.prog 78 #[.slice (some ⟨q,0,none⟩) 1 1] (w.alloc (.cells #[v] t)) fun r w' => r = .returned (.int .u32 ((crcN l : Nat) : Int))∧w.grownBy w' none := by
  subst hq
  have := of_lit w #[v] t [l] 1 rfl (by decide) (fun j hj => match j,hj with | 0,_ => ⟨v,rfl,h⟩) (by simpa using hb)
  simp only [List.flatten_cons,List.flatten_nil,List.append_nil] at this
  exact this.mono fun r w' ⟨h1,h2⟩ => ⟨h1,glit0 h2⟩
end Go.Proofs.YtnnmpaenainogaaGreat
