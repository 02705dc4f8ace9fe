/-
  slices.pdqsortOrdered at pages that are all different: the whole. Own work; printed by tools/sort/mkpdq2.py.
-/
import Derived.Test.YtnnmpaenainogaaGreatPrnBL
import Derived.Deep.Cut

set_option linter.unusedVariables false
set_option linter.unusedSimpArgs false
namespace Go.Proofs.YtnnmpaenainogaaGreat
open Go.RowKit Go.Maps
set_option maxRecDepth 1000000 in
set_option maxHeartbeats 8000000 in
theorem pdq_any (w0 : World) (blk cap : Nat) : ∀ (N : Nat) (w : World) (a b lim : Nat) (d : Array Nat),b - a < N→RowAt w0 blk cap w d→a≤b→b≤d.size→d.size≤100000→d.toList.Nodup→Sort.Below ltN a b d→lim≤1000 →
    Calls Tryz.prog 247 #[.slice (some ⟨blk,0,none⟩) d.size cap,.int .i64 (a : Int),.int .i64 (b : Int),.int .i64 (lim : Int)] w fun r w' => PdqR w0 blk cap d a b r w'
  | 0,_,_,_,_,_,hN,_,_,_,_,_,_,_ => absurd hN (Nat.not_lt_zero _)
  | N + 1,w,a,b,lim,d,hN,h,hab,hb,hsz,nd,hbl,hlim => by
    have IH := Lib.hid (pdq_any w0 blk cap N)
    obtain ⟨n,hn⟩ : ∃ n,n = d.size := ⟨_,rfl⟩
    have HN := Lib.hid hn
    have HQ0 := Lib.hid (QInv.start hab hb hbl)
    rw [← hn] at hb hsz ⊢
    have HR0 := Lib.hid h
    have ND := Lib.hid nd
    have hn5 : (n : Int)≤100000 := by omega
    clear h hn hbl nd
    go_enter Tryz.func247,Tryz.ntmps247
    go_wp2
    go_loopg [1,2,3,8,9] (b - a) (fun g av bv lv v8 v9 wr => ∃ (A B lim : Nat) (dk : Array Nat) (wb wp : Bool),av = .int .i64 (A : Int)∧bv = .int .i64 (B : Int)∧lv = .int .i64 (lim : Int)∧v8 = .bool wb∧v9 = .bool wp∧B≤g + A∧lim≤1000∧RowAt w0 blk cap wr dk∧Hid (QInv a b A B d dk))
    case atStart => exact ⟨a,b,lim,d,true,true,rfl,rfl,rfl,rfl,rfl,by omega,hlim,HR0.out,HQ0⟩
    case round =>
      obtain ⟨A,B,lm,dk,wb,wpb,rfl,rfl,rfl,rfl,rfl,hg,hlm,hrow,HQ⟩ := hrel
      have HR := Lib.hid hrow
      clear hrow
      have hAB := HQ.out.AB
      have hBn : B≤n := by have := HQ.out.bk; rw [HQ.out.size,← HN.out] at this; exact this
      have hBA : B - A≤b - a := by have := HQ.out.aA; have := HQ.out.Bb; omega
      have hA5 : (A : Int)≤100000 := by omega
      have hB5 : (B : Int)≤100000 := by omega
      obtain ⟨l,hl⟩ : ∃ l : Nat,(B : Int) - (A : Int) = (l : Int) := ⟨B - A,by omega⟩
      have hl5 : (l : Int)≤100000 := by omega
      go_upto_region 2 with fail
      rename ∀ (a : Act) (w : World),Code.wp _ _ _ a w→_ => hK0
      have HK0 := Lib.hid hK0
      clear hK0
      go_wp2
      refine HK0.out _ _ ?_
      clear HK0
      refine wp_seq_k fun K1 hK1 => ?_
      refine pdq1_any w0 wr blk cap a b A B n l d dk HR.out HQ.out HN.out hsz hl _ _ _ _ _ _ _ _ _ _ _ _ _ _ _ _ _ _ _ _ _ _ _ _ _ _ _ _ _ _ _ _ _ _ _ _ _ _ _ _ _ _ _ _ _ _ _ _ _ _ _ _ _ _ _ _ _ _ _ _ _ _ _ _ _ _ _ _ _ _ _ _ _ _ _ _ _ _ _ _ _ _ _ _ _ _ _ _ _ _ _ _ _ _ _ _ _ _ _ _ _ _ _ _ _ _ _ _ _ _ _ _ _ _ _ _ _ _ _ _ _ _ _ _ _ _ _ _ _ _ _ _ ?hr (fun x22 x23 x24 x25 x26 x27 h12 => hK1 _ _ ?_)
      case hr =>
        intro tm w5 h5
        (try simp only [Exit.inBlock,Exit.then])
        exact bodyPost_ret (results_none rfl _ _ _) rfl h5
      clear hK1
      refine wp_seq_k fun K2 hK2 => ?_
      refine pdq2_any w0 wr blk cap a b A B n l d dk HR.out HQ.out HN.out hsz hl lm h12 _ _ _ _ _ _ _ _ _ _ _ _ _ _ _ _ _ _ _ _ _ _ _ _ _ _ _ _ _ _ _ _ _ _ _ _ _ _ _ _ _ _ _ _ _ _ _ _ _ _ _ _ _ _ _ _ _ _ _ _ _ _ _ _ _ _ _ _ _ _ _ _ _ _ _ _ _ _ _ _ _ _ _ _ _ _ _ _ _ _ _ _ _ _ _ _ _ _ _ _ _ _ _ _ _ _ _ _ _ _ _ _ _ _ _ _ _ _ _ _ _ _ _ _ _ _ _ _ _ _ _ _ ?hr (fun x28 x29 x30 x31 x32 x33 hl0 => hK2 _ _ ?_)
      case hr =>
        intro tm w5 h5
        (try simp only [Exit.inBlock,Exit.then])
        exact bodyPost_ret (results_none rfl _ _ _) rfl h5
      clear hK2
      refine wp_seq_k fun K3 hK3 => ?_
      refine pdq3_any w0 wr blk cap a b A B n l d dk HR.out HQ.out HN.out hsz hl lm wb h12 hl0 hlm _ _ _ _ _ _ _ _ _ _ _ _ _ _ _ _ _ _ _ _ _ _ _ _ _ _ _ _ _ _ _ _ _ _ _ _ _ _ _ _ _ _ _ _ _ _ _ _ _ _ _ _ _ _ _ _ _ _ _ _ _ _ _ _ _ _ _ _ _ _ _ _ _ _ _ _ _ _ _ _ _ _ _ _ _ _ _ _ _ _ _ _ _ _ _ _ _ _ _ _ _ _ _ _ _ _ _ _ _ _ _ _ _ _ _ _ _ _ _ _ _ _ _ _ _ _ _ _ _ _ _ (fun x34 x35 x36 x37 x38 x39 x40 x41 lm2 dk1 w1 hlm2 hr1 hq1 => hK3 _ _ ?_)
      clear hK3 HQ HR
      have HR1 := Lib.hid hr1
      have HQ1 := Lib.hid hq1
      clear hr1 hq1
      refine wp_seq_k fun K4 hK4 => ?_
      refine pdq4_any w0 w1 blk cap a b A B n l d dk1 HR1.out HQ1.out HN.out hsz hl h12 _ _ _ _ _ _ _ _ _ _ _ _ _ _ _ _ _ _ _ _ _ _ _ _ _ _ _ _ _ _ _ _ _ _ _ _ _ _ _ _ _ _ _ _ _ _ _ _ _ _ _ _ _ _ _ _ _ _ _ _ _ _ _ _ _ _ _ _ _ _ _ _ _ _ _ _ _ _ _ _ _ _ _ _ _ _ _ _ _ _ _ _ _ _ _ _ _ _ _ _ _ _ _ _ _ _ _ _ _ _ _ _ _ _ _ _ _ _ _ _ _ _ _ _ _ _ _ _ _ _ _ _ _ (fun x42 x43 x44 x45 x46 x47 x48 p t w2 hpa hpb ht hr2 => hK4 _ _ ?_)
      clear hK4 HR1
      have HR2 := Lib.hid hr2
      clear hr2
      refine wp_seq_k fun K5 hK5 => ?_
      refine pdq5_any w0 w2 blk cap a b A B n l d dk1 HR2.out HQ1.out HN.out hsz hl p t h12 hpa hpb ht _ _ _ _ _ _ _ _ _ _ _ _ _ _ _ _ _ _ _ _ _ _ _ _ _ _ _ _ _ _ _ _ _ _ _ _ _ _ _ _ _ _ _ _ _ _ _ _ _ _ _ _ _ _ _ _ _ _ _ _ _ _ _ _ _ _ _ _ _ _ _ _ _ _ _ _ _ _ _ _ _ _ _ _ _ _ _ _ _ _ _ _ _ _ _ _ _ _ _ _ _ _ _ _ _ _ _ _ _ _ _ _ _ _ _ _ _ _ _ _ _ _ _ _ _ _ _ _ _ _ _ (fun x49 x50 x51 x52 x53 x54 x55 x56 x57 x58 x59 x60 pv t2 dk2 w3 hpv1 hpv2 ht2 hr3 hq3 => hK5 _ _ ?_)
      clear hK5 HR2 HQ1 hpa hpb ht
      have HR3 := Lib.hid hr3
      have HQ3 := Lib.hid hq3
      clear hr3 hq3
      refine wp_seq_k fun K6 hK6 => ?_
      refine pdq6_any w0 w3 blk cap a b A B n l d dk2 HR3.out HQ3.out HN.out hsz hl t2 wb wpb h12 _ _ _ _ _ _ _ _ _ _ _ _ _ _ _ _ _ _ _ _ _ _ _ _ _ _ _ _ _ _ _ _ _ _ _ _ _ _ _ _ _ _ _ _ _ _ _ _ _ _ _ _ _ _ _ _ _ _ _ _ _ _ _ _ _ _ _ _ _ _ _ _ _ _ _ _ _ _ _ _ _ _ _ _ _ _ _ _ _ _ _ _ _ _ _ _ _ _ _ _ _ _ _ _ _ _ _ _ _ _ _ _ _ _ _ _ _ _ _ _ _ _ _ _ _ _ _ _ _ _ ?hr (fun x61 x62 x63 x64 x65 x66 x67 x68 x69 x70 x71 x72 dk3 w4 hr4 hq4 => hK6 _ _ ?_)
      case hr =>
        intro tm w5 h5
        (try simp only [Exit.inBlock,Exit.then])
        exact bodyPost_ret (results_none rfl _ _ _) rfl h5
      clear hK6 HR3 HQ3
      have HR4 := Lib.hid hr4
      have HQ4 := Lib.hid hq4
      clear hr4 hq4
      refine wp_seq_k fun K7 hK7 => ?_
      refine pdq7_any w0 w4 blk cap a b A B n l d dk3 HR4.out HQ4.out HN.out hsz hl pv hpv1 hpv2 ND.out _ _ _ _ _ _ _ _ _ _ _ _ _ _ _ _ _ _ _ _ _ _ _ _ _ _ _ _ _ _ _ _ _ _ _ _ _ _ _ _ _ _ _ _ _ _ _ _ _ _ _ _ _ _ _ _ _ _ _ _ _ _ _ _ _ _ _ _ _ _ _ _ _ _ _ _ _ _ _ _ _ _ _ _ _ _ _ _ _ _ _ _ _ _ _ _ _ _ _ _ _ _ _ _ _ _ _ _ _ _ _ _ _ _ _ _ _ _ _ _ _ _ _ _ _ _ _ _ _ _ _ _ (fun x13 x73 x74 x75 x76 x77 x78 x79 x80 x81 x82 x83 x84 x85 x86 x87 x88 x89 x90 x91 x92 x93 w5 hr5 => hK7 _ _ ?_)
      clear hK7 HR4
      have HR5 := Lib.hid hr5
      clear hr5
      refine pdq8_any w0 w5 blk cap a b A B n l d dk3 HR5.out HQ4.out HN.out hsz hl lm2 pv N hpv1 hpv2 ND.out h12 hlm2 (by omega) IH.out _ _ _ _ _ _ _ _ _ _ _ _ _ _ _ _ _ _ _ _ _ _ _ _ _ _ _ _ _ _ _ _ _ _ _ _ _ _ _ _ _ _ _ _ _ _ _ _ _ _ _ _ _ _ _ _ _ _ _ _ _ _ _ _ _ _ _ _ _ _ _ _ _ _ _ _ _ _ _ _ _ _ _ _ _ _ _ _ _ _ _ _ _ _ _ _ _ _ _ _ _ _ _ _ _ _ _ _ _ _ _ _ _ _ _ _ _ _ _ _ _ _ _ _ _ _ _ _ (fun _ _ => True) _ (fun x14 x15 x16 x17 x18 x94 x95 x96 x97 x98 x99 x100 x101 x102 x103 x104 x105 x106 x107 x108 x109 x110 x111 x112 x113 x114 x115 x116 x117 x118 x119 x120 x121 x122 x123 x124 x125 x126 x127 x128 x129 x130 x131 x132 x133 A' B' wb' wp' dk6 w6 hlt hle hr6 hq6 => ?_)
      have HR6 := Lib.hid hr6
      have HQ6 := Lib.hid hq6
      clear hr6 hq6
      (try simp only [Exit.inBlock,Exit.then])
      go_wp2
      go_roundg (B' - A')
      case rel => exact ⟨A',B',lm2,dk6,wb',wp',rfl,rfl,rfl,rfl,rfl,by omega,hlm2,HR6.out,HQ6⟩
      case measure => omega
end Go.Proofs.YtnnmpaenainogaaGreat

namespace Go.Proofs.YtnnmpaenainogaaGreat
open Go.RowKit Go.Maps
set_option maxHeartbeats 1000000 in
theorem sort_many : SortOk 100000 := by
  intro w base n v ss L hown hperm hr hpos hn
  rcases id hown.2 with ⟨rfl,h0⟩ | ⟨blk,cap,cur,rfl,_⟩
  · omega
  · obtain ⟨hrow,hl,hnc,hcm,hbb⟩ := rowAt_own hown
    have hsz : ss.toArray.size = n := by simpa using hl
    have hn2 : (n : Int)≤100000 := by omega
    have H := Lib.hid hrow
    have HND := Lib.hid (show ss.toArray.toList.Nodup by simpa using hperm.nodup_iff.2 (srt_nodup hr))
    have HF := Lib.hid (fun (dk : Array Nat) (h1 : Sort.PermIn 0 n ss.toArray dk) (h2 : Sort.SortedIn ltN 0 n dk) => sorted_is (L := L) (d := ss.toArray) (d' := dk) (by rw [hsz]; exact h1) (by rw [hsz]; exact h2) (by simpa using hperm) hr)
    have h62 := blen_62 hpos hn
    clear hown hperm hrow
    go_enter Tryz.func218,Tryz.ntmps218
    go_wp2_with (first
      | (go_at_call 248; refine (len_any n (by omega) w).mono ?_; rintro r w1 ⟨rfl,rfl⟩)
      | (go_at_call 247; have K := pdq_any w blk cap (n + 1) w 0 n (Lib.bitLen n) ss.toArray (by omega) H.out (Nat.zero_le _) (by omega) (by omega) HND.out (.inl rfl) (by omega); rw [hsz] at K; refine K.mono ?_; clear K; rintro r w1 ⟨rfl,dk,hr1,hp1,hs1⟩; have HR := Lib.hid hr1; have HE := Lib.hid (HF.out dk hp1 hs1); have HP := Lib.hid hp1.1; clear hr1 hp1 hs1))
    go_end0
    have h := own_rowAt (n := n) HR.out hbb (HP.out.trans hsz) hcm
    rw [HE.out] at h
    exact ⟨rfl,h,HR.out.gr⟩
end Go.Proofs.YtnnmpaenainogaaGreat
