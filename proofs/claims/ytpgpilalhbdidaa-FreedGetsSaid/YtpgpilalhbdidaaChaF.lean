/-
  The document's reading of numbers out of a text. Own work.
-/
import Derived.Test.YtpgpilalhbdidaaRefN
import Derived.Deep.RegionHeld3
namespace Go.Proofs.Ytpgpilalhbdidaa
open Go.RowKit

theorem strOf_drop (bs : List Int) (n : Nat) (h : n ≤ bs.length) : (strOfNums bs).extract n (strOfNums bs).size = strOfNums (bs.drop n) := by
  apply ByteArray.ext
  have e : (strOfNums bs).size = bs.length := strOfNums_size bs
  rw [e]
  apply Array.ext'
  simp [strOfNums, ByteArray.data_extract, List.map_drop, List.take_of_length_le]
theorem strOf_take (bs : List Int) (n : Nat) : (strOfNums bs).extract 0 n = strOfNums (bs.take n) := by
  apply ByteArray.ext
  apply Array.ext'
  simp [strOfNums, ByteArray.data_extract, List.map_take]

theorem str_at {bs : List Int} (hb : Byt bs) (T : ByteArray) (hT : T = strOfNums bs) (k : Nat) (h : k < T.size) : ((T[k]).toNat : Int) = bs.getD k 0 := by
  subst hT
  have hk : k < bs.length := by rw [strOfNums_size] at h; exact h
  have := hb (bs[k]) (List.getElem_mem hk)
  have e : (strOfNums bs)[k] = UInt8.ofNat (bs[k]).toNat := by
    show (strOfNums bs).data[k] = _
    simp [strOfNums]
  rw [e, List.getD_eq_getElem?_getD, List.getElem?_eq_getElem hk, Option.getD_some, UInt8.toNat_ofNat']
  omega

theorem results_R {fn : Func} {p u : Tmp} (h : fn.results = #[.cell p 125, .tmp u]) (tmps : Array Value) (W : World) (q : Nat) (cs : Array Value) (e : Value) (hp : tmps.getD p undef = .pointer (some ⟨q, 0, none⟩)) (he : tmps.getD u undef = e)
    (hq : W.heap[q]? = some (.cells cs 125 (0, 0))) (hs : cs.size = 2) : (results fn tmps).run Try.prog W = .ok (.tuple #[.agg cs, e]) W := by
  have hld := run_loadVar_row (P := Try.prog) W q 125 125 cs (0, 0) _ hq Try.underlying125 rfl (by rw [hs]; kernel_rfl)
  have hp' : tmps[p]?.getD undef = .pointer (some ⟨q, 0, none⟩) := by simpa using hp
  have he' : tmps[u]?.getD undef = e := by simpa using he
  simp [results, h, hp', he', asAddr, hld]

set_option maxHeartbeats 1000000 in
theorem rraw_in (w : World) (bs : List Int) (n : Nat) (hn : n ≤ bs.length) (hl : bs.length ≤ 140737488355328) :
    Calls Try.prog 73 #[.agg #[.string (strOfNums bs), .int .i64 0], .int .i64 (n : Int)] w fun r w' => r = .returned (.tuple #[.agg #[.string (strOfNums (bs.drop n)), .int .i64 0], .string (strOfNums (bs.take n))]) ∧ w.grownBy w' none := by
  have hsz := strOfNums_size bs
  have hd := strOf_drop bs n hn
  have ht := strOf_take bs n
  obtain ⟨B, hB⟩ : ∃ B, B = strOfNums bs := ⟨_, rfl⟩
  obtain ⟨D, hD⟩ : ∃ B, B = strOfNums (bs.drop n) := ⟨_, rfl⟩
  obtain ⟨T, hT⟩ : ∃ B, B = strOfNums (bs.take n) := ⟨_, rfl⟩
  obtain ⟨L, hL⟩ : ∃ L, L = bs.length := ⟨_, rfl⟩
  rw [← hB, ← hL] at hsz
  rw [← hB, ← hD] at hd
  rw [← hB, ← hT] at ht
  rw [hsz] at hd
  rw [← hL] at hn hl
  rw [← hB, ← hD, ← hT]
  clear hB hD hT hL bs
  have hni : (n : Int) ≤ (L : Int) := by omega
  go_enter Try.func73, Try.ntmps73
  go_wp2
  have hb0 := two_lit0 w (.cells #[.string B, .int .i64 0] 125) (.cells #[.string { data := #[] }, .int .i64 0] 125)
  have hb1 := two_lit1 w (.cells #[.string B, .int .i64 0] 125) (.cells #[.string { data := #[] }, .int .i64 0] 125)
  have hgw := two_grown w (.cells #[.string B, .int .i64 0] 125) (.cells #[.string { data := #[] }, .int .i64 0] 125)
  generalize (w.alloc (.cells #[.string B, .int .i64 0] 125)).alloc (.cells #[.string { data := #[] }, .int .i64 0] 125) = wb at *
  have HGW := Lib.hid hgw
  obtain ⟨g, hge⟩ : ∃ g, g = w.heap.size := ⟨_, rfl⟩
  rw [← hge] at hb0 hb1 ⊢
  have HGE := Lib.hid hge
  clear hge hgw
  have q0 := two_cell0 hb0
  have q0d : wb.drew.cell? ⟨g, 0, none⟩ = some (.string B) := q0
  have f0 := two_free0 hb1
  have f1 := two_free1 hb1
  have f0d : wb.drew.frozen? ⟨g + 1, 0, none⟩ = false := f0
  have f1d : wb.drew.frozen? ⟨g + 1, 1, none⟩ = false := f1
  have c0 := two_cell0 hb1
  have c1 := two_cell1 hb1
  have c0d : wb.drew.cell? ⟨g + 1, 0, none⟩ = some (.string { data := #[] }) := c0
  have c1d : wb.drew.cell? ⟨g + 1, 1, none⟩ = some (.int .i64 0) := c1
  go_region
  go_wp2
  exact bodyPost_ret (results_R rfl _ _ (g + 1) _ _ rfl rfl (two_set1 (two_set0 hb1)) rfl) rfl ⟨rfl, gtrans (gof (((gbelow HGW.out).setCell (p := ⟨g + 1, 0, none⟩) (by rw [← HGE.out]; exact Nat.le_succ _) _).setCell (p := ⟨g + 1, 1, none⟩) (by rw [← HGE.out]; exact Nat.le_succ _) _) none) (gdrew _)⟩

set_option maxHeartbeats 2000000 in
theorem rnum_in (w : World) (bs : List Int) (n : Nat) (m : Int) (hm : m = (n : Int)) (hb : Byt bs) (hn : n ≤ bs.length) (h1 : 1 ≤ n) (h8 : n ≤ 8) (hl : bs.length ≤ 140737488355328) :
    Calls Try.prog 64 #[.agg #[.string (strOfNums bs), .int .i64 0], .int .i64 m] w fun r w' => r = .returned (.tuple #[.agg #[.string (strOfNums (bs.drop n)), .int .i64 0], .int .u64 (beVal (bs.take n))]) ∧ w.grownBy w' none := by
  subst hm
  have KR := Lib.hid (fun w' => rraw_in w' bs n hn hl)
  have hts : (strOfNums (bs.take n)).size = n := by rw [strOfNums_size, List.length_take]; omega
  have HX := Lib.hid (hb.take n)
  have HL := Lib.hid (show (bs.take n).length = n by rw [List.length_take]; omega)
  obtain ⟨B, hB⟩ : ∃ B, B = strOfNums bs := ⟨_, rfl⟩
  obtain ⟨D, hD⟩ : ∃ B, B = strOfNums (bs.drop n) := ⟨_, rfl⟩
  obtain ⟨xs, hxs⟩ : ∃ xs, xs = bs.take n := ⟨_, rfl⟩
  obtain ⟨T, hT⟩ : ∃ B, B = strOfNums (bs.take n) := ⟨_, rfl⟩
  rw [← hB, ← hD, ← hT] at KR
  rw [← hT] at hts
  rw [← hxs] at HX HL hT
  rw [← hB, ← hD, ← hxs]
  have HT := Lib.hid hT
  clear hB hD hT hxs hb hn
  go_enter Try.func64, Try.ntmps64
  go_wp2_with fail
  have hb0 := two_lit0 w (.cells #[.string B, .int .i64 0] 125) (.cells #[.string { data := #[] }, .int .i64 0] 125)
  have hb1 := two_lit1 w (.cells #[.string B, .int .i64 0] 125) (.cells #[.string { data := #[] }, .int .i64 0] 125)
  have hgw := two_grown w (.cells #[.string B, .int .i64 0] 125) (.cells #[.string { data := #[] }, .int .i64 0] 125)
  generalize (w.alloc (.cells #[.string B, .int .i64 0] 125)).alloc (.cells #[.string { data := #[] }, .int .i64 0] 125) = wb at *
  have HGW := Lib.hid hgw
  obtain ⟨g, hge⟩ : ∃ g, g = w.heap.size := ⟨_, rfl⟩
  rw [← hge] at hb0 hb1 ⊢
  have HGE := Lib.hid hge
  have HB0 := Lib.hid hb0
  have HB1 := Lib.hid hb1
  clear hge hgw hb0 hb1
  go_wp2_with (go_at_call 73; ((with_reducible refine (KR.out _).mono ?_); rintro r w3 ⟨rfl, hg3⟩); have HG3 := Lib.hid (gtrans HGW.out hg3); have H0 := Lib.hid ((hg3.block _ (lt_of_block HB0.out) (by simp)).trans HB0.out); have H1 := Lib.hid ((hg3.block _ (lt_of_block HB1.out) (by simp)).trans HB1.out); have c0 := two_cell0 H0.out; have c1 := two_cell1 H0.out; have f0 := two_free0 H0.out; have f1 := two_free1 H0.out; clear hg3)
  have HK0 := Lib.hid (two_set1 (x := .int .i64 0) (two_set0 (x := .string D) H0.out))
  have HK1 := Lib.hid ((show ((w3.setCell ⟨g, 0, none⟩ (.string D)).setCell ⟨g, 1, none⟩ (.int .i64 0)).heap[g + 1]? = w3.heap[g + 1]? from (Below.heap_setCell _ _ _ _ (by simp)).trans (Below.heap_setCell _ _ _ _ (by simp))).trans H1.out)
  have HGK := Lib.hid (gof (((gbelow HG3.out).setCell (p := ⟨g, 0, none⟩) (by rw [← HGE.out]; exact Nat.le_refl _) (.string D)).setCell (p := ⟨g, 1, none⟩) (by rw [← HGE.out]; exact Nat.le_refl _) (.int .i64 0)) none)
  generalize (w3.setCell ⟨g, 0, none⟩ (.string D)).setCell ⟨g, 1, none⟩ (.int .i64 0) = w4 at *
  clear c0 c1 f0 f1
  go_loop [7, 8] (fun x i => ∃ k : Nat, k ≤ n ∧ i = .int .i64 k ∧ x = .int .u64 (beVal (xs.take k))) (fun _ i => n - (intOf i).toNat)
  case atStart => exact ⟨0, Nat.zero_le _, rfl, rfl⟩
  case round =>
    obtain ⟨k, hk, rfl, rfl⟩ := hrel
    by_cases hlt : k < n
    · have hki : (k : Int) < (n : Int) := by omega
      have hsn : xs.take (k + 1) = xs.take k ++ [xs.getD k 0] := by
        have hl := HL.out
        rw [List.take_succ_eq_append_getElem (by omega)]; simp [List.getElem?_eq_getElem (show k < xs.length by omega)]
      have HJ := Lib.hid (show beVal (xs.take (k + 1)) = beVal (xs.take k) * 256 + xs.getD k 0 by rw [hsn, beVal_snoc])
      have hx := beVal_bound _ (HX.out.take k)
      have hx2 := beVal_lt _ (HX.out.take k) 7 (by rw [List.length_take]; omega)
      have hy := HX.out.get k
      have HBD := Lib.hid (And.intro hx (And.intro hx2 hy))
      have HTK := Lib.hid (fun (h : k < T.size) => str_at HX.out T HT.out k h)
      clear hsn hx hx2 hy
      go_wp2
      go_round
      case rel =>
        refine ⟨k + 1, by omega, by go_num, ?_⟩
        obtain ⟨g1, g2, g3⟩ := HBD.out
        rw [HTK.out, HJ.out]
        have e1 : IntKind.u64.wrap (beVal (xs.take k) * 256) = beVal (xs.take k) * 256 := by rw [show ∀ z, IntKind.u64.wrap z = z % 18446744073709551616 from fun _ => rfl]; omega
        have e2 : IntKind.u64.wrap (xs.getD k 0) = xs.getD k 0 := by rw [show ∀ z, IntKind.u64.wrap z = z % 18446744073709551616 from fun _ => rfl]; omega
        rw [e1, e2, show IntKind.u64.wrap (beVal (xs.take k) * 256 + xs.getD k 0) = beVal (xs.take k) * 256 + xs.getD k 0 by rw [show ∀ z, IntKind.u64.wrap z = z % 18446744073709551616 from fun _ => rfl]; omega]
      case measure => simp [intOf]; omega
    · obtain rfl : k = n := by omega
      obtain ⟨c0, c1⟩ := And.intro (two_cell0 HK0.out) (two_cell1 HK0.out)
      obtain ⟨d0, d1⟩ := And.intro (two_cell0 HK1.out) (two_cell1 HK1.out)
      obtain ⟨e0, e1⟩ := And.intro (two_free0 HK1.out) (two_free1 HK1.out)
      have HXK := Lib.hid (show xs.take k = xs by rw [List.take_of_length_le (by rw [HL.out]; exact Nat.le_refl _)])
      rw [HXK.out]
      go_wp2
      exact bodyPost_ret (results_R rfl _ _ (g + 1) _ _ rfl rfl (two_set1 (two_set0 HK1.out)) rfl) rfl ⟨rfl, gof (((gbelow HGK.out).setCell (p := ⟨g + 1, 0, none⟩) (by rw [← HGE.out]; exact Nat.le_succ _) _).setCell (p := ⟨g + 1, 1, none⟩) (by rw [← HGE.out]; exact Nat.le_succ _) _) none⟩

end Go.Proofs.Ytpgpilalhbdidaa
