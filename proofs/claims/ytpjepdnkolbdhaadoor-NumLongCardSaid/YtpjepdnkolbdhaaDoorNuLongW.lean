/-
  NumLong: as many digits as may be go, and one more doesn't; the law's walk. Own work.
-/
import Derived.Test.YtpjepdnkolbdhaaDoorNuGrammarW
import Derived.Test.YtpjepdnkolbdhaaDoorNuLongP
import Derived.Deep.CutRange
set_option linter.unusedVariables false
set_option linter.unusedSimpArgs false
namespace Go.Proofs.YtpjepdnkolbdhaaDoor
open Go.RowKit

theorem maxLen_le1 : maxLen ≤ 9223372036854775807 := of_decide_eq_true (by kernel_rfl)
theorem seq_cells {W : World} {a0 : Option Addr} {n cap : Nat} {z : List Int} (h : Seq W.heap.size W (.slice a0 n cap) z) (wr : World) (g : Gr W wr) (k : Nat) (hk : k < n) :
    z.length = n ∧ ∃ b o, a0 = some ⟨b, o, none⟩ ∧ wr.cell? ⟨b, o + k, none⟩ = some (.int .u8 (z.getD k 0)) := by
  obtain ⟨ao, c, hv, h1, h2, h3, h4⟩ := h
  injection hv with e1 e2 e3
  subst e1
  have hne : z ≠ [] := fun e => by rw [e] at e2; simp at e2; omega
  obtain ⟨b, o, rfl, hb, hc⟩ := h4 hne
  exact ⟨e2.symm, b, o, rfl, (World.cell?_of_block (w := W) (g.block b hb (by simp))).trans (hc k (by omega))⟩

theorem NB_alloc' (w : World) (d : Bool) (A : Bs) (e : Int) {X : ByteArray} (h : X = Sx A) : NB w.heap.size d A e (w.alloc (.cells #[.bool d, .string X, .int .i64 e] 24)) := by subst h; exact heap_alloc_new _ _
set_option maxRecDepth 100000 in
set_option maxHeartbeats 16000000 in
theorem long_any (W : World) (a0 : Option Addr) (n cap : Nat) (z : List Int) (a : Int) (hT : TB W) (hs : Seq W.heap.size W (.slice a0 n cap) z) (hz : Byt z) (ha0 : 0 ≤ a) (ha1 : a ≤ 255) :
    Calls Tryd.prog 9 #[.slice a0 n cap, .int .u8 a] W fun r w' => r = .returned (.bool true) ∧ Below W.heap.size W w' := by
  have AW := Lib.hid (awake_any W hT)
  have HS := Lib.hid (fun wr g k hk => seq_cells hs wr g k hk)
  have HZ := Lib.hid (fun k => hz.get k)
  have hn : n ≤ 9223372036854775807 := by
    obtain ⟨ao, c, hv, h1, h2, h3, h4⟩ := hs
    injection hv with e1 e2 e3
    have := maxLen_le1
    omega
  clear hT hs hz
  go_enter Tryd.func9, Tryd.ntmps9
  go_wp2_with (go_at_call 10; ((with_reducible refine AW.out.mono ?_); rintro r w1 ⟨rfl, hg⟩); have D1 := Lib.hid hg; clear hg)
  go_loopw [6, 7] (fun s i wr => ∃ (k : Nat) (D : Bs), k ≤ 39 ∧ i = .int .i64 k ∧ s = .string (Sx D) ∧ DPre D k ∧ W.grownBy wr none) (fun _ i _ => 39 - (intOf i).toNat)
  case atStart => exact ⟨0, [49], by omega, rfl, rfl, DPre.first, D1.out⟩
  case round =>
    obtain ⟨k, D, hk, rfl, rfl, hD, hg⟩ := hrel
    have HG := Lib.hid hg
    have HD := Lib.hid hD
    have hDl := (Sx_size D).trans hD.len
    clear hg hD
    by_cases hlt : k < 39
    · by_cases hkn : k < n
      · obtain ⟨hzl, b, o, rfl, hc⟩ := HS.out wr HG.out k hkn
        obtain ⟨hb0, hb1⟩ := HZ.out k
        generalize z.getD k 0 = y at *
        obtain ⟨r, hr⟩ : ∃ r, y % 10 = r := ⟨_, rfl⟩
        have hr0 : 0 ≤ r := by omega
        have hr1 : r ≤ 9 := by omega
        by_cases h3 : k = 38 ∧ r = 0
        · obtain ⟨rfl, rfl⟩ := h3
          have f := Sx_app D [51]
          have hsx : (Sx [51]).size = 1 := rfl
          have cv := conv_lit 51 51 rfl wr wr.heap.size rfl
          have HN := Lib.hid (HD.out.next 51 (by decide) (fun _ => by decide))
          go_wp2
          go_roundw
          case rel => exact ⟨_ + 1, _, by omega, by go_num, rfl, HN.out, gtrans HG.out (World.grownBy_alloc _ _ _)⟩
          case measure => simp [intOf] <;> omega
        · obtain ⟨x, hx⟩ := byte_at (48 + r) (by omega) (by omega)
          have hxd : dig x = true := by
            simp only [dig, Bool.and_eq_true, decide_eq_true_eq]; omega
          have hx48 : k = 38 → x ≠ 48 := fun h e => h3 ⟨h, by rw [e, show ((48 : UInt8).toNat : Int) = 48 from rfl] at hx; omega⟩
          have HX3 := Lib.hid h3
          clear h3
          by_cases h38 : k = 38
          · subst h38
            have hr' : (r == 0) = false := beq_eq_false_iff_ne.2 (fun h => HX3.out ⟨rfl, h⟩)
            have H48 := Lib.hid hx48
            clear hx48
            have f := Sx_app D [x]
            have hsx : (Sx [x]).size = 1 := rfl
            have cv := conv_lit x (x.toNat : Int) rfl wr wr.heap.size rfl
            have HN := Lib.hid (HD.out.next x hxd H48.out)
            go_wp2
            go_roundw
            case rel => exact ⟨_ + 1, _, by omega, by go_num, rfl, HN.out, gtrans HG.out (World.grownBy_alloc _ _ _)⟩
            case measure => simp [intOf] <;> omega
          · have hk38' : ((k : Int) == 38) = false := beq_eq_false_iff_ne.2 (fun h => h38 (by omega))
            have H48 := Lib.hid hx48
            clear hx48
            have f := Sx_app D [x]
            have hsx : (Sx [x]).size = 1 := rfl
            have cv := conv_lit x (x.toNat : Int) rfl wr wr.heap.size rfl
            have HN := Lib.hid (HD.out.next x hxd H48.out)
            go_wp2
            go_roundw
            case rel => exact ⟨_ + 1, _, by omega, by go_num, rfl, HN.out, gtrans HG.out (World.grownBy_alloc _ _ _)⟩
            case measure => simp [intOf] <;> omega
      · by_cases h38 : k = 38
        · subst h38
          have f := Sx_app D [53]
          have hsx : (Sx [53]).size = 1 := rfl
          have cv := conv_lit 53 53 rfl wr wr.heap.size rfl
          have HN := Lib.hid (HD.out.next 53 (by decide) (fun _ => by decide))
          go_wp2
          go_roundw
          case rel => exact ⟨_ + 1, _, by omega, by go_num, rfl, HN.out, gtrans HG.out (World.grownBy_alloc _ _ _)⟩
          case measure => simp [intOf] <;> omega
        · have hk38' : ((k : Int) == 38) = false := beq_eq_false_iff_ne.2 (fun h => h38 (by omega))
          have f := Sx_app D [53]
          have hsx : (Sx [53]).size = 1 := rfl
          have cv := conv_lit 53 53 rfl wr wr.heap.size rfl
          have HN := Lib.hid (HD.out.next 53 (by decide) (fun _ => by decide))
          go_wp2
          go_roundw
          case rel => exact ⟨_ + 1, _, by omega, by go_num, rfl, HN.out, gtrans HG.out (World.grownBy_alloc _ _ _)⟩
          case measure => simp [intOf] <;> omega
    · obtain rfl : k = 39 := by omega
      have hDK := HD.out.done
      have hDl := hDl
      obtain ⟨m, hm⟩ : ∃ m : Nat, a % 39 = (m : Int) := ⟨(a % 39).toNat, by omega⟩
      have hm1 : m ≤ 38 := by omega
      obtain ⟨k, hk⟩ : ∃ k : Nat, k = m + 1 := ⟨_, rfl⟩
      have hk1 : 1 ≤ k := by omega
      have hk2 : k ≤ 39 := by omega
      have hp : ∀ {l : Bs} {N : Nm} {e : Int}, parseM l = (N, e) → l.length ≤ 1000000 → ∀ w', Calls Tryd.prog 11 #[.string (Sx l)] w' fun r w'_1 => r = .returned (.tuple #[.agg #[.bool N.down, .string (Sx N.digs), .int .i64 N.exp], .int .i64 e]) ∧ w'.grownBy w'_1 none := fun h hl w' => parse_lit _ _ _ h hl w'
      have ll := hDK.len
      have P0 := Lib.hid (hp (long0 hDK) (by omega))
      have P1 := Lib.hid (hp (long1 hDK k hk1 hk2) (by simp; omega))
      have P2 := Lib.hid (hp (long2 hDK) (by simp; omega))
      have P3 := Lib.hid (hp (long3 hDK k hk1 hk2) (by simp; omega))
      have P4 := Lib.hid (hp (long4 hDK) (by simp; omega))
      have P5 := Lib.hid (hp (long5 hDK) (by simp; omega))
      have P6 := Lib.hid (hp (long6 hDK) (by simp; omega))
      have P7 := Lib.hid (hp (long7 hDK) (by simp; omega))
      simp only [Nm.zero] at P0 P1 P2 P3 P4 P5 P6 P7
      have t1 := ext_take D k
      have t2 := ext_drop D k
      rw [ll] at t2
      have f1 : Sx (D.take k) ++ (⟨#[46]⟩ : ByteArray) = Sx (D.take k ++ [46]) := Sx_app _ [46]
      have f2 : Sx (D.take k ++ [46]) ++ Sx (D.drop k) = Sx (D.take k ++ [46] ++ D.drop k) := Sx_app _ _
      have f3 : Sx D ++ (⟨#[55]⟩ : ByteArray) = Sx (D ++ [55]) := Sx_app _ [55]
      have f4 : Sx (D.take k ++ [46] ++ D.drop k) ++ (⟨#[55]⟩ : ByteArray) = Sx (D.take k ++ [46] ++ D.drop k ++ [55]) := Sx_app _ [55]
      have f5 : Sx D ++ (⟨#[101, 57, 57, 57]⟩ : ByteArray) = Sx (D ++ [101, 57, 57, 57]) := Sx_app _ [101, 57, 57, 57]
      have f6 : Sx D ++ (⟨#[101, 49, 48, 48, 48]⟩ : ByteArray) = Sx (D ++ [101, 49, 48, 48, 48]) := Sx_app _ [101, 49, 48, 48, 48]
      have f7 : Sx D ++ (⟨#[101, 45, 57, 57, 57]⟩ : ByteArray) = Sx (D ++ [101, 45, 57, 57, 57]) := Sx_app _ [101, 45, 57, 57, 57]
      have f8 : Sx D ++ (⟨#[101, 45, 49, 48, 48, 48]⟩ : ByteArray) = Sx (D ++ [101, 45, 49, 48, 48, 48]) := Sx_app _ [101, 45, 49, 48, 48, 48]
      have s1 : (Sx (D.take k)).size = k := by rw [Sx_size, List.length_take, ll]; omega
      have s2 : (Sx (D.drop k)).size = 40 - k := by rw [Sx_size, List.length_drop, ll]
      have s3 : (Sx (D.take k ++ [46])).size = k + 1 := by rw [Sx_size]; simp [ll] <;> omega
      have s4 : (Sx (D.take k ++ [46] ++ D.drop k)).size = 41 := by rw [Sx_size]; simp [ll] <;> omega
      have e1 := Sx_toList D
      generalize Sx (D.take k ++ [46] ++ D.drop k ++ [55]) = X5 at *
      generalize Sx (D.take k ++ [46] ++ D.drop k) = X3 at *
      generalize Sx (D.take k ++ [46]) = X4 at *
      generalize Sx (D.take k) = X1 at *
      generalize Sx (D.drop k) = X2 at *
      generalize Sx (D ++ [55]) = Y1 at *
      generalize Sx (D ++ [101, 57, 57, 57]) = Y2 at *
      generalize Sx (D ++ [101, 49, 48, 48, 48]) = Y3 at *
      generalize Sx (D ++ [101, 45, 57, 57, 57]) = Y4 at *
      generalize Sx (D ++ [101, 45, 49, 48, 48, 48]) = Y5 at *
      have N0 := Lib.hid (fun w' => NB_alloc w' false D 0)
      have N1 := Lib.hid (fun w' => NB_alloc w' false D ((k : Int) - 40))
      generalize hXD : Sx D = XD at *
      have HXD := Lib.hid hXD.symm
      clear hXD
      have hkm : (m : Int) + 1 = (k : Int) := by omega
      have hi0 : (0 : Int) ≤ (k : Int) := by omega
      have hi2 : (k : Int) ≤ 40 := by omega
      have hi3 : ((40 - k : Nat) : Int) ≤ 40 := by omega
      have HKB := Lib.hid (And.intro hk1 hk2)
      obtain ⟨k4, hk4⟩ : ∃ k4 : Nat, k4 = k + 1 := ⟨_, rfl⟩
      rw [← hk4] at s3
      have hi4 : (k4 : Int) ≤ 41 := by omega
      generalize 40 - k = k2 at *
      clear hDK hp ll hk hm1 hk1 hk2 hk4
      go_wp2_with (go_at_call 11; ((with_reducible refine (P0.out _).mono ?_); rintro r w2 ⟨rfl, hg⟩); have D2 := Lib.hid (gtrans HG.out (gtrans hg (World.grownBy_alloc w2 (.cells #[.bool false, .string XD, .int .i64 0] 24) none))); clear hg)
      have B0 : Hid (NB w2.heap.size false D 0 (w2.alloc (.cells #[.bool false, .string XD, .int .i64 0] 24))) := Lib.hid (N0.out w2)
      generalize w2.alloc (.cells #[.bool false, .string XD, .int .i64 0] 24) = V at *
      generalize w2.heap.size = q0 at *
      go_cut [12, 13] from 26 (fun p e wx => ∃ q, p = .pointer (some ⟨q, 0, none⟩) ∧ e = .int .i64 0 ∧ NB q false D ((k : Int) - 40) wx ∧ Gr V wx)
      case first =>
        go_region_with (first | (go_at_call 11; ((with_reducible refine (P1.out _).mono ?_); rintro r w3 ⟨rfl, hg⟩); have HG3 := Lib.hid hg; try (have HU := Lib.hid (show w3.heap[V.heap.size]? = some (.cells #[.bool false, .string ⟨#[]⟩, .int .i64 0] 24 (0, 0)) from (hg.block _ (lt_of_block (heap_alloc_new V.drew (.cells #[.bool false, .string ⟨#[]⟩, .int .i64 0] 24 (0, 0)))) (by simp)).trans (heap_alloc_new V.drew (.cells #[.bool false, .string ⟨#[]⟩, .int .i64 0] 24 (0, 0)))); obtain ⟨u0, u1, u2, u3, u4, u5⟩ := cells3 HU.out); clear hg))
        all_goals
          go_wp2
          go_meet
          case rel =>
            first
              | exact ⟨w3.heap.size, rfl, rfl, NB_alloc' w3 false D ((k : Int) - 40) HXD.out, gtrans (gdrew V) (gtrans HG3.out (World.grownBy_alloc w3 _ none))⟩
              | exact ⟨V.heap.size, rfl, rfl, by rw [HXD.out]; exact set3 HU.out, gr_set (gr_set (gr_set (gtrans (gdrew V) (gtrans (World.grownBy_alloc V.drew (.cells #[.bool false, .string ⟨#[]⟩, .int .i64 0] 24) none) HG3.out)) (Nat.le_refl _) _ _) (Nat.le_refl _) _ _) (Nat.le_refl _) _ _⟩
      case rest =>
        obtain ⟨q, rfl, rfl, hb, hgc⟩ := hcut
        have B1 := Lib.hid hb
        have GC := Lib.hid hgc
        clear hb hgc
        go_wp2_with (go_at_call 11; ((with_reducible refine (P2.out _).mono ?_); rintro r w4 ⟨rfl, hg⟩); have D4 := Lib.hid (gtrans GC.out (gtrans hg (World.grownBy_alloc w4 (.cells #[.bool false, .string (Sx []), .int .i64 0] 24) none))); have B4 := Lib.hid (B1.out.gr (gtrans hg (World.grownBy_alloc w4 (.cells #[.bool false, .string (Sx []), .int .i64 0] 24) none))); clear hg)
        generalize w4.alloc (.cells #[.bool false, .string (Sx []), .int .i64 0] 24) = U at *
        go_cut [16, 17] from 26 (fun p e wx => (∃ q', p = .pointer (some ⟨q', 0, none⟩)) ∧ e = .int .i64 13 ∧ Gr U wx)
        case first =>
          go_region_with (first | (go_at_call 11; ((with_reducible refine (P3.out _).mono ?_); rintro r w5 ⟨rfl, hg⟩); have HG5 := Lib.hid hg; try (have HU := Lib.hid (show w5.heap[U.heap.size]? = some (.cells #[.bool false, .string ⟨#[]⟩, .int .i64 0] 24 (0, 0)) from (hg.block _ (lt_of_block (heap_alloc_new U.drew (.cells #[.bool false, .string ⟨#[]⟩, .int .i64 0] 24 (0, 0)))) (by simp)).trans (heap_alloc_new U.drew (.cells #[.bool false, .string ⟨#[]⟩, .int .i64 0] 24 (0, 0)))); obtain ⟨u0, u1, u2, u3, u4, u5⟩ := cells3 HU.out); clear hg))
          all_goals
            go_wp2
            go_meet
            case rel =>
              first
                | exact ⟨⟨_, rfl⟩, rfl, gtrans (gdrew U) (gtrans HG5.out (World.grownBy_alloc w5 _ none))⟩
                | exact ⟨⟨_, rfl⟩, rfl, gr_set (gr_set (gr_set (gtrans (gdrew U) (gtrans (World.grownBy_alloc U.drew (.cells #[.bool false, .string ⟨#[]⟩, .int .i64 0] 24) none) HG5.out)) (Nat.le_refl _) _ _) (Nat.le_refl _) _ _) (Nat.le_refl _) _ _⟩
        case rest =>
          obtain ⟨⟨q', rfl⟩, rfl, hgc⟩ := hcut
          have GU := Lib.hid hgc
          clear hgc
          go_wp2_with (first
            | (go_at_call 11; ((with_reducible refine (P4.out _).mono ?_); rintro r w6 ⟨rfl, hg⟩); have D6 := Lib.hid (gtrans GU.out (gtrans hg (World.grownBy_alloc w6 (.cells #[.bool false, .string XD, .int .i64 999] 24) none))); clear hg)
            | (go_at_call 11; ((with_reducible refine (P5.out _).mono ?_); rintro r w7 ⟨rfl, hg⟩); have D7 := Lib.hid (gtrans D6.out (gtrans hg (World.grownBy_alloc w7 (.cells #[.bool false, .string (Sx []), .int .i64 0] 24) none))); clear hg)
            | (go_at_call 11; ((with_reducible refine (P6.out _).mono ?_); rintro r w8 ⟨rfl, hg⟩); have D8 := Lib.hid (gtrans D7.out (gtrans hg (World.grownBy_alloc w8 (.cells #[.bool false, .string XD, .int .i64 (-999)] 24) none))); clear hg)
            | (go_at_call 11; ((with_reducible refine (P7.out _).mono ?_); rintro r w9 ⟨rfl, hg⟩); have D9 := Lib.hid (gtrans D8.out (gtrans hg (World.grownBy_alloc w9 (.cells #[.bool false, .string (Sx []), .int .i64 0] 24) none))); obtain ⟨x0, x1, x2, -⟩ := cells3 (B0.out.gr (gtrans D4.out D9.out)); obtain ⟨y0, y1, y2, -⟩ := cells3 (B4.out.gr D9.out); rw [← HXD.out] at x1 y1; clear hg))
          go_ret
          exact ⟨rfl, gbelow (gtrans D2.out (gtrans D4.out D9.out))⟩

end Go.Proofs.YtpjepdnkolbdhaaDoor
