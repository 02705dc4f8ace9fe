/-
  A JSON string, as it is read: the loop. Own work.
-/
import Derived.Test.YticnfmfmgdfdeaaGreatDoorJsnAR
import Derived.WalkSmall
import Derived.Test.YticnfmfmgdfdeaaGreatDoorJsnAK

set_option linter.unusedVariables false
set_option linter.unusedSimpArgs false
namespace Go.Proofs.YticnfmfmgdfdeaaGreatDoor
open Go.RowKit

/-- Where the reading of a string stands: the iterator at p, bytes ahead of x told already, acc told so far. -/
structure QI (w : World) (l : Bs) (p x : Nat) (acc : Bs) (v : Value) (wr : World) : Prop where
  hp : p ≤ l.length
  hx : x ≤ l.length
  it : wr.heap[w.heap.size]? = some (.stringIter (Sx l) p)
  bel : Below w.heap.size w wr
  own : OF (w.heap.size + 1) wr v acc
  len : acc.length ≤ 4 * max p x
  asc : ∀ j, p ≤ j → j < x → (l.getD j 0).toNat < 128
  res : qS l = (qS (l.drop (max p x))).map fun r => (acc ++ r.1, r.2)
theorem QI.es {w wr : World} {l acc : Bs} {p x : Nat} {v : Value} (h : QI w l p x acc v wr) (e : ES w) : ES wr := e.gr (gof h.bel none)
theorem QI.rc {w wr : World} {l acc s : Bs} {p x R M : Nat} {v : Value} {d : Int} (h : QI w l p x acc v wr) (e : RC R M s d w) : RC R M s d wr := e.gr (gof h.bel none)
theorem qi_start (w : World) (l : Bs) : QI w l 0 0 [] (.slice none 0 0) (w.iter (Sx l) 0) where
  hp := Nat.zero_le _
  hx := Nat.zero_le _
  it := by rw [World.iter_heap]
  bel := by
    have : Below w.heap.size w (w.iter (Sx l) 0) := by
      first
        | exact gbelow (World.grownBy_alloc w _ none)
        | exact Below.alloc (Below.refl _ _) (Nat.le_refl _) _
    exact this
  own := of_nil _ _
  len := by simp
  asc := fun j h1 h2 => by omega
  res := by simp
/-- The next sign. -/
theorem QI.next {w wr : World} {l acc : Bs} {p x : Nat} {v : Value} (h : QI w l p x acc v wr) (hlt : p < l.length) :
    ∃ wr2, (∀ ty, (Instr.next (.pointer (some ⟨w.heap.size, 0, none⟩)) true ty).run Tryz.prog wr = .ok (.tuple #[.bool true, .int .i64 p, .int .i32 ((Lib.decodeL (l.drop p)).1 : Int)]) wr2) ∧
      wr2.heap[w.heap.size]? = some (.stringIter (Sx l) (p + (Lib.decodeL (l.drop p)).2)) ∧ Below w.heap.size w wr2 ∧ OF (w.heap.size + 1) wr2 v acc ∧ w.heap.size + 1 ≤ wr2.heap.size := by
  have e : Utf8.decode (Sx l) p = Lib.decodeL (l.drop p) := (Lib.decodeL_drop (Sx l) p).symm
  have g : wr.grownBy (wr.iterAt w.heap.size (Sx l) (p + (Utf8.decode (Sx l) p).2)) (some w.heap.size) :=
    ⟨rfl, rfl, rfl, by rw [Lib.iterAt_size]; exact Nat.le_refl _, fun i _ hn => Lib.iterAt_other _ _ _ _ _ (fun e => hn (by rw [e]))⟩
  refine ⟨wr.iterAt w.heap.size (Sx l) (p + (Utf8.decode (Sx l) p).2), fun ty => ?_, ?_, ?_, h.own.other g (Nat.lt_succ_self _), ?_⟩
  · rw [Lib.run_next_any_at wr w.heap.size (Sx l) p ty h.it (by rw [Sx_size]; exact hlt), e]
  · rw [← e]; exact Lib.iterAt_heap _ _ _ _ _ h.it
  · exact Lib.below_iterAt h.bel (Nat.le_refl _) _ _
  · rw [Lib.iterAt_size]; exact lt_of_block h.it

end Go.Proofs.YticnfmfmgdfdeaaGreatDoor

namespace Go.Proofs.YticnfmfmgdfdeaaGreatDoor
open Go.RowKit

/-- What is told of a string, and what is left. -/
def quotV (s : Bs) : Value := match quotM s with | some (t, _) => .tuple #[.string (Sx t), .bool true] | none => .tuple #[.string ⟨#[]⟩, .bool false]
def quotR (s : Bs) : Bs := match quotM s with | some (_, r) => r | none => s

theorem drop_get0 (l : Bs) (p : Nat) : (l.drop p).getD 0 0 = l.getD p 0 := by simp [List.getD]
theorem max_of_le {p x : Nat} (h : x ≤ p) : max p x = p := by omega
theorem max_of_ge {p x : Nat} (h : p ≤ x) : max p x = x := by omega

set_option maxRecDepth 100000 in
set_option maxHeartbeats 16000000 in
theorem quoted_any (R M : Nat) (s : Bs) (d : Int) (w : World) (hr : RC R M s d w) (hE : ES w) (hl : s.length ≤ 100000) :
    Calls Tryz.prog 110 #[pR R] w fun r w' => r = .returned (quotV s) ∧ RC R M (quotR s) d w' ∧ G1 R w w' := by
  have K := cut_any 34 s w (by omega)
  obtain ⟨c0, c1, c2, f0, f1, f2⟩ := hr.cells
  obtain ⟨V, hV⟩ : ∃ V, V = quotV s := ⟨_, rfl⟩
  obtain ⟨T, hT⟩ : ∃ T, T = quotR s := ⟨_, rfl⟩
  rw [← hV, ← hT]
  unfold quotV at hV
  unfold quotR at hT
  rw [quotM_eq] at hV hT
  cases hq : isH 34 s with
  | false =>
    rw [hq] at K hV hT
    simp only [Bool.false_eq_true, if_false] at K hV hT
    have HV := Lib.hid (And.intro hV hT)
    have HR := Lib.hid hr
    clear hV hT hr hl hE
    generalize Sx s = B at *
    go_enter Tryz.func110, Tryz.ntmps110
    go_wp2_with (go_at_call 144; ((with_reducible refine K.mono ?_); rintro r w3 ⟨rfl, rfl⟩))
    refine bodyPost_ret (results_tmp2 rfl _ _ _) rfl ⟨by rw [HV.out.1]; rfl, by rw [HV.out.2]; exact HR.out, grefl _ _⟩
  | true =>
    rw [hq] at K hV hT
    simp only [if_true] at K hV hT
    have hl2 : s.tail.length ≤ 100000 := by simp; omega
    generalize s.tail = l at *
    have HV := Lib.hid (And.intro hV hT)
    have HR := Lib.hid hr
    have HE := Lib.hid hE
    clear hV hT hr hl hE hq
    have H0 := Lib.hid (qi_start w l)
    have hsz := Sx_size l
    have HB : Hid (∃ B, B = Sx l) := Lib.hid ⟨_, rfl⟩
    have HX := Lib.hid (fun p => ext_drop l p)
    obtain ⟨n, hn⟩ : ∃ n, n = l.length := ⟨_, rfl⟩
    obtain ⟨B, hB⟩ : ∃ B, B = Sx l := ⟨_, rfl⟩
    rw [← hB, ← hn] at hsz
    rw [← hB] at K H0 HX
    rw [← hn] at hl2 HX
    have HN := Lib.hid hn
    have HBB := Lib.hid hB
    clear hn hB HB
    generalize Sx s = B0 at *
    go_enter Tryz.func110, Tryz.ntmps110
    go_wp2_with (go_at_call 144; ((with_reducible refine K.mono ?_); rintro r w3 ⟨rfl, rfl⟩))
    go_loopw [6, 7] (fun vb vx wr => ∃ (p x : Nat) (acc : Bs), vx = .int .i64 x ∧ Hid (QI w3 l p x acc vb wr)) (fun _ _ wr => n - wr.iterPos w3.heap.size)
    case atStart =>
      exact ⟨0, 0, [], rfl, by rw [HBB.out]; rw [HBB.out] at H0; exact H0⟩
    case round =>
      obtain ⟨p, x, acc, rfl, hh⟩ := hrel
      have hI := hh.out
      clear hh
      have hit : wr.iterPos w3.heap.size = p := iterPos_of hI.it
      have hln := HN.out
      by_cases hpn : p < n
      · obtain ⟨wr2, hnx, hk2, hb2, ho2, hs2⟩ := hI.next (by omega)
        have hne : l.drop p ≠ [] := by intro e; have := congrArg List.length e; simp at this; omega
        have hE2 : Hid (ES wr2) := Lib.hid (HE.out.gr (gof hb2 none))
        have hR2 : Hid (RC R M s d wr2) := Lib.hid (HR.out.gr (gof hb2 none))
        obtain ⟨c0, c1, c2, f0, f1, f2⟩ := hR2.out.cells
        have hx1 := HX.out p
        have i0 : (p : Int) < (n : Int) := by omega
        by_cases hpx : p < x
        · have i1 : (p : Int) < (x : Int) := by omega
          have ha : (l.getD p 0).toNat < 128 := hI.asc p (Nat.le_refl _) hpx
          have hd := dec_asc hne (by rw [drop_get0]; exact ha)
          rw [drop_get0] at hd
          rw [hd] at hnx hk2
          have hN : Hid (QI w3 l (p + 1) x acc _ wr2) := Lib.hid ⟨by omega, hI.hx, hk2, hb2, ho2, by have := hI.len; rw [max_of_ge (by omega)] at this ⊢; exact this, fun j h1 h2 => hI.asc j (by omega) h2, by have := hI.res; rw [max_of_ge (by omega)] at this ⊢; exact this⟩
          have hm : Hid (wr2.iterPos w3.heap.size = p + 1) := Lib.hid (iterPos_of hk2)
          clear hI hk2 hb2 ho2 hs2 ha hd hne hpn hpx
          go_wp2
          refine ⟨⟨p + 1, x, acc, rfl, hN⟩, ?_⟩
          rw [hm.out, hit]; omega
        · have i1 : ¬ (p : Int) < (x : Int) := by omega
          have hres : qS l = (qS (l.drop p)).map fun r => (acc ++ r.1, r.2) := by have := hI.res; rwa [max_of_le (by omega)] at this
          have hlen : acc.length ≤ 4 * p := by have := hI.len; rwa [max_of_le (by omega)] at this
          rw [qS_step hne] at hres
          have hz : ∃ z : Int, z = ((Lib.decodeL (l.drop p)).1 : Int) := ⟨_, rfl⟩
          obtain ⟨z, hz⟩ := hz
          rw [← hz] at hnx
          have hcl : (Lib.decodeL (l.drop p)).1 ≤ 1114111 := Lib.decodeL_rune _
          have hwd := Lib.decodeL_width (l.drop p)
          have hwl := Lib.decodeL_le (l.drop p) hne
          rw [List.length_drop] at hwl
          by_cases h34 : (Lib.decodeL (l.drop p)).1 = 34
          · rw [if_pos h34] at hres
            rw [List.drop_drop] at hres
            rw [h34] at hz
            have hz2 : z = 34 := hz
            clear hz
            obtain ⟨ao, cc, rfl⟩ := of_shape ho2
            have hcv := of_conv (ho2.other (g1_set R 0 (.string (Sx (l.drop (p + 1)))) wr2) (Nat.lt_succ_of_lt HR.out.lt))
            have hx2 := HX.out (p + 1)
            have i2 : (p : Int) + 1 ≤ (n : Int) := by omega
            have i3 : ((p : Int) + 1).toNat = p + 1 := by omega
            have HQ := Lib.hid hres
            have HB2 := Lib.hid (And.intro hb2 (hR2.out.set0 (l.drop (p + 1))))
            subst hz2
            clear hI hk2 hb2 ho2 hs2 hne hpx hres hlen hcl hwd hwl h34 hR2 hit hln
            generalize Sx (l.drop (p + 1)) = D at *
            obtain ⟨A, hA⟩ : ∃ A, A = Sx acc := ⟨_, rfl⟩
            rw [← hA] at hcv
            have HA := Lib.hid hA
            clear hA
            go_wp2
            refine bodyPost_ret (results_tmp2 rfl _ _ _) rfl ⟨?_, ?_, gtrans (gof HB2.out.1 _) (g1_set R 0 _ _)⟩
            · rw [HV.out.1, HQ.out]; simp; exact HA.out
            · rw [HV.out.2, HQ.out]; exact HB2.out.2
          · rw [if_neg h34] at hres
            have q34 : (z == 34) = false := beq_eq_false_iff_ne.2 (fun h => h34 (by omega))
            by_cases h92 : (Lib.decodeL (l.drop p)).1 = 92
            · rw [if_pos h92] at hres
              rw [h92] at hz
              have hz2 : z = 92 := hz
              clear hz
              have h0 : (l.drop p).getD 0 0 = 92 := by
                have := (dec_low hne (by omega)).1
                exact UInt8.toNat_inj.1 (by rw [this, h92]; rfl)
              have KE := escaped_any (l.drop p) wr2 hE2.out (by rw [List.length_drop]; omega)
              cases he : escM (l.drop p) with
              | none =>
                rw [he] at KE hres
                simp only at KE hres
                have HQ := Lib.hid hres
                have HB2 := Lib.hid (And.intro hb2 hR2.out)
                subst hz2
                clear hI hk2 hb2 ho2 hs2 hne hpx hres hlen hcl hwd hwl h34 h92 hR2 hit hln he h0
                generalize Sx (l.drop p) = D at *
                go_wp2_with (go_at_call 145; ((with_reducible refine KE.mono ?_); rintro r w4 ⟨rfl, hg⟩); have HG := Lib.hid hg; clear hg)
                refine bodyPost_ret (results_tmp2 rfl _ _ _) rfl ⟨?_, ?_, gwide (gtrans (gof HB2.out.1 none) HG.out)⟩
                · rw [HV.out.1, HQ.out]; simp
                · rw [HV.out.2, HQ.out]; exact HB2.out.2.gr HG.out
              | some rr =>
                obtain ⟨y, m⟩ := rr
                obtain ⟨m2, ml, my, ma⟩ := escM_ok h0 he
                rw [he] at KE hres
                simp only at KE hres
                rw [List.length_drop] at ml
                have hw1 : (Lib.decodeL (l.drop p)).2 = 1 := (dec_low hne (by omega)).2
                rw [hw1] at hk2
                obtain ⟨zy, hzy⟩ : ∃ zy : Int, zy = (y : Int) := ⟨_, rfl⟩
                rw [← hzy] at KE
                have KA := Lib.hid (fun w4 (g : Gr wr2 w4) => appRune_any (w3.heap.size + 1) _ acc y w4 (ho2.gr g) (by omega) (Nat.le_trans hs2 g.size) my zy hzy)
                have HF : Hid (∀ w4 w5 v5, Gr wr2 w4 → Below (w3.heap.size + 1) w4 w5 → OF (w3.heap.size + 1) w5 v5 (acc ++ Lib.encodeRune y) → QI w3 l (p + 1) (p + m) (acc ++ Lib.encodeRune y) v5 w5 ∧ w5.iterPos w3.heap.size = p + 1) := Lib.hid (by
                  intro w4 w5 v5 g b o
                  have hk : w5.heap[w3.heap.size]? = some (.stringIter (Sx l) (p + 1)) := (b.block _ (Nat.lt_succ_self _)).trans ((g.block _ (lt_of_block hk2) (by simp)).trans hk2)
                  refine ⟨⟨by omega, by omega, hk, (hb2.trans ((gbelow g).mono (by omega))).trans (b.mono (by omega)), o, ?_, ?_, ?_⟩, iterPos_of hk⟩
                  · rw [max_of_ge (by omega), List.length_append]
                    have := (Lib.encodeRuneZ_length (y : Int)).2
                    have e : (Lib.encodeRune (y : Int)).length = (Lib.encodeRuneZ (y : Int)).length := by simp [Lib.encodeRune]
                    omega
                  · intro j j1 j2
                    have : l.getD j 0 ∈ (l.drop p).take m := by
                      rw [List.getD_eq_getElem?_getD, List.getElem?_eq_getElem (by omega)]
                      refine List.mem_iff_getElem?.2 ⟨j - p, ?_⟩
                      rw [List.getElem?_take_of_lt (by omega), List.getElem?_drop, show p + (j - p) = j by omega, List.getElem?_eq_getElem (by omega)]
                      rfl
                    exact ma _ this
                  · rw [max_of_ge (by omega), hres, List.drop_drop, Option.map_map]
                    congr 1
                    funext r
                    simp)
                have hpm : (p : Int) + (m : Int) ≤ (n : Int) := by omega
                have hm0 : (0 : Int) < (m : Int) := by omega
                subst hz2
                clear hI hk2 hb2 ho2 hs2 hne hpx hres hlen hcl hwd hwl h34 h92 hR2 hln he h0 ma hw1 hzy
                generalize Sx (l.drop p) = D at *
                go_wp2_with (first
                  | (go_at_call 145; ((with_reducible refine KE.mono ?_); rintro r w4 ⟨rfl, hg⟩); have HG := Lib.hid hg; clear hg)
                  | (go_at_call 147; ((with_reducible refine (KA.out _ HG.out).mono ?_); rintro r w5 ⟨v5, rfl, ho, hb⟩); have HQ := Lib.hid (HF.out _ _ _ HG.out hb ho); clear ho hb))
                refine ⟨⟨p + 1, p + m, acc ++ Lib.encodeRune y, (by first | rfl | (congr 1; omega)), Lib.hid HQ.out.1⟩, ?_⟩
                rw [HQ.out.2, hit]; omega
            · rw [if_neg h92] at hres
              have q92 : (z == 92) = false := beq_eq_false_iff_ne.2 (fun h => h92 (by omega))
              have KB := Lib.hid (fun w' => broken_any (l.drop p) (Lib.decodeL (l.drop p)).1 z hz w')
              by_cases h32 : (Lib.decodeL (l.drop p)).1 < 32
              · rw [if_pos (.inl h32)] at hres
                have q32 : z < 32 := by omega
                have HQ := Lib.hid hres
                have HB2 := Lib.hid (And.intro hb2 hR2.out)
                clear hI hk2 hb2 ho2 hs2 hne hpx hres hlen hcl hwd hwl h34 h92 hR2 hit hln h32 hz KB
                generalize Sx (l.drop p) = D at *
                go_wp2_with fail
                refine bodyPost_ret (results_tmp2 rfl _ _ _) rfl ⟨?_, ?_, gwide (gof HB2.out.1 none)⟩
                · rw [HV.out.1, HQ.out]; simp
                · rw [HV.out.2, HQ.out]; exact HB2.out.2
              · have q32 : ¬ z < 32 := by omega
                cases hbr : brokenM (l.drop p) (Lib.decodeL (l.drop p)).1 with
                | true =>
                  rw [hbr] at KB
                  rw [if_pos (.inr hbr)] at hres
                  have HQ := Lib.hid hres
                  have HB2 := Lib.hid (And.intro hb2 hR2.out)
                  clear hI hk2 hb2 ho2 hs2 hne hpx hres hlen hcl hwd hwl h34 h92 hR2 hit hln h32 hz hbr
                  generalize Sx (l.drop p) = D at *
                  go_wp2_with (go_at_call 146; ((with_reducible refine (KB.out _).mono ?_); rintro r w4 ⟨rfl, rfl⟩))
                  refine bodyPost_ret (results_tmp2 rfl _ _ _) rfl ⟨?_, ?_, gwide (gof HB2.out.1 none)⟩
                  · rw [HV.out.1, HQ.out]; simp
                  · rw [HV.out.2, HQ.out]; exact HB2.out.2
                | false =>
                  rw [hbr] at KB
                  rw [if_neg (by rw [hbr]; simp; omega)] at hres
                  rw [List.drop_drop] at hres
                  have KA := Lib.hid (appRune_any (w3.heap.size + 1) _ acc _ wr2 ho2 (by omega) hs2 hcl z hz)
                  generalize (Lib.decodeL (l.drop p)).1 = c at *
                  generalize (Lib.decodeL (l.drop p)).2 = m at *
                  have HF : Hid (∀ w5 v5, Below (w3.heap.size + 1) wr2 w5 → OF (w3.heap.size + 1) w5 v5 (acc ++ Lib.encodeRune c) → QI w3 l (p + m) x (acc ++ Lib.encodeRune c) v5 w5 ∧ w5.iterPos w3.heap.size = p + m) := Lib.hid (by
                    intro w5 v5 b o
                    have hk : w5.heap[w3.heap.size]? = some (.stringIter (Sx l) (p + m)) := (b.block _ (Nat.lt_succ_self _)).trans hk2
                    refine ⟨⟨by omega, hI.hx, hk, hb2.trans (b.mono (by omega)), o, ?_, fun j j1 j2 => by omega, ?_⟩, iterPos_of hk⟩
                    · rw [max_of_le (by omega), List.length_append]
                      have := (Lib.encodeRuneZ_length (c : Int)).2
                      have e : (Lib.encodeRune (c : Int)).length = (Lib.encodeRuneZ (c : Int)).length := by simp [Lib.encodeRune]
                      omega
                    · rw [max_of_le (by omega), hres, Option.map_map]
                      congr 1
                      funext r
                      simp)
                  have hpm : (p : Int) + (m : Int) ≤ (n : Int) := by omega
                  clear hI hk2 hb2 ho2 hs2 hne hpx hres hlen hcl h34 h92 hR2 hln h32 hz hbr
                  generalize Sx (l.drop p) = D at *
                  go_wp2_with (first
                    | (go_at_call 146; ((with_reducible refine (KB.out _).mono ?_); rintro r w4 ⟨rfl, rfl⟩))
                    | (go_at_call 147; ((with_reducible refine KA.out.mono ?_); rintro r w5 ⟨v5, rfl, ho, hb⟩); have HQ := Lib.hid (HF.out _ _ hb ho); clear ho hb))
                  refine ⟨⟨p + m, x, acc ++ Lib.encodeRune c, rfl, Lib.hid HQ.out.1⟩, ?_⟩
                  rw [HQ.out.2, hit]; omega
      · have i0 : p = n := by have := hI.hp; omega
        have hE3 := fun ty => Lib.run_next_end_at (P := Tryz.prog) wr w3.heap.size (Sx l) p ty hI.it (by rw [Sx_size]; omega)
        have hq : qS l = none := by
          have := hI.res
          rw [max_of_le (by have := hI.hx; omega), List.drop_eq_nil_of_le (by omega), qS_nil] at this
          exact this
        have hR2 : Hid (RC R M s d wr) := Lib.hid (hI.rc HR.out)
        have hG : Hid (Gr w3 wr) := Lib.hid (gof hI.bel none)
        clear hI
        go_wp2
        refine bodyPost_ret (results_tmp2 rfl _ _ _) rfl ⟨?_, ?_, gwide hG.out⟩
        · rw [HV.out.1, hq]; rfl
        · rw [HV.out.2, hq]; exact hR2.out

end Go.Proofs.YticnfmfmgdfdeaaGreatDoor

namespace Go.Proofs.YticnfmfmgdfdeaaGreatDoor
open Go.RowKit

def J.isB : J → Bool | .bool b => b | _ => false
def J.nm : J → Nm | .num n => n | _ => Nm.zero
def J.tx : J → Bs | .str s => s | _ => []
def J.items : J → List J | .arr l => l | .obj _ l => l | _ => []
def J.names : J → List Bs | .obj ns _ => ns | _ => []
/-- A value's cells. -/
abbrev vc (k : Int) (b d : Bool) (g : Bs) (e : Int) (t : Bs) (iv nv : Value) : Array Value := #[.int .i64 k, .bool b, .bool d, .string (Sx g), .int .i64 e, .string (Sx t), iv, nv]
abbrev nilS : Value := .slice none 0 0
abbrev J.cs (j : J) (iv nv : Value) : Array Value := vc j.kind j.isB j.nm.down j.nm.digs j.nm.exp j.tx iv nv

/-- A slice of strings, in blocks of P. -/
def RowS (P : Nat → Prop) (w : World) (v : Value) (ns : List Bs) : Prop :=
  ∃ ao c, v = .slice ao ns.length c ∧ ns.length ≤ c ∧ c ≤ maxLen ∧ (ns ≠ [] → ∃ b o, ao = some ⟨b, o, none⟩ ∧ P b ∧ ∀ k x, ns[k]? = some x → w.cell? ⟨b, o + k, none⟩ = some (.string (Sx x)))
/-- A slice of values. -/
def RowV (F : J → World → Value → Prop) (P : Nat → Prop) (w : World) (v : Value) (l : List J) : Prop :=
  ∃ ao c, v = .slice ao l.length c ∧ l.length ≤ c ∧ c ≤ maxLen ∧ (l ≠ [] → ∃ b o, ao = some ⟨b, o, none⟩ ∧ P b ∧ ∀ k x, l[k]? = some x → ∃ u : Array Value, u.size = 8 ∧ (∀ i, i < 8 → w.cell? ⟨b, o + (8 * k + i), none⟩ = some (u.getD i undef)) ∧ F x w (.agg u))
/-- A value, nested at most n deep, in blocks of P. -/
def JV (P : Nat → Prop) : Nat → J → World → Value → Prop
  | 0, _, _, _ => False
  | n + 1, j, w, v => ∃ iv nv, v = .agg (j.cs iv nv) ∧ RowS P w nv j.names ∧ RowV (JV P n) P w iv j.items

theorem RowS.keep {P Q : Nat → Prop} {w w' : World} {v : Value} {ns : List Bs} (h : RowS P w v ns) (hP : ∀ b, P b → b < w.heap.size → w'.heap[b]? = w.heap[b]? ∧ Q b) : RowS Q w' v ns := by
  obtain ⟨ao, c, hv, h1, h2, h3⟩ := h
  refine ⟨ao, c, hv, h1, h2, fun hne => ?_⟩
  obtain ⟨b, o, ha, hb, hc⟩ := h3 hne
  have hlt : b < w.heap.size := by
    cases ns with
    | nil => exact absurd rfl hne
    | cons x t => exact World.block_lt_of_cell? _ _ (hc 0 x rfl)
  refine ⟨b, o, ha, (hP b hb hlt).2, fun k x hk => ?_⟩
  exact (World.cell?_of_block (w := w) (hP b hb hlt).1).trans (hc k x hk)
theorem JV.keep {P Q : Nat → Prop} {w w' : World} (hP : ∀ b, P b → b < w.heap.size → w'.heap[b]? = w.heap[b]? ∧ Q b) : ∀ (n : Nat) (j : J) (v : Value), JV P n j w v → ∀ m, n ≤ m → JV Q m j w' v
  | 0, _, _, h, _, _ => by cases h
  | n + 1, j, v, h, m, hm => by
    obtain ⟨m, rfl⟩ : ∃ m', m = m' + 1 := ⟨m - 1, by omega⟩
    obtain ⟨iv, nv, hv, h1, ao, c, hi, h2, h3, h4⟩ := h
    refine ⟨iv, nv, hv, h1.keep hP, ao, c, hi, h2, h3, fun hne => ?_⟩
    obtain ⟨b, o, ha, hb, hc⟩ := h4 hne
    have hlt : b < w.heap.size := by
      cases hl : j.items with
      | nil => exact absurd hl hne
      | cons x t =>
        obtain ⟨u, _, hu, _⟩ := hc 0 x (by rw [hl]; rfl)
        exact World.block_lt_of_cell? _ _ (hu 0 (by omega))
    refine ⟨b, o, ha, (hP b hb hlt).2, fun k x hk => ?_⟩
    obtain ⟨u, hs, hu, hx⟩ := hc k x hk
    exact ⟨u, hs, fun i hi => (World.cell?_of_block (w := w) (hP b hb hlt).1).trans (hu i hi), JV.keep hP n x _ hx m (by omega)⟩
theorem JV.gr {P : Nat → Prop} {w w' : World} {n : Nat} {j : J} {v : Value} (h : JV P n j w v) (g : Gr w w') : JV P n j w' v :=
  JV.keep (fun b hb hlt => ⟨g.block b hlt (by simp), hb⟩) n j v h n (Nat.le_refl _)
theorem JV.wide {P Q : Nat → Prop} {w : World} {n m : Nat} {j : J} {v : Value} (h : JV P n j w v) (hP : ∀ b, P b → Q b) (hm : n ≤ m) : JV Q m j w v :=
  JV.keep (fun b hb _ => ⟨rfl, hP b hb⟩) n j v h m hm
/-- What holds no slices. -/
theorem JV.flat {P : Nat → Prop} {w : World} (j : J) (h1 : j.items = []) (h2 : j.names = []) (n : Nat) : JV P (n + 1) j w (.agg (j.cs nilS nilS)) :=
  ⟨nilS, nilS, rfl, ⟨none, 0, by rw [h2]; rfl, by rw [h2]; simp, by simp [maxLen], fun h => absurd h2 h⟩, ⟨none, 0, by rw [h1]; rfl, by rw [h1]; simp, by simp [maxLen], fun h => absurd h1 h⟩⟩

/-! ### Eight cells -/
theorem cells8 {W : World} {q : Nat} {a b c d e f g h : Value} {t : TypeId} (H : W.heap[q]? = some (.cells #[a, b, c, d, e, f, g, h] t (0, 0))) :
    W.cell? ⟨q, 0, none⟩ = some a ∧ W.cell? ⟨q, 1, none⟩ = some b ∧ W.cell? ⟨q, 2, none⟩ = some c ∧ W.cell? ⟨q, 3, none⟩ = some d ∧ W.cell? ⟨q, 4, none⟩ = some e ∧ W.cell? ⟨q, 5, none⟩ = some f ∧ W.cell? ⟨q, 6, none⟩ = some g ∧ W.cell? ⟨q, 7, none⟩ = some h := by
  refine ⟨?_, ?_, ?_, ?_, ?_, ?_, ?_, ?_⟩ <;> simp [World.cell?, H]
theorem unfroz8 {W : World} {q : Nat} {cs : Array Value} {t : TypeId} (H : W.heap[q]? = some (.cells cs t (0, 0))) :
    W.frozen? ⟨q, 0, none⟩ = false ∧ W.frozen? ⟨q, 1, none⟩ = false ∧ W.frozen? ⟨q, 2, none⟩ = false ∧ W.frozen? ⟨q, 3, none⟩ = false ∧ W.frozen? ⟨q, 4, none⟩ = false ∧ W.frozen? ⟨q, 5, none⟩ = false ∧ W.frozen? ⟨q, 6, none⟩ = false ∧ W.frozen? ⟨q, 7, none⟩ = false := by
  refine ⟨?_, ?_, ?_, ?_, ?_, ?_, ?_, ?_⟩ <;> simp [World.frozen?, H]
theorem set8 {W : World} {q : Nat} {a b c d e f g h a' b' c' d' e' f' g' h' : Value} {t : TypeId} (H : W.heap[q]? = some (.cells #[a, b, c, d, e, f, g, h] t (0, 0))) :
    ((((((((W.setCell ⟨q, 0, none⟩ a').setCell ⟨q, 1, none⟩ b').setCell ⟨q, 2, none⟩ c').setCell ⟨q, 3, none⟩ d').setCell ⟨q, 4, none⟩ e').setCell ⟨q, 5, none⟩ f').setCell ⟨q, 6, none⟩ g').setCell ⟨q, 7, none⟩ h').heap[q]? = some (.cells #[a', b', c', d', e', f', g', h'] t (0, 0)) := by
  have h3 := set_cell (set_cell (set_cell (set_cell (set_cell (set_cell (set_cell (set_cell H 0 a') 1 b') 2 c') 3 d') 4 e') 5 f') 6 g') 7 h'
  simpa using h3
theorem gr_set8 {w V : World} {q : Nat} {row : Option Nat} (h : w.grownBy V row) (hq : w.heap.size ≤ q) (a b c d e f g i : Value) :
    w.grownBy ((((((((V.setCell ⟨q, 0, none⟩ a).setCell ⟨q, 1, none⟩ b).setCell ⟨q, 2, none⟩ c).setCell ⟨q, 3, none⟩ d).setCell ⟨q, 4, none⟩ e).setCell ⟨q, 5, none⟩ f).setCell ⟨q, 6, none⟩ g).setCell ⟨q, 7, none⟩ i) row := by
  have one : ∀ {V : World} (o : Nat) (v : Value), w.grownBy V row → w.grownBy (V.setCell ⟨q, o, none⟩ v) row := fun o v h => gnew h (gset _ ⟨q, o, none⟩ v) hq
  exact one 7 i (one 6 g (one 5 f (one 4 e (one 3 d (one 2 c (one 1 b (one 0 a h)))))))
theorem set8_other {W : World} {p q : Nat} (hne : p ≠ q) (a b c d e f g i : Value) :
    ((((((((W.setCell ⟨p, 0, none⟩ a).setCell ⟨p, 1, none⟩ b).setCell ⟨p, 2, none⟩ c).setCell ⟨p, 3, none⟩ d).setCell ⟨p, 4, none⟩ e).setCell ⟨p, 5, none⟩ f).setCell ⟨p, 6, none⟩ g).setCell ⟨p, 7, none⟩ i).heap[q]? = W.heap[q]? := by
  rw [set_other hne, set_other hne, set_other hne, set_other hne, set_other hne, set_other hne, set_other hne, set_other hne]
theorem results_Val2 {fn : Func} {p u : Tmp} (h : fn.results = #[.cell p 28, .tmp u]) (tmps : Array Value) (W : World) (q : Nat) (cs : Array Value) (e : Value) (hp : tmps.getD p undef = .pointer (some ⟨q, 0, none⟩)) (he : tmps.getD u undef = e)
    (hq : W.heap[q]? = some (.cells cs 28 (0, 0))) (hs : cs.size = 8) : (results fn tmps).run Tryz.prog W = .ok (.tuple #[.agg cs, e]) W := by
  have hld := run_loadVar_row (P := Tryz.prog) W q 28 28 cs (0, 0) _ hq Tryz.underlying28 rfl (by rw [hs]; kernel_rfl)
  have hp' : tmps[p]?.getD undef = .pointer (some ⟨q, 0, none⟩) := by simpa using hp
  have he' : tmps[u]?.getD undef = e := by simpa using he
  simp [results, h, hp', he', asAddr, hld]

set_option maxRecDepth 100000 in
set_option maxHeartbeats 4000000 in
theorem word_any (R M : Nat) (s p : Bs) (d : Int) (k : Int) (b : Bool) (w : World) (hr : RC R M s d w) (hl : s.length ≤ 100000) :
    Calls Tryz.prog 109 #[pR R, .string (Sx p), .agg (vc k b false [] 0 [] nilS nilS)] w fun r w' =>
      r = .returned (.tuple #[.agg (if Lib.hasPrefix s p then vc k b false [] 0 [] nilS nilS else vc 0 false false [] 0 [] nilS nilS), .int .i64 (if Lib.hasPrefix s p then 0 else 11)]) ∧ RC R M (if Lib.hasPrefix s p then s.drop p.length else s) d w' ∧ G1 R w w' := by
  have e0 : Sx [] = ⟨#[]⟩ := rfl
  simp only [vc, e0]
  have hR := hr.lt
  have k0 : ∀ A B, ((w.alloc A).alloc B).heap[w.heap.size + 1]? = some B := fun A B => two_lit1 w _ _
  have k1 : ∀ A B, ((w.alloc A).alloc B).heap[w.heap.size]? = some A := fun A B => two_lit0 w _ _
  have HG := Lib.hid (fun A B => two_grown w A B)
  have K := Lib.hid (fun w' (g : Gr w w') => cut_str R M s p d w' (hr.gr g) (by omega))
  generalize Lib.hasPrefix s p = hb at *
  generalize (if hb = true then s.drop p.length else s) = T at *
  generalize Sx p = C at *
  have H0 := Lib.hid (k0 (.cells #[.int .i64 k, .bool b, .bool false, .string ⟨#[]⟩, .int .i64 0, .string ⟨#[]⟩, nilS, nilS] 28) (.cells #[.int .i64 0, .bool false, .bool false, .string ⟨#[]⟩, .int .i64 0, .string ⟨#[]⟩, nilS, nilS] 28))
  have H1 := Lib.hid (k1 (.cells #[.int .i64 k, .bool b, .bool false, .string ⟨#[]⟩, .int .i64 0, .string ⟨#[]⟩, nilS, nilS] 28) (.cells #[.int .i64 0, .bool false, .bool false, .string ⟨#[]⟩, .int .i64 0, .string ⟨#[]⟩, nilS, nilS] 28))
  have HG := Lib.hid (HG.out (.cells #[.int .i64 k, .bool b, .bool false, .string ⟨#[]⟩, .int .i64 0, .string ⟨#[]⟩, nilS, nilS] 28) (.cells #[.int .i64 0, .bool false, .bool false, .string ⟨#[]⟩, .int .i64 0, .string ⟨#[]⟩, nilS, nilS] 28))
  have HRR := Lib.hid hR
  clear k0 k1 hr hl hR
  cases hb
  all_goals
    simp only [Bool.false_eq_true, if_false, if_true]
    go_enter Tryz.func109, Tryz.ntmps109
    go_wp2_with (go_at_call 143; ((with_reducible refine (K.out _ HG.out).mono ?_); rintro r w3 ⟨rfl, hc, hg⟩); have H3 := Lib.hid hc; have H0' := (hg.block _ (lt_of_block H0.out) (by intro e; injection e with e; have := HRR.out; omega)).trans H0.out; have H1' := (hg.block _ (lt_of_block H1.out) (by intro e; injection e with e; have := HRR.out; omega)).trans H1.out; have HG3 := Lib.hid (gtrans (gwide HG.out) hg); have HH0 := Lib.hid H0'; obtain ⟨x0, x1, x2, x3, x4, x5, x6, x7⟩ := cells8 H1'; obtain ⟨y0, y1, y2, y3, y4, y5, y6, y7⟩ := cells8 H0'; obtain ⟨z0, z1, z2, z3, z4, z5, z6, z7⟩ := unfroz8 H0'; clear hc hg H0' H1')
    refine bodyPost_ret (results_Val2 rfl _ _ (w.heap.size + 1) _ _ rfl rfl (set8 HH0.out) rfl) rfl ⟨rfl, ?_, gr_set8 HG3.out (Nat.le_succ _) _ _ _ _ _ _ _ _⟩
    exact (set8_other (by have := HRR.out; omega) _ _ _ _ _ _ _ _).trans H3.out

end Go.Proofs.YticnfmfmgdfdeaaGreatDoor

namespace Go.Proofs.YticnfmfmgdfdeaaGreatDoor
open Go.RowKit

/-- What the reading of a value hands back: what m tells. -/
def RdR (n : Nat) (m : Rd J) (R M : Nat) (d : Int) (w : World) (r : Ending) (w' : World) : Prop :=
  ∃ j iv nv e s', r = .returned (.tuple #[.agg (j.cs iv nv), .int .i64 e]) ∧ JV (fun b => w.heap.size ≤ b) n j w' (.agg (j.cs iv nv)) ∧ RC R M s' d w' ∧ G1 R w w' ∧
    match m with
    | .ok (j', r') => e = 0 ∧ j = j' ∧ s' = r'
    | .error c => e = c ∧ e ≠ 0
abbrev zeroV : Array Value := #[.int .i64 0, .bool false, .bool false, .string ⟨#[]⟩, .int .i64 0, .string ⟨#[]⟩, nilS, nilS]
theorem zero_cs : J.null.cs nilS nilS = zeroV := rfl
theorem RC.far {R M : Nat} {s : Bs} {d : Int} {w : World} {q : Nat} (h : RC R M s d w) (hq : w.heap.size ≤ q) : R ≠ q := by have := h.lt; omega

set_option maxRecDepth 100000 in
set_option maxHeartbeats 4000000 in
theorem null_any (R M : Nat) (s : Bs) (d : Int) (w : World) (hr : RC R M s d w) (hl : s.length ≤ 100000) (n : Nat) :
    Calls Tryz.prog 62 #[pR R] w fun r w' => RdR (n + 1) (wordM [110, 117, 108, 108] (J.null) s) R M d w r w' := by
  have e0 : Sx [] = ⟨#[]⟩ := rfl
  have K := Lib.hid (fun w' (g : Gr w w') => word_any R M s [110, 117, 108, 108] d 0 false w' (hr.gr g) hl)
  rw [show Sx [110, 117, 108, 108] = ⟨#[110, 117, 108, 108]⟩ from rfl] at K
  simp only [vc, e0] at K
  have hfar := Lib.hid (hr.far (Nat.le_refl _))
  have H0 := Lib.hid (heap_alloc_new w (.cells zeroV 28))
  have HG := Lib.hid (World.grownBy_alloc w (.cells zeroV 28) none)
  have HM := Lib.hid (show wordM [110, 117, 108, 108] (J.null) s = if Lib.hasPrefix s [110, 117, 108, 108] then .ok (J.null, s.drop 4) else .error 11 from rfl)
  rw [show ([110, 117, 108, 108] : Bs).length = 4 from rfl] at K
  generalize wordM [110, 117, 108, 108] (J.null) s = m at *
  generalize s.drop 4 = T at *
  clear hr hl
  cases hb : Lib.hasPrefix s [110, 117, 108, 108]
  all_goals
    rw [hb] at K HM
    simp only [Bool.false_eq_true, if_false, if_true] at K HM
    clear hb
    go_enter Tryz.func62, Tryz.ntmps62
    go_wp2_with (go_at_call 109; ((with_reducible refine (K.out _ HG.out).mono ?_); rintro r w3 ⟨rfl, hc, hg⟩); have H3 := Lib.hid hc; have H0' := (hg.block _ (lt_of_block H0.out) (by intro e; injection e with e; exact hfar.out e.symm)).trans H0.out; have HG3 := Lib.hid (gtrans (gwide HG.out) hg); have HH0 := Lib.hid H0'; obtain ⟨y0, y1, y2, y3, y4, y5, y6, y7⟩ := cells8 H0'; obtain ⟨z0, z1, z2, z3, z4, z5, z6, z7⟩ := unfroz8 H0'; clear hc hg H0')
  · refine bodyPost_ret (results_Val2 rfl _ _ w.heap.size _ _ rfl rfl (set8 HH0.out) rfl) rfl ⟨.null, nilS, nilS, 11, s, rfl, JV.flat _ rfl rfl n, (set8_other hfar.out.symm _ _ _ _ _ _ _ _).trans H3.out, gr_set8 HG3.out (Nat.le_refl _) _ _ _ _ _ _ _ _, ?_⟩
    rw [HM.out]; exact ⟨rfl, by omega⟩
  · refine bodyPost_ret (results_Val2 rfl _ _ w.heap.size _ _ rfl rfl (set8 HH0.out) rfl) rfl ⟨J.null, nilS, nilS, 0, T, rfl, JV.flat _ rfl rfl n, (set8_other hfar.out.symm _ _ _ _ _ _ _ _).trans H3.out, gr_set8 HG3.out (Nat.le_refl _) _ _ _ _ _ _ _ _, ?_⟩
    rw [HM.out]; exact ⟨rfl, rfl, rfl⟩

set_option maxRecDepth 100000 in
set_option maxHeartbeats 4000000 in
theorem yes_any (R M : Nat) (s : Bs) (d : Int) (w : World) (hr : RC R M s d w) (hl : s.length ≤ 100000) (n : Nat) :
    Calls Tryz.prog 63 #[pR R] w fun r w' => RdR (n + 1) (wordM [116, 114, 117, 101] (J.bool true) s) R M d w r w' := by
  have e0 : Sx [] = ⟨#[]⟩ := rfl
  have K := Lib.hid (fun w' (g : Gr w w') => word_any R M s [116, 114, 117, 101] d 1 true w' (hr.gr g) hl)
  rw [show Sx [116, 114, 117, 101] = ⟨#[116, 114, 117, 101]⟩ from rfl] at K
  simp only [vc, e0] at K
  have hfar := Lib.hid (hr.far (Nat.le_refl _))
  have H0 := Lib.hid (heap_alloc_new w (.cells zeroV 28))
  have HG := Lib.hid (World.grownBy_alloc w (.cells zeroV 28) none)
  have HM := Lib.hid (show wordM [116, 114, 117, 101] (J.bool true) s = if Lib.hasPrefix s [116, 114, 117, 101] then .ok (J.bool true, s.drop 4) else .error 11 from rfl)
  rw [show ([116, 114, 117, 101] : Bs).length = 4 from rfl] at K
  generalize wordM [116, 114, 117, 101] (J.bool true) s = m at *
  generalize s.drop 4 = T at *
  clear hr hl
  cases hb : Lib.hasPrefix s [116, 114, 117, 101]
  all_goals
    rw [hb] at K HM
    simp only [Bool.false_eq_true, if_false, if_true] at K HM
    clear hb
    go_enter Tryz.func63, Tryz.ntmps63
    go_wp2_with (go_at_call 109; ((with_reducible refine (K.out _ HG.out).mono ?_); rintro r w3 ⟨rfl, hc, hg⟩); have H3 := Lib.hid hc; have H0' := (hg.block _ (lt_of_block H0.out) (by intro e; injection e with e; exact hfar.out e.symm)).trans H0.out; have HG3 := Lib.hid (gtrans (gwide HG.out) hg); have HH0 := Lib.hid H0'; obtain ⟨y0, y1, y2, y3, y4, y5, y6, y7⟩ := cells8 H0'; obtain ⟨z0, z1, z2, z3, z4, z5, z6, z7⟩ := unfroz8 H0'; clear hc hg H0')
  · refine bodyPost_ret (results_Val2 rfl _ _ w.heap.size _ _ rfl rfl (set8 HH0.out) rfl) rfl ⟨.null, nilS, nilS, 11, s, rfl, JV.flat _ rfl rfl n, (set8_other hfar.out.symm _ _ _ _ _ _ _ _).trans H3.out, gr_set8 HG3.out (Nat.le_refl _) _ _ _ _ _ _ _ _, ?_⟩
    rw [HM.out]; exact ⟨rfl, by omega⟩
  · refine bodyPost_ret (results_Val2 rfl _ _ w.heap.size _ _ rfl rfl (set8 HH0.out) rfl) rfl ⟨J.bool true, nilS, nilS, 0, T, rfl, JV.flat _ rfl rfl n, (set8_other hfar.out.symm _ _ _ _ _ _ _ _).trans H3.out, gr_set8 HG3.out (Nat.le_refl _) _ _ _ _ _ _ _ _, ?_⟩
    rw [HM.out]; exact ⟨rfl, rfl, rfl⟩

set_option maxRecDepth 100000 in
set_option maxHeartbeats 4000000 in
theorem no_any (R M : Nat) (s : Bs) (d : Int) (w : World) (hr : RC R M s d w) (hl : s.length ≤ 100000) (n : Nat) :
    Calls Tryz.prog 64 #[pR R] w fun r w' => RdR (n + 1) (wordM [102, 97, 108, 115, 101] (J.bool false) s) R M d w r w' := by
  have e0 : Sx [] = ⟨#[]⟩ := rfl
  have K := Lib.hid (fun w' (g : Gr w w') => word_any R M s [102, 97, 108, 115, 101] d 1 false w' (hr.gr g) hl)
  rw [show Sx [102, 97, 108, 115, 101] = ⟨#[102, 97, 108, 115, 101]⟩ from rfl] at K
  simp only [vc, e0] at K
  have hfar := Lib.hid (hr.far (Nat.le_refl _))
  have H0 := Lib.hid (heap_alloc_new w (.cells zeroV 28))
  have HG := Lib.hid (World.grownBy_alloc w (.cells zeroV 28) none)
  have HM := Lib.hid (show wordM [102, 97, 108, 115, 101] (J.bool false) s = if Lib.hasPrefix s [102, 97, 108, 115, 101] then .ok (J.bool false, s.drop 5) else .error 11 from rfl)
  rw [show ([102, 97, 108, 115, 101] : Bs).length = 5 from rfl] at K
  generalize wordM [102, 97, 108, 115, 101] (J.bool false) s = m at *
  generalize s.drop 5 = T at *
  clear hr hl
  cases hb : Lib.hasPrefix s [102, 97, 108, 115, 101]
  all_goals
    rw [hb] at K HM
    simp only [Bool.false_eq_true, if_false, if_true] at K HM
    clear hb
    go_enter Tryz.func64, Tryz.ntmps64
    go_wp2_with (go_at_call 109; ((with_reducible refine (K.out _ HG.out).mono ?_); rintro r w3 ⟨rfl, hc, hg⟩); have H3 := Lib.hid hc; have H0' := (hg.block _ (lt_of_block H0.out) (by intro e; injection e with e; exact hfar.out e.symm)).trans H0.out; have HG3 := Lib.hid (gtrans (gwide HG.out) hg); have HH0 := Lib.hid H0'; obtain ⟨y0, y1, y2, y3, y4, y5, y6, y7⟩ := cells8 H0'; obtain ⟨z0, z1, z2, z3, z4, z5, z6, z7⟩ := unfroz8 H0'; clear hc hg H0')
  · refine bodyPost_ret (results_Val2 rfl _ _ w.heap.size _ _ rfl rfl (set8 HH0.out) rfl) rfl ⟨.null, nilS, nilS, 11, s, rfl, JV.flat _ rfl rfl n, (set8_other hfar.out.symm _ _ _ _ _ _ _ _).trans H3.out, gr_set8 HG3.out (Nat.le_refl _) _ _ _ _ _ _ _ _, ?_⟩
    rw [HM.out]; exact ⟨rfl, by omega⟩
  · refine bodyPost_ret (results_Val2 rfl _ _ w.heap.size _ _ rfl rfl (set8 HH0.out) rfl) rfl ⟨J.bool false, nilS, nilS, 0, T, rfl, JV.flat _ rfl rfl n, (set8_other hfar.out.symm _ _ _ _ _ _ _ _).trans H3.out, gr_set8 HG3.out (Nat.le_refl _) _ _ _ _ _ _ _ _, ?_⟩
    rw [HM.out]; exact ⟨rfl, rfl, rfl⟩

set_option maxRecDepth 100000 in
set_option maxHeartbeats 4000000 in
theorem text15_any (R M : Nat) (s : Bs) (d : Int) (w : World) (hr : RC R M s d w) (hE : ES w) (hl : s.length ≤ 100000) (n : Nat) :
    Calls Tryz.prog 65 #[pR R] w fun r w' => RdR (n + 1) (strJ s) R M d w r w' := by
  have K := Lib.hid (fun w' (g : Gr w w') => quoted_any R M s d w' (hr.gr g) (hE.gr g) hl)
  have hfar := Lib.hid (hr.far (Nat.le_refl _))
  have H0 := Lib.hid (heap_alloc_new w (.cells zeroV 28))
  have HG := Lib.hid (World.grownBy_alloc w (.cells zeroV 28) none)
  obtain ⟨m, hm⟩ : ∃ m, m = strJ s := ⟨_, rfl⟩
  rw [← hm]
  unfold strJ at hm
  unfold quotV quotR at K
  clear hr hl hE
  cases hq : quotM s with
  | none =>
    rw [hq] at K hm
    simp only at K hm
    have HM := Lib.hid hm
    clear hm hq
    go_enter Tryz.func65, Tryz.ntmps65
    go_wp2_with (go_at_call 110; ((with_reducible refine (K.out _ HG.out).mono ?_); rintro r w3 ⟨rfl, hc, hg⟩); have H3 := Lib.hid hc; have H0' := (hg.block _ (lt_of_block H0.out) (by intro e; injection e with e; exact hfar.out e.symm)).trans H0.out; have HG3 := Lib.hid (gtrans (gwide HG.out) hg); have HH0 := Lib.hid H0'; obtain ⟨y0, y1, y2, y3, y4, y5, y6, y7⟩ := cells8 H0'; obtain ⟨z0, z1, z2, z3, z4, z5, z6, z7⟩ := unfroz8 H0'; clear hc hg H0')
    refine bodyPost_ret (results_Val2 rfl _ _ w.heap.size _ _ rfl rfl (set8 HH0.out) rfl) rfl ⟨.null, nilS, nilS, 11, _, rfl, JV.flat _ rfl rfl n, (set8_other hfar.out.symm _ _ _ _ _ _ _ _).trans H3.out, gr_set8 HG3.out (Nat.le_refl _) _ _ _ _ _ _ _ _, ?_⟩
    rw [HM.out]; exact ⟨rfl, by omega⟩
  | some tr =>
    obtain ⟨t, T⟩ := tr
    rw [hq] at K hm
    simp only at K hm
    have HM := Lib.hid hm
    clear hm hq
    obtain ⟨B, hB⟩ : ∃ B, B = Sx t := ⟨_, rfl⟩
    rw [← hB] at K
    have HB := Lib.hid hB
    clear hB
    go_enter Tryz.func65, Tryz.ntmps65
    go_wp2_with (go_at_call 110; ((with_reducible refine (K.out _ HG.out).mono ?_); rintro r w3 ⟨rfl, hc, hg⟩); have H3 := Lib.hid hc; have H0' := (hg.block _ (lt_of_block H0.out) (by intro e; injection e with e; exact hfar.out e.symm)).trans H0.out; have HG3 := Lib.hid (gtrans (gwide HG.out) hg); have HH0 := Lib.hid H0'; obtain ⟨y0, y1, y2, y3, y4, y5, y6, y7⟩ := cells8 H0'; obtain ⟨z0, z1, z2, z3, z4, z5, z6, z7⟩ := unfroz8 H0'; clear hc hg H0')
    refine bodyPost_ret (results_Val2 rfl _ _ w.heap.size _ _ rfl rfl (set8 HH0.out) rfl) rfl ⟨.str t, nilS, nilS, 0, T, by rw [HB.out]; rfl, JV.flat _ rfl rfl n, (set8_other hfar.out.symm _ _ _ _ _ _ _ _).trans H3.out, gr_set8 HG3.out (Nat.le_refl _) _ _ _ _ _ _ _ _, ?_⟩
    rw [HM.out]; exact ⟨rfl, rfl, rfl⟩

end Go.Proofs.YticnfmfmgdfdeaaGreatDoor
