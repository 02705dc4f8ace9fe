/-
  Layer 4: the law LeafPuts, walked: where nothing may be put, where it doesn't go in, where it does. Own work.
-/
import Derived.Test.YtfencmidjolgfaaRfG
import Derived.Test.YtfencmidjolgfaaLawL
import Derived.Test.YtfencmidjolgfaaLawM
import Derived.Test.YtfencmidjolgfaaLefT
import Derived.Test.YtfencmidjolgfaaLefF
import Derived.Test.YtfencmidjolgfaaLefO
import Derived.Deep.QuietTactic
import Derived.BigQuiet
import Derived.Deep.RegionHeld3
namespace Go.Proofs.Ytfencmidjolgfaa
open Go.RowKit

theorem lcell_any (w : World) (a1 a2 : Option Addr) (c1 c2 : Nat) (x : En) (h : EnOk x) :
    Calls Try.prog 23 #[.agg (ecs (.slice a1 x.key.length c1) (.slice a2 x.val.length c2) x.long x.first)] w fun r w' => r = .returned (.int .i64 (cl x)) ∧ w.grownBy w' none :=
  (cell_any w a1 a2 c1 c2 x h).mono fun r w' ⟨e, hw⟩ => ⟨e, by rw [← hw]; exact two_grown _ _ _⟩

set_option maxRecDepth 100000 in
set_option maxHeartbeats 8000000 in
theorem lputs_any (w : World) (ao : Option Addr) (n c : Nat) (l : List En) (size : Int) (s : Bool) (h : Raws w (.slice ao n c) l) (_z0 : -9223372036854775808 ≤ size) (_z1 : size ≤ 9223372036854775807) :
    Calls Try.prog 3 #[.slice ao n c, .int .i64 size, .bool s] w fun r w' => r = .returned (.bool true) ∧ Below w.heap.size w w' := by
  have H := Lib.hid h
  clear h
  by_cases hf : FewP l
  · have HF := Lib.hid hf
    clear hf
    go_enter Try.func3, Try.ntmps3
    go_wp2_with (first
      | (go_at_call 14; refine (awake4_any _).mono ?_; rintro r wA ⟨rfl, hgA⟩; have HGA := Lib.hid hgA; clear hgA)
      | (go_at_call 15; refine (few_yes H.out (gbelow HGA.out) HF.out).mono ?_; rintro r w1 ⟨rfl, rfl⟩)
      | (go_at_call 16; refine (ents_s H.out (gbelow HGA.out) HF.out).mono ?_; rintro r w1 ⟨la, m, lc, rv, X, rfl, hm, hm30, hfi, hen, hrr, hg1⟩; obtain ⟨ra, rc, rfl⟩ := hrr.shape; have HM := Lib.hid hm; rw [← hm] at hrr ⊢; have HFI := Lib.hid hfi; have HEN := Lib.hid hen; have HRR := Lib.hid hrr; have HG1 := Lib.hid (gtrans HGA.out hg1); clear hm hfi hen hrr hg1))
    have HO2 := Lib.hid (fun x hx => (HFI.out.ok x hx).1)
    obtain ⟨F, hF⟩ : ∃ F, F = fillL leafY X := ⟨_, rfl⟩
    have HFF := Lib.hid hF
    by_cases hr : RightP X size
    · have HR := Lib.hid hr
      by_cases hs : (F : Int) ≤ size
      · obtain ⟨S, rfl⟩ : ∃ S : Nat, size = (S : Int) := ⟨size.toNat, by have := hr.1; omega⟩
        have hsF : ¬ (S : Int) < (F : Int) := by omega
        have HFS := Lib.hid (show fillL leafY X ≤ S by omega)
        obtain ⟨P, hP⟩ : ∃ P, P = strOfNums (pageB leafY X S) := ⟨_, rfl⟩
        have HPG := Lib.hid hP
        have HS4 := Lib.hid (show S ≤ 4096 by have := hr.2.1; omega)
        have HPL := Lib.hid (pageB_len HFS.out)
        clear hr hF hs hP
        go_wp2_with (first
          | (go_at_call 17; have Kc := put_ok w1 w1.heap.size _ _ _ X S HEN.out (Nat.le_refl _) HR.out HFS.out; ((with_reducible refine Kc.mono ?_); clear Kc; rintro r w2 ⟨bb, rfl, hbb, hpb, hg⟩); have HG2 := Lib.hid hg; have HPB := Lib.hid (show ∀ w', w2.grownBy w' none → Seq w'.heap.size w' (.slice (some ⟨bb, 0, none⟩) S S) (pageB leafY X S) from fun w' k => seq_page ((k.block _ (lt_of_block hpb) (by simp)).trans hpb) HPL.out (by have := HS4.out; unfold maxLen; omega)); clear hg hbb hpb)
          | (go_at_call 18; have Kc := eput_ok w2 _ _ _ X S (HRR.out.grown HG2.out) HO2.out HR.out HFS.out; rw [← HPG.out] at Kc; ((with_reducible refine Kc.mono ?_); clear Kc; rintro r w3 ⟨rfl, hg⟩); have HG3 := Lib.hid (gtrans HG2.out hg); have GB3 := Lib.hid hg; have hcv := seq_string (HPB.out w3 GB3.out); rw [← HPG.out] at hcv; clear hg)
          | (go_at_call 19; have Kc := right_yes (HEN.out.grown HG3.out (Nat.le_refl _)) HG3.out.size HR.out; ((with_reducible refine Kc.mono ?_); clear Kc; rintro r w4 ⟨rfl, hg⟩); have HG4 := Lib.hid (gtrans HG3.out hg); have GB4 := Lib.hid (gtrans GB3.out hg); clear hg)
          | (go_at_call 20; have Kc := eright_yes (HRR.out.grown HG4.out) HO2.out HR.out; ((with_reducible refine Kc.mono ?_); clear Kc; rintro r w5 ⟨rfl, hg⟩); have HG5 := Lib.hid (gtrans HG4.out hg); have GB5 := Lib.hid (gtrans GB4.out hg); clear hg)
          | (go_at_call 21; have Kc := fill_any w5 w1.heap.size _ _ _ X (HEN.out.grown HG5.out (Nat.le_refl _)) HG5.out.size; rw [← HFF.out] at Kc; ((with_reducible refine Kc.mono ?_); clear Kc; rintro r w6 ⟨rfl, hg⟩); have HG6 := Lib.hid (gtrans HG5.out hg); have GB6 := Lib.hid (gtrans GB5.out hg); clear hg)
          | (go_at_call 22; have Kc := efill_any w6 _ _ _ X (HRR.out.grown HG6.out) HO2.out; rw [← HFF.out] at Kc; ((with_reducible refine Kc.mono ?_); clear Kc; rintro r w7 ⟨rfl, hg⟩); have HG7 := Lib.hid (gtrans HG6.out hg); have GB7 := Lib.hid (gtrans GB6.out hg); clear hg))
        clear hcv
        go_loopw [15] (fun i wr => ∃ k : Nat, k ≤ m ∧ i = .int .i64 k ∧ w7.grownBy wr none) (fun i _ => m - (intOf i).toNat)
        case atStart => exact ⟨0, Nat.zero_le _, rfl, grefl _ _⟩
        case round =>
          obtain ⟨k, hk9, rfl, hg⟩ := hrel
          have HG := Lib.hid (gtrans HG7.out hg)
          have HGR := Lib.hid hg
          by_cases hlt : k < m
          · obtain ⟨x, hx⟩ : ∃ x, X[k]? = some x := ⟨_, List.getElem?_eq_getElem (by have := HM.out; omega)⟩
            have hxo := HO2.out x (List.mem_of_getElem? hx)
            have hki : (k : Int) < (m : Int) := by omega
            obtain ⟨b, o, rfl, hb, a1, c1, a3, c3, h1, h2, h3, q0, q1, q2, q3⟩ := (HEN.out.grown HG.out (Nat.le_refl _)).at k x hx
            obtain ⟨b3, o3, rfl, hb3, r0, r1, r2, r3⟩ := (HRR.out.grown HG.out).at k x hx
            have KL := Lib.hid (fun w' => elong_any w' x hxo)
            have KE := Lib.hid (fun w' => lcell_any w' a1 a3 c1 c3 x hxo)
            unfold ecs at KE
            obtain ⟨K, hK⟩ : ∃ K, K = strOfNums x.key := ⟨_, rfl⟩
            obtain ⟨V, hV⟩ : ∃ V, V = strOfNums x.val := ⟨_, rfl⟩
            unfold mcs at KL
            rw [← hK] at KL r0
            rw [← hV] at KL r1
            obtain ⟨C, hC⟩ : ∃ C, C = cl x := ⟨_, rfl⟩
            rw [← hC] at KL KE
            have HQ := Lib.hid (show ∀ w', wr.grownBy w' none → (w'.cell? ⟨b, o + k * 4, none⟩ = some (.slice a1 x.key.length c1) ∧ w'.cell? ⟨b, o + k * 4 + 1, none⟩ = some (.slice a3 x.val.length c3) ∧ w'.cell? ⟨b, o + k * 4 + 2, none⟩ = some (.int .i64 x.long) ∧ w'.cell? ⟨b, o + k * 4 + 3, none⟩ = some (.int .u32 x.first)) ∧ (w'.cell? ⟨b3, o3 + k * 4, none⟩ = some (.string K) ∧ w'.cell? ⟨b3, o3 + k * 4 + 1, none⟩ = some (.string V) ∧ w'.cell? ⟨b3, o3 + k * 4 + 2, none⟩ = some (.int .i64 x.long) ∧ w'.cell? ⟨b3, o3 + k * 4 + 3, none⟩ = some (.int .u32 x.first)) from fun w' kk => by
              have e : ∀ p : Nat, w'.cell? ⟨b, p, none⟩ = wr.cell? ⟨b, p, none⟩ := fun p => World.cell?_of_block (w := wr) (kk.block b (Nat.lt_of_lt_of_le hb HG.out.size) (by simp))
              have e3 : ∀ p : Nat, w'.cell? ⟨b3, p, none⟩ = wr.cell? ⟨b3, p, none⟩ := fun p => World.cell?_of_block (w := wr) (kk.block b3 hb3 (by simp))
              exact ⟨⟨(e _).trans q0, (e _).trans q1, (e _).trans q2, (e _).trans q3⟩, ⟨(e3 _).trans r0, (e3 _).trans r1, (e3 _).trans r2, (e3 _).trans r3⟩⟩)
            generalize x.key.length = kl at *
            generalize x.val.length = vl at *
            generalize x.long = xg at *
            generalize x.first = xf at *
            clear h1 h2 h3 hx hxo hK hV hC hg q0 q1 q2 q3 r0 r1 r2 r3 hb hb3
            go_wp2
            go_region_held3 (fun w' => (w'.cell? ⟨b, o + k * 4, none⟩ = some (.slice a1 kl c1) ∧ w'.cell? ⟨b, o + k * 4 + 1, none⟩ = some (.slice a3 vl c3) ∧ w'.cell? ⟨b, o + k * 4 + 2, none⟩ = some (.int .i64 xg) ∧ w'.cell? ⟨b, o + k * 4 + 3, none⟩ = some (.int .u32 xf)) ∧ (w'.cell? ⟨b3, o3 + k * 4, none⟩ = some (.string K) ∧ w'.cell? ⟨b3, o3 + k * 4 + 1, none⟩ = some (.string V) ∧ w'.cell? ⟨b3, o3 + k * 4 + 2, none⟩ = some (.int .i64 xg) ∧ w'.cell? ⟨b3, o3 + k * 4 + 3, none⟩ = some (.int .u32 xf)))
              (first | (with_reducible exact HQ.out _ (grefl _ _)) | (with_reducible exact HQ.out _ (gdrew wr)) | (with_reducible exact HQ.out _ HA1.out) | (with_reducible exact HQ.out _ HA2.out))
              ((first
                | (go_at_call 23; ((with_reducible refine (KE.out wr.drew).mono ?_); rintro r w8 ⟨rfl, hg8⟩); have HA1 := Lib.hid (gtrans (gdrew wr) hg8); clear hg8)
                | (go_at_call 24; ((with_reducible refine (KL.out w8).mono ?_); rintro r w9 ⟨rfl, hg9⟩); have HA2 := Lib.hid (gtrans HA1.out hg9); clear hg9)))
            go_wp2
            go_roundw
            case rel => exact ⟨k + 1, by omega, by go_num, gtrans HGR.out HA2.out⟩
            case measure => simp [intOf]; omega
          · obtain rfl : k = m := by omega
            have GB8 := Lib.hid (gtrans GB7.out HGR.out)
            go_wp2_with (first
              | (go_at_call 25; have Kc := get_back (HPB.out wr GB8.out) (Nat.le_refl _) HO2.out HR.out HFS.out; ((with_reducible refine Kc.mono ?_); clear Kc; rintro r w9 ⟨lv, es, rfl, hxs, heo, hel, hg⟩); obtain ⟨la2, lc2, rfl⟩ := own_shape heo.row; have hes := heo.ents (by omega); rw [hxs] at hes; have hlm : es.length = k := (by have := congrArg List.length hxs; rw [List.length_map] at this; rw [this]; exact HM.out.symm); rw [hlm] at hes ⊢; have HES := Lib.hid hes; have HG9 := Lib.hid (gtrans HG.out hg); have HR9 := Lib.hid (HRR.out.grown HG9.out); clear hxs heo hel hg hes hlm)
              | (go_at_call 26; have Kc := same_any w9 w9.heap.size la2 ra k lc2 k rc X HES.out (Nat.le_refl _) HR9.out; ((with_reducible refine Kc.mono ?_); clear Kc; rintro r w10 ⟨rfl, hg⟩); have HG10 := Lib.hid (gtrans HG9.out hg); clear hg))
            go_ret
            exact ⟨rfl, gbelow (gtrans HG1.out HG10.out)⟩
      · have hlF : fillL leafY X = F := hF.symm
        have cvn : ∀ w' : World, (convert 29 9 (.slice none 0 0)).run Try.prog w' = .ok (.string { data := #[] }) w' := fun w' => seq_string (seq_nil 0 w')
        have HLT := Lib.hid (show size < (fillL leafY X : Int) by rw [hlF]; omega)
        clear hr hF hlF hs
        go_wp2_with (first
          | (go_at_call 17; have Kc := put_full w1 w1.heap.size _ _ _ X size HEN.out (Nat.le_refl _) HR.out HLT.out; ((with_reducible refine Kc.mono ?_); clear Kc; rintro r w2 ⟨rfl, hg⟩); have HG2 := Lib.hid hg; clear hg)
          | (go_at_call 18; have Kc := eput_full w2 _ _ _ X size (HRR.out.grown HG2.out) HO2.out HR.out HLT.out; ((with_reducible refine Kc.mono ?_); clear Kc; rintro r w3 ⟨rfl, hg⟩); have HG3 := Lib.hid (gtrans HG2.out hg); clear hg)
          | (go_at_call 19; have Kc := right_yes (HEN.out.grown HG3.out (Nat.le_refl _)) HG3.out.size HR.out; ((with_reducible refine Kc.mono ?_); clear Kc; rintro r w4 ⟨rfl, hg⟩); have HG4 := Lib.hid (gtrans HG3.out hg); clear hg)
          | (go_at_call 20; have Kc := eright_yes (HRR.out.grown HG4.out) HO2.out HR.out; ((with_reducible refine Kc.mono ?_); clear Kc; rintro r w5 ⟨rfl, hg⟩); have HG5 := Lib.hid (gtrans HG4.out hg); clear hg)
          | (go_at_call 21; have Kc := fill_any w5 w1.heap.size _ _ _ X (HEN.out.grown HG5.out (Nat.le_refl _)) HG5.out.size; rw [← HFF.out] at Kc; ((with_reducible refine Kc.mono ?_); clear Kc; rintro r w6 ⟨rfl, hg⟩); have HG6 := Lib.hid (gtrans HG5.out hg); clear hg)
          | (go_at_call 22; have Kc := efill_any w6 _ _ _ X (HRR.out.grown HG6.out) HO2.out; rw [← HFF.out] at Kc; ((with_reducible refine Kc.mono ?_); clear Kc; rintro r w7 ⟨rfl, hg⟩); have HG7 := Lib.hid (gtrans HG6.out hg); clear hg))
        go_loopw [15] (fun i wr => ∃ k : Nat, k ≤ m ∧ i = .int .i64 k ∧ w7.grownBy wr none) (fun i _ => m - (intOf i).toNat)
        case atStart => exact ⟨0, Nat.zero_le _, rfl, grefl _ _⟩
        case round =>
          obtain ⟨k, hk9, rfl, hg⟩ := hrel
          have HG := Lib.hid (gtrans HG7.out hg)
          have HGR := Lib.hid hg
          by_cases hlt : k < m
          · obtain ⟨x, hx⟩ : ∃ x, X[k]? = some x := ⟨_, List.getElem?_eq_getElem (by have := HM.out; omega)⟩
            have hxo := HO2.out x (List.mem_of_getElem? hx)
            have hki : (k : Int) < (m : Int) := by omega
            obtain ⟨b, o, rfl, hb, a1, c1, a3, c3, h1, h2, h3, q0, q1, q2, q3⟩ := (HEN.out.grown HG.out (Nat.le_refl _)).at k x hx
            obtain ⟨b3, o3, rfl, hb3, r0, r1, r2, r3⟩ := (HRR.out.grown HG.out).at k x hx
            have KL := Lib.hid (fun w' => elong_any w' x hxo)
            have KE := Lib.hid (fun w' => lcell_any w' a1 a3 c1 c3 x hxo)
            unfold ecs at KE
            obtain ⟨K, hK⟩ : ∃ K, K = strOfNums x.key := ⟨_, rfl⟩
            obtain ⟨V, hV⟩ : ∃ V, V = strOfNums x.val := ⟨_, rfl⟩
            unfold mcs at KL
            rw [← hK] at KL r0
            rw [← hV] at KL r1
            obtain ⟨C, hC⟩ : ∃ C, C = cl x := ⟨_, rfl⟩
            rw [← hC] at KL KE
            have HQ := Lib.hid (show ∀ w', wr.grownBy w' none → (w'.cell? ⟨b, o + k * 4, none⟩ = some (.slice a1 x.key.length c1) ∧ w'.cell? ⟨b, o + k * 4 + 1, none⟩ = some (.slice a3 x.val.length c3) ∧ w'.cell? ⟨b, o + k * 4 + 2, none⟩ = some (.int .i64 x.long) ∧ w'.cell? ⟨b, o + k * 4 + 3, none⟩ = some (.int .u32 x.first)) ∧ (w'.cell? ⟨b3, o3 + k * 4, none⟩ = some (.string K) ∧ w'.cell? ⟨b3, o3 + k * 4 + 1, none⟩ = some (.string V) ∧ w'.cell? ⟨b3, o3 + k * 4 + 2, none⟩ = some (.int .i64 x.long) ∧ w'.cell? ⟨b3, o3 + k * 4 + 3, none⟩ = some (.int .u32 x.first)) from fun w' kk => by
              have e : ∀ p : Nat, w'.cell? ⟨b, p, none⟩ = wr.cell? ⟨b, p, none⟩ := fun p => World.cell?_of_block (w := wr) (kk.block b (Nat.lt_of_lt_of_le hb HG.out.size) (by simp))
              have e3 : ∀ p : Nat, w'.cell? ⟨b3, p, none⟩ = wr.cell? ⟨b3, p, none⟩ := fun p => World.cell?_of_block (w := wr) (kk.block b3 hb3 (by simp))
              exact ⟨⟨(e _).trans q0, (e _).trans q1, (e _).trans q2, (e _).trans q3⟩, ⟨(e3 _).trans r0, (e3 _).trans r1, (e3 _).trans r2, (e3 _).trans r3⟩⟩)
            generalize x.key.length = kl at *
            generalize x.val.length = vl at *
            generalize x.long = xg at *
            generalize x.first = xf at *
            clear h1 h2 h3 hx hxo hK hV hC hg q0 q1 q2 q3 r0 r1 r2 r3 hb hb3
            go_wp2
            go_region_held3 (fun w' => (w'.cell? ⟨b, o + k * 4, none⟩ = some (.slice a1 kl c1) ∧ w'.cell? ⟨b, o + k * 4 + 1, none⟩ = some (.slice a3 vl c3) ∧ w'.cell? ⟨b, o + k * 4 + 2, none⟩ = some (.int .i64 xg) ∧ w'.cell? ⟨b, o + k * 4 + 3, none⟩ = some (.int .u32 xf)) ∧ (w'.cell? ⟨b3, o3 + k * 4, none⟩ = some (.string K) ∧ w'.cell? ⟨b3, o3 + k * 4 + 1, none⟩ = some (.string V) ∧ w'.cell? ⟨b3, o3 + k * 4 + 2, none⟩ = some (.int .i64 xg) ∧ w'.cell? ⟨b3, o3 + k * 4 + 3, none⟩ = some (.int .u32 xf)))
              (first | (with_reducible exact HQ.out _ (grefl _ _)) | (with_reducible exact HQ.out _ (gdrew wr)) | (with_reducible exact HQ.out _ HA1.out) | (with_reducible exact HQ.out _ HA2.out))
              ((first
                | (go_at_call 23; ((with_reducible refine (KE.out wr.drew).mono ?_); rintro r w8 ⟨rfl, hg8⟩); have HA1 := Lib.hid (gtrans (gdrew wr) hg8); clear hg8)
                | (go_at_call 24; ((with_reducible refine (KL.out w8).mono ?_); rintro r w9 ⟨rfl, hg9⟩); have HA2 := Lib.hid (gtrans HA1.out hg9); clear hg9)))
            go_wp2
            go_roundw
            case rel => exact ⟨k + 1, by omega, by go_num, gtrans HGR.out HA2.out⟩
            case measure => simp [intOf]; omega
          · obtain rfl : k = m := by omega
            go_wp2
            go_ret
            exact ⟨rfl, gbelow (gtrans HG1.out HG.out)⟩
    · have HR := Lib.hid hr
      clear hr hF
      have cvn : ∀ w' : World, (convert 29 9 (.slice none 0 0)).run Try.prog w' = .ok (.string { data := #[] }) w' := fun w' => seq_string (seq_nil 0 w')
      go_wp2_with (first
        | (go_at_call 17; have Kc := put_arg w1 w1.heap.size _ _ _ X size HEN.out (Nat.le_refl _) HR.out; ((with_reducible refine Kc.mono ?_); clear Kc; rintro r w2 ⟨rfl, hg⟩); have HG2 := Lib.hid hg; clear hg)
        | (go_at_call 18; have Kc := eput_arg w2 _ _ _ X size (HRR.out.grown HG2.out) HO2.out HR.out; ((with_reducible refine Kc.mono ?_); clear Kc; rintro r w3 ⟨rfl, hg⟩); have HG3 := Lib.hid (gtrans HG2.out hg); clear hg)
        | (go_at_call 19; have Kc := right_no (HEN.out.grown HG3.out (Nat.le_refl _)) HG3.out.size HR.out; ((with_reducible refine Kc.mono ?_); clear Kc; rintro r w4 ⟨rfl, hg⟩); have HG4 := Lib.hid (gtrans HG3.out hg); clear hg)
        | (go_at_call 20; have Kc := eright_no (HRR.out.grown HG4.out) HO2.out HR.out; ((with_reducible refine Kc.mono ?_); clear Kc; rintro r w5 ⟨rfl, hg⟩); have HG5 := Lib.hid (gtrans HG4.out hg); clear hg)
        | (go_at_call 21; have Kc := fill_any w5 w1.heap.size _ _ _ X (HEN.out.grown HG5.out (Nat.le_refl _)) HG5.out.size; rw [← HFF.out] at Kc; ((with_reducible refine Kc.mono ?_); clear Kc; rintro r w6 ⟨rfl, hg⟩); have HG6 := Lib.hid (gtrans HG5.out hg); clear hg)
        | (go_at_call 22; have Kc := efill_any w6 _ _ _ X (HRR.out.grown HG6.out) HO2.out; rw [← HFF.out] at Kc; ((with_reducible refine Kc.mono ?_); clear Kc; rintro r w7 ⟨rfl, hg⟩); have HG7 := Lib.hid (gtrans HG6.out hg); clear hg))
      go_loopw [15] (fun i wr => ∃ k : Nat, k ≤ m ∧ i = .int .i64 k ∧ w7.grownBy wr none) (fun i _ => m - (intOf i).toNat)
      case atStart => exact ⟨0, Nat.zero_le _, rfl, grefl _ _⟩
      case round =>
        obtain ⟨k, hk9, rfl, hg⟩ := hrel
        have HG := Lib.hid (gtrans HG7.out hg)
        have HGR := Lib.hid hg
        by_cases hlt : k < m
        · obtain ⟨x, hx⟩ : ∃ x, X[k]? = some x := ⟨_, List.getElem?_eq_getElem (by have := HM.out; omega)⟩
          have hxo := HO2.out x (List.mem_of_getElem? hx)
          have hki : (k : Int) < (m : Int) := by omega
          obtain ⟨b, o, rfl, hb, a1, c1, a3, c3, h1, h2, h3, q0, q1, q2, q3⟩ := (HEN.out.grown HG.out (Nat.le_refl _)).at k x hx
          obtain ⟨b3, o3, rfl, hb3, r0, r1, r2, r3⟩ := (HRR.out.grown HG.out).at k x hx
          have KL := Lib.hid (fun w' => elong_any w' x hxo)
          have KE := Lib.hid (fun w' => lcell_any w' a1 a3 c1 c3 x hxo)
          unfold ecs at KE
          obtain ⟨K, hK⟩ : ∃ K, K = strOfNums x.key := ⟨_, rfl⟩
          obtain ⟨V, hV⟩ : ∃ V, V = strOfNums x.val := ⟨_, rfl⟩
          unfold mcs at KL
          rw [← hK] at KL r0
          rw [← hV] at KL r1
          obtain ⟨C, hC⟩ : ∃ C, C = cl x := ⟨_, rfl⟩
          rw [← hC] at KL KE
          have HQ := Lib.hid (show ∀ w', wr.grownBy w' none → (w'.cell? ⟨b, o + k * 4, none⟩ = some (.slice a1 x.key.length c1) ∧ w'.cell? ⟨b, o + k * 4 + 1, none⟩ = some (.slice a3 x.val.length c3) ∧ w'.cell? ⟨b, o + k * 4 + 2, none⟩ = some (.int .i64 x.long) ∧ w'.cell? ⟨b, o + k * 4 + 3, none⟩ = some (.int .u32 x.first)) ∧ (w'.cell? ⟨b3, o3 + k * 4, none⟩ = some (.string K) ∧ w'.cell? ⟨b3, o3 + k * 4 + 1, none⟩ = some (.string V) ∧ w'.cell? ⟨b3, o3 + k * 4 + 2, none⟩ = some (.int .i64 x.long) ∧ w'.cell? ⟨b3, o3 + k * 4 + 3, none⟩ = some (.int .u32 x.first)) from fun w' kk => by
            have e : ∀ p : Nat, w'.cell? ⟨b, p, none⟩ = wr.cell? ⟨b, p, none⟩ := fun p => World.cell?_of_block (w := wr) (kk.block b (Nat.lt_of_lt_of_le hb HG.out.size) (by simp))
            have e3 : ∀ p : Nat, w'.cell? ⟨b3, p, none⟩ = wr.cell? ⟨b3, p, none⟩ := fun p => World.cell?_of_block (w := wr) (kk.block b3 hb3 (by simp))
            exact ⟨⟨(e _).trans q0, (e _).trans q1, (e _).trans q2, (e _).trans q3⟩, ⟨(e3 _).trans r0, (e3 _).trans r1, (e3 _).trans r2, (e3 _).trans r3⟩⟩)
          generalize x.key.length = kl at *
          generalize x.val.length = vl at *
          generalize x.long = xg at *
          generalize x.first = xf at *
          clear h1 h2 h3 hx hxo hK hV hC hg q0 q1 q2 q3 r0 r1 r2 r3 hb hb3
          go_wp2
          go_region_held3 (fun w' => (w'.cell? ⟨b, o + k * 4, none⟩ = some (.slice a1 kl c1) ∧ w'.cell? ⟨b, o + k * 4 + 1, none⟩ = some (.slice a3 vl c3) ∧ w'.cell? ⟨b, o + k * 4 + 2, none⟩ = some (.int .i64 xg) ∧ w'.cell? ⟨b, o + k * 4 + 3, none⟩ = some (.int .u32 xf)) ∧ (w'.cell? ⟨b3, o3 + k * 4, none⟩ = some (.string K) ∧ w'.cell? ⟨b3, o3 + k * 4 + 1, none⟩ = some (.string V) ∧ w'.cell? ⟨b3, o3 + k * 4 + 2, none⟩ = some (.int .i64 xg) ∧ w'.cell? ⟨b3, o3 + k * 4 + 3, none⟩ = some (.int .u32 xf)))
            (first | (with_reducible exact HQ.out _ (grefl _ _)) | (with_reducible exact HQ.out _ (gdrew wr)) | (with_reducible exact HQ.out _ HA1.out) | (with_reducible exact HQ.out _ HA2.out))
            ((first
              | (go_at_call 23; ((with_reducible refine (KE.out wr.drew).mono ?_); rintro r w8 ⟨rfl, hg8⟩); have HA1 := Lib.hid (gtrans (gdrew wr) hg8); clear hg8)
              | (go_at_call 24; ((with_reducible refine (KL.out w8).mono ?_); rintro r w9 ⟨rfl, hg9⟩); have HA2 := Lib.hid (gtrans HA1.out hg9); clear hg9)))
          go_wp2
          go_roundw
          case rel => exact ⟨k + 1, by omega, by go_num, gtrans HGR.out HA2.out⟩
          case measure => simp [intOf]; omega
        · obtain rfl : k = m := by omega
          go_wp2
          go_ret
          exact ⟨rfl, gbelow (gtrans HG1.out HG.out)⟩
  · have HF := Lib.hid hf
    clear hf
    go_enter Try.func3, Try.ntmps3
    go_wp2_with (first
      | (go_at_call 14; refine (awake4_any _).mono ?_; rintro r wA ⟨rfl, hgA⟩; have HGA := Lib.hid hgA; clear hgA)
      | (go_at_call 15; refine (few_no H.out (gbelow HGA.out) HF.out).mono ?_; rintro r w1 ⟨rfl, rfl⟩))
    go_ret
    exact ⟨rfl, gbelow HGA.out⟩

end Go.Proofs.Ytfencmidjolgfaa
