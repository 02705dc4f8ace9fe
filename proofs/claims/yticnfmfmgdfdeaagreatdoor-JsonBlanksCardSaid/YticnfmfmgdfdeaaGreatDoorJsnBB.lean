/-
  A value's text, whatever the value; Text. Own work.
-/
import Derived.Test.YticnfmfmgdfdeaaGreatDoorJsnBA
import Derived.Test.YticnfmfmgdfdeaaGreatDoorJsnAP

set_option linter.unusedVariables false
set_option linter.unusedSimpArgs false
namespace Go.Proofs.YticnfmfmgdfdeaaGreatDoor
open Go.RowKit

set_option maxRecDepth 100000 in
set_option maxHeartbeats 8000000 in
theorem arr_to (n : Nat) (hV : VT n) (P : Nat → Prop) (L : List J) (B : Nat) (v : Value) (l : Bs) (w : World) (ao na : Option Addr) (c nc : Nat)
    (hj : JV P (n + 1) (.arr L) w (.agg ((J.arr L).cs (.slice ao L.length c) (.slice na 0 nc)))) (hok : ∀ x ∈ L, okJ n x) (hT : TT B w) (hown : OB B w v l) (hB : B ≤ w.heap.size) (hP : ∀ b, P b → v.ownBlock ≠ some b) (hl : l.length + (textL L).length + 2 ≤ 100000000) (hL : L.length ≤ 100000000) :
    Calls Tryz.prog 37 #[v, .agg ((J.arr L).cs (.slice ao L.length c) (.slice na 0 nc))] w fun r w' => ∃ v', r = .returned v' ∧ AP B w v (l ++ textJ (.arr L)) v' w' := by
  obtain ⟨cs, hcs⟩ : ∃ cs : Array Value, cs = #[.int .i64 4, .bool false, .bool false, .string ⟨#[]⟩, .int .i64 0, .string ⟨#[]⟩, .slice ao L.length c, .slice na 0 nc] := ⟨_, rfl⟩
  have e : (J.arr L).cs (.slice ao L.length c) (.slice na 0 nc) = cs := by rw [hcs]; rfl
  have hx := heap_alloc_new w (.cells cs 28 (0, 0))
  have HG := Lib.hid (World.grownBy_alloc w (.cells cs 28) none)
  have hj2 := hj.gr HG.out
  obtain ⟨iv, nv, e1, -, hrv⟩ := hj2
  have hiv : iv = .slice ao L.length c := by
    injection e1 with e1
    simp only [J.cs, vc] at e1
    have := congrArg (fun a : Array Value => a.getD 6 undef) e1
    simpa using this.symm
  rw [hiv] at hrv
  have KI := items_to n hV P L B v l (w.alloc (.cells cs 28)) ao na c nc hrv hok (hT.gr hB HG.out) (hown.gr HG.out) (by simp; omega) hP hl hL
  rw [e] at KI ⊢
  rw [hcs] at hx HG KI ⊢
  obtain ⟨x0, x1, x2, x3, x4, x5, x6, x7⟩ := cells8 hx
  clear hx hown e hcs hj hok hP hT hl e1 hiv hrv
  go_enter Tryz.func37, Tryz.ntmps37
  go_wp2_with (go_at_call 78; ((with_reducible refine KI.mono ?_); rintro r w1 ⟨v2, rfl, hap⟩); have HAP := Lib.hid hap; clear hap)
  go_ret
  exact ⟨_, rfl, AP.pre HG.out HAP.out⟩

set_option maxRecDepth 100000 in
set_option maxHeartbeats 8000000 in
theorem obj_to (n : Nat) (hV : VT n) (P : Nat → Prop) (ns : List Bs) (L : List J) (B : Nat) (v : Value) (l : Bs) (w : World) (ao na : Option Addr) (c nc : Nat) (hnl : ns.length = L.length)
    (hj : JV P (n + 1) (.obj ns L) w (.agg ((J.obj ns L).cs (.slice ao L.length c) (.slice na ns.length nc)))) (hok : ∀ x ∈ L, okJ n x) (hT : TT B w) (hown : OB B w v l) (hB : B ≤ w.heap.size) (hP : ∀ b, P b → v.ownBlock ≠ some b) (hl : l.length + (textO ns L).length + 2 ≤ 100000000) (hL : L.length ≤ 100000000) (hnm : ∀ m ∈ ns, m.length ≤ 1000000) :
    Calls Tryz.prog 37 #[v, .agg ((J.obj ns L).cs (.slice ao L.length c) (.slice na ns.length nc))] w fun r w' => ∃ v', r = .returned v' ∧ AP B w v (l ++ textJ (.obj ns L)) v' w' := by
  obtain ⟨cs, hcs⟩ : ∃ cs : Array Value, cs = #[.int .i64 5, .bool false, .bool false, .string ⟨#[]⟩, .int .i64 0, .string ⟨#[]⟩, .slice ao L.length c, .slice na ns.length nc] := ⟨_, rfl⟩
  have e : (J.obj ns L).cs (.slice ao L.length c) (.slice na ns.length nc) = cs := by rw [hcs]; rfl
  have hx := heap_alloc_new w (.cells cs 28 (0, 0))
  have HG := Lib.hid (World.grownBy_alloc w (.cells cs 28) none)
  have hj2 := hj.gr HG.out
  obtain ⟨iv, nv, e1, hrn, hrv⟩ := hj2
  have hiv : iv = .slice ao L.length c := by
    injection e1 with e1
    simp only [J.cs, vc] at e1
    have := congrArg (fun a : Array Value => a.getD 6 undef) e1
    simpa using this.symm
  have hnv : nv = .slice na ns.length nc := by
    injection e1 with e1
    simp only [J.cs, vc] at e1
    have := congrArg (fun a : Array Value => a.getD 7 undef) e1
    simpa using this.symm
  rw [hiv] at hrv
  rw [hnv] at hrn
  have KI : Calls Tryz.prog 79 #[v, .agg cs] (w.alloc (.cells cs 28)) fun r w' => ∃ v', r = .returned v' ∧ AP B (w.alloc (.cells cs 28)) v (l ++ textJ (.obj ns L)) v' w' := by
    have := members_to n hV P ns L B v l (w.alloc (.cells cs 28)) ao na c nc hnl hrv hrn hok (hT.gr hB HG.out) (hown.gr HG.out) (by simp; omega) hP hl hL hnm
    rw [show obC (.slice ao L.length c) (.slice na ns.length nc) = cs from hcs.symm] at this
    exact this
  rw [e]
  rw [hcs] at hx HG KI ⊢
  obtain ⟨x0, x1, x2, x3, x4, x5, x6, x7⟩ := cells8 hx
  clear hx hown e hcs hj hok hP hT hl e1 hiv hrv hnv hrn hnl
  go_enter Tryz.func37, Tryz.ntmps37
  go_wp2_with (go_at_call 79; ((with_reducible refine KI.mono ?_); rintro r w1 ⟨v2, rfl, hap⟩); have HAP := Lib.hid hap; clear hap)
  go_ret
  exact ⟨_, rfl, AP.pre HG.out HAP.out⟩

theorem textJ_str (s : Bs) : textJ (.str s) = quoB s := by unfold textJ; rfl
theorem cs_in {P : Nat → Prop} {n : Nat} {j : J} {w : World} {cs : Array Value} (h : JV P (n + 1) j w (.agg cs)) : ∃ a1 a2 c1 c2, cs = j.cs (.slice a1 j.items.length c1) (.slice a2 j.names.length c2) := by
  obtain ⟨iv, nv, e, ⟨a2, c2, e2, _⟩, a1, c1, e1, _⟩ := h
  injection e with e
  exact ⟨a1, a2, c1, c2, by rw [e, e1, e2]⟩
theorem len_items : ∀ (l : List J), l.length ≤ (textL l).length + 1
  | [] => by simp
  | [a] => by simp
  | a :: b :: l => by
    have := len_items (b :: l)
    simp only [textL, List.length_append, List.length_cons] at this ⊢
    omega
theorem len_members : ∀ (ns : List Bs) (l : List J), ns.length = l.length → l.length ≤ (textO ns l).length + 1
  | [], [], _ => by simp
  | [a], [y], _ => by simp
  | a :: c :: ns, y :: z :: l, h => by
    have := len_members (c :: ns) (z :: l) (by simpa using h)
    simp only [textO, List.length_append, List.length_cons] at this ⊢
    omega
  | [], _ :: _, h => by simp at h
  | _ :: _, [], h => by simp at h
  | [_], _ :: _ :: _, h => by simp at h
  | _ :: _ :: _, [_], h => by simp at h
theorem value_to : ∀ n, VT n
  | 0 => fun P j cs B v l w hj _ _ _ _ _ _ => by cases hj
  | n + 1 => fun P j cs B v l w hj hok hT hown hB hP hl => by
    obtain ⟨a1, a2, c1, c2, rfl⟩ := cs_in hj
    obtain ⟨k1, k2, k3, k4, k5⟩ := hok
    cases j with
    | null => exact null_to B v l w a1 a2 c1 c2 hown hB (by omega)
    | bool b => exact bool_to b B v l w a1 a2 c1 c2 hown hB (by omega)
    | num m => exact num_to m B v l w a1 a2 c1 c2 (hT.tb hB) hown hB (by omega) k1
    | str s => exact str_to s B v l w a1 a2 c1 c2 hown hB (by omega) k2
    | arr L =>
      have e : (textJ (.arr L)).length = (textL L).length + 2 := by unfold textJ; simp
      have h2 := len_items L
      exact arr_to n (value_to n) P L B v l w a1 a2 c1 c2 hj k5 hT hown hB hP (by omega) (by omega)
    | obj ns L =>
      have e : (textJ (.obj ns L)).length = (textO ns L).length + 2 := by unfold textJ; simp
      have hnl := k3 rfl
      have h2 := len_members ns L hnl
      exact obj_to n (value_to n) P ns L B v l w a1 a2 c1 c2 hnl hj k5 hT hown hB hP (by omega) (by omega) k4

end Go.Proofs.YticnfmfmgdfdeaaGreatDoor

namespace Go.Proofs.YticnfmfmgdfdeaaGreatDoor
open Go.RowKit

set_option maxRecDepth 100000 in
set_option maxHeartbeats 4000000 in
theorem Text_any (n : Nat) (P : Nat → Prop) (j : J) (a1 a2 : Option Addr) (c1 c2 : Nat) (w : World) (hj : JV P n j w (.agg (jC j a1 a2 c1 c2))) (hok : okJ n j) (hT : TB w) (hl : (textJ j).length ≤ 100000000) (hne : textJ j ≠ []) :
    Calls Tryz.prog 17 #[.agg (jC j a1 a2 c1 c2)] w fun r w' => r = .returned (.string (Sx (textJ j))) ∧ Gr w w' := by
  have hx := heap_alloc_new w (.cells (jC j a1 a2 c1 c2) 28 (0, 0))
  have HG := Lib.hid (World.grownBy_alloc w (.cells (jC j a1 a2 c1 c2) 28) none)
  have KV := value_to n P j (jC j a1 a2 c1 c2) (w.alloc (.cells (jC j a1 a2 c1 c2) 28)).heap.size (.slice none 0 0) [] (w.alloc (.cells (jC j a1 a2 c1 c2) 28)) (hj.gr HG.out) hok (hT.gr HG.out) (World.ownsRow_nil _ _ _ _) (Nat.le_refl _) (fun b _ => by simp [Value.ownBlock]) (by simpa using hl)
  have HC : Hid (∀ w1 v1, AP (w.alloc (.cells (jC j a1 a2 c1 c2) 28)).heap.size (w.alloc (.cells (jC j a1 a2 c1 c2) 28)) (.slice none 0 0) ([] ++ textJ j) v1 w1 → ∃ g len cap, v1 = .slice (some ⟨g, 0, none⟩) len cap ∧ (convert 48 9 (.slice (some ⟨g, 0, none⟩) len cap)).run Tryz.prog w1 = .ok (.string (Sx (textJ j))) w1) := Lib.hid (fun w1 v1 h => by
    obtain ⟨g, cap, e, hc⟩ := ob_conv h.ob (by simpa using hne)
    exact ⟨g, _, cap, e, hc⟩)
  obtain ⟨x0, x1, x2, x3, x4, x5, x6, x7⟩ := cells8 hx
  clear hx hj hok hT hl hne
  go_enter Tryz.func17, Tryz.ntmps17
  go_wp2_with (go_at_call 37; ((with_reducible refine KV.mono ?_); rintro r w1 ⟨v1, rfl, hap⟩); obtain ⟨g, len, cap, rfl, hcv⟩ := HC.out w1 v1 hap; have HG1 := Lib.hid (show Gr w w1 from gtrans HG.out hap.gr); clear hap)
  go_ret
  exact ⟨rfl, HG1.out⟩

end Go.Proofs.YticnfmfmgdfdeaaGreatDoor

namespace Go.Proofs.YticnfmfmgdfdeaaGreatDoor
open Go.RowKit

set_option maxRecDepth 100000 in
set_option maxHeartbeats 4000000 in
theorem compare_kinds (j k : J) (a1 a2 b1 b2 : Option Addr) (c1 c2 d1 d2 : Nat) (w : World) (hne : j.kind ≠ k.kind) :
    Calls Tryz.prog 19 #[.agg (jC j a1 a2 c1 c2), .agg (jC k b1 b2 d1 d2)] w fun r w' => r = .returned (.int .i64 (cmpI j.kind k.kind)) ∧ Gr w w' := by
  obtain ⟨l0, l1⟩ := And.intro (two_lit0 w (.cells (jC j a1 a2 c1 c2) 28) (.cells (jC k b1 b2 d1 d2) 28)) (two_lit1 w (.cells (jC j a1 a2 c1 c2) 28) (.cells (jC k b1 b2 d1 d2) 28))
  have HG := Lib.hid (two_grown w (.cells (jC j a1 a2 c1 c2) 28) (.cells (jC k b1 b2 d1 d2) 28))
  have KC := Lib.hid (fun w' => cmpI_any (j.kind : Int) (k.kind : Int) w')
  have hk : ((j.kind : Int) == (k.kind : Int)) = false := beq_eq_false_iff_ne.2 (fun e => hne (by omega))
  have hk2 : ¬ ((j.kind : Int) = (k.kind : Int)) := by omega
  obtain ⟨x0, x1, x2, x3, x4, x5, x6, x7⟩ := cells8 l0
  obtain ⟨y0, y1, y2, y3, y4, y5, y6, y7⟩ := cells8 l1
  clear l0 l1 hne
  go_enter Tryz.func19, Tryz.ntmps19
  go_wp2_with (go_at_call 40; ((with_reducible refine (KC.out _).mono ?_); rintro r w1 ⟨rfl, rfl⟩))
  go_ret
  exact ⟨rfl, HG.out⟩

end Go.Proofs.YticnfmfmgdfdeaaGreatDoor

namespace Go.Proofs.YticnfmfmgdfdeaaGreatDoor
open Go.RowKit

abbrev jA : J := .obj [[97], [98]] [.arr [], .num ⟨false, [49], 0⟩]
abbrev jB : J := .str [195, 169, 240, 159, 152, 128, 10]
theorem okNm0 : okNm Nm.zero := ⟨by decide, by decide, by decide, fun _ => ⟨rfl, rfl⟩, by decide⟩
theorem okJB (n : Nat) : okJ (n + 1) jB := ⟨okNm0, by decide, fun h => by simp [J.kind] at h, fun m h => by simp [J.names] at h, fun x h => by simp [J.items] at h⟩
theorem okNm1 : okNm ⟨false, [49], 0⟩ := by
  refine ⟨?_, ?_, ?_, ?_, ?_⟩
  · decide
  · decide
  · decide
  · intro h; cases h
  · decide
theorem okJn (n : Nat) : okJ (n + 1) (.num ⟨false, [49], 0⟩) := by
  refine ⟨okNm1, ?_, ?_, ?_, ?_⟩
  · decide
  · intro h; simp [J.kind] at h
  · intro m h; simp [J.names] at h
  · intro m h; simp [J.items] at h
theorem okJe (n : Nat) : okJ (n + 1) (.arr []) := by
  refine ⟨okNm0, ?_, ?_, ?_, ?_⟩
  · decide
  · intro h; simp [J.kind] at h
  · intro m h; simp [J.names] at h
  · intro m h; simp [J.items] at h
theorem okJA (n : Nat) : okJ (n + 2) jA := by
  refine ⟨okNm0, ?_, ?_, ?_, ?_⟩
  · decide
  · intro _; rfl
  · intro m h
    simp [J.names] at h
    rcases h with rfl | rfl <;> decide
  · intro x h
    simp only [J.items, List.mem_cons, List.not_mem_nil, or_false] at h
    rcases h with h | h
    · rw [h]; exact okJe n
    · rw [h]; exact okJn n
theorem parse_is (s : Bs) (j : J) (e : Int) (hp : parseJ s = (j, e)) (w : World) (hE : ES w) : Calls Tryz.prog 15 #[.string (Sx s)] w fun r w' => ∃ a1 a2 c1 c2, r = .returned (.tuple #[.agg (jC j a1 a2 c1 c2), .int .i64 e]) ∧ JV (fun b => w.heap.size ≤ b) 17 j w' (.agg (jC j a1 a2 c1 c2)) ∧ Gr w w' := by
  refine (Parse_any s w hE).mono ?_
  rintro r w' ⟨j', iv, nv, e', rfl, hpj, hj, hg⟩
  rw [hp] at hpj
  injection hpj with h1 h2
  subst h1 h2
  obtain ⟨a1, a2, c1, c2, h⟩ := cs_in hj
  rw [h] at hj ⊢
  exact ⟨a1, a2, c1, c2, rfl, hj, hg⟩
theorem parse_err (s : Bs) (e : Int) (hp : (parseJ s).2 = e) (w : World) (hE : ES w) : Calls Tryz.prog 15 #[.string (Sx s)] w fun r w' => ∃ j a1 a2 c1 c2, r = .returned (.tuple #[.agg (jC j a1 a2 c1 c2), .int .i64 e]) ∧ Gr w w' := by
  refine (parse_is s (parseJ s).1 e (by rw [← hp]) w hE).mono ?_
  rintro r w' ⟨a1, a2, c1, c2, rfl, -, hg⟩
  exact ⟨_, a1, a2, c1, c2, rfl, hg⟩

abbrev LA (a1 a2 : Option Addr) (c1 c2 : Nat) : Array Value := #[.int .i64 5, .bool false, .bool false, .string ⟨#[]⟩, .int .i64 0, .string ⟨#[]⟩, .slice a1 2 c1, .slice a2 2 c2]
abbrev LB (a1 a2 : Option Addr) (c1 c2 : Nat) : Array Value := #[.int .i64 3, .bool false, .bool false, .string ⟨#[]⟩, .int .i64 0, .string ⟨#[195, 169, 240, 159, 152, 128, 10]⟩, .slice a1 0 c1, .slice a2 0 c2]
theorem la_is (a1 a2 : Option Addr) (c1 c2 : Nat) : jC jA a1 a2 c1 c2 = LA a1 a2 c1 c2 := rfl
theorem lb_is (a1 a2 : Option Addr) (c1 c2 : Nat) : jC jB a1 a2 c1 c2 = LB a1 a2 c1 c2 := rfl

set_option maxRecDepth 100000 in
set_option maxHeartbeats 8000000 in
theorem awake15_any (w : World) (hT : TB w) (hE : ES w) : Calls Tryz.prog 14 #[] w fun r w' => r = .returned (.bool true) ∧ Gr w w' := by
  have HE := Lib.hid hE
  have HT := Lib.hid hT
  have PA : Hid (∀ w, ES w → Calls Tryz.prog 15 #[.string ⟨#[32, 123, 34, 98, 34, 58, 49, 46, 48, 44, 32, 34, 97, 34, 58, 91, 93, 125]⟩] w fun r w' => ∃ a1 a2 c1 c2, r = .returned (.tuple #[.agg (LA a1 a2 c1 c2), .int .i64 0]) ∧ JV (fun b => w.heap.size ≤ b) 17 jA w' (.agg (LA a1 a2 c1 c2)) ∧ Gr w w') := Lib.hid (parse_is awA jA 0 awA_parse)
  have PB : Hid (∀ w, ES w → Calls Tryz.prog 15 #[.string ⟨#[34, 92, 117, 48, 48, 101, 57, 92, 117, 100, 56, 51, 100, 92, 117, 100, 101, 48, 48, 92, 110, 34]⟩] w fun r w' => ∃ a1 a2 c1 c2, r = .returned (.tuple #[.agg (LB a1 a2 c1 c2), .int .i64 0]) ∧ JV (fun b => w.heap.size ≤ b) 17 jB w' (.agg (LB a1 a2 c1 c2)) ∧ Gr w w') := Lib.hid (parse_is awB jB 0 awB_parse)
  have PC : Hid (∀ w, ES w → Calls Tryz.prog 15 #[.string ⟨#[91, 49, 44, 93]⟩] w fun r w' => ∃ j a1 a2 c1 c2, r = .returned (.tuple #[.agg (jC j a1 a2 c1 c2), .int .i64 11]) ∧ Gr w w') := Lib.hid (parse_err awC 11 awC_parse)
  have PD : Hid (∀ w, ES w → Calls Tryz.prog 15 #[.string ⟨#[123, 34, 97, 34, 58, 49, 44, 34, 97, 34, 58, 50, 125]⟩] w fun r w' => ∃ j a1 a2 c1 c2, r = .returned (.tuple #[.agg (jC j a1 a2 c1 c2), .int .i64 31]) ∧ Gr w w') := Lib.hid (parse_err awD 31 awD_parse)
  have HF : Hid (∀ W a1 a2 c1 c2, JV (fun _ => True) 17 jA W (.agg (LA a1 a2 c1 c2)) → Calls Tryz.prog 21 #[.agg (LA a1 a2 c1 c2), .string ⟨#[98]⟩] W fun r w' => r = .returned (.tuple #[.int .i64 1, .bool true]) ∧ Gr W w') := Lib.hid (fun W a1 a2 c1 c2 hj => by
    obtain ⟨iv, nv, e1, hrn, -⟩ := hj
    have hnv : nv = .slice a2 2 c2 := by
      injection e1 with e1
      have := congrArg (fun a : Array Value => a.getD 7 undef) e1
      simpa using this.symm
    rw [hnv] at hrn
    exact find_any (fun _ => True) jA [98] (.slice a1 2 c1) (.slice a2 2 c2) W hrn ⟨_, _, _, rfl⟩ (by unfold Ris; decide) (by decide) rfl)
  have HTA : Hid (∀ W a1 a2 c1 c2, JV (fun _ => True) 17 jA W (.agg (LA a1 a2 c1 c2)) → TB W → Calls Tryz.prog 17 #[.agg (LA a1 a2 c1 c2)] W fun r w' => r = .returned (.string ⟨#[123, 34, 97, 34, 58, 91, 93, 44, 34, 98, 34, 58, 49, 125]⟩) ∧ Gr W w') := Lib.hid (fun W a1 a2 c1 c2 hj hT => by
    have := Text_any 17 (fun _ => True) jA a1 a2 c1 c2 W hj (okJA 15) hT (by rw [awA_text]; decide) (by rw [awA_text]; decide)
    rw [awA_text] at this
    exact this)
  have HTB : Hid (∀ W a1 a2 c1 c2, JV (fun _ => True) 17 jB W (.agg (LB a1 a2 c1 c2)) → TB W → Calls Tryz.prog 17 #[.agg (LB a1 a2 c1 c2)] W fun r w' => r = .returned (.string ⟨#[34, 195, 169, 240, 159, 152, 128, 92, 117, 48, 48, 48, 97, 34]⟩) ∧ Gr W w') := Lib.hid (fun W a1 a2 c1 c2 hj hT => by
    have := Text_any 17 (fun _ => True) jB a1 a2 c1 c2 W hj (okJB 16) hT (by rw [awB_text]; decide) (by rw [awB_text]; decide)
    rw [awB_text] at this
    exact this)
  have HCP : Hid (∀ a1 a2 b1 b2 c1 c2 d1 d2 W, Calls Tryz.prog 19 #[.agg (LA a1 a2 c1 c2), .agg (LB b1 b2 d1 d2)] W fun r w' => r = .returned (.int .i64 1) ∧ Gr W w') := Lib.hid (fun a1 a2 b1 b2 c1 c2 d1 d2 W => compare_kinds jA jB a1 a2 b1 b2 c1 c2 d1 d2 W (by decide))
  clear hE hT
  go_enter Tryz.func14, Tryz.ntmps14
  go_wp2_with (first
    | (go_at_call 15; ((with_reducible refine (PA.out w HE.out).mono ?_); rintro r w1 ⟨a1, a2, c1, c2, rfl, hj, hg⟩); have J1 := Lib.hid hj; have G1 := Lib.hid (gtrans hg (World.grownBy_alloc w1 (.cells (LA a1 a2 c1 c2) 28) none)); clear hj hg)
    | (go_at_call 15; ((with_reducible refine (PB.out _ (HE.out.gr G1.out)).mono ?_); rintro r w2 ⟨b1, b2, d1, d2, rfl, hj, hg⟩); have J2 := Lib.hid hj; have G2 := Lib.hid (gtrans hg (World.grownBy_alloc w2 (.cells (LB b1 b2 d1 d2) 28) none)); clear hj hg)
    | (go_at_call 15; ((with_reducible refine (PC.out _ (HE.out.gr (gtrans G1.out G2.out))).mono ?_); rintro r w3 ⟨j3, p1, p2, q1, q2, rfl, hg⟩); have G3 := Lib.hid (gtrans hg (World.grownBy_alloc w3 (.cells (jC j3 p1 p2 q1 q2) 28) none)); clear hg)
    | (go_at_call 15; ((with_reducible refine (PD.out _ (HE.out.gr (gtrans G1.out (gtrans G2.out G3.out)))).mono ?_); rintro r w4 ⟨j4, s1, s2, t1, t2, rfl, hg⟩); have G4 := Lib.hid (gtrans hg (World.grownBy_alloc w4 (.cells (jC j4 s1 s2 t1 t2) 28) none)); have GA := gtrans G2.out (gtrans G3.out G4.out); have GB := gtrans G3.out G4.out; have hxa := (GA.block w1.heap.size (by simp) (by simp)).trans (heap_alloc_new w1 (.cells (LA a1 a2 c1 c2) 28)); have hxb := (GB.block w2.heap.size (by simp) (by simp)).trans (heap_alloc_new w2 (.cells (LB b1 b2 d1 d2) 28)); have HXA := Lib.hid hxa; have HXB := Lib.hid hxb; have G5 := Lib.hid (gtrans G1.out GA); have JA4 := Lib.hid ((J1.out.wide (Q := fun _ => True) (fun _ _ => trivial) (Nat.le_refl _)).gr (gtrans (World.grownBy_alloc w1 _ none) GA)); have JB4 := Lib.hid ((J2.out.wide (Q := fun _ => True) (fun _ _ => trivial) (Nat.le_refl _)).gr (gtrans (World.grownBy_alloc w2 _ none) GB)); obtain ⟨x0, x1, x2, x3, x4, x5, x6, x7⟩ := cells8 hxa; obtain ⟨y0, y1, y2, y3, y4, y5, y6, y7⟩ := cells8 hxb; clear hg GA GB hxa hxb)
    | (go_at_call 21; ((with_reducible refine (HF.out _ _ _ _ _ JA4.out).mono ?_); rintro r w5 ⟨rfl, hg⟩); have H5 := Lib.hid hg; have hxa := (hg.block _ (lt_of_block HXA.out) (by simp)).trans HXA.out; have hxb := (hg.block _ (lt_of_block HXB.out) (by simp)).trans HXB.out; clear x0 x1 x2 x3 x4 x5 x6 x7 y0 y1 y2 y3 y4 y5 y6 y7; obtain ⟨x0, x1, x2, x3, x4, x5, x6, x7⟩ := cells8 hxa; obtain ⟨y0, y1, y2, y3, y4, y5, y6, y7⟩ := cells8 hxb; clear hg hxa hxb)
    | (go_at_call 17; ((with_reducible refine (HTA.out w5 _ _ _ _ (JA4.out.gr H5.out) (HT.out.gr (gtrans G5.out H5.out))).mono ?_); rintro r w6 ⟨rfl, hg⟩); have H6 := Lib.hid (gtrans H5.out hg); have hxa := (H6.out.block _ (lt_of_block HXA.out) (by simp)).trans HXA.out; have hxb := (H6.out.block _ (lt_of_block HXB.out) (by simp)).trans HXB.out; clear x0 x1 x2 x3 x4 x5 x6 x7 y0 y1 y2 y3 y4 y5 y6 y7; obtain ⟨x0, x1, x2, x3, x4, x5, x6, x7⟩ := cells8 hxa; obtain ⟨y0, y1, y2, y3, y4, y5, y6, y7⟩ := cells8 hxb; clear hg hxa hxb)
    | (go_at_call 17; ((with_reducible refine (HTB.out w6 _ _ _ _ (JB4.out.gr H6.out) (HT.out.gr (gtrans G5.out H6.out))).mono ?_); rintro r w7 ⟨rfl, hg⟩); have H7 := Lib.hid (gtrans H6.out hg); have hxa := (H7.out.block _ (lt_of_block HXA.out) (by simp)).trans HXA.out; have hxb := (H7.out.block _ (lt_of_block HXB.out) (by simp)).trans HXB.out; clear x0 x1 x2 x3 x4 x5 x6 x7 y0 y1 y2 y3 y4 y5 y6 y7; obtain ⟨x0, x1, x2, x3, x4, x5, x6, x7⟩ := cells8 hxa; obtain ⟨y0, y1, y2, y3, y4, y5, y6, y7⟩ := cells8 hxb; clear hg hxa hxb)
    | (go_at_call 19; ((with_reducible refine (HCP.out _ _ _ _ _ _ _ _ w7).mono ?_); rintro r w8 ⟨rfl, hg⟩); have H8 := Lib.hid (gtrans H7.out hg); clear hg))
  go_ret
  exact ⟨rfl, gtrans G5.out H8.out⟩

end Go.Proofs.YticnfmfmgdfdeaaGreatDoor
