/-
  Layer 7: bytes with the sum that fits; pages that are changed byte by byte. Own work.
-/
import Derived.Test.YtnggebohefbopaaMetX
import Derived.Test.YtnggebohefbopaaLawB
import Derived.OwnWalk
namespace Go.Proofs.Ytnggebohefbopaa
open Go.RowKit

/-- What the call owns, some bytes, as bytes that are changed one by one. -/
theorem buf_own {w : World} {base N c : Nat} {ao : Option Addr} {bs : List Int} (h : w.ownsRow base 5 1 (.slice ao N c) N (bs.map (Value.int .u8))) (h0 : 0 < N) (hb : Byt bs) : ∃ g, ao = some ⟨g, 0, none⟩ ∧ base ≤ g ∧ Buf w g N c bs := by
  have hl : bs.length = N := by have := h.1; simpa using this
  have h' := h
  rcases h.2 with ⟨hv, _⟩ | ⟨g, cap, cur, hv, hbg, hg, hc, hm, hs, ht⟩
  · cases hv; omega
  · cases hv
    refine ⟨g, rfl, hbg, ⟨cur, _, hg, fun j hj => ?_, fun j hj => h'.frozenAt j⟩, hb, hl, hc, hm⟩
    have := h'.cellAt j (by omega)
    rw [List.getElem?_map, List.getElem?_eq_getElem (by omega)] at this
    simp only [World.cell?, hg, Option.isSome_none, Bool.false_eq_true, if_false] at this
    rw [this]
    simp [List.getD_eq_getElem?_getD, List.getElem?_eq_getElem (show j < bs.length by omega)]

set_option maxRecDepth 30000 in
set_option maxHeartbeats 2000000 in
theorem refit7_any (w : World) (gb N c : Nat) (bs : List Int) (h : Buf w gb N c bs) (h32 : 32 ≤ N) (hN : N ≤ 5000) :
    Calls Try.prog 18 #[.slice (some ⟨gb, 0, none⟩) N c] w fun r w' => ∃ g cap bs', r = .returned (.slice (some ⟨g, 0, none⟩) N cap) ∧ Buf w' g N cap bs' ∧ w.heap.size ≤ g ∧ w.grownBy w' none := by
  obtain ⟨i0, hi, hz0, hz1, hz2⟩ := info_parts infoU8
  have H := Lib.hid h
  have hcap := h.cap.1
  have hc28 : (28 : Int) ≤ (c : Int) := by omega
  have hat := fun j hj => (h.at j hj).1
  have HK := Lib.hid (show ∀ j u, (bs.map (Value.int .u8))[j]? = some u → w.cell? ⟨gb, j, none⟩ = some u from fun j u hu => by
    have hj : j < N := by have := (List.getElem?_eq_some_iff.1 hu).1; simp [h.len] at this; exact this
    rw [hat j hj]
    rw [List.getElem?_map] at hu
    rw [List.getD_eq_getElem?_getD]
    cases hpj : bs[j]? with
    | none => rw [hpj] at hu; simp at hu
    | some x => rw [hpj] at hu; simpa using hu)
  have HL := Lib.hid h.len
  have HB := Lib.hid h.byt
  clear h hat
  go_enter Try.func18, Try.ntmps18
  go_wp2_with (first
    | (at_builtin; refine wpList_append_own _ rfl _ _ 33 rfl w.heap.size 5 i0 (.int .u8 0) 1 1 Try.underlying33 hi hz0 hz1 hz2 rfl (by decide) _ _ _ rfl (World.ownsRow_nil w w.heap.size _ _) ⟨gb, 0, none⟩ N c (bs.map (Value.int .u8)) rfl (by simp [HL.out]) ?c1 bcell1 ?c3 ?c4 ?c5 ?_))
  case c1 => exact fun j u hu => by rw [Addr.add_lit, Nat.zero_add]; exact HK.out j u (by simpa using hu)
  case c3 => unfold maxLen; omega
  all_goals try omega
  intro v' w1 hown hg1 _
  have hown : w1.ownsRow w.heap.size 5 1 v' N (bs.map (Value.int .u8)) := by simpa using hown
  have hg1 : w.grownBy w1 none := hg1
  obtain ⟨ao, cc, rfl⟩ := own_shape hown
  obtain ⟨g, rfl, hgb, hbuf⟩ := buf_own hown (by omega) HB.out
  have HG1 := Lib.hid hg1
  have HBf := Lib.hid hbuf
  have HGb := Lib.hid hgb
  have HS := Lib.hid ((H.out.grown hg1).seq.pre 28 (by rw [HL.out]; omega))
  clear hown hg1 hbuf hgb
  go_wp2_with (first
    | (go_at_call 28; have K := of1 (w := w1) (t := 33) (q := w1.heap.size) rfl HS.out (HB.out.take 28); ((with_reducible refine K.mono ?_); clear K; rintro r w2 ⟨rfl, hg⟩); have G2 := Lib.hid (gtrans HG1.out hg); have HB2 := Lib.hid (HBf.out.grown hg); clear hg; obtain ⟨X, hX⟩ : ∃ X, X = crcN (bs.take 28) := ⟨_, rfl⟩; have hXl := crcN_lt (l := bs.take 28) (HB.out.take 28); rw [← hX] at hXl ⊢; clear hX; obtain ⟨a0, f0⟩ := HB2.out.at 28 (by omega); obtain ⟨a1, f1⟩ := HB2.out.at 29 (by omega); obtain ⟨a2, f2⟩ := HB2.out.at 30 (by omega); obtain ⟨a3, f3⟩ := HB2.out.at 31 (by omega)))
  go_ret
  exact ⟨g, cc, _, rfl, (((HB2.out.set 28 (by omega) ((X : Int) / 16777216) (by omega) (by omega)).set 29 (by omega) ((X : Int) / 65536 % 256) (by omega) (by omega)).set 30 (by omega) ((X : Int) / 256 % 256) (by omega) (by omega)).set 31 (by omega) ((X : Int) % 256) (by omega) (by omega), HGb.out,
    gnew G2.out (gtrans (gset w2 ⟨g, 28, none⟩ _) (gtrans (gset _ ⟨g, 29, none⟩ _) (gtrans (gset _ ⟨g, 30, none⟩ _) (gset _ ⟨g, 31, none⟩ _)))) HGb.out⟩

end Go.Proofs.Ytnggebohefbopaa
