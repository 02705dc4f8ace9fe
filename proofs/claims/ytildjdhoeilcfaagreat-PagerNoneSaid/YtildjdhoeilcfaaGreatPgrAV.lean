/-
  Layer 11: a change as it lies; over, state, Abort, Free, New, Read. Own work.
-/
import Derived.Test.YtildjdhoeilcfaaGreatPgrAU

namespace Go.Proofs.YtildjdhoeilcfaaGreat
open Go.RowKit Go.Maps

/-- A change: its number, its space, the pages that it has, and their bytes. -/
structure TV where
  n : Nat
  sp : Sp
  K : List Nat
  C : Nat → List Int
/-- What a change made lies in block x. -/
def DraftAt (B : Nat) (w : World) (x S : Nat) (T : TV) : Prop :=
  B ≤ x ∧ ∃ Bs mb, w.heap[x]? = some (.cells #[.int .u64 (T.n : Int), .pointer (some ⟨Bs + 4, 0, none⟩), .map (some mb)] 131 (0, 0)) ∧ B ≤ Bs ∧ B ≤ mb ∧ (mb < Bs ∨ Bs + 5 ≤ mb) ∧ SpOk Bs w T.sp ∧ PgsAt w mb S T.K T.C
/-- The change in block t, of the file in block f; x: where its draft lies. -/
def TxnAt (B : Nat) (w : World) (t f : Nat) (x : Option Nat) : Prop := B ≤ t ∧ w.heap[t]? = some (.cells #[.pointer (some ⟨f, 0, none⟩), .pointer (x.map fun b => ⟨b, 0, none⟩)] 133 (0, 0))
theorem DraftAt.kfr {P : Option TypeId → Prop} {B B' x S : Nat} {w w' : World} {T : TV} (h : DraftAt B w x S T) (k : Kfr P B' w w') (h0 : ¬ P none) (h1 : ¬ P (some 193)) (h2 : ¬ P (some 141)) (h3 : ¬ P (some 42)) (h4 : ¬ P (some 131)) (h8 : ¬ P (some 5)) : DraftAt B w' x S T := by
  obtain ⟨a, Bs, mb, b, c, d, e, f, g⟩ := h
  exact ⟨a, Bs, mb, k.cells b h4, c, d, e, f.kfr k h0 h1 h2 h3, g.kfr k h0 h8⟩
theorem DraftAt.new {B x S : Nat} {w w' : World} {T : TV} (h : DraftAt B w x S T) (k : w.grownBy w' none) : DraftAt B w' x S T := h.kfr (P := fun _ => False) (B' := 0) (Kfr.of k) (by simp) (by simp) (by simp) (by simp) (by simp) (by simp)
theorem KD_none : ¬ KD none := by rintro (e | e | e) <;> cases e
theorem DraftAt.dfr {B B' x S : Nat} {w w' : World} {T : TV} (h : DraftAt B w x S T) (k : Dfr B' w w') : DraftAt B w' x S T := h.kfr (kfr_dfr k) KD_none (not_KD' (by decide)) (not_KD' (by decide)) (not_KD' (by decide)) (not_KD' (by decide)) (not_KD' (by decide))
theorem TxnAt.kfr {P : Option TypeId → Prop} {B B' t f : Nat} {x : Option Nat} {w w' : World} (h : TxnAt B w t f x) (k : Kfr P B' w w') (h1 : ¬ P (some 133)) : TxnAt B w' t f x := ⟨h.1, k.cells h.2 h1⟩
theorem TxnAt.new {B t f : Nat} {x : Option Nat} {w w' : World} (h : TxnAt B w t f x) (k : w.grownBy w' none) : TxnAt B w' t f x := h.kfr (P := fun _ => False) (B' := 0) (Kfr.of k) (by simp)
theorem TxnAt.dfr {B B' t f : Nat} {x : Option Nat} {w w' : World} (h : TxnAt B w t f x) (k : Dfr B' w w') : TxnAt B w' t f x := h.kfr (kfr_dfr k) (not_KD' (by decide))
theorem not_KS {t : TypeId} (h : t ≠ 193) : ¬ KS (some t) := by rintro (e | e); cases e; injection e with e; exact h e
theorem cells3 {W : World} {q : Nat} {a b c : Value} {t : TypeId} (h : W.heap[q]? = some (.cells #[a, b, c] t (0, 0))) : W.cell? ⟨q, 0, none⟩ = some a ∧ W.cell? ⟨q, 1, none⟩ = some b ∧ W.cell? ⟨q, 2, none⟩ = some c := by
  refine ⟨?_, ?_, ?_⟩ <;> simp [World.cell?, h]

set_option maxHeartbeats 1000000 in
theorem over_any {B t f : Nat} {x : Option Nat} {w : World} (h : TxnAt B w t f x) : Calls Tryz.prog 37 #[.pointer (some ⟨t, 0, none⟩)] w fun r w' => r = .returned (.bool x.isNone) ∧ w = w' := by
  obtain ⟨c0, c1, _⟩ := cells2 h.2
  cases x with
  | none =>
    go_enter Tryz.func37, Tryz.ntmps37
    go_wp2
    go_ret
    exact ⟨rfl, rfl⟩
  | some b =>
    go_enter Tryz.func37, Tryz.ntmps37
    go_wp2
    go_ret
    exact ⟨rfl, rfl⟩
theorem over_nil (w : World) : Calls Tryz.prog 37 #[.pointer none] w fun r w' => r = .returned (.bool true) ∧ w = w' := by
  go_enter Tryz.func37, Tryz.ntmps37
  go_wp2
  go_ret
  exact ⟨rfl, rfl⟩
set_option maxHeartbeats 1000000 in
theorem state_live {B t f b : Nat} {w : World} (h : TxnAt B w t f (some b)) : Calls Tryz.prog 58 #[.pointer (some ⟨t, 0, none⟩)] w fun r w' => r = .returned (.int .i64 0) ∧ w = w' := by
  have HO := Lib.hid (over_any h)
  go_enter Tryz.func58, Tryz.ntmps58
  go_wp2_with (first
    | (go_at_call 37; ((with_reducible refine HO.out.mono ?_); rintro r w1 ⟨rfl, rfl⟩)))
  go_ret
  exact ⟨rfl, rfl⟩
set_option maxHeartbeats 1000000 in
theorem state_over {B t f : Nat} {w : World} (h : TxnAt B w t f none) : Calls Tryz.prog 58 #[.pointer (some ⟨t, 0, none⟩)] w fun r w' => r = .returned (.int .i64 34) ∧ w = w' := by
  have HO := Lib.hid (over_any h)
  go_enter Tryz.func58, Tryz.ntmps58
  go_wp2_with (first
    | (go_at_call 37; ((with_reducible refine HO.out.mono ?_); rintro r w1 ⟨rfl, rfl⟩)))
  go_ret
  exact ⟨rfl, rfl⟩
theorem state_nil (w : World) : Calls Tryz.prog 58 #[.pointer none] w fun r w' => r = .returned (.int .i64 1) ∧ w = w' := by
  go_enter Tryz.func58, Tryz.ntmps58
  go_wp2
  go_ret
  exact ⟨rfl, rfl⟩
set_option maxHeartbeats 1000000 in
theorem abort_any {B t f : Nat} {x : Option Nat} {w : World} (h : TxnAt B w t f x) : Calls Tryz.prog 20 #[.pointer (some ⟨t, 0, none⟩)] w fun r w' => r = .returned (.tuple #[]) ∧ TxnAt B w' t f none ∧ Kfr (fun k => k = some 133) B w w' := by
  obtain ⟨c0, c1, z0, z1⟩ := cells2 h.2
  have HK := Lib.hid (Kfr.row (P := fun k => k = some 133) (gset w ⟨t, 1, none⟩ (.pointer none)) h.1 (ek_of h.2))
  have HH : Hid ((w.setCell ⟨t, 1, none⟩ (.pointer none)).heap[t]? = some (.cells #[.pointer (some ⟨f, 0, none⟩), .pointer none] 133 (0, 0))) := Lib.hid (heap_setCell_same _ t 1 _ 133 (.pointer none) h.2)
  have HB := Lib.hid h.1
  clear h
  go_enter Tryz.func20, Tryz.ntmps20
  go_wp2
  go_end0
  exact ⟨rfl, ⟨HB.out, HH.out⟩, HK.out⟩

/-- A page let go of. -/
def freeT (T : TV) (p : Nat) : TV × Int := if (giveM T.sp p).2 = 0 then ({ T with sp := (giveM T.sp p).1, K := del p T.K }, 0) else ({ T with sp := (giveM T.sp p).1 }, 24)
theorem srt_del' {p : Nat} {L : List Nat} (h : Srt L) : Srt (del p L) := List.Pairwise.sublist (List.filter_sublist) h
set_option maxHeartbeats 2000000 in
theorem dfree_any {B x S p : Nat} {w : World} {T : TV} (h : DraftAt B w x S T) (hp : p < 4294967296) :
    Calls Tryz.prog 61 #[.pointer (some ⟨x, 0, none⟩), .int .u32 (p : Int)] w fun r w' => r = .returned (.int .i64 (freeT T p).2) ∧ DraftAt B w' x S (freeT T p).1 ∧ Kfr KS B w w' := by
  obtain ⟨hx, Bs, mb, hb, h1, h2, h3, hsp, hpg⟩ := h
  obtain ⟨H, hs, hH⟩ := hsp
  have KG := Lib.hid (give_any w Bs T.sp hs p hp)
  have HBX := Lib.hid hb
  obtain ⟨c0, c1, c2⟩ := cells3 hb
  have HSO := Lib.hid (fun (r : Ending) (w' : World) (v : Value) (k : OpR Bs H w (giveM T.sp p).1 v r w') => SpOk.op hs hH k)
  have HKF := Lib.hid (fun (w' : World) (k : Sfr Bs w w') => (sfr_kfr hs k).mono h1)
  have HMB := Lib.hid (fun (w' : World) (k : Sfr Bs w w') => k.block mb hpg.ek.2 (by omega))
  have HPG := Lib.hid hpg
  clear hs hH hb hpg
  have HFT : Hid (freeT T p = if (giveM T.sp p).2 = 0 then ({ T with sp := (giveM T.sp p).1, K := del p T.K }, 0) else ({ T with sp := (giveM T.sp p).1 }, 24)) := Lib.hid rfl
  generalize freeT T p = RR at HFT ⊢
  generalize (giveM T.sp p).1 = sp' at KG HSO HFT
  generalize (giveM T.sp p).2 = e at KG HFT
  by_cases he : e = 0
  · subst he
    have HFT2 := Lib.hid (HFT.out.trans (if_pos rfl))
    clear HFT
    obtain ⟨V, hown, hsr, h32, h8⟩ := HPG.out
    go_enter Tryz.func61, Tryz.ntmps61
    go_wp2_with (first
      | (go_at_call 103; ((with_reducible refine KG.out.mono ?_); rintro r w1 hk; have HS1 := Lib.hid (HSO.out _ _ _ hk); obtain ⟨rfl, hk1, hk2⟩ := hk); have HK1 := Lib.hid (HKF.out _ hk2); have HM1 := Lib.hid (HMB.out _ hk2); have HPG1 := Lib.hid (HPG.out.kept HK1.out HM1.out (not_KS (by decide))); have HBX1 := Lib.hid (HK1.out.cells HBX.out (not_KS (by decide))); clear hk1 hk2 c0 c1 c2 hown; obtain ⟨c0, c1, c2⟩ := cells3 HBX1.out; obtain ⟨V1, hown1, hsr1, h321, h81⟩ := HPG1.out)
      | (at_delete; refine wpList_delete_own _ rfl _ _ 129 42 rfl 32 lawP Tryz.underlying129 heldR mb _ _ rfl hown1 _ _ rfl (keyP hp) ?_; intro w2 hown2 hturn2; rw [pgD_del] at hown2; have HO2 := Lib.hid (pg_tight hown2); have HT2 := Lib.hid hturn2; clear hown2 hturn2)
      | go_in)
    go_ret
    have g2 := HT2.out.grown
    have k2 : Kfr (fun x => x = none) B w1 w2 := Kfr.row g2 h2 HPG1.out.ek.1
    refine ⟨by rw [HFT2.out]; rfl, ?_, HK1.out.trans (k2.imp fun t e => .inl e)⟩
    rw [HFT2.out]
    exact ⟨hx, Bs, mb, k2.cells HBX1.out (by simp), h1, h2, h3, HS1.out.map g2 HPG1.out.ek.1 h3, V1, HO2.out, srt_del' hsr1, fun q hq => h321 q (List.mem_filter.1 hq).1, fun q hq => k2.own8 (h81 q (List.mem_filter.1 hq).1) (by simp)⟩
  · have hed : (e == 0) = false := by simpa using he
    have hed2 : (e != 0) = true := by simpa using he
    have HFT2 := Lib.hid (HFT.out.trans (if_neg he))
    clear HFT
    go_enter Tryz.func61, Tryz.ntmps61
    go_wp2_with (first
      | (go_at_call 103; ((with_reducible refine KG.out.mono ?_); rintro r w1 hk; have HS1 := Lib.hid (HSO.out _ _ _ hk); obtain ⟨rfl, hk1, hk2⟩ := hk); have HK1 := Lib.hid (HKF.out _ hk2); have HM1 := Lib.hid (HMB.out _ hk2); have HPG1 := Lib.hid (HPG.out.kept HK1.out HM1.out (not_KS (by decide))); have HBX1 := Lib.hid (HK1.out.cells HBX.out (not_KS (by decide))); clear hk1 hk2))
    go_ret
    refine ⟨by rw [HFT2.out]; rfl, ?_, HK1.out⟩
    rw [HFT2.out]
    exact ⟨hx, Bs, mb, HBX1.out, h1, h2, h3, HS1.out, HPG1.out⟩

end Go.Proofs.YtildjdhoeilcfaaGreat

namespace Go.Proofs.YtildjdhoeilcfaaGreat
open Go.RowKit Go.Maps

set_option maxHeartbeats 1000000 in
theorem tsize_any {B B1 B2 t f d : Nat} {x : Option Nat} {w : World} {F : FV} {M : SM} (h : TxnAt B w t f x) (hf : FileAt B1 w f d F) (hd : PD B2 w d M) : Calls Tryz.prog 38 #[.pointer (some ⟨t, 0, none⟩)] w fun r w' => r = .returned (.int .i64 (M.size : Int)) ∧ w = w' := by
  obtain ⟨c0, c1, _⟩ := cells2 h.2
  have HK := Lib.hid (fsize_any hf hd)
  go_enter Tryz.func38, Tryz.ntmps38
  go_wp2_with (first
    | (go_at_call 34; ((with_reducible refine HK.out.mono ?_); rintro r w1 ⟨rfl, rfl⟩)))
  go_ret
  exact ⟨rfl, rfl⟩
theorem tsize_nil (w : World) : Calls Tryz.prog 38 #[.pointer none] w fun r w' => r = .returned (.int .i64 0) ∧ w = w' := by
  go_enter Tryz.func38, Tryz.ntmps38
  go_wp2
  go_ret
  exact ⟨rfl, rfl⟩
set_option maxHeartbeats 1000000 in
theorem tfree_any {B t f x S p : Nat} {w : World} {T : TV} (h : TxnAt B w t f (some x)) (hx : DraftAt B w x S T) (hp : p < 4294967296) :
    Calls Tryz.prog 17 #[.pointer (some ⟨t, 0, none⟩), .int .u32 (p : Int)] w fun r w' => r = .returned (.int .i64 (freeT T p).2) ∧ DraftAt B w' x S (freeT T p).1 ∧ Kfr KS B w w' := by
  have HS := Lib.hid (state_live h)
  have HK := Lib.hid (dfree_any hx hp)
  obtain ⟨c0, c1, _⟩ := cells2 h.2
  simp only [Option.map_some] at c1
  go_enter Tryz.func17, Tryz.ntmps17
  go_wp2_with (first
    | (go_at_call 58; ((with_reducible refine HS.out.mono ?_); rintro r w1 ⟨rfl, rfl⟩))
    | (go_at_call 61; ((with_reducible refine HK.out.mono ?_); rintro r w2 ⟨rfl, hd, hk⟩); have HD2 := Lib.hid hd; have HK2 := Lib.hid hk; clear hd hk))
  go_ret
  exact ⟨rfl, HD2.out, HK2.out⟩
set_option maxHeartbeats 1000000 in
theorem tfree_over {B t f : Nat} {w : World} (h : TxnAt B w t f none) (p : Int) : Calls Tryz.prog 17 #[.pointer (some ⟨t, 0, none⟩), .int .u32 p] w fun r w' => r = .returned (.int .i64 34) ∧ w = w' := by
  have HS := Lib.hid (state_over h)
  go_enter Tryz.func17, Tryz.ntmps17
  go_wp2_with (first
    | (go_at_call 58; ((with_reducible refine HS.out.mono ?_); rintro r w1 ⟨rfl, rfl⟩)))
  go_ret
  exact ⟨rfl, rfl⟩
set_option maxHeartbeats 1000000 in
theorem tfree_nil (w : World) (p : Int) : Calls Tryz.prog 17 #[.pointer none, .int .u32 p] w fun r w' => r = .returned (.int .i64 1) ∧ w = w' := by
  go_enter Tryz.func17, Tryz.ntmps17
  go_wp2_with (first
    | (go_at_call 58; ((with_reducible refine (state_nil w).mono ?_); rintro r w1 ⟨rfl, rfl⟩)))
  go_ret
  exact ⟨rfl, rfl⟩
set_option maxHeartbeats 1000000 in
theorem tnew_nil (w : World) (v : Value) : Calls Tryz.prog 14 #[.pointer none, v] w fun r w' => r = .returned (.tuple #[.int .u32 0, .int .i64 1]) ∧ w = w' := by
  go_enter Tryz.func14, Tryz.ntmps14
  go_wp2
  go_ret2
  exact ⟨rfl, rfl⟩
set_option maxHeartbeats 1000000 in
theorem tread_nil (w : World) (p : Int) : Calls Tryz.prog 36 #[.pointer none, .int .u32 p] w fun r w' => r = .returned (.tuple #[.slice none 0 0, .int .i64 1]) ∧ w = w' := by
  go_enter Tryz.func36, Tryz.ntmps36
  go_wp2_with (first
    | (go_at_call 58; ((with_reducible refine (state_nil w).mono ?_); rintro r w1 ⟨rfl, rfl⟩)))
  go_ret2
  exact ⟨rfl, rfl⟩
set_option maxHeartbeats 1000000 in
theorem tread_over {B t f : Nat} {w : World} (h : TxnAt B w t f none) (p : Int) : Calls Tryz.prog 36 #[.pointer (some ⟨t, 0, none⟩), .int .u32 p] w fun r w' => r = .returned (.tuple #[.slice none 0 0, .int .i64 34]) ∧ w = w' := by
  have HS := Lib.hid (state_over h)
  go_enter Tryz.func36, Tryz.ntmps36
  go_wp2_with (first
    | (go_at_call 58; ((with_reducible refine HS.out.mono ?_); rintro r w1 ⟨rfl, rfl⟩)))
  go_ret2
  exact ⟨rfl, rfl⟩
set_option maxHeartbeats 2000000 in
theorem tread_own {B t f x S p : Nat} {w : World} {T : TV} (h : TxnAt B w t f (some x)) (hx : DraftAt B w x S T) (hp : p < 4294967296) (hk : p ∈ T.K) (hS : S ≤ 4096) :
    Calls Tryz.prog 36 #[.pointer (some ⟨t, 0, none⟩), .int .u32 (p : Int)] w fun r w' => ∃ ao c, r = .returned (.tuple #[.slice ao S c, .int .i64 0]) ∧ Own8 w.heap.size w' S (.slice ao S c) (T.C p) ∧ w.grownBy w' none := by
  have HS := Lib.hid (state_live h)
  obtain ⟨c0, c1, _⟩ := cells2 h.2
  simp only [Option.map_some] at c1
  obtain ⟨_, Bs, mb, hb, _, _, _, _, V, hown, hsr, h32, h8⟩ := hx
  obtain ⟨d0, d1, d2⟩ := cells3 hb
  have hz : ∀ w : World, (zeroValue 32).run Tryz.prog w = .ok (.slice none 0 0) w := fun w => by kernel_rfl
  have hhas : Maps.has (pgD T.K V) (keyL p) = true := by rw [has_pgD]; simpa using hk
  have HAT := Lib.hid (at_pgD V p (.held (.slice none 0 0)) T.K hk)
  have ho := h8 p hk
  obtain ⟨av, cv, ev⟩ := own_shape ho
  have HSQ := Lib.hid ho.seq
  have hlen := ho.len
  have HL := Lib.hid hlen
  clear hb h h8 ho hk hlen
  go_enter Tryz.func36, Tryz.ntmps36
  go_wp2_with (first
    | (go_at_call 58; ((with_reducible refine HS.out.mono ?_); rintro r w1 ⟨rfl, rfl⟩))
    | (at_lookup; refine wpList_lookup_own_ok _ rfl _ _ 129 rfl 42 32 lawP Tryz.underlying129 heldR (hz _) (.held (.slice none 0 0)) [] rfl mb T.K.length _ rfl hown _ _ rfl (keyP hp) ?_; intro v ps hv; rw [HAT.out] at hv; have ev2 := heldR_inv hv; rw [ev] at ev2; subst ev2; clear hv)
    | (go_at_call 60; have K := clone_any w _ (.slice av S cv) (T.C p) (by have := HSQ.out; rw [ev] at this; exact this) (Nat.le_refl _) (by rw [HL.out]; omega); rw [HL.out] at K; ((with_reducible refine K.mono ?_); clear K; rintro r w2 ⟨ao, c, rfl, ho, hg⟩); have HO := Lib.hid ho; have HG := Lib.hid hg; clear ho hg)
    | go_in)
  go_ret2
  exact ⟨ao, c, rfl, HO.out, HG.out⟩

end Go.Proofs.YtildjdhoeilcfaaGreat

namespace Go.Proofs.YtildjdhoeilcfaaGreat
open Go.RowKit Go.Maps

/-- What a change's Read of a page that isn't its own tells. -/
def TReadR (B : Nat) (w : World) (d : Nat) (M : SM) (e : Nat) (fr : List Nat) (p : Nat) (r : Ending) (w' : World) : Prop :=
  if p ∉ fr ∧ 2 ≤ p ∧ p < e then ∃ ao c, r = .returned (.tuple #[.slice ao M.size c, .int .i64 0]) ∧ PD B w' d (cntM M) ∧ Own8 w.heap.size w' M.size (.slice ao M.size c) (lastM M p) ∧ Dfr B w w'
  else r = .returned (.tuple #[.slice none 0 0, .int .i64 24]) ∧ w.grownBy w' none
set_option maxHeartbeats 2000000 in
theorem tread_file {B B1 B2 t f x d p : Nat} {w : World} {T : TV} {F : FV} {M : SM} (h : TxnAt B w t f (some x)) (hx : DraftAt B w x M.size T) (hf : FileAt B1 w f d F) (hd : PD B2 w d M) (hp : p < 4294967296) (hk : p ∉ T.K)
    (hF : Fine M) (hn : M.size ≤ 4096) (hc : M.fails = false) (hl : F.mt.e ≤ M.pg.length) :
    Calls Tryz.prog 36 #[.pointer (some ⟨t, 0, none⟩), .int .u32 (p : Int)] w fun r w' => TReadR B2 w d M F.mt.e T.sp.fr p r w' := by
  have HS := Lib.hid (state_live h)
  obtain ⟨c0, c1, _⟩ := cells2 h.2
  simp only [Option.map_some] at c1
  obtain ⟨_, Bs, mb, hb, _, _, _, hsp, V, hown, hsr, h32, h8⟩ := hx
  obtain ⟨H, hs, hH⟩ := hsp
  obtain ⟨d0, d1, d2⟩ := cells3 hb
  have hz : ∀ w : World, (zeroValue 32).run Tryz.prog w = .ok (.slice none 0 0) w := fun w => by kernel_rfl
  have hhas : Maps.has (pgD T.K V) (keyL p) = false := by rw [has_pgD]; simpa using hk
  have HFR := Lib.hid (fresh_any w Bs T.sp hs p hp)
  have HRD := Lib.hid (fun W (g : w.grownBy W none) => fread_any (p := p) (hf.new g) (hd.new g) hF hn hc hl hp (p : Int) rfl)
  have HB := Lib.hid hb
  have HT := Lib.hid h.2
  unfold TReadR
  unfold FReadR at HRD
  generalize cntM M = M1 at HRD ⊢
  generalize lastM M p = LL at HRD ⊢
  clear hb h h8 hk hf hd hF hc hl hs hH hsr
  by_cases hfr : p ∈ T.sp.fr
  · have hd1 : decide (p ∈ T.sp.fr) = true := by simpa using hfr
    rw [hd1] at HFR
    simp only [if_neg (show ¬ (p ∉ T.sp.fr ∧ 2 ≤ p ∧ p < F.mt.e) from fun k => k.1 hfr)]
    clear hfr hd1 HRD
    go_enter Tryz.func36, Tryz.ntmps36
    go_wp2_with (first
      | (go_at_call 58; ((with_reducible refine HS.out.mono ?_); rintro r w1 ⟨rfl, rfl⟩))
      | (at_lookup; refine wpList_lookup_own_ok _ rfl _ _ 129 rfl 42 32 lawP Tryz.underlying129 heldR (hz _) (.held (.slice none 0 0)) [] rfl mb T.K.length _ rfl hown _ _ rfl (keyP hp) ?_; intro v ps hv; clear hv)
      | (go_at_call 82; ((with_reducible refine HFR.out.mono ?_); rintro r w2 ⟨rfl, hg⟩); have HG := Lib.hid hg; clear hg)
      | go_in)
    go_ret2
    exact ⟨rfl, HG.out⟩
  · have hd1 : decide (p ∈ T.sp.fr) = false := by simpa using hfr
    rw [hd1] at HFR
    have HNF := Lib.hid hfr
    clear hfr hd1
    by_cases hr : 2 ≤ p ∧ p < F.mt.e
    · simp only [if_pos (show p ∉ T.sp.fr ∧ 2 ≤ p ∧ p < F.mt.e from ⟨HNF.out, hr⟩)]
      simp only [if_pos hr] at HRD
      clear hr
      go_enter Tryz.func36, Tryz.ntmps36
      go_wp2_with (first
        | (go_at_call 58; ((with_reducible refine HS.out.mono ?_); rintro r w1 ⟨rfl, rfl⟩))
        | (at_lookup; refine wpList_lookup_own_ok _ rfl _ _ 129 rfl 42 32 lawP Tryz.underlying129 heldR (hz _) (.held (.slice none 0 0)) [] rfl mb T.K.length _ rfl hown _ _ rfl (keyP hp) ?_; intro v ps hv; clear hv)
        | (go_at_call 82; ((with_reducible refine HFR.out.mono ?_); rintro r w2 ⟨rfl, hg⟩); have HG := Lib.hid hg; clear hg c0 c1; obtain ⟨c0, c1, _⟩ := cells2 ((HG.out.block _ (lt_of_block HT.out) (by simp)).trans HT.out))
        | (go_at_call 35; ((with_reducible refine (HRD.out _ HG.out).mono ?_); rintro r w3 ⟨ao, c, rfl, hd, ho, hf⟩); have HD3 := Lib.hid hd; have HO3 := Lib.hid ho; have HF3 := Lib.hid hf; clear hd ho hf)
        | go_in)
      go_ret2
      exact ⟨ao, c, rfl, HD3.out, own_base HO3.out HG.out.size, (dfr_new HG.out).trans HF3.out⟩
    · simp only [if_neg (show ¬ (p ∉ T.sp.fr ∧ 2 ≤ p ∧ p < F.mt.e) from fun k => hr k.2)]
      simp only [if_neg hr] at HRD
      clear hr
      go_enter Tryz.func36, Tryz.ntmps36
      go_wp2_with (first
        | (go_at_call 58; ((with_reducible refine HS.out.mono ?_); rintro r w1 ⟨rfl, rfl⟩))
        | (at_lookup; refine wpList_lookup_own_ok _ rfl _ _ 129 rfl 42 32 lawP Tryz.underlying129 heldR (hz _) (.held (.slice none 0 0)) [] rfl mb T.K.length _ rfl hown _ _ rfl (keyP hp) ?_; intro v ps hv; clear hv)
        | (go_at_call 82; ((with_reducible refine HFR.out.mono ?_); rintro r w2 ⟨rfl, hg⟩); have HG := Lib.hid hg; clear hg c0 c1; obtain ⟨c0, c1, _⟩ := cells2 ((HG.out.block _ (lt_of_block HT.out) (by simp)).trans HT.out))
        | (go_at_call 35; ((with_reducible refine (HRD.out _ HG.out).mono ?_); rintro r w3 ⟨rfl, rfl⟩))
        | go_in)
      go_ret2
      exact ⟨rfl, HG.out⟩

/-- A new page. -/
def newT (T : TV) (b : List Int) : TV × Nat × Int := if (takeM T.sp).2.2 = 0 then ({ T with sp := (takeM T.sp).1, K := ins (takeM T.sp).2.1 T.K, C := updC T.C (takeM T.sp).2.1 b }, (takeM T.sp).2.1, 0) else ({ T with sp := (takeM T.sp).1 }, 0, (takeM T.sp).2.2)
set_option maxHeartbeats 1000000 in
theorem tnew_len {B B1 B2 t f d n c : Nat} {x : Option Nat} {ao : Option Addr} {w : World} {F : FV} {M : SM} (h : TxnAt B w t f x) (hf : FileAt B1 w f d F) (hd : PD B2 w d M) (hn : n ≠ M.size) :
    Calls Tryz.prog 14 #[.pointer (some ⟨t, 0, none⟩), .slice ao n c] w fun r w' => r = .returned (.tuple #[.int .u32 0, .int .i64 1]) ∧ w = w' := by
  have HK := Lib.hid (tsize_any h hf hd)
  have hne : ¬ (n : Int) = (M.size : Int) := by omega
  go_enter Tryz.func14, Tryz.ntmps14
  go_wp2_with (first
    | (go_at_call 38; ((with_reducible refine HK.out.mono ?_); rintro r w1 ⟨rfl, rfl⟩)))
  go_ret2
  exact ⟨rfl, rfl⟩
set_option maxHeartbeats 1000000 in
theorem tnew_over {B B1 B2 t f d c : Nat} {ao : Option Addr} {w : World} {F : FV} {M : SM} (h : TxnAt B w t f none) (hf : FileAt B1 w f d F) (hd : PD B2 w d M) :
    Calls Tryz.prog 14 #[.pointer (some ⟨t, 0, none⟩), .slice ao M.size c] w fun r w' => r = .returned (.tuple #[.int .u32 0, .int .i64 34]) ∧ w = w' := by
  have HK := Lib.hid (tsize_any h hf hd)
  have HS := Lib.hid (state_over h)
  generalize M.size = S at HK ⊢
  go_enter Tryz.func14, Tryz.ntmps14
  go_wp2_with (first
    | (go_at_call 38; ((with_reducible refine HK.out.mono ?_); rintro r w1 ⟨rfl, rfl⟩))
    | (go_at_call 58; ((with_reducible refine HS.out.mono ?_); rintro r w1 ⟨rfl, rfl⟩)))
  go_ret2
  exact ⟨rfl, rfl⟩

end Go.Proofs.YtildjdhoeilcfaaGreat

namespace Go.Proofs.YtildjdhoeilcfaaGreat
open Go.RowKit Go.Maps

set_option maxRecDepth 20000 in
set_option maxHeartbeats 4000000 in
theorem tnew_any {B B1 B2 t f x d cc b0 : Nat} {ao : Option Addr} {w : World} {T : TV} {F : FV} {M : SM} {b : List Int} (h : TxnAt B w t f (some x)) (hx : DraftAt B w x M.size T) (hf : FileAt B1 w f d F) (hd : PD B2 w d M)
    (hs : Own8 b0 w M.size (.slice ao M.size cc) b) (hS : M.size ≤ 4096) (hlow : ∀ y ∈ T.sp.us, T.sp.low ≤ y) (hen : T.sp.en ≤ T.sp.lim) (hlim : T.sp.lim ≤ 65536) (hus : ∀ y ∈ T.sp.us, y < 4294967296) (hKl : T.K.length ≤ 100000) :
    Calls Tryz.prog 14 #[.pointer (some ⟨t, 0, none⟩), .slice ao M.size cc] w fun r w' => r = .returned (.tuple #[.int .u32 ((newT T b).2.1 : Int), .int .i64 (newT T b).2.2]) ∧ DraftAt B w' x M.size (newT T b).1 ∧ Kfr KS B w w' := by
  have HK := Lib.hid (tsize_any h hf hd)
  have HS := Lib.hid (state_live h)
  obtain ⟨c0, c1, _⟩ := cells2 h.2
  simp only [Option.map_some] at c1
  obtain ⟨hx0, Bs, mb, hb, h1, h2, h3, hsp, hpg⟩ := hx
  obtain ⟨H, hsa, hH⟩ := hsp
  have KT := Lib.hid (stake_any w Bs T.sp hsa hlow hen hlim)
  have HBX := Lib.hid hb
  have HTX := Lib.hid h.2
  have hbl : b.length = M.size := hs.len
  obtain ⟨d0, d1, d2⟩ := cells3 hb
  have HSO := Lib.hid (fun (r : Ending) (w' : World) (v : Value) (k : OpR Bs H w (takeM T.sp).1 v r w') => SpOk.op hsa hH k)
  have HKF := Lib.hid (fun (w' : World) (k : Sfr Bs w w') => (sfr_kfr hsa k).mono h1)
  have HMB := Lib.hid (fun (w' : World) (k : Sfr Bs w w') => k.block mb hpg.ek.2 (by omega))
  have hp32 : (takeM T.sp).2.1 < 4294967296 := by
    unfold takeM
    split
    · rename_i p r hu
      exact hus p (by rw [hu]; simp)
    · split
      · show 0 < 4294967296; decide
      · show T.sp.en < _; omega
  have HP32 := Lib.hid hp32
  have HPG := Lib.hid hpg
  have HSQ := Lib.hid hs
  clear hsa hH hb hpg h hf hd hlow hen hlim hus hp32 hs
  have HFT : Hid (newT T b = if (takeM T.sp).2.2 = 0 then ({ T with sp := (takeM T.sp).1, K := ins (takeM T.sp).2.1 T.K, C := updC T.C (takeM T.sp).2.1 b }, (takeM T.sp).2.1, 0) else ({ T with sp := (takeM T.sp).1 }, 0, (takeM T.sp).2.2)) := Lib.hid rfl
  generalize newT T b = RR at HFT ⊢
  generalize (takeM T.sp).1 = sp' at KT HSO HFT
  generalize (takeM T.sp).2.1 = p at KT HFT HP32
  generalize (takeM T.sp).2.2 = e at KT HFT
  generalize hMS : M.size = S at HK HPG HSQ hS hbl ⊢
  have ARM : True := trivial
  by_cases he : e = 0
  · subst he
    have HFT2 := Lib.hid (HFT.out.trans (if_pos rfl))
    clear HFT
    go_enter Tryz.func14, Tryz.ntmps14
    go_wp2_with (first
      | (go_at_call 38; ((with_reducible refine HK.out.mono ?_); rintro r w1 ⟨rfl, rfl⟩))
      | (go_at_call 58; ((with_reducible refine HS.out.mono ?_); rintro r w1 ⟨rfl, rfl⟩))
      | (go_at_call 59; ((with_reducible refine KT.out.mono ?_); rintro r w1 hk; have HS1 := Lib.hid (HSO.out _ _ _ hk); obtain ⟨rfl, hk1, hk2⟩ := hk); have HK1 := Lib.hid (HKF.out _ hk2); have HM1 := Lib.hid (HMB.out _ hk2); have HPG1 := Lib.hid (HPG.out.kept HK1.out HM1.out (not_KS (by decide))); have HBX1 := Lib.hid (HK1.out.cells HBX.out (not_KS (by decide))); have HTX1 := Lib.hid (HK1.out.cells HTX.out (not_KS (by decide))); clear hk1 hk2 c0 c1 d0 d1 d2))
    have HCL := Lib.hid (fun W' (g : Kfr (fun x => x = none) 0 w1 W') => (show W'.cell? ⟨t, 1, none⟩ = some (.pointer (some ⟨x, 0, none⟩)) ∧ W'.cell? ⟨x, 2, none⟩ = some (.map (some mb)) from
      ⟨(cells2 (g.cells HTX1.out (by simp))).2.1, (cells3 (g.cells HBX1.out (by simp))).2.2⟩))
    have HSQ1 := Lib.hid ((HK1.out.own8 HSQ.out (not_KS (by decide)) : Own8 b0 w1 S (.slice ao S cc) b))
    have HME := Lib.hid HPG1.out.ek
    obtain ⟨V1, hown1, hsr1, h321, h81⟩ := HPG1.out
    have HOW1 := Lib.hid hown1
    clear hown1
    go_region_held3 (fun w' => w'.cell? ⟨t, 1, none⟩ = some (.pointer (some ⟨x, 0, none⟩)) ∧ w'.cell? ⟨x, 2, none⟩ = some (.map (some mb)))
      (first | (with_reducible exact (HCL.out _ (Kfr.of (gdrew w1)))) | (with_reducible exact (HCL.out _ (Kfr.of HG2.out))) | (with_reducible exact (HCL.out _ HK3.out)))
      (first
        | (go_at_call 60; have K := clone_any w1.drew w1.heap.size (.slice ao S cc) b HSQ1.out.seq (Nat.le_refl _) (by rw [hbl]; omega); rw [hbl] at K; ((with_reducible refine K.mono ?_); clear K; rintro r w2 ⟨a2, c2, rfl, ho, hg⟩); have HO2 := Lib.hid ho; have HG2 := Lib.hid (gtrans (gdrew w1) hg); clear ho hg; obtain ⟨w3, hrun, hown3, hg3⟩ := World.ownsMap.update (HOW1.out.kept HG2.out (by simp)) lawP Tryz.underlying129 (by unfold maxLen; omega) (key := .int .u32 (p : Int)) (val := .slice a2 S c2) (keyP HP32.out) (show heldR (.slice a2 S c2) = some (.held (.slice a2 S c2), []) from rfl); have HO3 := Lib.hid hown3; have HG3 := Lib.hid hg3; have HME2 := Lib.hid (show ek w2 mb = none by rw [ek_same (HG2.out.block mb HME.out.2 (by simp))]; exact HME.out.1); have HK3 := Lib.hid (Kfr.trans (Kfr.of (P := fun x => x = none) (B := 0) HG2.out) (Kfr.row hg3 (Nat.zero_le _) HME2.out)); have HK3B := Lib.hid (Kfr.trans (Kfr.of (P := fun x => x = none) (B := B) HG2.out) (Kfr.row hg3 h2 HME2.out)); clear hown3 hg3))
    go_wp2
    go_ret2
    have e3 := HO3.out
    rw [pgD_put] at e3
    refine ⟨by rw [HFT2.out]; rfl, ?_, HK1.out.trans (HK3B.out.imp fun t e => .inl e)⟩
    rw [HFT2.out]
    exact ⟨hx0, Bs, mb, HK3.out.cells HBX1.out (by simp), h1, h2, h3, (HS1.out.kfr (Kfr.of (P := fun _ => False) (B := 0) HG2.out) (by simp) (by simp) (by simp) (by simp)).map HG3.out HME2.out h3, _, pg_tight e3, srt_ins hsr1, fun q hq => by
      rcases mem_ins.1 hq with e | e
      · rw [e]; exact HP32.out
      · exact h321 q e, fun q hq => by
      show Own8 0 w3 S (if q = p then _ else V1 q) (if q = p then b else T.C q)
      by_cases e : q = p
      · rw [if_pos e, if_pos e]
        exact (Kfr.row (P := fun x => x = none) (B := 0) HG3.out (Nat.zero_le _) HME2.out).own8 (own_base HO2.out (Nat.zero_le _)) (by simp)
      · rw [if_neg e, if_neg e]
        exact HK3.out.own8 (h81 q ((mem_ins.1 hq).resolve_left e)) (by simp)⟩
  · have hed2 : (e != 0) = true := by simpa using he
    have HFT2 := Lib.hid (HFT.out.trans (if_neg he))
    clear HFT
    go_enter Tryz.func14, Tryz.ntmps14
    go_wp2_with (first
      | (go_at_call 38; ((with_reducible refine HK.out.mono ?_); rintro r w1 ⟨rfl, rfl⟩))
      | (go_at_call 58; ((with_reducible refine HS.out.mono ?_); rintro r w1 ⟨rfl, rfl⟩))
      | (go_at_call 59; ((with_reducible refine KT.out.mono ?_); rintro r w1 hk; have HS1 := Lib.hid (HSO.out _ _ _ hk); obtain ⟨rfl, hk1, hk2⟩ := hk); have HK1 := Lib.hid (HKF.out _ hk2); have HM1 := Lib.hid (HMB.out _ hk2); have HPG1 := Lib.hid (HPG.out.kept HK1.out HM1.out (not_KS (by decide))); have HBX1 := Lib.hid (HK1.out.cells HBX.out (not_KS (by decide))); clear hk1 hk2))
    go_ret2
    refine ⟨by rw [HFT2.out]; rfl, ?_, HK1.out⟩
    rw [HFT2.out]
    exact ⟨hx0, Bs, mb, HBX1.out, h1, h2, h3, HS1.out, HPG1.out⟩

end Go.Proofs.YtildjdhoeilcfaaGreat

namespace Go.Proofs.YtildjdhoeilcfaaGreat
open Go.RowKit Go.Maps

theorem RcOwns.rsqT {base : Nat} {w : World} {lv : Value} {es : List (Value × Rc)} (h : RcOwns base w lv es) : RSq (fun b => base ≤ b ∧ (ek w b = some 141 ∨ ek w b = some 42)) w lv (es.map (·.2)) := by
  have hr := h.row
  rcases h.row.2 with ⟨hv, hn⟩ | ⟨q, cap, cur, hv, hb, hq, hnc, hcm, hcs, ht⟩
  · rw [List.eq_nil_of_length_eq_zero hn]
    rw [hv]; exact rsq_nil _ _
  · refine ⟨some ⟨q, 0, none⟩, cap, by rw [hv]; simp, by simpa using hnc, hcm, fun hne => ⟨q, 0, rfl, ⟨hb, .inl (ek_of hq)⟩, fun i x hx => ?_⟩⟩
    rw [List.getElem?_map] at hx
    obtain ⟨y, hy, rfl⟩ := Option.map_eq_some_iff.1 hx
    obtain ⟨c0, c1⟩ := flat2 es i y hy
    obtain ⟨g1, g3⟩ := h.each y (List.mem_of_getElem? hy)
    have hc := hr.cells (g := q) (by rw [hv]; rfl)
    rw [Nat.zero_add]
    have ht := own_tag g1.1
    refine ⟨?_, g3, y.1, ?_, (PSq.owned g1.1 g1.2).imp fun b e _ => ⟨e.1, .inr (ek_tag (ht b e.2).2.2)⟩⟩
    · have := hc _ _ c0; rwa [Addr.add_lit, Nat.zero_add] at this
    · have := hc _ _ c1; rwa [Addr.add_lit, Nat.zero_add] at this
theorem nw_ok {B en lim old : Nat} {w : World} {l : List Rc} {wv : Value} {es : List (Value × Rc)} (h : NwAt B w en lim old l wv es) : SpOk B w (spOf en lim old l) := by
  have hr := h.rows.rsqT
  rw [h.same] at hr
  exact ⟨fun b => ek w b = some 141 ∨ ek w b = some 42, ⟨wv, h.fiv, hr⟩, fun b hb => hb⟩
theorem spok_pos {B : Nat} {w : World} {M : Sp} (h : SpOk B w M) : B + 5 ≤ w.heap.size := by
  obtain ⟨H, ⟨wv, hf, _⟩, _⟩ := h
  exact hf.lt
theorem five_blocks {w w1 : World} {a b c : Obj} (h : w1 = ((w.alloc a).alloc b).alloc c) : w1.heap[w.heap.size]? = some a ∧ w1.heap[w.heap.size + 1]? = some b ∧ w1.heap[w.heap.size + 2]? = some c ∧ w.grownBy w1 none := by
  subst h
  have e : ((w.alloc a).alloc b).heap.size = w.heap.size + 2 := by simp
  have k := lit_block ((w.alloc a).alloc b) c
  rw [e] at k
  exact ⟨keep_alloc1 (two_lit0 _ _ _) _, keep_alloc1 (two_lit1 _ _ _) _, k, gtrans (two_grown _ _ _) (World.grownBy_alloc _ _ _)⟩

set_option maxHeartbeats 1000000 in
theorem begin_nil (w : World) (o : Int) : Calls Tryz.prog 12 #[.pointer none, .int .u64 o] w fun r w' => r = .returned (.tuple #[.pointer none, .int .i64 1]) ∧ w = w' := by
  go_enter Tryz.func12, Tryz.ntmps12
  go_wp2
  go_ret2
  exact ⟨rfl, rfl⟩
set_option maxHeartbeats 1000000 in
theorem begin_stuck {B f d : Nat} {w : World} {F : FV} (h : FileAt B w f d F) (hs : F.st = true) (o : Int) : Calls Tryz.prog 12 #[.pointer (some ⟨f, 0, none⟩), .int .u64 o] w fun r w' => r = .returned (.tuple #[.pointer none, .int .i64 34]) ∧ w = w' := by
  obtain ⟨hB, pa, pc, la, lc, hb, _⟩ := h
  obtain ⟨c0, c1, c2, c3, c4, c5, c6, c7⟩ := fcells8 hb
  rw [hs] at c7
  clear hb
  go_enter Tryz.func12, Tryz.ntmps12
  go_wp2
  go_ret2
  exact ⟨rfl, rfl⟩
def BeginR (B : Nat) (w : World) (f S : Nat) (T : TV) (r : Ending) (w' : World) : Prop := ∃ t x, r = .returned (.tuple #[.pointer (some ⟨t, 0, none⟩), .int .i64 0]) ∧ TxnAt B w' t f (some x) ∧ DraftAt B w' x S T ∧ w.grownBy w' none
set_option maxRecDepth 20000 in
set_option maxHeartbeats 8000000 in
theorem begin_any {B B2 f d o : Nat} {w : World} {F : FV} {M : SM} (h : FileAt B w f d F) (hd : PD B2 w d M) (hs : F.st = false) (hps : F.ps.length ≤ 100000) (ht : 1 ≤ F.mt.t) (ht2 : F.mt.t < 18446744073709551615) (ho : o < 18446744073709551616) (he : 2 ≤ F.mt.e) (he2 : F.mt.e ≤ M.limit) (hl : M.limit ≤ 65536) (hr : right (gatherL F.ps) F.mt.e = true) (S : Nat) (C : Nat → List Int) (x : Int) (hx : x = (o : Int)) :
    Calls Tryz.prog 12 #[.pointer (some ⟨f, 0, none⟩), .int .u64 x] w fun r w' => BeginR w.heap.size w f S ⟨F.mt.t + 1, spOf F.mt.e M.limit (min o (F.mt.t - 1)) (gatherL F.ps), [], C⟩ r w' := by
  subst hx
  have HREC := Lib.hid (fun W (g : w.grownBy W none) => frecords_any (h.new g) hps)
  have HLIM := Lib.hid (fun W (g : w.grownBy W none) => (hd.new g).dlimit)
  obtain ⟨old, hold⟩ : ∃ old, old = min o (F.mt.t - 1) := ⟨_, rfl⟩
  have HNEW := Lib.hid (fun W R ao n c (k : RSq R W (.slice ao n c) (gatherL F.ps)) => snew_good W R ao n c F.mt.e M.limit old (gatherL F.ps) k he he2 hl hr (by omega))
  have HMIN := Lib.hid (show min (o : Int) ((F.mt.t - 1 : Nat) : Int) = (old : Int) by omega)
  rw [← hold]
  obtain ⟨hB, pa, pc, la, lc, hb, _⟩ := h
  generalize gatherL F.ps = rs at HREC HNEW ⊢
  obtain ⟨mt, ps, ls, st⟩ := F
  obtain ⟨T, e, m, fr⟩ := mt
  simp only at hs ht ht2 he he2 HREC HNEW HMIN
  have HB := Lib.hid hb
  obtain ⟨c0, c1, c2, c3, c4, c5, c6, c7⟩ := fcells8 hb
  simp only [hs] at c7
  have HT1 := Lib.hid (show (T : Int) - 1 = ((T - 1 : Nat) : Int) by omega)
  have HT2 := Lib.hid (show IntKind.u64.wrap ((T - 1 : Nat) : Int) = ((T - 1 : Nat) : Int) from IntWalk.u64_in _ ⟨by omega, by omega⟩)
  have HTX := Lib.hid (show IntKind.u64.wrap ((T : Int) + 1) = ((T + 1 : Nat) : Int) from IntWalk.u64_in _ ⟨by omega, by omega⟩)
  have HLW := Lib.hid (show IntKind.u32.wrap (M.limit : Int) = (M.limit : Int) from IntWalk.u32_in _ ⟨by omega, by omega⟩)
  clear hb hd hold hr ho he he2 hps
  have hmm := @run_makeMap Tryz.prog
  go_enter Tryz.func12, Tryz.ntmps12
  go_wp2
  have hm0 := lit_block w (.cells #[.int .u64 (T : Int), .int .u32 (e : Int), .int .u32 (m : Int), .int .u32 (fr : Int)] 44)
  have hg0 : w.grownBy (w.alloc (.cells #[.int .u64 (T : Int), .int .u32 (e : Int), .int .u32 (m : Int), .int .u32 (fr : Int)] 44)) none := World.grownBy_alloc _ _ _
  generalize w.alloc (.cells #[.int .u64 (T : Int), .int .u32 (e : Int), .int .u32 (m : Int), .int .u32 (fr : Int)] 44) = W at hm0 hg0 ⊢
  have HG0 := Lib.hid hg0
  have HCL := Lib.hid (fun W' (g : W.grownBy W' none) => (show W'.cell? ⟨w.heap.size, 0, none⟩ = some (.int .u64 (T : Int)) ∧ W'.cell? ⟨w.heap.size, 1, none⟩ = some (.int .u32 (e : Int)) ∧ W'.cell? ⟨f, 0, none⟩ = some (.pointer (some ⟨d, 0, none⟩)) from
    ⟨(mt_cells ((g.block _ (lt_of_block hm0) (by simp)).trans hm0)).1, (mt_cells ((g.block _ (lt_of_block hm0) (by simp)).trans hm0)).2.1, (fcells8 (((gtrans hg0 g).block _ (lt_of_block HB.out) (by simp)).trans HB.out)).1⟩))
  clear hm0 hg0 c0 c1 c2 c3 c4 c5 c6 c7
  have HTW := Lib.hid (show IntKind.u64.wrap ((T : Int) - 1) = ((T - 1 : Nat) : Int) by rw [HT1.out]; exact HT2.out)
  go_region_held3 (fun W' => W'.cell? ⟨w.heap.size, 0, none⟩ = some (.int .u64 (T : Int)) ∧ W'.cell? ⟨w.heap.size, 1, none⟩ = some (.int .u32 (e : Int)) ∧ W'.cell? ⟨f, 0, none⟩ = some (.pointer (some ⟨d, 0, none⟩)))
    (first | (with_reducible exact (HCL.out _ (gdrew W))) | (with_reducible exact (HCL.out _ HG3.out)) | (with_reducible exact (HCL.out _ HG4.out)))
    (first
      | (go_at_call 57; ((with_reducible refine (HLIM.out _ (gtrans HG0.out (gdrew W))).mono ?_); rintro r w2 ⟨rfl, rfl⟩))
      | (go_at_call 32; ((with_reducible refine (HREC.out _ (gtrans HG0.out (gdrew W))).mono ?_); rintro r w3 ⟨v, es, rfl, ho, he, hg⟩); have HG3 := Lib.hid (gtrans (gdrew W) hg); have hrs := ho.rsq; rw [he] at hrs; obtain ⟨a3, c3, e3⟩ := hrs.shape; subst e3; have HO3 := Lib.hid hrs; clear ho he hg hrs)
      | (go_at_call 56; rw [HTW.out, HLW.out, HMIN.out]; ((with_reducible refine (HNEW.out w3 _ _ _ _ HO3.out).mono ?_); rintro r w4 ⟨Bs, wv, es4, rfl, hb4, hn4, hg4⟩); have HG4 := Lib.hid (gtrans HG3.out hg4); have HB4 := Lib.hid (Nat.le_trans HG3.out.size hb4); have HN4 := Lib.hid (nw_ok hn4); clear hb4 hn4 hg4))
  all_goals
    have hT9 := HTX.out
    obtain ⟨q0, q1, q2⟩ := HCL.out _ HG4.out
    have hmm := @run_makeMap Tryz.prog
    go_wp2
    go_ret2
    clear hmm
    obtain ⟨k0, k1, k2, kg⟩ := five_blocks (w := w4) rfl (a := .map #[] 0) (b := .cells #[.int .u64 ((T + 1 : Nat) : Int), .pointer (some ⟨Bs + 4, 0, none⟩), .map (some w4.heap.size)] 131) (c := .cells #[.pointer (some ⟨f, 0, none⟩), .pointer (some ⟨w4.heap.size + 1, 0, none⟩)] 133)
    have hps := pgs_made w4 S C
    have kk : (w4.alloc (.map #[] 0)).grownBy (((w4.alloc (.map #[] 0)).alloc (.cells #[.int .u64 ((T + 1 : Nat) : Int), .pointer (some ⟨Bs + 4, 0, none⟩), .map (some w4.heap.size)] 131)).alloc (.cells #[.pointer (some ⟨f, 0, none⟩), .pointer (some ⟨w4.heap.size + 1, 0, none⟩)] 133)) none := two_grown _ _ _
    have hpp := spok_pos HN4.out
    have hb4 := HB4.out
    have hgs := HG0.out.size
    exact ⟨w4.heap.size + 2, w4.heap.size + 1, rfl, ⟨by omega, k2⟩, ⟨by omega, Bs, w4.heap.size, k1, by omega, by omega, .inr hpp, HN4.out.kfr (Kfr.of (P := fun _ => False) (B := 0) kg) (by simp) (by simp) (by simp) (by simp), hps.kfr (Kfr.of (P := fun _ => False) (B := 0) kk) (by simp) (by simp)⟩, gtrans (gtrans HG0.out HG4.out) kg⟩

end Go.Proofs.YtildjdhoeilcfaaGreat
