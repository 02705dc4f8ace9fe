/-
  What SpaceApart walks over, and its code in parts. Own work.
-/
import Derived.Test.YtoaglkbobndmeabSpcAA
import Derived.Test.YtoaglkbobndmeabSrtQ
import Derived.Deep.CutBlock
namespace Go.Proofs.Ytoaglkbobndmeab
open Go.RowKit Go.Maps

theorem OwnP.sfr {B base : Nat} {w w' : World} {v : Value} {ps : List Nat} (h : OwnP base w v ps) (k : Sfr B w w') (hb : B + 5 ≤ base) : OwnP base w' v ps := by
  refine ⟨⟨h.1.1, ?_⟩, h.2⟩
  rcases h.1.2 with hn | ⟨g, cap, cur, rfl, hg, hgg, r⟩
  · exact .inl hn
  · exact .inr ⟨g, cap, cur, rfl, hg, (k.block g (lt_of_block hgg) (.inr (by omega))).trans hgg, r⟩
theorem SpAt.own {B H base size n : Nat} {e : TypeId} {w w' : World} {M : Sp} {v : Value} {xs : List Value} (h : SpAt B H w M) (hr : w.ownsRow base e size v n xs) (k : w.grownBy w' v.ownBlock) (hH : H ≤ base) (hB : B + 5 ≤ base) : SpAt B H w' M := by
  cases hv : v.ownBlock with
  | none => rw [hv] at k; exact h.grown k
  | some r => rw [hv] at k; have := (hr.lt r hv).1; exact h.far k (by omega) (by omega)
theorem take_at {H : Nat} (w : World) (B : Nat) (M M' : Sp) (p : Nat) (e : Int) (h : SpAt B H w M) (hlow : ∀ x ∈ M.us, M.low ≤ x) (hen : M.en ≤ M.lim) (hlim : M.lim ≤ 65536) (ht : takeM M = (M', p, e)) :
    Calls Try.prog 12 #[.pointer (some ⟨B + 4, 0, none⟩)] w fun r w' => OpR B H w M' (.tuple #[.int .u32 (p : Int), .int .i64 e]) r w' := by
  have K := take_any w B M h hlow hen hlim
  rw [ht] at K
  exact K
theorem take_full {H : Nat} (w : World) (B : Nat) (M : Sp) (h : SpAt B H w M) (hlow : ∀ x ∈ M.us, M.low ≤ x) (hen : M.en ≤ M.lim) (hlim : M.lim ≤ 65536) (ht : takeM M = (M, 0, 21)) :
    Calls Try.prog 12 #[.pointer (some ⟨B + 4, 0, none⟩)] w fun r w' => OpR B H w M (.tuple #[.int .u32 0, .int .i64 21]) r w' := take_at w B M M 0 21 h hlow hen hlim ht
theorem give_at {H : Nat} (w : World) (B : Nat) (M M' : Sp) (p : Nat) (e : Int) (h : SpAt B H w M) (hp : p < 4294967296) (ht : giveM M p = (M', e)) :
    Calls Try.prog 14 #[.pointer (some ⟨B + 4, 0, none⟩), .int .u32 (p : Int)] w fun r w' => OpR B H w M' (.int .i64 e) r w' := by
  have K := give_any w B M h p hp
  rw [ht] at K
  exact K
theorem fresh_at {H : Nat} (w : World) (B : Nat) (M : Sp) (p : Nat) (b : Bool) (h : SpAt B H w M) (hp : p < 4294967296) (hb : decide (p ∈ M.fr) = b) :
    Calls Try.prog 16 #[.pointer (some ⟨B + 4, 0, none⟩), .int .u32 (p : Int)] w fun r w' => r = .returned (.bool b) ∧ w.grownBy w' none := by
  subst hb
  exact fresh_any w B M h p hp
theorem end_at {H : Nat} (w : World) (B : Nat) (M : Sp) (E : Nat) (h : SpAt B H w M) (hE : M.en = E) :
    Calls Try.prog 17 #[.pointer (some ⟨B + 4, 0, none⟩)] w fun r w' => r = .returned (.int .u32 (E : Int)) ∧ w = w' := by
  subst hE
  exact end_any w B M h
theorem usable_at {H : Nat} (w : World) (B : Nat) (M : Sp) (n : Nat) (h : SpAt B H w M) (hn : M.us.length = n) :
    Calls Try.prog 21 #[.pointer (some ⟨B + 4, 0, none⟩)] w fun r w' => r = .returned (.int .i64 (n : Int)) ∧ w = w' := by
  subst hn
  exact usable_any w B M h

theorem infoInt : (Try.prog.info? 3).map (fun i => (i.zero, i.size, i.bytes)) = some (some (.int .i64 0), 1, 8) := by kernel_rfl
structure ACore (W : World) (B H : Nat) (v : Value) (rs : List Rc) (M : Sp) (V : Nat → Nat) (wr : World) : Prop where
  hB : B + 5 ≤ H
  hW : W.heap.size ≤ B
  g : W.grownBy wr none
  s : SpAt B H wr M
  w : WhAt wr H V
  l : RSq (fun b => b < B) wr v rs
theorem ACore.put {W wr : World} {B H : Nat} {v : Value} {rs : List Rc} {M : Sp} {V : Nat → Nat} (h : ACore W B H v rs M V wr) {p : Nat} (hp : p < 60) (x : Nat) : ACore W B H v rs M (upd V p x) (wr.setCell ⟨H, p, none⟩ (.int .i64 (x : Int))) := by
  have gs := gset wr ⟨H, p, none⟩ (.int .i64 (x : Int))
  refine ⟨h.hB, h.hW, gnew h.g gs (by have := h.hB; have := h.hW; show W.heap.size ≤ H; omega), h.s.far gs (Nat.le_refl _) h.hB, h.w.put hp x, h.l.kept fun b hb hs => gs.block b hs (fun e => ?_)⟩
  injection e with e
  have := h.hB
  have e2 : b = H := e
  omega
theorem ACore.op {W wr w' : World} {B H : Nat} {v : Value} {rs : List Rc} {M M' : Sp} {V : Nat → Nat} (h : ACore W B H v rs M V wr) (hs : SpAt B H w' M') (hf : Sfr B wr w') : ACore W B H v rs M' V w' :=
  ⟨h.hB, h.hW, hf.grown h.g h.hW, hs, h.w.kept (hf.block H h.w.lt (.inr h.hB)), h.l.kept fun b hb hl => hf.block b hl (.inl hb)⟩
theorem ACore.grown {W wr w' : World} {B H : Nat} {v : Value} {rs : List Rc} {M : Sp} {V : Nat → Nat} (h : ACore W B H v rs M V wr) (k : wr.grownBy w' none) : ACore W B H v rs M V w' :=
  ⟨h.hB, h.hW, gtrans h.g k, h.s.grown k, h.w.kept (k.block H h.w.lt (by simp)), h.l.grown k⟩

/-- The block of a number. -/
def blk (n : Nat) : Code → Option Code
  | .loop c => blk n c
  | .seq a b => match blk n a with
    | some c => some c
    | none => blk n b
  | .block k c => if k = n then some (.block k c) else blk n c
  | .scope c => blk n c
  | .cond _ a b => match blk n a with
    | some c => some c
    | none => blk n b
  | _ => none

noncomputable def apartBody : Code := (Try.f4.body).getD .skip
noncomputable def apartFill : Code := (blk 0 apartBody).getD .skip
noncomputable def apartActs : Code := (blk 4 apartBody).getD .skip
noncomputable def apartCount : Code := (blk 6 apartBody).getD .skip
noncomputable def apartSum : Code := (blk 10 apartBody).getD .skip

end Go.Proofs.Ytoaglkbobndmeab
