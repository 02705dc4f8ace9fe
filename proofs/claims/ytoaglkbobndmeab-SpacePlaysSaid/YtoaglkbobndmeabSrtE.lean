/-
  slices.reverseRangeOrdered at pages: it turns places within the range alone. Own work.
-/
import Derived.Test.YtoaglkbobndmeabSrtD
namespace Go.Proofs.Ytoaglkbobndmeab
open Go.RowKit Go.Maps

/-- What a call leaves that turns places within [a, b). -/
def Turned (w0 : World) (blk cap : Nat) (d : Array Nat) (a b : Nat) (r : Ending) (w' : World) : Prop :=
  ∃ dk, r = .returned (.tuple #[]) ∧ RowAt w0 blk cap w' dk ∧ Sort.PermIn a b d dk
theorem permIn_swp {a b i j : Nat} {d dk : Array Nat} (h : Sort.PermIn a b d dk) (hi : a ≤ i) (hi2 : i < b) (hj : a ≤ j) (hj2 : j < b) (hb : b ≤ d.size) : Sort.PermIn a b d (Sort.swp dk i j) :=
  Sort.permIn_trans _ _ _ _ _ h (Sort.swp_permIn dk a b i j hi hi2 hj hj2 (by rw [h.1]; exact hb))

set_option maxRecDepth 100000 in
set_option maxHeartbeats 4000000 in
theorem reverse_any (w0 w : World) (blk cap a b : Nat) (d : Array Nat) (h : RowAt w0 blk cap w d) (hb : b ≤ d.size) (hsz : d.size ≤ 100000) (hab : a + 12 < b) :
    Calls Try.prog 46 #[.slice (some ⟨blk, 0, none⟩) d.size cap, .int .i64 (a : Int), .int .i64 (b : Int)] w fun r w' => Turned w0 blk cap d a b r w' := by
  obtain ⟨n, hn⟩ : ∃ n, n = d.size := ⟨_, rfl⟩
  have HR0 := Lib.hid h
  have HN := Lib.hid hn
  rw [← hn] at hb hsz ⊢
  clear h hn
  go_enter Try.func46, Try.ntmps46
  go_wp2
  go_loopg [6, 7] b (fun g iv jv wr => ∃ (i j : Nat) (dk : Array Nat), iv = .int .i64 (i : Int) ∧ jv = .int .i64 (j : Int) ∧ j ≤ g ∧ a ≤ i ∧ j < b ∧ i ≤ b ∧ RowAt w0 blk cap wr dk ∧ Hid (Sort.PermIn a b d dk))
  case atStart => exact ⟨a, b - 1, d, rfl, by congr 1; omega, by omega, Nat.le_refl _, by omega, by omega, HR0.out, Lib.hid (Sort.permIn_refl _ _ _)⟩
  case round =>
    obtain ⟨i, j, dk, rfl, rfl, hg, hai, hjb, hib, hrow, HP⟩ := hrel
    have HR := Lib.hid hrow
    by_cases hij : i < j
    · have hiji : (i : Int) < (j : Int) := by omega
      have hs : dk.size = n := by rw [HP.out.1]; exact HN.out.symm
      have c1 := hrow.cell (show i < dk.size by omega)
      have c2 := hrow.cell (show j < dk.size by omega)
      have f1 := hrow.froz i
      have f2 := hrow.froz j
      have hin : (i : Int) < (n : Int) := by omega
      have hjn : (j : Int) < (n : Int) := by omega
      obtain ⟨x, hx⟩ : ∃ x, dk[i]! = x := ⟨_, rfl⟩
      obtain ⟨y, hy⟩ : ∃ y, dk[j]! = y := ⟨_, rfl⟩
      rw [hx] at c1
      rw [hy] at c2
      have HX := Lib.hid hx
      have HY := Lib.hid hy
      have HS := Lib.hid hs
      have hj1 : (1 : Int) ≤ (j : Int) := by omega
      clear hx hy hrow hs
      go_wp2_with fail
      go_region
      all_goals
        go_wp2
        go_roundg (j - 1)
        case rel => exact ⟨i + 1, j - 1, Sort.swp dk i j, by simp, by congr 1; omega, by omega, by omega, by omega, by omega, HR.out.drew.swap (by rw [HS.out]; omega) (by rw [HS.out]; omega) HY.out HX.out, Lib.hid (permIn_swp HP.out hai (by omega) (by omega) hjb (by rw [← HN.out]; exact hb))⟩
        case measure => omega
    · have hiji : ¬ (i : Int) < (j : Int) := by omega
      go_wp2
      go_end0
      exact ⟨dk, rfl, HR.out, HP.out⟩

end Go.Proofs.Ytoaglkbobndmeab
