/-
  Plain numbers for CrcBurst: bits turned one by one, and that up to 32 of them on end always tell. Own work; of no program.
-/
import Derived.Test.YtnggebohefbopaaCrcM
namespace Go.Proofs.Ytnggebohefbopaa
open Go.RowKit

/-- Bit p of a row turned, the lowest of each byte first. -/
def turn (l : List Int) (p : Nat) : List Int := l.set (p / 8) (((l.getD (p / 8) 0).toNat ^^^ 2 ^ (p % 8) : Nat) : Int)
theorem turn_len (l : List Int) (p : Nat) : (turn l p).length = l.length := by simp [turn]
theorem pow_lt8 (p : Nat) : 2 ^ (p % 8) < 256 := by
  have : 2 ^ (p % 8) < 2 ^ 8 := Nat.pow_lt_pow_right (by decide) (by omega)
  omega
theorem getB {l : List Int} (h : BytN l) (k : Nat) : 0 ≤ l.getD k 0 ∧ l.getD k 0 ≤ 255 := by
  rw [List.getD_eq_getElem?_getD]
  rcases Nat.lt_or_ge k l.length with hk | hk
  · rw [List.getElem?_eq_getElem hk]; exact h _ (List.getElem_mem hk)
  · rw [List.getElem?_eq_none hk]; simp
theorem turn_byt {l : List Int} (h : BytN l) (p : Nat) : BytN (turn l p) := by
  intro x hx
  rcases List.mem_or_eq_of_mem_set hx with hx | rfl
  · exact h x hx
  · have h1 := getB h (p / 8)
    have h2 := pow_lt8 p
    have := Nat.xor_lt_two_pow (x := (l.getD (p / 8) 0).toNat) (y := 2 ^ (p % 8)) (n := 8) (by omega) (by omega)
    omega
theorem leN_set : ∀ (l : List Int) (j d : Nat), BytN l → d < 256 → j < l.length → leN (l.set j (((l.getD j 0).toNat ^^^ d : Nat) : Int)) = leN l ^^^ (2 ^ (8 * j) * d)
  | [], _, _, _, _, h => by simp at h
  | c :: l, 0, d, hb, hd, _ => by
    have hc := hb c (by simp)
    have hx := Nat.xor_lt_two_pow (x := c.toNat) (y := d) (n := 8) (by omega) (by omega)
    have e : ∀ (c : Nat) (l : Nat), c < 256 → c + 256 * l = 2 ^ 8 * l ^^^ c := fun c l hc => by rw [← add_xor 8 l c hc]; omega
    simp only [List.set_cons_zero, List.getD_cons_zero, leN, Int.toNat_natCast, Nat.mul_zero, Nat.pow_zero, Nat.one_mul]
    rw [e _ _ hx, e c.toNat _ (by omega), Nat.xor_assoc]
  | c :: l, j + 1, d, hb, hd, h => by
    have hc := hb c (by simp)
    have ih := leN_set l j d (fun y hy => hb y (by simp [hy])) hd (by simpa using h)
    have e : ∀ (c : Nat) (l : Nat), c < 256 → c + 256 * l = 2 ^ 8 * l ^^^ c := fun c l hc => by rw [← add_xor 8 l c hc]; omega
    have hdist : ∀ p q : Nat, 2 ^ 8 * (p ^^^ q) = 2 ^ 8 * p ^^^ 2 ^ 8 * q := fun p q => by
      have := Nat.shiftLeft_xor_distrib (a := p) (b := q) (i := 8)
      simpa [Nat.shiftLeft_eq, Nat.mul_comm] using this
    simp only [List.set_cons_succ, List.getD_cons_succ, leN]
    rw [ih, e c.toNat _ (by omega), e c.toNat _ (by omega), hdist, ← Nat.mul_assoc, ← Nat.pow_add, show 8 + 8 * j = 8 * (j + 1) by omega, Nat.xor_assoc, Nat.xor_assoc, Nat.xor_comm (2 ^ (8 * (j + 1)) * d)]
theorem leN_turn (l : List Int) (p : Nat) (h : BytN l) (hp : p < 8 * l.length) : leN (turn l p) = leN l ^^^ 2 ^ p := by
  unfold turn
  rw [leN_set l (p / 8) _ h (pow_lt8 p) (by omega), ← Nat.pow_add, show 8 * (p / 8) + p % 8 = p by omega]

/-- The first i bits of B turned from bit k on. -/
def burstN (l : List Int) (k B : Nat) : Nat → List Int
  | 0 => l
  | i + 1 => if B / 2 ^ i % 2 = 1 then turn (burstN l k B i) (k + i) else burstN l k B i
theorem burst_len (l : List Int) (k B : Nat) : ∀ i, (burstN l k B i).length = l.length
  | 0 => rfl
  | i + 1 => by
    simp only [burstN]
    split
    · rw [turn_len]; exact burst_len l k B i
    · exact burst_len l k B i
theorem burst_byt {l : List Int} (h : BytN l) (k B : Nat) : ∀ i, BytN (burstN l k B i)
  | 0 => h
  | i + 1 => by
    simp only [burstN]
    split
    · exact turn_byt (burst_byt h k B i) _
    · exact burst_byt h k B i
theorem leN_burst (l : List Int) (k B : Nat) (h : BytN l) : ∀ i, k + i ≤ 8 * l.length → leN (burstN l k B i) = leN l ^^^ 2 ^ k * (B % 2 ^ i)
  | 0, _ => by simp [burstN, Nat.mod_one]
  | i + 1, hi => by
    have ih := leN_burst l k B h i (by omega)
    have hm : B % 2 ^ (i + 1) = 2 ^ i * (B / 2 ^ i % 2) + B % 2 ^ i := by rw [Nat.mod_pow_succ]; omega
    simp only [burstN]
    split
    · rename_i h1
      have hdist : ∀ p q : Nat, 2 ^ k * (p ^^^ q) = 2 ^ k * p ^^^ 2 ^ k * q := fun p q => by
        have := Nat.shiftLeft_xor_distrib (a := p) (b := q) (i := k)
        simpa [Nat.shiftLeft_eq, Nat.mul_comm] using this
      rw [leN_turn _ _ (burst_byt h k B i) (by rw [burst_len]; omega), ih, hm, h1, add_xor i 1 _ (Nat.mod_lt _ (Nat.two_pow_pos i)), hdist, Nat.mul_one, ← Nat.pow_add, Nat.xor_assoc, Nat.xor_comm (2 ^ k * (B % 2 ^ i))]
    · rename_i h1
      have h0 : B / 2 ^ i % 2 = 0 := by omega
      rw [ih, hm, h0, Nat.mul_zero, Nat.zero_add]

theorem crc_burst (l : List Int) (h : BytN l) (k B : Nat) (hk : k + 32 ≤ 8 * l.length) (hB : B < 4294967296) : crcN (burstN l k B 32) = crcN l ↔ B = 0 := by
  have e := leN_burst l k B h 32 hk
  rw [Nat.mod_eq_of_lt (show B < 2 ^ 32 by omega)] at e
  have hx : more 4294967295 (burstN l k B 32) = more 4294967295 l ^^^ bms (8 * l.length - k) B := by
    rw [more_bms _ _ (burst_byt h k B 32), more_bms _ _ h, burst_len, e, ← Nat.xor_assoc, bms_xor _ _ (2 ^ k * B)]
    congr 1
    have hs : 8 * l.length = k + (8 * l.length - k) := by omega
    generalize 8 * l.length - k = m at hs ⊢
    rw [hs, bms_add, bms_pow]
  unfold crcN
  rw [hx]
  constructor
  · intro e1
    have e2 : more 4294967295 l ^^^ bms (8 * l.length - k) B = more 4294967295 l := by
      have := congrArg (· ^^^ 4294967295) e1
      simpa only [xor_back] using this
    have e3 : bms (8 * l.length - k) B = 0 := by
      have := congrArg (more 4294967295 l ^^^ ·) e2
      simpa only [← Nat.xor_assoc, Nat.xor_self, Nat.zero_xor] using this
    exact bms_eq0 _ hB e3
  · rintro rfl
    rw [bms_zero, Nat.xor_zero]

end Go.Proofs.Ytnggebohefbopaa
