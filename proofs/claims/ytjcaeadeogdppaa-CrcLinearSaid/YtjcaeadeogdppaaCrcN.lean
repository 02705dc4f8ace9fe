/-
  Plain numbers for the laws of layer 2: a sum behind its bytes; noughts; sums of three rows; bytes that differ in 32 bits on end. Own work; of no program.
-/
import Derived.Test.YtjcaeadeogdppaaCrcM
namespace Go.Proofs.Ytjcaeadeogdppaa
open Go.RowKit

/-- A number's four bytes, the lowest first. -/
def le4 (x : Nat) : List Int := [((x % 256 : Nat) : Int), ((x / 256 % 256 : Nat) : Int), ((x / 65536 % 256 : Nat) : Int), ((x / 16777216 % 256 : Nat) : Int)]
theorem le4_byt (x : Nat) : BytN (le4 x) := by intro y hy; simp [le4] at hy; omega
theorem le4_num (x : Nat) (h : x < 4294967296) : leN (le4 x) = x := by simp only [le4, leN, Int.toNat_natCast]; omega
theorem crc_ends (l : List Int) (h : BytN l) : crcN (l ++ le4 (crcN l)) = 558161692 := by
  have hy := more_lt l h (x := 4294967295) (by decide)
  have hx := crcN_lt h
  have e : more 4294967295 l = crcN l ^^^ 4294967295 := by unfold crcN; rw [xor_back]
  unfold crcN at *
  rw [more_app, more_bms (le4 _) _ (le4_byt _), le4_num _ hx, show 8 * (le4 (more 4294967295 l ^^^ 4294967295)).length = 32 from rfl, ← Nat.xor_assoc, Nat.xor_self, Nat.zero_xor]
  decide +kernel

/-! Noughts. -/
theorem leN_zeros : ∀ n, leN (List.replicate n 0) = 0
  | 0 => rfl
  | n + 1 => by simp [List.replicate_succ, leN, leN_zeros n]
theorem zeros_byt (n : Nat) : BytN (List.replicate n 0) := by intro y hy; have := (List.mem_replicate.1 hy).2; omega
theorem more_zeros (x n : Nat) : more x (List.replicate n 0) = bms (8 * n) x := by
  rw [more_bms _ _ (zeros_byt n), leN_zeros, Nat.xor_zero, List.length_replicate]

/-- A sum of powers of the step: the bits of q, the highest first. -/
def horner (y : Nat) : List Bool → Nat → Nat
  | [], acc => acc
  | b :: q, acc => horner y q (bm acc ^^^ (if b then y else 0))
theorem horner_xor : ∀ (q : List Bool) (x y a b : Nat), horner (x ^^^ y) q (a ^^^ b) = horner x q a ^^^ horner y q b
  | [], _, _, _, _ => rfl
  | c :: q, x, y, a, b => by
    simp only [horner]
    rw [bm_xor]
    cases c
    · simp only [Bool.false_eq_true, if_false, Nat.xor_zero]; exact horner_xor q x y _ _
    · simp only [if_true]; rw [xor4]; exact horner_xor q x y _ _
/-- What undoes 'eight bits more, xor what was there'. -/
def undo8 : List Bool := (List.range 32).reverse.map (fun i => (3140311070 : Nat).testBit i)
def un8 (y : Nat) : Nat := horner y undo8 0
def lin8 (y : Nat) : Nat := un8 (bms 8 y ^^^ y)
theorem lin8_xor (x y : Nat) : lin8 (x ^^^ y) = lin8 x ^^^ lin8 y := by
  unfold lin8 un8
  rw [bms_xor, xor4, ← horner_xor, Nat.xor_zero]
theorem lin8_bits : ∀ i, i < 32 → lin8 (2 ^ i) = 2 ^ i := by decide +kernel
theorem lin8_id : ∀ (m : Nat), m ≤ 32 → ∀ y, y < 2 ^ m → lin8 y = y
  | 0, _, y, hy => by obtain rfl : y = 0 := by simpa using hy
                      decide +kernel
  | m + 1, hm, y, hy => by
    have ih := lin8_id m (by omega)
    rw [Nat.pow_succ] at hy
    by_cases h : y < 2 ^ m
    · exact ih y h
    · have e : y = 2 ^ m ^^^ (y - 2 ^ m) := by
        have := add_xor m 1 (y - 2 ^ m) (by omega)
        rw [Nat.mul_one] at this
        rw [← this]; omega
      rw [e, lin8_xor, lin8_bits m (by omega), ih _ (by omega)]
theorem fix8 {y : Nat} (hy : y < 4294967296) (h : bms 8 y = y) : y = 0 := by
  have := lin8_id 32 (Nat.le_refl _) y (by omega)
  rw [← this]
  unfold lin8
  rw [h, Nat.xor_self]
  decide +kernel
theorem crc_noughts (l : List Int) (h : BytN l) (n : Nat) : (crcN (l ++ List.replicate n 0) = crcN (l ++ List.replicate (n + 1) 0)) ↔ crcN l = 4294967295 := by
  have hy := more_lt l h (x := 4294967295) (by decide)
  unfold crcN
  rw [more_app, more_app, more_zeros, more_zeros]
  generalize more 4294967295 l = y at hy ⊢
  constructor
  · intro e
    have e1 : bms (8 * n) y = bms (8 * (n + 1)) y := by
      have := congrArg (· ^^^ 4294967295) e
      simpa only [xor_back] using this
    rw [show 8 * (n + 1) = 8 + 8 * n by omega, bms_add] at e1
    have e2 : bms (8 * n) (bms 8 y ^^^ y) = 0 := by rw [bms_xor, e1, Nat.xor_self]
    have e3 := bms_eq0 _ (Nat.xor_lt_two_pow (n := 32) (bms_lt 8 hy) hy) e2
    have e4 := fix8 hy (xor_eq0 e3)
    rw [e4]; decide
  · intro e
    have e1 : y = 0 := by
      have := congrArg (· ^^^ 4294967295) e
      simp only [xor_back] at this
      rw [this]; decide
    rw [e1, bms_zero, bms_zero]

/-! Three rows of one length. -/
def xor3 (a b c : List Int) : List Int := List.zipWith (fun x y => ((x.toNat ^^^ y.toNat : Nat) : Int)) (List.zipWith (fun x y => ((x.toNat ^^^ y.toNat : Nat) : Int)) a b) c
def xor2 (a b : List Int) : List Int := List.zipWith (fun x y => ((x.toNat ^^^ y.toNat : Nat) : Int)) a b
theorem xor2_byt : ∀ (a b : List Int), BytN a → BytN b → BytN (xor2 a b)
  | [], _, _, _ => by intro x hx; simp [xor2] at hx
  | _ :: _, [], _, _ => by intro x hx; simp [xor2] at hx
  | x :: a, y :: b, ha, hb => by
    have hx := ha x (by simp)
    have hy := hb y (by simp)
    intro z hz
    simp only [xor2, List.zipWith_cons_cons, List.mem_cons] at hz
    rcases hz with rfl | hz
    · have := Nat.xor_lt_two_pow (x := x.toNat) (y := y.toNat) (n := 8) (by omega) (by omega)
      omega
    · exact xor2_byt a b (fun u hu => ha u (by simp [hu])) (fun u hu => hb u (by simp [hu])) z hz
theorem xor2_len (a b : List Int) : (xor2 a b).length = min a.length b.length := by simp [xor2]
theorem leN_xor2 : ∀ (a b : List Int), a.length = b.length → BytN a → BytN b → leN (xor2 a b) = leN a ^^^ leN b
  | [], [], _, _, _ => rfl
  | [], _ :: _, h, _, _ => by simp at h
  | _ :: _, [], h, _, _ => by simp at h
  | x :: a, y :: b, h, ha, hb => by
    have hx := ha x (by simp)
    have hy := hb y (by simp)
    have ih := leN_xor2 a b (by simpa using h) (fun u hu => ha u (by simp [hu])) (fun u hu => hb u (by simp [hu]))
    have e : ∀ (c : Nat) (l : Nat), c < 256 → c + 256 * l = 2 ^ 8 * l ^^^ c := fun c l hc => by rw [← add_xor 8 l c hc]; omega
    have hz := Nat.xor_lt_two_pow (x := x.toNat) (y := y.toNat) (n := 8) (by omega) (by omega)
    have hd : ∀ p q : Nat, 2 ^ 8 * (p ^^^ q) = 2 ^ 8 * p ^^^ 2 ^ 8 * q := fun p q => by
      have := Nat.shiftLeft_xor_distrib (a := p) (b := q) (i := 8)
      simpa [Nat.shiftLeft_eq, Nat.mul_comm] using this
    show leN ((((x.toNat ^^^ y.toNat : Nat) : Int)) :: xor2 a b) = _
    simp only [leN, Int.toNat_natCast]
    rw [ih, e _ _ hz, e x.toNat _ (by omega), e y.toNat _ (by omega), xor4, hd]
theorem crc_xor3 (a b c : List Int) (ha : BytN a) (hb : BytN b) (hc : BytN c) (h1 : a.length = b.length) (h2 : b.length = c.length) :
    crcN (xor2 (xor2 a b) c) = crcN a ^^^ crcN b ^^^ crcN c := by
  have hab := xor2_byt a b ha hb
  have hl : (xor2 a b).length = c.length := by rw [xor2_len]; omega
  unfold crcN
  rw [more_bms _ _ (xor2_byt _ c hab hc), more_bms a _ ha, more_bms b _ hb, more_bms c _ hc, leN_xor2 _ _ hl hab hc, leN_xor2 a b h1 ha hb, xor2_len, hl, Nat.min_self, h1, h2]
  generalize leN a = A
  generalize leN b = B
  generalize leN c = C
  generalize 8 * c.length = n
  rw [bms_xor, bms_xor, bms_xor, bms_xor n 4294967295 A, bms_xor n 4294967295 B, bms_xor n 4294967295 C]
  generalize bms n 4294967295 = F
  generalize bms n A = A
  generalize bms n B = B
  generalize bms n C = C
  generalize (4294967295 : Nat) = E
  apply Nat.eq_of_testBit_eq
  intro j
  simp only [Nat.testBit_xor]
  cases F.testBit j <;> cases A.testBit j <;> cases B.testBit j <;> cases C.testBit j <;> cases E.testBit j <;> rfl

end Go.Proofs.Ytjcaeadeogdppaa
