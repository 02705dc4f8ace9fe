/-
  The contract of the document's answer for layer 2: Of of a text, bit by bit. Own work.
-/
import Derived.Test.YtnggebohefbopaaWord
import Derived.Test.YtnggebohefbopaaCrcM
import Derived.Test.YtnggebohefbopaaCrcA
namespace Go.Proofs.Ytnggebohefbopaa
open Go.RowKit

theorem sub_xor (x : Nat) (h : x < 4294967296) : 4294967295 - x = x ^^^ 4294967295 := by
  apply Nat.eq_of_testBit_eq
  intro j
  have h2 := Nat.testBit_two_pow_sub_succ (x := x) (n := 32) (by omega) j
  rw [show (2 : Nat) ^ 32 - (x + 1) = 4294967295 - x by omega] at h2
  have h3 := Nat.testBit_two_pow_sub_one 32 j
  rw [show (2 : Nat) ^ 32 - 1 = 4294967295 from rfl] at h3
  rw [h2, Nat.testBit_xor, h3]
  by_cases hj : j < 32
  · simp [hj]
  · have h4 : x.testBit j = false := Nat.testBit_lt_two_pow (Nat.lt_of_lt_of_le (show x < 2 ^ 32 by omega) (Nat.pow_le_pow_right (by decide) (by omega)))
    simp [hj, h4]

theorem str_get (xs : List Int) (hb : Byt xs) (k : Nat) (hk : k < xs.length) (h : k < (strOfNums xs).size) : ((strOfNums xs)[k]'h).toNat = (xs.getD k 0).toNat := by
  have e : ((strOfNums xs)[k]'h) = UInt8.ofNat (xs.getD k 0).toNat := by
    show (strOfNums xs).data[k] = _
    simp [strOfNums, List.getElem?_eq_getElem hk]
  have := Byt.get hb k
  rw [e, UInt8.toNat_ofNat']; omega

set_option maxHeartbeats 1000000 in
theorem ref_any (w : World) (xs : List Int) (hb : Byt xs) (hl : xs.length ≤ 1000000) :
    Calls Try.prog 31 #[.string (strOfNums xs)] w fun r w' => r = .returned (.int .u32 ((crcN xs : Nat) : Int)) ∧ w = w' := by
  obtain ⟨S, hS⟩ : ∃ S, S = strOfNums xs := ⟨_, rfl⟩
  obtain ⟨n, hn⟩ : ∃ n, S.size = n := ⟨_, rfl⟩
  have hnx : n = xs.length := by rw [← hn, hS, strOfNums_size]
  rw [← hS]
  have HN := Lib.hid hnx
  have HS := Lib.hid hS
  have HB := Lib.hid hb
  have hln : n ≤ 1000000 := by omega
  clear hb hl hnx hS
  go_enter Try.func31, Try.ntmps31
  go_wp2
  go_loopg [3, 4] n (fun g x i wr => ∃ k : Nat, k + g = n ∧ i = .int .i64 k ∧ x = .int .u32 ((more 4294967295 (xs.take k) : Nat) : Int) ∧ wr = w)
  case atStart => exact ⟨0, by omega, rfl, rfl, rfl⟩
  case round =>
    obtain ⟨k, hk, rfl, rfl, rfl⟩ := hrel
    by_cases hlt : k < n
    · obtain ⟨g, rfl⟩ : ∃ g, gk = g + 1 := ⟨gk - 1, by omega⟩
      have hki : (k : Int) < (n : Int) := by omega
      have hkS : k < S.size := by omega
      obtain ⟨z, hz⟩ : ∃ z : Nat, (S[k]'hkS).toNat = z := ⟨_, rfl⟩
      have hzx : z = (xs.getD k 0).toNat := by
        rw [← hz]
        have := str_get xs HB.out k (by rw [← HN.out]; exact hlt) (by rw [← HS.out]; exact hkS)
        rw [← this]
        congr 1
        have h2 := HS.out
        subst h2
        rfl
      have hz8 : z < 256 := by rw [← hz]; exact UInt8.toNat_lt _
      have HZ := Lib.hid hzx
      clear hzx
      have HX := Lib.hid (more_lt (xs.take k) (Byt.take HB.out k) (x := 4294967295) (by decide))
      have HU := Lib.hid (show more 4294967295 (xs.take (k + 1)) = bms 8 (more 4294967295 (xs.take k) ^^^ z) by
        have hkx : k < xs.length := by rw [← HN.out]; exact hlt
        rw [HZ.out, show xs.take (k + 1) = xs.take k ++ [xs.getD k 0] by rw [List.take_succ_eq_append_getElem hkx]; simp [List.getElem?_eq_getElem hkx], more_app]; rfl)
      generalize more 4294967295 (xs.take k) = Y at HX HU ⊢
      have hxr := xorI Y z HX.out (by omega)
      have HZ2 := Lib.hid (show Y ^^^ z < 4294967296 from Nat.xor_lt_two_pow (n := 32) HX.out (by omega))
      go_wp2
      generalize (Y ^^^ z : Nat) = Z at HZ2 HU ⊢
      clear hxr
      go_loopg [3, 5] 8 (fun g x i wq => ∃ e : Nat, e + g = 8 ∧ i = .int .i64 e ∧ x = .int .u32 ((bms e Z : Nat) : Int) ∧ wq = wr)
      case atStart => exact ⟨0, rfl, rfl, rfl, rfl⟩
      case round =>
        obtain ⟨e, he, rfl, rfl, rfl⟩ := hrel
        by_cases he8 : e < 8
        · obtain ⟨f, rfl⟩ : ∃ f, gk = f + 1 := ⟨gk - 1, by omega⟩
          have hei : (e : Int) < 8 := by omega
          have HE := Lib.hid (bms_succ e Z)
          have HV := Lib.hid (bms_lt e HZ2.out)
          generalize bms e Z = V at HE HV ⊢
          have hV := HV.out
          by_cases hodd : V % 2 = 1
          · have h1 : (V : Int) % 2 = 1 := by omega
            have hx : bits .xor .u32 ((V : Int) / 2) 3988292384 = ((V / 2 ^^^ 3988292384 : Nat) : Int) := xorI (V / 2) 3988292384 (by omega) (by omega)
            have HM := Lib.hid (show bm V = V / 2 ^^^ 3988292384 by unfold bm; rw [if_pos hodd])
            clear hodd
            go_wp2_with (rw [hx])
            go_roundg f
            case measure => omega
            case rel => exact ⟨e + 1, by omega, by go_num, by rw [HE.out, HM.out], rfl⟩
          · have h1 : (V : Int) % 2 = 0 := by omega
            have HM := Lib.hid (show bm V = V / 2 by unfold bm; rw [if_neg hodd])
            clear hodd
            go_wp2
            go_roundg f
            case measure => omega
            case rel => exact ⟨e + 1, by omega, by go_num, by rw [HE.out, HM.out]; go_num, rfl⟩
        · obtain rfl : e = 8 := by omega
          go_wp2
          go_roundg g
          case measure => omega
          case rel => exact ⟨k + 1, by omega, by go_num, by rw [HU.out], rfl⟩
    · obtain rfl : k = n := by omega
      have HX := Lib.hid (more_lt xs HB.out (x := 4294967295) (by decide))
      have HF := Lib.hid (show xs.take k = xs by rw [HN.out]; exact List.take_length)
      have HR := Lib.hid (show crcN xs = 4294967295 - more 4294967295 xs by rw [sub_xor _ HX.out]; rfl)
      rw [HF.out]
      generalize more 4294967295 xs = X at HX HR ⊢
      have hX := HX.out
      go_wp2
      go_ret
      exact ⟨by rw [HR.out]; show Ending.returned (.int .u32 _) = _; congr 2; omega, rfl⟩

end Go.Proofs.Ytnggebohefbopaa
