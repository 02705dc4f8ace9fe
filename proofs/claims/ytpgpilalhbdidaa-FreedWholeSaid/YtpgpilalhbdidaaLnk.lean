/-
  Layout: the first bytes of pages that tell a next one; how many pages things need. Own work.
-/
import Derived.Test.YtpgpilalhbdidaaLayH
import Derived.Test.YtpgpilalhbdidaaLayN
import Derived.Test.YtpgpilalhbdidaaLayC
namespace Go.Proofs.Ytpgpilalhbdidaa
open Go.RowKit

/-- The first bytes of a page of a kind, with a next page. -/
def hdK (k : Int) (n : Nat) (x : Int) : List Int := (((([] ++ numB k 1 1) ++ numB 0 1 1) ++ numB (n : Int) 2 2) ++ numB x 4 4)
theorem hdK_is (k : Int) (n : Nat) (x : Int) : hdK k n x = (((([] ++ numB k 1 1) ++ numB 0 1 1) ++ numB (n : Int) 2 2) ++ numB x 4 4) := rfl
theorem hdK_len (k : Int) (n : Nat) (x : Int) : (hdK k n x).length = 8 := by simp [hdK, numB_len]
theorem hdK_byt (k : Int) (n : Nat) (x : Int) : Byt (hdK k n x) := by
  unfold hdK
  intro y hy
  simp only [List.mem_append, List.nil_append] at hy
  rcases hy with ((h | h) | h) | h <;> exact numB_byt _ _ _ y h
/-- Told as it is read. -/
theorem hdK_read {k : Int} (h0 : 0 ≤ k) (h1 : k ≤ 255) (n : Nat) (x : Int) (r : List Int) : hdK k n x ++ r = [k] ++ ([0] ++ (numB (n : Int) 2 2 ++ (numB x 4 4 ++ r))) := by
  rw [hdK, numB1, numB1, show k % 256 = k by omega]
  simp
theorem hdK_inj {k : Int} {n m : Nat} {x y : Int} {r s : List Int} (hn : n ≤ 65535) (hm : m ≤ 65535) (hx0 : 0 ≤ x) (hx1 : x ≤ 4294967295) (hy0 : 0 ≤ y) (hy1 : y ≤ 4294967295) (h : hdK k n x ++ r = hdK k m y ++ s) : n = m ∧ x = y ∧ r = s := by
  obtain ⟨h1, h2⟩ := List.append_inj h (by rw [hdK_len, hdK_len])
  unfold hdK at h1
  obtain ⟨h3, h4⟩ := List.append_inj' h1 (by rw [numB_len, numB_len])
  obtain ⟨_, h5⟩ := List.append_inj' h3 (by rw [numB_len, numB_len])
  have l1 := congrArg beVal h5
  have l2 := congrArg beVal h4
  rw [be2 (by omega) (by omega), be2 (by omega) (by omega)] at l1
  rw [be4 (by omega) (by omega), be4 (by omega) (by omega)] at l2
  exact ⟨by omega, l2, h2⟩
theorem nx_at {bs : List Int} {n : Nat} (h : n ≤ bs.length) : nx bs 0 (n : Int) true = (bs.drop n, 0, bs.take n) := by
  have : ¬ (bs.length : Int) < (n : Int) := by omega
  simp only [nx, if_neg this]
  simp

theorem results_tmp4 {fn : Func} {t u v x : Tmp} (h : fn.results = #[.tmp t, .tmp u, .tmp v, .tmp x]) (tmps : Array Value) (P : Program) (w : World) :
    (results fn tmps).run P w = .ok (.tuple #[tmps.getD t undef, tmps.getD u undef, tmps.getD v undef, tmps.getD x undef]) w := by
  simp [results, h]

set_option maxHeartbeats 1000000 in
theorem lmany_yes (w : World) (n m M : Int) (hn : 1 ≤ n) (hn9 : n ≤ 9223372036854775807) (hm : 1 ≤ m) (hM : (n - 1) / m + 1 = M) :
    Calls Try.prog 32 #[.int .i64 n, .int .i64 m] w fun r w' => r = .returned (.int .i64 M) ∧ w = w' := by
  obtain ⟨Q, hQ⟩ : ∃ Q, Q = (n - 1) / m := ⟨_, rfl⟩
  have hqd : (n - 1).tdiv m = Q := by rw [hQ, Int.tdiv_eq_ediv_of_nonneg (by omega)]
  have hQ0 : 0 ≤ Q := by rw [hQ]; exact Int.ediv_nonneg (by omega) (by omega)
  have hQ9 : Q ≤ n - 1 := by rw [hQ]; exact Int.ediv_le_self _ (by omega)
  have hd1 : decide (n < 1) = false := by simp; omega
  have hw1 : IntKind.i64.wrap (n - 1) = n - 1 := IntWalk.i64_in _ (by omega)
  have hw2 : IntKind.i64.wrap Q = Q := IntWalk.i64_in _ (by omega)
  have hne : ¬ m = 0 := by omega
  have hne2 : (m == 0) = false := by simp; omega
  have hMQ : M = Q + 1 := by omega
  have hQ8 : Q + 1 ≤ 9223372036854775807 := by omega
  subst hMQ
  clear hM hQ
  go_enter Try.func32, Try.ntmps32
  go_wp2
  go_ret
  exact ⟨by simp, rfl⟩
set_option maxHeartbeats 1000000 in
theorem lmany_no (w : World) (n m : Int) (h : n < 1) :
    Calls Try.prog 32 #[.int .i64 n, .int .i64 m] w fun r w' => r = .returned (.int .i64 0) ∧ w = w' := by
  have hd1 : decide (n < 1) = true := by simpa using h
  clear h
  go_enter Try.func32, Try.ntmps32
  go_wp2
  go_ret
  exact ⟨rfl, rfl⟩

set_option maxHeartbeats 1000000 in
theorem wlinked_any (w : World) (kind : Int) (n : Nat) (ni : Int) (hni : ni = (n : Int)) (x : Int) (hk0 : 0 ≤ kind) (hk1 : kind ≤ 255) (hn : n ≤ 1000000) (hx0 : 0 ≤ x) (hx1 : x ≤ 4294967295) :
    Calls Try.prog 41 #[.int .u8 kind, .int .i64 ni, .int .u32 x] w fun r w' => ∃ g, r = .returned (.pointer (some ⟨g, 0, none⟩)) ∧ HW w g (hdK kind n x) w' := by
  subst hni
  have hw64 : IntKind.u64.wrap x = x := by rw [show IntKind.u64.wrap x = x % 18446744073709551616 from rfl]; omega
  go_enter Try.func41, Try.ntmps41
  go_wp2_with (first
    | (go_at_call 56; have K := whead_any w kind n hk0 hk1 hn; ((with_reducible refine K.mono ?_); clear K; rintro r w1 ⟨g, rfl, hh⟩); have HP := Lib.hid hh; clear hh)
    | (go_at_call 42; have K := HP.out.num x 4 4 rfl hx0 (by omega) (by omega) (by omega) (by simp [numB_len]); ((with_reducible refine K.mono ?_); clear K; rintro r w2 ⟨rfl, hh⟩); rw [← hdK_is] at hh; have HP2 := Lib.hid hh; clear hh HP))
  go_ret
  exact ⟨g, rfl, HP2.out⟩

section
variable {w : World} {B : Nat} {ao : Option Addr} {n c0 : Nat} {b r : List Int} {C : Nat} {kind x : Int}
/-- What ReadLinked tells of bytes that begin so. -/
def IsLinked (C : Nat) (x : Int) (rest : List Int) (w w' : World) (r : Ending) : Prop := ∃ g, r = .returned (.tuple #[.pointer (some ⟨g, 0, none⟩), .int .i64 (C : Int), .int .u32 x, .bool true]) ∧ RS g w w' rest 0
/-- What it tells of others. -/
def NoLinked (w w' : World) (r : Ending) : Prop := r = .returned (.tuple #[.pointer none, .int .i64 0, .int .u32 0, .bool false]) ∧ w.grownBy w' none

set_option maxHeartbeats 2000000 in
theorem rlinked_yes (h : Seq B w (.slice ao n c0) b) (hB : B ≤ w.heap.size) (hb : Byt b) (hl : b.length ≤ 140737488355328) (hk0 : 0 ≤ kind) (hk1 : kind ≤ 255) (hC : C ≤ 65535) (hx0 : 0 ≤ x) (hx1 : x ≤ 4294967295) (he : b = hdK kind C x ++ r) :
    Calls Try.prog 46 #[.int .u8 kind, .slice ao n c0] w fun e w' => IsLinked C x r w w' e := by
  have hlen : b.length = 8 + r.length := by rw [he, List.length_append, hdK_len]
  have hn : n = b.length := by obtain ⟨_, _, hv, _⟩ := h; injection hv
  have hn8 : ¬ (n : Int) < 8 := by omega
  have hn9 : n ≤ 140737488355328 := by omega
  have he2 := he
  rw [hdK_read hk0 hk1] at he2
  have X1 := Lib.hid (show nx b 0 1 true = ([0] ++ (numB (C : Int) 2 2 ++ (numB x 4 4 ++ r)), 0, [kind]) by rw [he2]; exact nx_app (by rfl))
  have X2 := Lib.hid (show nx ([0] ++ (numB (C : Int) 2 2 ++ (numB x 4 4 ++ r))) 0 1 true = (numB (C : Int) 2 2 ++ (numB x 4 4 ++ r), 0, [0]) from nx_app (by rfl))
  have X3 := Lib.hid (show nx (numB (C : Int) 2 2 ++ (numB x 4 4 ++ r)) 0 2 true = (numB x 4 4 ++ r, 0, numB (C : Int) 2 2) from nx_app (by rw [numB_len]; rfl))
  have X4 := Lib.hid (show nx (numB x 4 4 ++ r) 0 4 true = (r, 0, numB x 4 4) from nx_app (by rw [numB_len]; rfl))
  have HX := Lib.hid (show beVal (numB x 4 4) = x from be4 hx0 (by omega))
  have H := Lib.hid h
  have HB := Lib.hid hb
  have HL := Lib.hid hl
  have HC := Lib.hid (show (C : Int) = beVal (numB (C : Int) 2 2) from (be2 (by omega) (by omega)).symm)
  have HA1 := Lib.hid (show beVal [kind] = kind by simp [beVal])
  have HA2 := Lib.hid (show beVal [0] = 0 from rfl)
  have hw32 : IntKind.u32.wrap x = x := by rw [show IntKind.u32.wrap x = x % 4294967296 from rfl]; omega
  clear h hb hl he he2 hn hlen
  go_enter Try.func46, Try.ntmps46
  go_wp2_with (first
    | (go_at_call 59; have Kc := rhead_yes (kind := kind) H.out hB HB.out HL.out hk0 hk1 X1.out X2.out X3.out HA1.out HA2.out HC.out hC; ((with_reducible refine Kc.mono ?_); clear Kc; rintro r w3 ⟨g, rfl, hs⟩); have HR3 := Lib.hid hs; clear hs)
    | (go_at_call 60; have Kc := HR3.out.num 4 (by decide) (by decide) X4.out; rw [HX.out] at Kc; ((with_reducible refine Kc.mono ?_); clear Kc; rintro r w4 ⟨rfl, hs, hg⟩); have HR4 := Lib.hid hs; clear hs hg))
  (try simp only [Exit.inBlock, Exit.then])
  refine bodyPost_ret (results_tmp4 rfl _ _ _) rfl ?_
  exact ⟨g, rfl, HR4.out⟩

set_option maxHeartbeats 2000000 in
theorem rlinked_no (h : Seq B w (.slice ao n c0) b) (hB : B ≤ w.heap.size) (hb : Byt b) (hl : b.length ≤ 140737488355328) (hk0 : 0 ≤ kind) (hk1 : kind ≤ 255) (hno : ∀ (C : Nat) (x : Int) (r : List Int), C ≤ 65535 → 0 ≤ x → x ≤ 4294967295 → b ≠ hdK kind C x ++ r) :
    Calls Try.prog 46 #[.int .u8 kind, .slice ao n c0] w fun e w' => NoLinked w w' e := by
  obtain ⟨b1, e1, o1, x1⟩ : ∃ a b' d, nx b 0 1 true = (a, b', d) := ⟨_, _, _, rfl⟩
  obtain ⟨b2, e2, o2, x2⟩ : ∃ a b' d, nx b1 e1 1 true = (a, b', d) := ⟨_, _, _, rfl⟩
  obtain ⟨b3, e3, o3, x3⟩ : ∃ a b' d, nx b2 e2 2 true = (a, b', d) := ⟨_, _, _, rfl⟩
  have hn : n = b.length := by obtain ⟨_, _, hv, _⟩ := h; injection hv
  have hn9 : n ≤ 140737488355328 := by omega
  have H := Lib.hid h
  have HB := Lib.hid hb
  have HL := Lib.hid hl
  have X1 := Lib.hid x1
  have X2 := Lib.hid x2
  by_cases hh : e3 = 0 ∧ beVal o1 = kind ∧ beVal o2 = 0
  · obtain ⟨he, h1, h2⟩ := hh
    subst he
    obtain ⟨c1, bo1, _, _⟩ := nx_both x1 hb
    obtain ⟨c2, bo2, _, _⟩ := nx_both x2 c1
    obtain ⟨c3, bo3, _, _⟩ := nx_both x3 c2
    obtain ⟨r2, p2, l3⟩ := nx_ok x3 (by decide)
    subst r2
    obtain ⟨r1, p1, l2⟩ := nx_ok x2 (by decide)
    subst r1
    obtain ⟨_, p0, l1⟩ := nx_ok x1 (by decide)
    have q1 := num1 bo1 (by omega)
    have q2 := num1 bo2 (by omega)
    have q3 := num2 bo3 (by omega)
    have hC0 := (beVal_bound o3 bo3).1
    have hC1 := beVal_lt o3 bo3 2 (by omega)
    obtain ⟨C, hC⟩ : ∃ x : Nat, (x : Int) = beVal o3 := ⟨(beVal o3).toNat, by omega⟩
    rw [h1, numB1] at q1
    rw [h2, numB1] at q2
    rw [← hC] at q3
    have hbb : b = [kind] ++ ([0] ++ (numB (C : Int) 2 2 ++ b3)) := by rw [p0, p1, p2, ← q1, ← q2, q3, show kind % 256 = kind by omega]; rfl
    have hsh : b.length < 8 := by
      rcases Nat.lt_or_ge b.length 8 with k | k
      · exact k
      · exfalso
        have hb3 : 4 ≤ b3.length := by rw [hbb] at k; simp [numB_len] at k; omega
        have ho4 : Byt (b3.take 4) := fun y hy => c3 y (List.mem_of_mem_take hy)
        have hl4 : (b3.take 4).length = 4 := by rw [List.length_take]; omega
        have hv := beVal_bound _ ho4
        have hv2 := beVal_lt _ ho4 4 (by omega)
        refine hno C (beVal (b3.take 4)) (b3.drop 4) (by omega) hv.1 (by omega) ?_
        rw [hdK_read hk0 hk1, num4 ho4 hl4, List.take_append_drop]
        exact hbb
    have hn8 : (n : Int) < 8 := by omega
    have X3 := Lib.hid x3
    have HA1 := Lib.hid h1
    have HA2 := Lib.hid h2
    have HC := Lib.hid hC
    have hCl : C ≤ 65535 := by omega
    clear h hb hl x1 x2 x3 h1 h2 hno hn c1 c2 c3 bo1 bo2 bo3 p0 p1 p2 l1 l2 l3 q1 q2 q3 hC0 hC1 hC hbb hsh
    go_enter Try.func46, Try.ntmps46
    go_wp2_with (go_at_call 59; have Kc := rhead_yes (kind := kind) H.out hB HB.out HL.out hk0 hk1 X1.out X2.out X3.out HA1.out HA2.out HC.out hCl; ((with_reducible refine Kc.mono ?_); clear Kc; rintro r w3 ⟨g, rfl, hs⟩); have HR3 := Lib.hid hs; clear hs)
    (try simp only [Exit.inBlock, Exit.then])
    refine bodyPost_ret (results_tmp4 rfl _ _ _) rfl ?_
    exact ⟨rfl, HR3.out.gr⟩
  · have X3 := Lib.hid x3
    have HH := Lib.hid hh
    clear h hb hl x1 x2 x3 hno hn hh
    go_enter Try.func46, Try.ntmps46
    go_wp2_with (go_at_call 59; have Kc := rhead_no (kind := kind) H.out hB HB.out HL.out hk0 hk1 X1.out X2.out X3.out HH.out; ((with_reducible refine Kc.mono ?_); clear Kc; rintro r w3 ⟨rfl, hs⟩); have HR3 := Lib.hid hs; clear hs)
    (try simp only [Exit.inBlock, Exit.then])
    refine bodyPost_ret (results_tmp4 rfl _ _ _) rfl ?_
    exact ⟨rfl, HR3.out⟩
end

end Go.Proofs.Ytpgpilalhbdidaa
