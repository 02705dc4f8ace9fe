/-
  How the operations of CrcLinear's last statement run. Own work.
-/
import Derived.Test.YtjcaeadeogdppaaCrcC
import Derived.Test.YtjcaeadeogdppaaRegion
namespace Go.Proofs.Ytjcaeadeogdppaa
open Go.RowKit

theorem ex_pre (ρ : Operand → Value) (o : Oper) (x h : Operand) (ao : Option Addr) (m c n : Nat) (ho : o.op = .slice 22 x none (some h) none) (hx : ρ x = .slice ao m c) (hh : ρ h = .int .i64 (n : Int)) (hn : n ≤ c) (w : World) :
    (execOp ρ o).run Try.prog w = .ok (.value (.slice ao n c)) w := by
  cases o; simp only at ho; subst ho
  have hni : (n : Int) ≤ (c : Int) := by omega
  go_simp
theorem ex_build1 (ρ : Operand → Value) (o : Oper) (x : Operand) (ao : Option Addr) (m c : Nat) (ho : o.op = .buildSlice 34 1 #[(0, x)]) (hx : ρ x = .slice ao m c) (w : World) :
    (execOp ρ o).run Try.prog w = .ok (.value (.slice (some ⟨w.heap.size, 0, none⟩) 1 1)) (w.alloc (.cells #[.slice ao m c] 22)) := by
  cases o; simp only at ho; subst ho
  go_simp
theorem ex_call1 (ρ : Operand → Value) (o : Oper) (x : Operand) (ts : Array TypeId) (ho : o.op = .call { callee := .value (.func 10), args := #[x], argTypes := ts }) (hf : ρ (.func 10) = .func (.func 10) #[] #[]) (w : World) :
    (execOp ρ o).run Try.prog w = .ok (.enter 10 #[ρ x]) w := by
  cases o; simp only at ho; subst ho
  go_simp
theorem ex_xor (ρ : Operand → Value) (o : Oper) (x y : Operand) (p q : Nat) (t : TypeId) (ho : o.op = .binOp .xor 25 x y t) (hx : ρ x = .int .u32 (p : Int)) (hy : ρ y = .int .u32 (q : Int)) (hp : p < 4294967296) (hq : q < 4294967296) (w : World) :
    (execOp ρ o).run Try.prog w = .ok (.value (.int .u32 ((p ^^^ q : Nat) : Int))) w := by
  cases o; simp only at ho; subst ho
  have hx2 := xorI p q hp hq
  go_simp
theorem ex_eql (ρ : Operand → Value) (o : Oper) (x y : Operand) (p : Int) (t : TypeId) (ho : o.op = .binOp .eql 25 x y t) (hx : ρ x = .int .u32 p) (hy : ρ y = .int .u32 p) (w : World) :
    (execOp ρ o).run Try.prog w = .ok (.value (.bool true)) w := by
  cases o; simp only at ho; subst ho
  go_simp

end Go.Proofs.Ytjcaeadeogdppaa
