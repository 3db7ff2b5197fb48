/- Single operations by value: two texts joined, bytes as a text, a load, a call: for regions that draw their order. -/
import Derived.Test.YtlbgmpjeckigjaaDoorStr
import Derived.Test.YtlbgmpjeckigjaaDoorAwake
namespace Go.Proofs.YtlbgmpjeckigjaaDoor
open Go Go.RowKit

theorem cat_str (W : World) (A B C : List UInt8) (hC : A ++ B = C) (h : C.length ≤ 1000000) : (binOp .add 9 (.string ⟨A.toArray⟩) (.string ⟨B.toArray⟩)).run Tryd.prog W = .ok (.string ⟨C.toArray⟩) W := by
  have hs := str_append A B
  rw [hC] at hs
  have hl : A.length + B.length ≤ 1000000 := by rw [← List.length_append, hC]; exact h
  clear hC h
  go_simp
  omega
theorem exec_cat {ρ : Operand → Value} {o : Oper} {W : World} (x y : Operand) (t2 : TypeId) (ho : o.op = .binOp .add 9 x y t2) (A B C : List UInt8) (hx : ρ x = .string ⟨A.toArray⟩) (hy : ρ y = .string ⟨B.toArray⟩) (hC : A ++ B = C) (h : C.length ≤ 1000000) :
    (execOp ρ o).run Tryd.prog W = .ok (.value (.string ⟨C.toArray⟩)) W := by
  have h1 := cat_str W A B C hC h
  have hg : (eqGuard .add 9 x y (.string ⟨A.toArray⟩) (.string ⟨B.toArray⟩)).run Tryd.prog W = .ok () W := rfl
  unfold execOp
  simp only [ho, hx, hy, Sem.run_bind, hg, h1, Result.andThen_ok]
  rfl
theorem exec_str {ρ : Operand → Value} {o : Oper} {W : World} (x : Operand) (ho : o.op = .convert 46 9 x) (v : Value) (l : List UInt8) (hx : ρ x = v) (hB : IsB W v l) :
    (execOp ρ o).run Tryd.prog W = .ok (.value (.string ⟨l.toArray⟩)) W := by
  obtain ⟨a, cap, rfl, h5⟩ := id hB
  clear h5
  have h1 := hB.conv (P := Tryd.prog) Tryd.underlying46 Tryd.underlying5 Tryd.underlying9
  unfold execOp
  simp only [ho, hx, Sem.run_bind, h1, Result.andThen_ok]
  rfl
theorem exec_assign {ρ : Operand → Value} {o : Oper} {W : World} {P : Program} (x : Operand) (ho : o.op = .assign x) (v : Value) (hx : ρ x = v) : (execOp ρ o).run P W = .ok (.value v) W := by
  unfold execOp
  simp only [ho, hx]
  rfl
end Go.Proofs.YtlbgmpjeckigjaaDoor
