/- Texts: an index, two joined; an operation that is wanted. -/
import Derived.Test.YtgimcapcnidjjaaOct
namespace Go.Proofs.Ytgimcapcnidjjaa
open Go Go.RowKit

theorem str_append (a b : List UInt8) : (⟨a.toArray⟩ : ByteArray) ++ ⟨b.toArray⟩ = ⟨(a ++ b).toArray⟩ := by
  apply ByteArray.ext
  simp
theorem index_str (W : World) (l : List UInt8) (k : Nat) (hk : k < l.length) : (Instr.index 9 (.string ⟨l.toArray⟩) (.int .i64 (k : Int))).run Try.prog W = .ok (.int .u8 (byteAt l k)) W := by
  have hz : (⟨l.toArray⟩ : ByteArray).size = l.length := by simp [ByteArray.size]
  rw [run_index_string W _ _ _ _ Try.underlying9, dif_pos ⟨by omega, by rw [hz]; omega⟩]
  congr 2
  rw [byteAt_get l k hk]
  rfl
theorem exec_index {ρ : Operand → Value} {o : Oper} {W : World} (x : Operand) (j : Int) (k : Nat) (hj : j = (k : Int)) (l : List UInt8) (ho : o.op = .index 9 x (.const (.int .i64 j))) (hρ : ρ (.const (.int .i64 j)) = .int .i64 j) (hx : ρ x = .string ⟨l.toArray⟩) (hk : k < l.length) :
    (execOp ρ o).run Try.prog W = .ok (.value (.int .u8 (byteAt l k))) W := by
  subst hj
  unfold execOp
  simp only [ho, hx, hρ, Sem.run_bind, index_str W l k hk, Result.andThen_ok]
  rfl
theorem wpList_index_str {ops : Array Oper} {rest : List Oper} {o : Oper} {a : Act} {w : World} {Q : Exit → Act → World → Prop} (hgd : o.guard = none) (x : Operand) (j : Int) (k : Nat) (hj : j = (k : Int)) (l : List UInt8) (ho : o.op = .index 9 x (.const (.int .i64 j)))
    (hx : a.eval x = .string ⟨l.toArray⟩) (hk : k < l.length) (hR : wpList Try.prog ops Q rest (a.put o.dst (.int .u8 (byteAt l k))) w) : wpList Try.prog ops Q (o :: rest) a w :=
  wpList_plain hgd fun K hK => by
    unfold Oper.wp
    rw [exec_index x j k hj l ho rfl hx hk]
    exact hK _ _ hR
theorem wpList_wanted {P : Program} {ops : Array Oper} {rest : List Oper} {o : Oper} {a : Act} {w : World} {Q : Exit → Act → World → Prop} (hw : Region.wanted o (yielded ops a.tmps) = true) (h : ∀ K : Act → World → Prop, (∀ a w, wpList P ops Q rest a w → K a w) → o.wp P a w K Q) : wpList P ops Q (o :: rest) a w :=
  wpList_step fun K hK => by rw [if_pos hw]; exact h K hK
end Go.Proofs.Ytgimcapcnidjjaa
