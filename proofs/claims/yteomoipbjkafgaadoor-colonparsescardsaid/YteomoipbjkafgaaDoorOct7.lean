/- Hex and Digits of package octet. -/
import Derived.Test.YteomoipbjkafgaaDoorOct6
import Derived.Test.YteomoipbjkafgaaDoorLaws
namespace Go.Proofs.YteomoipbjkafgaaDoor
open Go Go.RowKit

def digs16 : ByteArray := ⟨#[48, 49, 50, 51, 52, 53, 54, 55, 56, 57, 97, 98, 99, 100, 101, 102]⟩
theorem digs16_fin : ∀ i : Fin 16, digs16.data.toList.getD i.val 0 = hexDig i.val := by decide
theorem hexdig_at (y : Int) (h0 : 0 ≤ y) (h1 : y ≤ 15) (w : World) : (Instr.index 9 (.string ⟨#[48, 49, 50, 51, 52, 53, 54, 55, 56, 57, 97, 98, 99, 100, 101, 102]⟩) (.int .u8 y)).run Tryd.prog w = .ok (.int .u8 ((hexDig y.toNat).toNat : Int)) w := by
  show (Instr.index 9 (.string digs16) (.int .u8 y)).run Tryd.prog w = _
  have hsz : digs16.size = 16 := rfl
  rw [run_index_string w 9 digs16 .u8 _ Tryd.underlying9, dif_pos ⟨h0, by rw [hsz]; omega⟩]
  have e := digs16_fin ⟨y.toNat, by omega⟩
  have e2 := str_at digs16 y.toNat (by rw [hsz]; omega)
  rw [e2, byteAt, e]

end Go.Proofs.YteomoipbjkafgaaDoor
