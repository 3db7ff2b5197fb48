/- The document's own answers for layer 1: Digit, Hex. -/
import Derived.Test.YtjnejnoojpaifaaDoorRef2
namespace Go.Proofs.YtjnejnoojpaifaaDoor
open Go Go.RowKit

/-- What the document's Digit answers. -/
def rdig (r : Int) : Int := if digB r 16 then digV r 16 else -1
theorem rdig_yes (r d : Int) (h : digW r 16 = d) (hd : d < 16) : rdig r = d := by
  have := digit_fin r 16 d h hd
  unfold rdig; rw [if_pos this.1, this.2]

/-- One sign of the row of digits. -/
theorem digs16_piece : ∀ i : Fin 16, (digs16.data.toList.drop i.val).take 1 = [hexDig i.val] := by decide
theorem digs16_extract (y : Nat) (h : y < 16) : (⟨#[48, 49, 50, 51, 52, 53, 54, 55, 56, 57, 97, 98, 99, 100, 101, 102]⟩ : ByteArray).extract y (y + 1) = ⟨[hexDig y].toArray⟩ := by
  show digs16.extract y (y + 1) = _
  rw [extract_mk, show y + 1 - y = 1 by omega, digs16_piece ⟨y, h⟩]

theorem rdig_no {r : Int} (h : digB r 16 = false) : rdig r = -1 := by unfold rdig; rw [h]; rfl
theorem rdig_ok {r : Int} (h : digB r 16 = true) : rdig r = digV r 16 := by unfold rdig; rw [if_pos h]

end Go.Proofs.YtjnejnoojpaifaaDoor
