/- A byte that came in. -/
import Derived.Test.YtgimcapcnidjjaaLiftP
namespace Go.Proofs.Ytgimcapcnidjjaa
open Go Go.ChangeShapes Go.WideShapes Go.RowKit

theorem u8_of4 {x : Int} (h0 : 0 ≤ x) (h1 : x ≤ 255) : ∃ b : UInt8, x = (b.toNat : Int) := by
  refine ⟨UInt8.ofNat x.toNat, ?_⟩
  rw [UInt8.toNat_ofNat_of_lt' (show x.toNat < 256 by omega)]
  omega
theorem trod_u8 {H : Type} {enc : TypeId × Value → H} {W : World} {base : Nat} {sp : Nat → Bool} {held : Bool} {n : Nat} {c : Value} {y : DataW H × List MemPlace} (h : DataW.trod enc Try.prog W base sp held n 5 [c] = some y) : ∃ b : UInt8, c = .int .u8 (b.toNat : Int) := by
  obtain ⟨x, e, _, wb⟩ := DataW.trod_int Try.underlying5 h
  simp only [List.cons.injEq, and_true] at e
  have u := bounds_u8 wb
  obtain ⟨b, rfl⟩ := u8_of4 u.1 u.2
  exact ⟨b, e⟩
end Go.Proofs.Ytgimcapcnidjjaa
