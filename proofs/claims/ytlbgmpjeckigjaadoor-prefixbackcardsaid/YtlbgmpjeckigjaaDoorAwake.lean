/- The live examples of layer 1's statements hold. -/
import Derived.Test.YtlbgmpjeckigjaaDoorOct
namespace Go.Proofs.YtlbgmpjeckigjaaDoor
open Go Go.RowKit

theorem isB_built (w : World) (l : List UInt8) (cs : Array Value) (hcs : cs = (byteVals l).toArray) (hm : l.length ≤ 1000) :
    IsB (w.alloc (.cells cs 5)) (.slice (some ⟨w.heap.size, 0, none⟩) l.length l.length) l := by
  subst hcs
  exact IsB.of_row (heap_alloc_new w _) (by unfold maxLen; omega)
theorem tab_below {P : Program} {w w' : World} {name : String} {k : IntKind} {zs : List Int} (h : Lib.TabIs P w name k zs) (hb : Below w.heap.size w w') : Lib.TabIs P w' name k zs := by
  unfold Lib.TabIs World.var? at *
  cases hg : P.globalNamed name with
  | none => simp [hg] at h
  | some g =>
    simp only [hg, Option.bind_some] at h ⊢
    have hlt : g < w.heap.size := by
      rcases Nat.lt_or_ge g w.heap.size with h1 | h1
      · exact h1
      · rw [Array.getElem?_eq_none h1] at h; simp at h
    rw [hb.block g hlt]
    exact h
theorem built123 : (#[Value.int .u8 1, .int .u8 2, .int .u8 3] : Array Value) = (byteVals [1, 2, 3]).toArray := rfl
theorem below_up {B : Nat} {w w1 w2 : World} (h : Below B w w1) (h2 : Below w1.heap.size w1 w2) (hB : B ≤ w1.heap.size) : Below B w w2 := h.trans (h2.mono hB)

theorem ex_unhex (w : World) :
    Calls Tryd.prog 93 #[.string ⟨#[70, 102, 48, 48]⟩] w fun e w' => (∃ a' n' cap', e = .returned (.tuple #[.slice a' n' cap', .bool true]) ∧ IsB w' (.slice a' n' cap') [255, 0]) ∧ Below w.heap.size w w' := by
  have := unhex_any ⟨#[70, 102, 48, 48]⟩ w (by decide)
  rw [show unhexL (⟨#[70, 102, 48, 48]⟩ : ByteArray).data.toList = [255, 0] by decide, show unhexB (⟨#[70, 102, 48, 48]⟩ : ByteArray).data.toList = true by decide] at this
  exact this
theorem ex_number (w : World) :
    Calls Tryd.prog 42 #[.string ⟨#[49, 50, 48]⟩, .int .i64 120] w fun e w' => e = .returned (.tuple #[.int .i64 120, .bool true]) ∧ Below w.heap.size w w' := by
  have := number_any ⟨#[49, 50, 48]⟩ 120 w (by decide) (by decide) (by decide)
  rw [show numV (⟨#[49, 50, 48]⟩ : ByteArray).data.toList 120 = 120 by decide, show numB (⟨#[49, 50, 48]⟩ : ByteArray).data.toList 120 = true by decide] at this
  exact this
theorem itoa_m40 : Lib.itoa (-40) = [45, 52, 48] := by
  rw [show (-40 : Int) = -((40 : Nat) : Int) by rfl, Lib.itoa_neg 40 (by decide), Lib.decDigits_two (by decide) (by decide)]
  rfl
theorem ex_digits (w : World) (htab : Lib.TabIs Tryd.prog w "internal/strconv.uint64pow10" .u64 Lib.pow10Tab) :
    Calls Tryd.prog 31 #[.int .i64 (-40)] w fun e w' => e = .returned (.string ⟨#[45, 52, 48]⟩) ∧ Below w.heap.size w w' := by
  have := digits_any (-40) w (by decide) (by decide) htab
  rw [itoa_m40] at this
  exact this

end Go.Proofs.YtlbgmpjeckigjaaDoor
