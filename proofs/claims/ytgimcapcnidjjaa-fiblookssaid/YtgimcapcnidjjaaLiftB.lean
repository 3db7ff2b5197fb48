/- Sixteen bytes by value that came in. -/
import Derived.Test.YtgimcapcnidjjaaLiftU
namespace Go.Proofs.Ytgimcapcnidjjaa
open Go Go.ChangeShapes Go.WideShapes Go.RowKit

theorem bytes_of_cells : ∀ cs : List Value, (∀ (i : Nat) c, cs[i]? = some c → ∃ b : UInt8, c = .int .u8 (b.toNat : Int)) → ∃ l : List UInt8, cs = byteVals l
  | [], _ => ⟨[], rfl⟩
  | c :: cs, h => by
    obtain ⟨b, rfl⟩ := h 0 c rfl
    obtain ⟨l, rfl⟩ := bytes_of_cells cs (fun i x hx => h (i + 1) x hx)
    exact ⟨b :: l, rfl⟩
theorem trod_arr {H : Type} {enc : TypeId × Value → H} {W : World} {base : Nat} {sp : Nat → Bool} {held : Bool} {n : Nat} {cs : List Value} {y : DataW H × List MemPlace} (hl : cs.length = 16) (h : DataW.trod enc Try.prog W base sp held n 23 cs = some y) :
    ∃ l : List UInt8, l.length = 16 ∧ cs = byteVals l := by
  obtain ⟨xs, m, _, _, _, hxl, hfs⟩ := DataW.trod_array Try.underlying23 h
  have t1 : Try.prog.cellsOf 5 = 1 := by kernel_rfl
  have hb : ∃ l : List UInt8, cs = byteVals l := by
    refine bytes_of_cells cs fun i c hc => ?_
    have hi : i < 16 := by rw [← hl]; exact (List.getElem?_eq_some_iff.1 hc).1
    have h1 := hfs i hi
    rw [t1, Nat.mul_one, List.getElem?_eq_getElem (by omega)] at h1
    have h2 : (cs.drop i).take 1 = [c] := by
      obtain ⟨hlt, he⟩ := List.getElem?_eq_some_iff.1 hc
      rw [List.drop_eq_getElem_cons hlt, he]
      rfl
    rw [h2] at h1
    exact trod_u8 h1
  obtain ⟨l, rfl⟩ := hb
  exact ⟨l, by rw [← hl, byteVals_length], rfl⟩

end Go.Proofs.Ytgimcapcnidjjaa
