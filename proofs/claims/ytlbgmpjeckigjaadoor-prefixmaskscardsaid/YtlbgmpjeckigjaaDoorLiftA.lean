/- An array that came in by value. -/
import Derived.Test.YtlbgmpjeckigjaaDoorLiftP
import Derived.Deep.Slices
namespace Go.Proofs.YtlbgmpjeckigjaaDoor
open Go Go.ChangeShapes Go.WideShapes Go.ChangeAt Go.RowKit

/-- An array of one-cell elements that came in by value: its cells, each with its reading. -/
theorem arr_reads {H : Type} {enc : TypeId × Value → H} {P : Program} {W : World} {base : Nat} {sp : Nat → Bool} {held : Bool} {r : Reach} {b0 : Nat} {t e : TypeId} {n : Nat} {v : Value} {d : DataW H} {p : List MemPlace}
    (hs : P.underlying t = some (.array n e)) (hce : P.cellsOf e = 1) (hn : P.cellsOf t = n) (hv : Value.okWide P W r b0 t v) (h : DataW.Trod enc P W base sp held t v d p) :
    ∃ cs m, v = .agg cs ∧ cs.size = P.cellsOf t ∧ ∀ (i : Nat) c, cs[i]? = some c → ∃ y, DataW.trod enc P W base sp held m e [c] = some y := by
  simp only [Value.okWide, hs] at hv
  obtain ⟨cs, rfl, hsz, _⟩ := hv
  obtain ⟨fuel, hf⟩ := h
  obtain ⟨xs, m, _, _, hl, hlen, hf⟩ := DataW.trod_array hs hf
  refine ⟨cs, m, rfl, hsz, fun i c hc => ?_⟩
  have hi : i < n := by have := (Array.getElem?_eq_some_iff.1 hc).1; omega
  have h1 := hf i hi
  rw [hce, Nat.mul_one, List.getElem?_eq_getElem (by omega)] at h1
  have h2 : ((Value.agg cs).cells.toList.drop i).take 1 = [c] := by
    have hc' : cs.toList[i]? = some c := by simpa using hc
    obtain ⟨hi2, he⟩ := List.getElem?_eq_some_iff.1 hc'
    show (cs.toList.drop i).take 1 = [c]
    rw [List.drop_eq_getElem_cons hi2, he]
    rfl
  rw [h2] at h1
  exact ⟨_, h1⟩
end Go.Proofs.YtlbgmpjeckigjaaDoor
