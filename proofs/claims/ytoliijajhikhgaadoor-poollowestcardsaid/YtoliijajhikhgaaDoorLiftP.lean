/- What the rows of this seat share: a slice of bytes that came in as a list. -/
import Derived.Test.YtoliijajhikhgaaDoorAwake
import Derived.Test.YtoliijajhikhgaaDoorRows
import Derived.ProofKit
import Derived.OpenShut
import Derived.ShutString
import Derived.ChangeOld
import Derived.Below
import Derived.Lib.SmallJoins
namespace Go.Proofs.YtoliijajhikhgaaDoor
open Go Go.ChangeShapes Go.WideShapes Go.ChangeAt Go.RowKit
open Go.ChangeMaps (open_string shut_string)

theorem own : ownKnob Tryd.prog.godebug = none := by kernel_rfl
theorem laidOut : laidOutB Tryd.prog = true := by kernel_rfl

/-- A slice of bytes that came in, as a list. -/
theorem isB_of_reads {H : Type} {enc : TypeId × Value → H} {W : World} {fuel : Nat} {a : Option Addr} {len cap : Nat} {d : DataW H} {p : List MemPlace} {sp : Nat → Bool} {b : Bool}
    (hf : DataW.trod enc Tryd.prog W 0 sp b fuel 81 (Value.slice a len cap).cells.toList = some (d, p)) : ∃ l, IsB W (.slice a len cap) l := by
  rcases open_ints Tryd.underlying81 Tryd.underlying5 (by kernel_rfl) hf with ⟨hcs, _⟩ | ⟨x, l, c, zs, hcs, _, hl, hm, hz, _, hcell, hwz⟩
  · simp [Value.cells] at hcs
    obtain ⟨rfl, rfl, rfl⟩ := hcs
    exact ⟨[], IsB.nil W⟩
  · simp [Value.cells] at hcs
    obtain ⟨rfl, rfl, rfl⟩ := hcs
    have hzl : len ≤ zs.length := by rw [hz]; split <;> omega
    have hll : ((zs.take len).map fun z => UInt8.ofNat z.toNat).length = len := by simp; omega
    refine ⟨(zs.take len).map fun z => UInt8.ofNat z.toNat, some x, cap, by rw [hll], by omega, hm, fun hp => ?_⟩
    rw [hll] at hp
    have h0 := hcell 0 (by omega)
    have hspot : x.spot = none := by simpa [Addr.add] using World.cell?_spot h0
    obtain ⟨b, off, sp⟩ := x
    simp only at hspot
    subst hspot
    refine ⟨b, off, rfl, ?_, fun i hi => ?_⟩
    · have := World.block_lt_of_cell? _ _ h0
      rwa [plain_add] at this
    · rw [hll] at hi
      have h1 := hcell i (by omega)
      rw [plain_add] at h1
      rw [h1]
      have h2 := range_u8 hwz i
      have e1 : byteAt ((zs.take len).map fun z => UInt8.ofNat z.toNat) i = zs.getD i 0 := by
        have hi2 : i < zs.length := by omega
        simp only [byteAt, List.getD, List.getElem?_map, List.getElem?_take, if_pos hi, List.getElem?_eq_getElem hi2, Option.map_some, Option.getD_some]
        rw [List.getElem?_eq_getElem hi2, Option.getD_some] at h2
        rw [UInt8.toNat_ofNat_of_lt' (show zs[i].toNat < 256 by omega)]
        omega
      rw [e1]

/-- The same of one field's cells. -/
theorem isB_of_trod {H : Type} {enc : TypeId × Value → H} {W : World} {fuel : Nat} {v : Value} {x : DataW H × List MemPlace} {sp : Nat → Bool} {b : Bool}
    (hf : DataW.trod enc Tryd.prog W 0 sp b fuel 81 [v] = some x) : ∃ a len cap l, v = .slice a len cap ∧ IsB W (.slice a len cap) l := by
  rcases open_ints Tryd.underlying81 Tryd.underlying5 (by kernel_rfl) hf with ⟨hcs, _⟩ | ⟨ad, l, c, zs, hcs, _⟩
  · simp only [List.cons.injEq, and_true] at hcs
    subst hcs
    exact ⟨_, _, _, [], rfl, IsB.nil W⟩
  · simp only [List.cons.injEq, and_true] at hcs
    subst hcs
    obtain ⟨d, p⟩ := x
    obtain ⟨l, hl⟩ := isB_of_reads (a := some ad) (len := l) (cap := c) (d := d) (p := p) hf
    exact ⟨_, _, _, l, rfl, hl⟩

/-- A struct of one-cell fields that came in by value: its cells, each with its reading. -/
theorem agg_reads {H : Type} {enc : TypeId × Value → H} {P : Program} {W : World} {base : Nat} {sp : Nat → Bool} {held : Bool} {r : Reach} {b0 : Nat} {t : TypeId} {fs : Array Field} {v : Value} {d : DataW H} {p : List MemPlace}
    (hs : P.underlying t = some (.struct fs)) (hone : Go.Deep.oneCellFields P fs = true) (hv : Value.okWide P W r b0 t v) (h : DataW.Trod enc P W base sp held t v d p) :
    ∃ cs n, v = .agg cs ∧ cs.size = P.cellsOf t ∧ ∀ (i : Nat) (f : Field), fs[i]? = some f → ∀ c, cs[i]? = some c → ∃ y, DataW.trod enc P W base sp held n f.type [c] = some y := by
  obtain ⟨cs, rfl, hsz⟩ := okWide_struct hs hv
  obtain ⟨fuel, hf⟩ := h
  obtain ⟨xs, n, _, _, hl, hlen, hf⟩ := DataW.trod_struct hs hf
  refine ⟨cs, n, rfl, hsz, fun i f hi c hc => ?_⟩
  obtain ⟨o, k⟩ := Go.Deep.hone_of hone i f hi
  have h1 := hf i f hi
  have hlt : i < xs.length := by rw [hlen]; exact (Array.getElem?_eq_some_iff.1 hi).1
  rw [o, k, List.getElem?_eq_getElem hlt] at h1
  have h2 : ((Value.agg cs).cells.toList.drop i).take 1 = [c] := by
    have hc' : cs.toList[i]? = some c := by simpa using hc
    obtain ⟨hi2, he⟩ := List.getElem?_eq_some_iff.1 hc'
    show (cs.toList.drop i).take 1 = [c]
    rw [List.drop_eq_getElem_cons hi2, he]
    rfl
  rw [h2] at h1
  exact ⟨_, h1⟩
theorem array5 {α : Type} {cs : Array α} (h : cs.size = 5) : ∃ c0 c1 c2 c3 c4, cs = #[c0, c1, c2, c3, c4] := by
  obtain ⟨l⟩ := cs
  match l, h with
  | [c0, c1, c2, c3, c4], _ => exact ⟨c0, c1, c2, c3, c4, rfl⟩
end Go.Proofs.YtoliijajhikhgaaDoor
