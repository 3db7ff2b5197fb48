/- Rows of labels that came in: a slice of spans, as a list. -/
import Derived.Test.YthmcgignejofiaaLiftP
import Derived.Test.YthmcgignejofiaaSp1
namespace Go.Proofs.Ythmcgignejofiaa
open Go Go.ChangeShapes Go.WideShapes Go.RowKit

set_option maxRecDepth 100000 in
theorem spans_of_reads {H : Type} {enc : TypeId × Value → H} {W : World} {fuel : Nat} {a : Option Addr} {len cap : Nat} {x : DataW H × List MemPlace} {sp : Nat → Bool} {b : Bool}
    (hf : DataW.trod enc Try.prog W 0 sp b fuel 22 [Value.slice a len cap] = some x) : ∃ l : List Spn, IsS W (.slice a len cap) l := by
  rcases Go.Deep.open_slice Try.underlying22 hf with ⟨hcs, _⟩ | ⟨ad, len', cap', m, n, D, Pl, hcs, _, hl, hm, hmm, hxx, hx⟩
  · simp only [List.cons.injEq, and_true] at hcs
    cases hcs
    exact ⟨[], IsC.nil W⟩
  · simp only [List.cons.injEq, and_true] at hcs
    cases hcs
    have hlm : len ≤ m := by rw [hmm]; split <;> omega
    have ce : Try.prog.cellsOf 24 = 2 := by kernel_rfl
    have each : ∀ i, i < len → ∃ s : Spn, ∀ j v, (sR s)[j]? = some v → W.cell? (ad.add (i * 2 + j)) = some v := by
      intro i hi
      obtain ⟨cs', h1, h2⟩ := hx i (by omega)
      rw [ce] at h1
      obtain ⟨_, hlen, hcell⟩ := World.cells?_some h1
      obtain ⟨xs, k, _, _, _, hxl, hfs⟩ := DataW.trod_struct Try.underlying24 h2
      have ti : Try.prog.cellsOf 3 = 1 := by kernel_rfl
      match xs, hxl, cs', hlen with
      | [y0, y1], _, [c0, c1], hlen =>
        have g0 : DataW.trod enc Try.prog W 0 sp b k 3 (([c0, c1].drop 0).take (Try.prog.cellsOf 3)) = some y0 := hfs 0 _ rfl
        have g1 : DataW.trod enc Try.prog W 0 sp b k 3 (([c0, c1].drop 1).take (Try.prog.cellsOf 3)) = some y1 := hfs 1 _ rfl
        rw [ti] at g0 g1
        obtain ⟨n0, q0, _, w0⟩ := DataW.trod_int Try.underlying3 g0
        obtain ⟨n1, q1, _, w1⟩ := DataW.trod_int Try.underlying3 g1
        have f0 : c0 = .int .i64 n0 := (List.cons.inj q0).1
        have f1 : c1 = .int .i64 n1 := (List.cons.inj q1).1
        refine ⟨⟨n0, n1⟩, fun j v hv => ?_⟩
        have hj : j < 2 := (List.getElem?_eq_some_iff.1 hv).1
        have e0 := hcell j (by omega)
        rw [Go.Deep.add_add] at e0
        rw [e0, ← hv]
        unfold sR
        rw [f0, f1]
    haveI : Inhabited Spn := ⟨⟨0, 0⟩⟩
    obtain ⟨E, hE⟩ := Go.Deep.choose_lt each
    have hll : ((List.range len).map E).length = len := by simp
    have hfl := sR_all ((List.range len).map E)
    refine ⟨(List.range len).map E, hfl, some ad, cap, by rw [hll], by rw [hll]; exact hl, hm, fun hp => ?_⟩
    rw [hll] at hp
    have h0 := (hE 0 hp) 0 _ rfl
    have hspot : ad.spot = none := by simpa [Addr.add] using World.cell?_spot h0
    obtain ⟨bb, off, s⟩ := ad
    simp only at hspot
    subst hspot
    refine ⟨bb, off, rfl, ?_, fun j v hj => ?_⟩
    · have := World.block_lt_of_cell? _ _ h0
      rwa [plain_add] at this
    · have hjl : j < len * 2 := by
        have := (List.getElem?_eq_some_iff.1 hj).1
        rw [cflat_length _ hfl, hll] at this
        exact this
      have hi : j / 2 < len := by omega
      have hje : j / 2 * 2 + j % 2 = j := by omega
      rw [← hje, flat_get _ hfl (j / 2) (j % 2) (E (j / 2)) (by rw [List.getElem?_map, List.getElem?_range hi]; rfl) (by omega)] at hj
      have := (hE (j / 2) hi) (j % 2) v hj
      rw [plain_add, hje] at this
      exact this
end Go.Proofs.Ythmcgignejofiaa
