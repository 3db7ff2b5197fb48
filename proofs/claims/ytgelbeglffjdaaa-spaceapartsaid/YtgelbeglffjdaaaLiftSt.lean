/- Steps of stage 12's scripts that came in: a slice of them, as a list; one by value. -/
import Derived.Test.YtgelbeglffjdaaaLiftP
import Derived.Test.YtgelbeglffjdaaaZ12
namespace Go.Proofs.Ytgelbeglffjdaaa
open Go Go.ChangeShapes Go.WideShapes Go.RowKit

theorem stR_all (l : List StpS) : ∀ x ∈ l, (stR x).length = 6 := fun _ _ => rfl
set_option maxRecDepth 100000 in
theorem stp_cells {H : Type} {enc : TypeId × Value → H} {W : World} {base : Nat} {sp : Nat → Bool} {b : Bool} {fuel : Nat} {cs : List Value} {x : DataW H × List MemPlace} (h6 : cs.length = 6)
    (hf : DataW.trod enc Try.prog W base sp b fuel 35 cs = some x) : ∃ s : StpS, cs = stR s := by
  obtain ⟨xs, k, _, _, _, hxl, hfs⟩ := DataW.trod_struct Try.underlying35 hf
  have ti : Try.prog.cellsOf 3 = 1 := by kernel_rfl
  have ts : Try.prog.cellsOf 27 = 2 := by kernel_rfl
  match xs, hxl, cs, h6 with
  | [y0, y1, y2, y3, y4], _, [c0, c1, c2, c3, c4, c5], _ =>
    have g0 : DataW.trod enc Try.prog W base sp b k 3 (([c0, c1, c2, c3, c4, c5].drop 0).take (Try.prog.cellsOf 3)) = some y0 := hfs 0 _ rfl
    have g1 : DataW.trod enc Try.prog W base sp b k 3 (([c0, c1, c2, c3, c4, c5].drop 1).take (Try.prog.cellsOf 3)) = some y1 := hfs 1 _ rfl
    have g2 : DataW.trod enc Try.prog W base sp b k 3 (([c0, c1, c2, c3, c4, c5].drop 2).take (Try.prog.cellsOf 3)) = some y2 := hfs 2 _ rfl
    have g3 : DataW.trod enc Try.prog W base sp b k 3 (([c0, c1, c2, c3, c4, c5].drop 3).take (Try.prog.cellsOf 3)) = some y3 := hfs 3 _ rfl
    have g4 : DataW.trod enc Try.prog W base sp b k 27 (([c0, c1, c2, c3, c4, c5].drop 4).take (Try.prog.cellsOf 27)) = some y4 := hfs 4 _ rfl
    rw [ti] at g0 g1 g2 g3
    rw [ts] at g4
    obtain ⟨n0, q0, _, w0⟩ := DataW.trod_int Try.underlying3 g0
    obtain ⟨n1, q1, _, w1⟩ := DataW.trod_int Try.underlying3 g1
    obtain ⟨n2, q2, _, w2⟩ := DataW.trod_int Try.underlying3 g2
    obtain ⟨n3, q3, _, w3⟩ := DataW.trod_int Try.underlying3 g3
    obtain ⟨zs, m, _, _, _, hzl, hgs⟩ := DataW.trod_struct Try.underlying27 g4
    match zs, hzl with
    | [z0, z1], _ =>
      have k0 : DataW.trod enc Try.prog W base sp b m 3 (([c4, c5].drop 0).take (Try.prog.cellsOf 3)) = some z0 := hgs 0 _ rfl
      have k1 : DataW.trod enc Try.prog W base sp b m 3 (([c4, c5].drop 1).take (Try.prog.cellsOf 3)) = some z1 := hgs 1 _ rfl
      rw [ti] at k0 k1
      obtain ⟨n4, q4, _, w4⟩ := DataW.trod_int Try.underlying3 k0
      obtain ⟨n5, q5, _, w5⟩ := DataW.trod_int Try.underlying3 k1
      refine ⟨⟨n0, n1, n2, n3, ⟨n4, n5⟩⟩, ?_⟩
      rw [(List.cons.inj q0).1, (List.cons.inj q1).1, (List.cons.inj q2).1, (List.cons.inj q3).1, (List.cons.inj q4).1, (List.cons.inj q5).1]
      rfl
set_option maxRecDepth 100000 in
theorem stp_of_reads {H : Type} {enc : TypeId × Value → H} {W : World} {base : Nat} {sp : Nat → Bool} {held : Bool} {r : Reach} {b0 : Nat} {v : Value} {d : DataW H} {p : List MemPlace}
    (hv : Value.okWide Try.prog W r b0 35 v) (h : DataW.Trod enc Try.prog W base sp held 35 v d p) : ∃ x : StpS, v = stV x := by
  obtain ⟨cs, rfl, hsz⟩ := okWide_struct Try.underlying35 hv
  have h6 : cs.toList.length = 6 := by rw [Array.length_toList, hsz]; kernel_rfl
  obtain ⟨fuel, hf⟩ := h
  obtain ⟨s, hs⟩ := stp_cells h6 hf
  refine ⟨s, ?_⟩
  have hcs : cs = cs.toList.toArray := by simp
  unfold stV
  rw [hcs, hs]
set_option maxRecDepth 100000 in
theorem stps_of_reads {H : Type} {enc : TypeId × Value → H} {W : World} {fuel : Nat} {a : Option Addr} {len cap : Nat} {x : DataW H × List MemPlace} {sp : Nat → Bool} {b : Bool}
    (hf : DataW.trod enc Try.prog W 0 sp b fuel 22 [Value.slice a len cap] = some x) : ∃ l : List StpS, IsC stR 6 W (.slice a len cap) l := by
  rcases Go.Deep.open_slice Try.underlying22 hf with ⟨hcs, _⟩ | ⟨ad, len', cap', m, n, D, Pl, hcs, _, hl, hm, hmm, hxx, hx⟩
  · simp only [List.cons.injEq, and_true] at hcs
    cases hcs
    exact ⟨[], IsC.nil W⟩
  · simp only [List.cons.injEq, and_true] at hcs
    cases hcs
    have hlm : len ≤ m := by rw [hmm]; split <;> omega
    have ce : Try.prog.cellsOf 35 = 6 := by kernel_rfl
    have each : ∀ i, i < len → ∃ s : StpS, ∀ j v, (stR s)[j]? = some v → W.cell? (ad.add (i * 6 + j)) = some v := by
      intro i hi
      obtain ⟨cs', h1, h2⟩ := hx i (by omega)
      rw [ce] at h1
      obtain ⟨_, hlen, hcell⟩ := World.cells?_some h1
      obtain ⟨s, hs⟩ := stp_cells hlen h2
      refine ⟨s, fun j v hv => ?_⟩
      have hj : j < 6 := (List.getElem?_eq_some_iff.1 hv).1
      have e0 := hcell j (by omega)
      rw [Go.Deep.add_add] at e0
      rw [e0, ← hv, hs]
    haveI : Inhabited StpS := ⟨⟨0, 0, 0, 0, ⟨0, 0⟩⟩⟩
    obtain ⟨E, hE⟩ := Go.Deep.choose_lt each
    have hll : ((List.range len).map E).length = len := by simp
    have hfl := stR_all ((List.range len).map E)
    refine ⟨(List.range len).map E, hfl, some ad, cap, by rw [hll], by rw [hll]; exact hl, hm, fun hp => ?_⟩
    rw [hll] at hp
    have h0 := (hE 0 hp) 0 _ rfl
    have hspot : ad.spot = none := by simpa [Addr.add] using World.cell?_spot h0
    obtain ⟨bb, off, s⟩ := ad
    simp only at hspot
    subst hspot
    refine ⟨bb, off, rfl, ?_, fun j v hj => ?_⟩
    · have := World.block_lt_of_cell? _ _ h0
      rwa [plain_add] at this
    · have hjl : j < len * 6 := by
        have := (List.getElem?_eq_some_iff.1 hj).1
        rw [cflat_length _ hfl, hll] at this
        exact this
      have hi : j / 6 < len := by omega
      have hje : j / 6 * 6 + j % 6 = j := by omega
      rw [← hje, flat_get _ hfl (j / 6) (j % 6) (E (j / 6)) (by rw [List.getElem?_map, List.getElem?_range hi]; rfl) (by omega)] at hj
      have := (hE (j / 6) hi) (j % 6) v hj
      rw [plain_add, hje] at this
      exact this
end Go.Proofs.Ytgelbeglffjdaaa
