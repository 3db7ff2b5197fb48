/- What the rows of this seat share: a slice of entries that came in as a list. -/
import Derived.Test.YtljpndkgfjndbaaLiftP
import Derived.Test.YtljpndkgfjndbaaEntB
import Derived.Deep.Slices
import Derived.SizedLaws
namespace Go.Proofs.Ytljpndkgfjndbaa
open Go Go.ChangeShapes Go.WideShapes Go.ChangeAt Go.RowKit

/-- An array of one-cell elements that came in by value: its cells, each with its reading. -/
theorem arr_reads {H : Type} {enc : TypeId × Value → H} {P : Program} {W : World} {base : Nat} {sp : Nat → Bool} {held : Bool} {r : Reach} {b0 : Nat} {t e : TypeId} {n : Nat} {v : Value} {d : DataW H} {p : List MemPlace}
    (hs : P.underlying t = some (.array n e)) (hce : P.cellsOf e = 1) (hn : P.cellsOf t = n) (hv : Value.okWide P W r b0 t v) (h : DataW.Trod enc P W base sp held t v d p) :
    ∃ cs m, v = .agg cs ∧ cs.size = P.cellsOf t ∧ ∀ (i : Nat) c, cs[i]? = some c → ∃ y, DataW.trod enc P W base sp held m e [c] = some y := by
  simp only [Value.okWide, hs] at hv
  obtain ⟨cs, rfl, hsz, _⟩ := hv
  obtain ⟨fuel, hf⟩ := h
  obtain ⟨xs, m, _, _, hl, hlen, hf⟩ := DataW.trod_array hs hf
  refine ⟨cs, m, rfl, hsz, fun i c hc => ?_⟩
  have hi : i < n := by have := (Array.getElem?_eq_some_iff.1 hc).1; omega
  have h1 := hf i hi
  rw [hce, Nat.mul_one, List.getElem?_eq_getElem (by omega)] at h1
  have h2 : ((Value.agg cs).cells.toList.drop i).take 1 = [c] := by
    have hc' : cs.toList[i]? = some c := by simpa using hc
    obtain ⟨hi2, he⟩ := List.getElem?_eq_some_iff.1 hc'
    show (cs.toList.drop i).take 1 = [c]
    rw [List.drop_eq_getElem_cons hi2, he]
    rfl
  rw [h2] at h1
  exact ⟨_, h1⟩
/-- A slice of entries that came in, as a list. -/
theorem isE_of_reads {H : Type} {enc : TypeId × Value → H} {W : World} {fuel : Nat} {a : Option Addr} {len cap : Nat} {x : DataW H × List MemPlace} {sp : Nat → Bool} {b : Bool}
    (hf : DataW.trod enc Try.prog W 0 sp b fuel 34 [Value.slice a len cap] = some x) : ∃ l, IsE W (.slice a len cap) l ∧ (0 < l.length → ∃ es sp, x.1 = .slice es sp ∧ es.length = l.length) := by
  rcases Go.Deep.open_slice Try.underlying34 hf with ⟨hcs, _⟩ | ⟨ad, len', cap', m, n, D, Pl, hcs, _, hl, hm, hmm, hxx, hx⟩
  · simp only [List.cons.injEq, and_true] at hcs
    cases hcs
    exact ⟨[], IsE.nil W, fun h => by simp at h⟩
  · simp only [List.cons.injEq, and_true] at hcs
    cases hcs
    have hlm : len ≤ m := by rw [hmm]; split <;> omega
    have ce : Try.prog.cellsOf 23 = 4 := by kernel_rfl
    have each : ∀ i, i < len → ∃ e : Ent, e.ok ∧ W.cell? (ad.add (i * 4)) = some (.int .i64 e.L) ∧ W.cell? (ad.add (i * 4 + 1)) = some (.int .u8 e.C) ∧ W.cell? (ad.add (i * 4 + 2)) = some (.bool e.B) ∧ W.cell? (ad.add (i * 4 + 3)) = some (.int .u8 e.T) := by
      intro i hi
      obtain ⟨cs', h1, h2⟩ := hx i (by omega)
      rw [ce] at h1
      obtain ⟨_, hlen, hcell⟩ := World.cells?_some h1
      obtain ⟨xs, k, _, _, _, hxl, hfs⟩ := DataW.trod_struct Try.underlying23 h2
      match xs, hxl, cs', hlen with
      | [y0, y1, y2, y3], _, [v0, v1, v2, v3], _ =>
        have g0 : DataW.trod enc Try.prog W 0 sp b k 3 (([v0, v1, v2, v3].drop 0).take (Try.prog.cellsOf 3)) = some y0 := hfs 0 _ rfl
        have g1 : DataW.trod enc Try.prog W 0 sp b k 5 (([v0, v1, v2, v3].drop 1).take (Try.prog.cellsOf 5)) = some y1 := hfs 1 _ rfl
        have g2 : DataW.trod enc Try.prog W 0 sp b k 4 (([v0, v1, v2, v3].drop 2).take (Try.prog.cellsOf 4)) = some y2 := hfs 2 _ rfl
        have g3 : DataW.trod enc Try.prog W 0 sp b k 5 (([v0, v1, v2, v3].drop 3).take (Try.prog.cellsOf 5)) = some y3 := hfs 3 _ rfl
        have t0 : Try.prog.cellsOf 3 = 1 := by kernel_rfl
        have t1 : Try.prog.cellsOf 5 = 1 := by kernel_rfl
        have t2 : Try.prog.cellsOf 4 = 1 := by kernel_rfl
        simp only [t0, t1, t2, List.drop_zero, List.drop_succ_cons, List.take_succ_cons, List.take_zero] at g0 g1 g2 g3
        obtain ⟨n0, q0, _, w0⟩ := DataW.trod_int Try.underlying3 g0
        obtain ⟨n1, q1, _, w1⟩ := DataW.trod_int Try.underlying5 g1
        obtain ⟨n2, q2, _⟩ := DataW.trod_bool Try.underlying4 g2
        obtain ⟨n3, q3, _, w3⟩ := DataW.trod_int Try.underlying5 g3
        simp only [List.cons.injEq, and_true] at q0 q1 q2 q3
        subst q0 q1 q2 q3
        have u1 := bounds_u8 w1
        have u3 := bounds_u8 w3
        have e0 := hcell 0 (by omega)
        have e1 := hcell 1 (by omega)
        have e2 := hcell 2 (by omega)
        have e3 := hcell 3 (by omega)
        rw [Go.Deep.add_add] at e0 e1 e2 e3
        exact ⟨⟨n0, n1, n2, n3⟩, ⟨u1.1, u1.2, u3.1, u3.2⟩, e0, e1, e2, e3⟩
    haveI : Inhabited Ent := ⟨entZero⟩
    obtain ⟨E, hE⟩ := Go.Deep.choose_lt each
    have hll : ((List.range len).map E).length = len := by simp
    refine ⟨(List.range len).map E, ⟨some ad, cap, by rw [hll], by rw [hll]; exact hl, hm, fun e he => ?_, fun hp => ?_⟩, fun _ => ⟨_, _, by rw [hxx], by simp⟩⟩
    · obtain ⟨i, hi, rfl⟩ := List.mem_map.1 he
      exact (hE i (List.mem_range.1 hi)).1
    · rw [hll] at hp
      have h0 := (hE 0 hp).2.1
      have hspot : ad.spot = none := by simpa [Addr.add] using World.cell?_spot h0
      obtain ⟨bb, off, s⟩ := ad
      simp only at hspot
      subst hspot
      refine ⟨bb, off, rfl, ?_, fun i e hi => ?_⟩
      · have := World.block_lt_of_cell? _ _ h0
        rwa [plain_add] at this
      · have hil : i < len := by have := (List.getElem?_eq_some_iff.1 hi).1; rwa [hll] at this
        rw [List.getElem?_map, List.getElem?_range hil] at hi
        simp only [Option.map_some, Option.some.injEq] at hi
        subst hi
        obtain ⟨_, c0, c1, c2, c3⟩ := hE i hil
        rw [plain_add] at c0 c1 c2 c3
        exact ⟨c0, c1, c2, c3⟩
/-- It is within the reach. -/
theorem ents_sized {H : Type} {ts : List TypeId} {ds : List (DataW H)} {d : DataW H} {l : List Ent} (hsz : (DataW.weightsEach Try.prog ts ds).all (· ≤ reachBytes) = true) {j : Nat} (ht : ts[j]? = some 34) (hd : ds[j]? = some d)
    (z : 0 < l.length → ∃ es sp, d = .slice es sp ∧ es.length = l.length) : l.length ≤ 8796093021952 := by
  rcases Nat.eq_zero_or_pos l.length with h | h
  · omega
  obtain ⟨es, sp, rfl, he⟩ := z h
  have h2 := sized_slice hsz ht hd Try.underlying34
  have hb : Try.prog.bytesOf 23 = 16 := by kernel_rfl
  rw [hb] at h2
  unfold reachBytes at h2
  omega
end Go.Proofs.Ytljpndkgfjndbaa
