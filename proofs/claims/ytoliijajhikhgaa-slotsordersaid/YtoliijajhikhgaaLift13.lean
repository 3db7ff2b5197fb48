/- Steps of stage 13's scripts that came in: a slice of them, as a list. -/
import Derived.Test.YtoliijajhikhgaaLiftRow
namespace Go.Proofs.Ytoliijajhikhgaa
open Go Go.ChangeShapes Go.WideShapes Go.RowKit

/-- a step: its kind, its label, its value -/
structure Stp13 where
  k : Int
  a : Int
  v : Int
def s3R (s : Stp13) : List Value := [.int .i64 s.k, .int .i64 s.a, .int .i64 s.v]
set_option maxRecDepth 100000 in
theorem stp13_cells {H : Type} {enc : TypeId × Value → H} {W : World} {base : Nat} {sp : Nat → Bool} {b : Bool} {fuel : Nat} {cs : List Value} {x : DataW H × List MemPlace} (h3 : cs.length = 3)
    (hf : DataW.trod enc Try.prog W base sp b fuel 31 cs = some x) : ∃ s : Stp13, cs = s3R s := by
  obtain ⟨xs, k, _, _, _, hxl, hfs⟩ := DataW.trod_struct Try.underlying31 hf
  have ti : Try.prog.cellsOf 3 = 1 := by kernel_rfl
  match xs, hxl, cs, h3 with
  | [y0, y1, y2], _, [c0, c1, c2], _ =>
    have g0 : DataW.trod enc Try.prog W base sp b k 3 (([c0, c1, c2].drop 0).take (Try.prog.cellsOf 3)) = some y0 := hfs 0 _ rfl
    have g1 : DataW.trod enc Try.prog W base sp b k 3 (([c0, c1, c2].drop 1).take (Try.prog.cellsOf 3)) = some y1 := hfs 1 _ rfl
    have g2 : DataW.trod enc Try.prog W base sp b k 3 (([c0, c1, c2].drop 2).take (Try.prog.cellsOf 3)) = some y2 := hfs 2 _ rfl
    rw [ti] at g0 g1 g2
    obtain ⟨n0, q0, _, w0⟩ := DataW.trod_int Try.underlying3 g0
    obtain ⟨n1, q1, _, w1⟩ := DataW.trod_int Try.underlying3 g1
    obtain ⟨n2, q2, _, w2⟩ := DataW.trod_int Try.underlying3 g2
    refine ⟨⟨n0, n1, n2⟩, ?_⟩
    rw [(List.cons.inj q0).1, (List.cons.inj q1).1, (List.cons.inj q2).1]
    rfl
set_option maxRecDepth 100000 in
theorem steps13_of_reads {H : Type} {enc : TypeId × Value → H} {W : World} {fuel : Nat} {a : Option Addr} {len cap : Nat} {x : DataW H × List MemPlace} {sp : Nat → Bool} {b : Bool}
    (hf : DataW.trod enc Try.prog W 0 sp b fuel 22 [Value.slice a len cap] = some x) : ∃ l : List Stp13, IsC s3R 3 W (.slice a len cap) l := by
  haveI : Inhabited Stp13 := ⟨⟨0, 0, 0⟩⟩
  obtain ⟨l, h, _⟩ := rows_of_reads s3R 3 (by decide) (fun _ => True) Try.underlying22 (by kernel_rfl) (fun k cs y h1 hy => by
    obtain ⟨s, hs⟩ := stp13_cells h1 hy
    exact ⟨s, hs, trivial⟩) hf
  exact ⟨l, h⟩
end Go.Proofs.Ytoliijajhikhgaa
