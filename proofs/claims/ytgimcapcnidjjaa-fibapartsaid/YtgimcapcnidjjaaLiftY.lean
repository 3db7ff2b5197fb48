/- A prefix, and an address, that came in. -/
import Derived.Test.YtgimcapcnidjjaaLiftB
import Derived.Test.YtgimcapcnidjjaaPreA
namespace Go.Proofs.Ytgimcapcnidjjaa
open Go Go.ChangeShapes Go.WideShapes Go.RowKit

set_option maxRecDepth 100000 in
theorem adr_of_reads {H : Type} {enc : TypeId × Value → H} {W : World} {base : Nat} {sp : Nat → Bool} {held : Bool} {r : Reach} {b0 : Nat} {v : Value} {d : DataW H} {p : List MemPlace}
    (hv : Value.okWide Try.prog W r b0 23 v) (h : DataW.Trod enc Try.prog W base sp held 23 v d p) : ∃ l : List UInt8, v = arrV l ∧ l.length = 16 := by
  simp only [Value.okWide, Try.underlying23] at hv
  obtain ⟨cs, rfl, hsz, _⟩ := hv
  have h16 : cs.toList.length = 16 := by rw [Array.length_toList, hsz]; kernel_rfl
  obtain ⟨fuel, hf⟩ := h
  obtain ⟨l, hl, e⟩ := trod_arr h16 hf
  refine ⟨l, ?_, hl⟩
  unfold arrV
  rw [← e]
set_option maxRecDepth 100000 in
theorem pfx_of_reads {H : Type} {enc : TypeId × Value → H} {W : World} {base : Nat} {sp : Nat → Bool} {held : Bool} {r : Reach} {b0 : Nat} {v : Value} {d : DataW H} {p : List MemPlace}
    (hv : Value.okWide Try.prog W r b0 25 v) (h : DataW.Trod enc Try.prog W base sp held 25 v d p) :
    ∃ q : Pfx, v = q.val ∧ q.addr.length = 16 ∧ -9223372036854775808 ≤ q.len ∧ q.len ≤ 9223372036854775807 := by
  obtain ⟨cs, rfl, hsz⟩ := okWide_struct Try.underlying25 hv
  have h18 : cs.toList.length = 18 := by rw [Array.length_toList, hsz]; kernel_rfl
  obtain ⟨fuel, hf⟩ := h
  obtain ⟨xs, n, _, _, _, hxl, hfs⟩ := DataW.trod_struct Try.underlying25 hf
  have tb : Try.prog.cellsOf 4 = 1 := by kernel_rfl
  have ti : Try.prog.cellsOf 3 = 1 := by kernel_rfl
  have t4 : Try.prog.cellsOf 23 = 16 := by kernel_rfl
  have hcs : cs = cs.toList.toArray := by simp
  match hL : cs.toList, h18, xs, hxl with
  | c0 :: rest, hr, [y0, y1, y2], _ =>
    have hr17 : rest.length = 17 := by simpa using hr
    have hx : (Value.agg cs).cells.toList = c0 :: rest := hL
    rw [hx] at hfs
    have g0 : DataW.trod enc Try.prog W base sp held n 4 (List.take (Try.prog.cellsOf 4) _) = some y0 := hfs 0 _ rfl
    have g1 : DataW.trod enc Try.prog W base sp held n 23 (List.take (Try.prog.cellsOf 23) rest) = some y1 := hfs 1 _ rfl
    have g2 : DataW.trod enc Try.prog W base sp held n 3 (List.take (Try.prog.cellsOf 3) (rest.drop 16)) = some y2 := hfs 2 _ rfl
    rw [tb] at g0
    rw [t4] at g1
    rw [ti] at g2
    obtain ⟨b, e0, _⟩ := DataW.trod_bool Try.underlying4 g0
    obtain ⟨l, hl, e1⟩ := trod_arr (by rw [List.length_take, hr17]; rfl) g1
    obtain ⟨len, e2, _, wl⟩ := DataW.trod_int Try.underlying3 g2
    have u := bounds_i64 wl
    have f0 : c0 = _ := (List.cons.inj e0).1
    have er : rest = byteVals l ++ [.int .i64 len] := by
      rw [← e1, ← e2, List.take_of_length_le (l := rest.drop 16) (by rw [List.length_drop, hr17]; omega), List.take_append_drop]
    refine ⟨⟨b, l, len⟩, ?_, hl, u.1, u.2⟩
    unfold Pfx.val Pfx.cells Pfx.row
    rw [hcs, hL, f0, er]
end Go.Proofs.Ytgimcapcnidjjaa
