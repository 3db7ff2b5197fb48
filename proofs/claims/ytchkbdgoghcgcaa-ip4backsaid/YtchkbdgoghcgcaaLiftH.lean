/- A header of IPv4 that came in, as a structure. -/
import Derived.Test.YtchkbdgoghcgcaaLiftP
import Derived.Test.YtchkbdgoghcgcaaIp1
namespace Go.Proofs.Ytchkbdgoghcgcaa
open Go Go.ChangeShapes Go.WideShapes Go.RowKit

theorem u8_of4 {x : Int} (h0 : 0 ≤ x) (h1 : x ≤ 255) : ∃ b : UInt8, x = (b.toNat : Int) := by
  refine ⟨UInt8.ofNat x.toNat, ?_⟩
  rw [UInt8.toNat_ofNat_of_lt' (show x.toNat < 256 by omega)]
  omega
theorem trod_u8 {H : Type} {enc : TypeId × Value → H} {W : World} {base : Nat} {sp : Nat → Bool} {held : Bool} {n : Nat} {c : Value} {y : DataW H × List MemPlace} (h : DataW.trod enc Try.prog W base sp held n 5 [c] = some y) : ∃ b : UInt8, c = .int .u8 (b.toNat : Int) := by
  obtain ⟨x, e, _, wb⟩ := DataW.trod_int Try.underlying5 h
  simp only [List.cons.injEq, and_true] at e
  have u := bounds_u8 wb
  obtain ⟨b, rfl⟩ := u8_of4 u.1 u.2
  exact ⟨b, e⟩
theorem trod_four {H : Type} {enc : TypeId × Value → H} {W : World} {base : Nat} {sp : Nat → Bool} {held : Bool} {n : Nat} {c0 c1 c2 c3 : Value} {y : DataW H × List MemPlace} (h : DataW.trod enc Try.prog W base sp held n 25 [c0, c1, c2, c3] = some y) :
    ∃ b0 b1 b2 b3 : UInt8, c0 = .int .u8 (b0.toNat : Int) ∧ c1 = .int .u8 (b1.toNat : Int) ∧ c2 = .int .u8 (b2.toNat : Int) ∧ c3 = .int .u8 (b3.toNat : Int) := by
  obtain ⟨xs, m, _, _, _, hxl, hfs⟩ := DataW.trod_array Try.underlying25 h
  have t1 : Try.prog.cellsOf 5 = 1 := by kernel_rfl
  match xs, hxl with
  | [y0, y1, y2, y3], _ =>
    have g0 : DataW.trod enc Try.prog W base sp held m 5 (([c0, c1, c2, c3].drop (0 * Try.prog.cellsOf 5)).take (Try.prog.cellsOf 5)) = some y0 := hfs 0 (by omega)
    have g1 : DataW.trod enc Try.prog W base sp held m 5 (([c0, c1, c2, c3].drop (1 * Try.prog.cellsOf 5)).take (Try.prog.cellsOf 5)) = some y1 := hfs 1 (by omega)
    have g2 : DataW.trod enc Try.prog W base sp held m 5 (([c0, c1, c2, c3].drop (2 * Try.prog.cellsOf 5)).take (Try.prog.cellsOf 5)) = some y2 := hfs 2 (by omega)
    have g3 : DataW.trod enc Try.prog W base sp held m 5 (([c0, c1, c2, c3].drop (3 * Try.prog.cellsOf 5)).take (Try.prog.cellsOf 5)) = some y3 := hfs 3 (by omega)
    rw [t1] at g0 g1 g2 g3
    obtain ⟨b0, h0⟩ := trod_u8 g0
    obtain ⟨b1, h1⟩ := trod_u8 g1
    obtain ⟨b2, h2⟩ := trod_u8 g2
    obtain ⟨b3, h3⟩ := trod_u8 g3
    exact ⟨b0, b1, b2, b3, h0, h1, h2, h3⟩

theorem hdr_of_reads {H : Type} {enc : TypeId × Value → H} {W : World} {base : Nat} {sp : Nat → Bool} {held : Bool} {r : Reach} {b0 : Nat} {v : Value} {d : DataW H} {p : List MemPlace}
    (hv : Value.okWide Try.prog W r b0 27 v) (h : DataW.Trod enc Try.prog W base sp held 27 v d p) : ∃ hd : Hdr, v = hd.val ∧ hd.id ≤ 65535 := by
  obtain ⟨cs, rfl, hsz⟩ := okWide_struct Try.underlying27 hv
  have h17 : cs.toList.length = 17 := by rw [Array.length_toList, hsz]; kernel_rfl
  obtain ⟨fuel, hf⟩ := h
  obtain ⟨xs, n, _, _, _, hxl, hfs⟩ := DataW.trod_struct Try.underlying27 hf
  have t0 : Try.prog.cellsOf 3 = 1 := by kernel_rfl
  have t1 : Try.prog.cellsOf 5 = 1 := by kernel_rfl
  have t2 : Try.prog.cellsOf 4 = 1 := by kernel_rfl
  have t3 : Try.prog.cellsOf 24 = 1 := by kernel_rfl
  have t4 : Try.prog.cellsOf 25 = 4 := by kernel_rfl
  have t5 : Try.prog.cellsOf 9 = 1 := by kernel_rfl
  have hcs : cs = cs.toList.toArray := by simp
  match hL : cs.toList, h17, xs, hxl with
  | [c0, c1, c2, c3, c4, c5, c6, c7, c8, c9, c10, c11, c12, c13, c14, c15, c16], _, [y0, y1, y2, y3, y4, y5, y6, y7, y8, y9, y10], _ =>
    have hx : (Value.agg cs).cells.toList = [c0, c1, c2, c3, c4, c5, c6, c7, c8, c9, c10, c11, c12, c13, c14, c15, c16] := hL
    rw [hx] at hfs
    have g0 : DataW.trod enc Try.prog W base sp held n 5 (List.take (Try.prog.cellsOf 5) _) = some y0 := hfs 0 _ rfl
    have g1 : DataW.trod enc Try.prog W base sp held n 3 (List.take (Try.prog.cellsOf 3) _) = some y1 := hfs 1 _ rfl
    have g2 : DataW.trod enc Try.prog W base sp held n 24 (List.take (Try.prog.cellsOf 24) _) = some y2 := hfs 2 _ rfl
    have g3 : DataW.trod enc Try.prog W base sp held n 4 (List.take (Try.prog.cellsOf 4) _) = some y3 := hfs 3 _ rfl
    have g4 : DataW.trod enc Try.prog W base sp held n 4 (List.take (Try.prog.cellsOf 4) _) = some y4 := hfs 4 _ rfl
    have g5 : DataW.trod enc Try.prog W base sp held n 3 (List.take (Try.prog.cellsOf 3) _) = some y5 := hfs 5 _ rfl
    have g6 : DataW.trod enc Try.prog W base sp held n 5 (List.take (Try.prog.cellsOf 5) _) = some y6 := hfs 6 _ rfl
    have g7 : DataW.trod enc Try.prog W base sp held n 5 (List.take (Try.prog.cellsOf 5) _) = some y7 := hfs 7 _ rfl
    have g8 : DataW.trod enc Try.prog W base sp held n 25 (List.take (Try.prog.cellsOf 25) _) = some y8 := hfs 8 _ rfl
    have g9 : DataW.trod enc Try.prog W base sp held n 25 (List.take (Try.prog.cellsOf 25) _) = some y9 := hfs 9 _ rfl
    have g10 : DataW.trod enc Try.prog W base sp held n 9 (List.take (Try.prog.cellsOf 9) _) = some y10 := hfs 10 _ rfl
    rw [t1] at g0 g6 g7
    rw [t0] at g1 g5
    rw [t3] at g2
    rw [t2] at g3 g4
    rw [t4] at g8 g9
    rw [t5] at g10
    obtain ⟨tos, e0⟩ := trod_u8 g0
    obtain ⟨len, e1, _, -⟩ := DataW.trod_int Try.underlying3 g1
    obtain ⟨id, e2, _, w2⟩ := DataW.trod_int Try.underlying24 g2
    obtain ⟨keep, e3, _⟩ := DataW.trod_bool Try.underlying4 g3
    obtain ⟨more, e4, _⟩ := DataW.trod_bool Try.underlying4 g4
    obtain ⟨off, e5, _, -⟩ := DataW.trod_int Try.underlying3 g5
    obtain ⟨ttl, e6⟩ := trod_u8 g6
    obtain ⟨proto, e7⟩ := trod_u8 g7
    obtain ⟨s0, s1, s2, s3, e8, e9, e10, e11⟩ := trod_four g8
    obtain ⟨d0, d1, d2, d3, e12, e13, e14, e15⟩ := trod_four g9
    obtain ⟨opt, e16, _, -⟩ := DataW.trod_string Try.underlying9 g10
    have u2 := bounds_u16 w2
    have f1 : c1 = _ := (List.cons.inj e1).1
    have f2 : c2 = _ := (List.cons.inj e2).1
    have f3 : c3 = _ := (List.cons.inj e3).1
    have f4 : c4 = _ := (List.cons.inj e4).1
    have f5 : c5 = _ := (List.cons.inj e5).1
    have f16 : c16 = _ := (List.cons.inj e16).1
    change c0 = _ at e0
    change c6 = _ at e6
    change c7 = _ at e7
    obtain ⟨id, rfl⟩ := Int.eq_ofNat_of_zero_le u2.1
    refine ⟨⟨tos, len, id, keep, more, off, ttl, proto, s0, s1, s2, s3, d0, d1, d2, d3, opt.data.toList⟩, ?_, by simp only; omega⟩
    unfold Hdr.val Hdr.cells
    rw [hcs, hL, e0, f1, f2, f3, f4, f5, e6, e7, e8, e9, e10, e11, e12, e13, e14, e15, f16]
end Go.Proofs.Ytchkbdgoghcgcaa
