/- A header of IPv6, and sixteen bytes by value, that came in. -/
import Derived.Test.YtemocbcibnccpaaLiftU
import Derived.Test.YtemocbcibnccpaaSix1
namespace Go.Proofs.Ytemocbcibnccpaa
open Go Go.ChangeShapes Go.WideShapes Go.RowKit

theorem bytes_of_cells : ∀ cs : List Value, (∀ (i : Nat) c, cs[i]? = some c → ∃ b : UInt8, c = .int .u8 (b.toNat : Int)) → ∃ l : List UInt8, cs = byteVals l
  | [], _ => ⟨[], rfl⟩
  | c :: cs, h => by
    obtain ⟨b, rfl⟩ := h 0 c rfl
    obtain ⟨l, rfl⟩ := bytes_of_cells cs (fun i x hx => h (i + 1) x hx)
    exact ⟨b :: l, rfl⟩
theorem trod_arr {H : Type} {enc : TypeId × Value → H} {W : World} {base : Nat} {sp : Nat → Bool} {held : Bool} {n : Nat} {cs : List Value} {y : DataW H × List MemPlace} (hl : cs.length = 16) (h : DataW.trod enc Try.prog W base sp held n 24 cs = some y) :
    ∃ l : List UInt8, l.length = 16 ∧ cs = byteVals l := by
  obtain ⟨xs, m, _, _, _, hxl, hfs⟩ := DataW.trod_array Try.underlying24 h
  have t1 : Try.prog.cellsOf 5 = 1 := by kernel_rfl
  have hb : ∃ l : List UInt8, cs = byteVals l := by
    refine bytes_of_cells cs fun i c hc => ?_
    have hi : i < 16 := by rw [← hl]; exact (List.getElem?_eq_some_iff.1 hc).1
    have h1 := hfs i hi
    rw [t1, Nat.mul_one, List.getElem?_eq_getElem (by omega)] at h1
    have h2 : (cs.drop i).take 1 = [c] := by
      obtain ⟨hlt, he⟩ := List.getElem?_eq_some_iff.1 hc
      rw [List.drop_eq_getElem_cons hlt, he]
      rfl
    rw [h2] at h1
    exact trod_u8 h1
  obtain ⟨l, rfl⟩ := hb
  exact ⟨l, by rw [← hl, byteVals_length], rfl⟩

theorem hdr6_of_reads {H : Type} {enc : TypeId × Value → H} {W : World} {base : Nat} {sp : Nat → Bool} {held : Bool} {r : Reach} {b0 : Nat} {v : Value} {d : DataW H} {p : List MemPlace}
    (hv : Value.okWide Try.prog W r b0 26 v) (h : DataW.Trod enc Try.prog W base sp held 26 v d p) : ∃ hd : Hdr6, v = hd.val ∧ hd.wide := by
  obtain ⟨cs, rfl, hsz⟩ := okWide_struct Try.underlying26 hv
  have h37 : cs.toList.length = 37 := by rw [Array.length_toList, hsz]; kernel_rfl
  obtain ⟨fuel, hf⟩ := h
  obtain ⟨xs, n, _, _, _, hxl, hfs⟩ := DataW.trod_struct Try.underlying26 hf
  have t0 : Try.prog.cellsOf 3 = 1 := by kernel_rfl
  have t1 : Try.prog.cellsOf 5 = 1 := by kernel_rfl
  have t4 : Try.prog.cellsOf 24 = 16 := by kernel_rfl
  have hcs : cs = cs.toList.toArray := by simp
  match hL : cs.toList, h37, xs, hxl with
  | c0 :: c1 :: c2 :: c3 :: c4 :: rest, hr, [y0, y1, y2, y3, y4, y5, y6], _ =>
    have hr32 : rest.length = 32 := by simpa using hr
    have hx : (Value.agg cs).cells.toList = c0 :: c1 :: c2 :: c3 :: c4 :: rest := hL
    rw [hx] at hfs
    have g0 : DataW.trod enc Try.prog W base sp held n 5 (List.take (Try.prog.cellsOf 5) _) = some y0 := hfs 0 _ rfl
    have g1 : DataW.trod enc Try.prog W base sp held n 3 (List.take (Try.prog.cellsOf 3) _) = some y1 := hfs 1 _ rfl
    have g2 : DataW.trod enc Try.prog W base sp held n 3 (List.take (Try.prog.cellsOf 3) _) = some y2 := hfs 2 _ rfl
    have g3 : DataW.trod enc Try.prog W base sp held n 5 (List.take (Try.prog.cellsOf 5) _) = some y3 := hfs 3 _ rfl
    have g4 : DataW.trod enc Try.prog W base sp held n 5 (List.take (Try.prog.cellsOf 5) _) = some y4 := hfs 4 _ rfl
    have g5 : DataW.trod enc Try.prog W base sp held n 24 (List.take (Try.prog.cellsOf 24) rest) = some y5 := hfs 5 _ rfl
    have g6 : DataW.trod enc Try.prog W base sp held n 24 (List.take (Try.prog.cellsOf 24) (rest.drop 16)) = some y6 := hfs 6 _ rfl
    rw [t1] at g0 g3 g4
    rw [t0] at g1 g2
    rw [t4] at g5 g6
    obtain ⟨cls, e0⟩ := trod_u8 g0
    obtain ⟨flow, e1, _, -⟩ := DataW.trod_int Try.underlying3 g1
    obtain ⟨len, e2, _, -⟩ := DataW.trod_int Try.underlying3 g2
    obtain ⟨next, e3⟩ := trod_u8 g3
    obtain ⟨ttl, e4⟩ := trod_u8 g4
    obtain ⟨src, es, e5⟩ := trod_arr (by rw [List.length_take, hr32]; rfl) g5
    obtain ⟨dst, ed, e6⟩ := trod_arr (by rw [List.length_take, List.length_drop, hr32]; rfl) g6
    have f1 : c1 = _ := (List.cons.inj e1).1
    have f2 : c2 = _ := (List.cons.inj e2).1
    change c0 = _ at e0
    change c3 = _ at e3
    change c4 = _ at e4
    have er : rest = byteVals src ++ byteVals dst := by
      rw [← e5, ← e6, List.take_of_length_le (l := rest.drop 16) (by rw [List.length_drop, hr32]; omega), List.take_append_drop]
    refine ⟨⟨cls, flow, len, next, ttl, src, dst⟩, ?_, ⟨es, ed⟩⟩
    unfold Hdr6.val Hdr6.cells Hdr6.row
    rw [hcs, hL, e0, f1, f2, e3, e4, er]
end Go.Proofs.Ytemocbcibnccpaa
