/- What the rows of stage 14 share: the one listed table, a script and a hop that came in. -/
import Derived.Test.YtoliijajhikhgaaDoorLiftRow
import Derived.Test.YtoliijajhikhgaaDoorRun14
import Derived.Test.YtoliijajhikhgaaDoorCards
import Derived.Test.YtoliijajhikhgaaDoorTie
import Derived.ProofKit
import Derived.OpenShut
import Derived.ShutString
import Derived.ChangeOld
import Derived.LaidMore
import Derived.Stop.Joined
import Derived.Stop.LaidErr
import Derived.SevenTiedAt
import Derived.Lib.LaidTab
namespace Go.Proofs.YtoliijajhikhgaaDoor
open Go Go.ChangeShapes Go.WideShapes Go.ChangeAt Go.RowKit
open Go.ChangeMaps (open_string shut_string)

def laid14 : List (String × DataW Unit) := [("math/bits.deBruijn64tab", Rows.laid_math_bits_deBruijn64tab)]
theorem door_met14 (os : Os) (args : Array Value) : laidMetH Tryd.prog laid14 ((World.doorLaid Tryd.prog 400 os).forCall (fun _ _ => 0) ⟨#[], args, []⟩).memory :=
  laidMetH_of_parts3 (fuel := 8) (laidMet_of_run' 8 (by kernel_rfl) (by kernel_rfl)) (by kernel_rfl) (by kernel_rfl)
def tzTab14 : List Int := [0, 1, 56, 2, 57, 49, 28, 3, 61, 58, 42, 50, 38, 29, 17, 4, 62, 47, 59, 36, 45, 43, 51, 22, 53, 39, 33, 30, 24, 18, 12, 5, 63, 55, 48, 27, 60, 41, 37, 16, 46, 35, 44, 21, 52, 32, 23, 11, 54, 26, 40, 15, 34, 20, 31, 10, 25, 14, 19, 9, 13, 8, 7, 6]
theorem tz14_data : (Rows.laid_math_bits_deBruijn64tab : DataW Unit) = Lib.tabData .u8 tzTab14 := by kernel_rfl
theorem gTz14 : Tryd.prog.globalNamed "math/bits.deBruijn64tab" = some 0 := by kernel_rfl
theorem tTz14 : (Tryd.prog.globals[0]?).map (·.type) = some 83 := by kernel_rfl
theorem tz14_of_laid {W : World} (h : laidMetH Tryd.prog laid14 W) : Lib.TabIs Tryd.prog W "math/bits.deBruijn64tab" .u8 tzTab14 := by
  rw [MakeChecks.laidMetH_plain _ _ _ (by kernel_rfl)] at h
  unfold laid14 at h
  rw [tz14_data] at h
  exact Lib.tabIs_of_head gTz14 tTz14 Tryd.underlying83 Tryd.underlying5 (by kernel_rfl) (by kernel_rfl) h
theorem cell_lt14 {w : World} {b o : Nat} {v : Value} (h : w.cell? ⟨b, o, none⟩ = some v) : b < w.heap.size := by
  rcases Nat.lt_or_ge b w.heap.size with hl | hl
  · exact hl
  · unfold World.cell? at h
    rw [Array.getElem?_eq_none hl] at h
    cases h
theorem tab14_same : tzTab14 = Lib.deBruijn64tab.map (fun n : Nat => (n : Int)) := by decide
theorem tze_of_laid {W : World} (h : laidMetH Tryd.prog laid14 W) : TzE W W.heap.size := by
  have hc := fun (j : Nat) (hj : j < 64) => (tz14_of_laid h).cell gTz14 j hj
  refine ⟨cell_lt14 (hc 0 (by decide)), Nat.le_refl _, fun j hj => ?_⟩
  have h64 : Lib.deBruijn64tab.length = 64 := by decide
  rw [hc j (by omega)]
  congr 2
  rw [tab14_same, List.getD_eq_getElem?_getD, List.getD_eq_getElem?_getD, List.getElem?_map, List.getElem?_eq_getElem hj]
  rfl
theorem ints_of_trod {H : Type} {enc : TypeId × Value → H} {W : World} {fuel : Nat} {v : Value} {x : DataW H × List MemPlace} {sp : Nat → Bool} {b : Bool}
    (hf : DataW.trod enc Tryd.prog W 0 sp b fuel 23 [v] = some x) : ∃ a len cap l, v = .slice a len cap ∧ IsC intR 1 W (.slice a len cap) l ∧ ∀ n ∈ l, -9223372036854775808 ≤ n ∧ n ≤ 9223372036854775807 := by
  rcases Go.Deep.open_slice Tryd.underlying23 hf with ⟨hcs, _⟩ | ⟨ad, len', cap', m, n, D, Pl, hcs, _⟩
  · simp only [List.cons.injEq, and_true] at hcs
    subst hcs
    exact ⟨_, _, _, [], rfl, IsC.nil W, fun _ h => by cases h⟩
  · simp only [List.cons.injEq, and_true] at hcs
    subst hcs
    obtain ⟨l, h1, h2⟩ := ints_of_reads hf
    exact ⟨_, _, _, l, rfl, h1, h2⟩
/-- A hop's cells that came in. -/
theorem hop_cells {H : Type} {enc : TypeId × Value → H} {W : World} {sp : Nat → Bool} {b : Bool} {fuel : Nat} {cs : List Value} {x : DataW H × List MemPlace} (h6 : cs.length = 6)
    (hf : DataW.trod enc Tryd.prog W 0 sp b fuel 25 cs = some x) : ∃ (o : Int) (L : Ls) (p q : Int) (R : Ls) (pp : Bool) (lab rep : List Int), cs = hopR o L.v p q R.v pp ∧ IsC intR 1 W L.v lab ∧ IsC intR 1 W R.v rep := by
  obtain ⟨xs, k, _, _, _, hxl, hfs⟩ := DataW.trod_struct Tryd.underlying25 hf
  have ti : Tryd.prog.cellsOf 3 = 1 := by kernel_rfl
  have tl : Tryd.prog.cellsOf 23 = 1 := by kernel_rfl
  have tb : Tryd.prog.cellsOf 4 = 1 := by kernel_rfl
  match xs, hxl, cs, h6 with
  | [y0, y1, y2, y3, y4, y5], _, [c0, c1, c2, c3, c4, c5], _ =>
    have g0 : DataW.trod enc Tryd.prog W 0 sp b k 3 (([c0, c1, c2, c3, c4, c5].drop 0).take (Tryd.prog.cellsOf 3)) = some y0 := hfs 0 _ rfl
    have g1 : DataW.trod enc Tryd.prog W 0 sp b k 23 (([c0, c1, c2, c3, c4, c5].drop 1).take (Tryd.prog.cellsOf 23)) = some y1 := hfs 1 _ rfl
    have g2 : DataW.trod enc Tryd.prog W 0 sp b k 3 (([c0, c1, c2, c3, c4, c5].drop 2).take (Tryd.prog.cellsOf 3)) = some y2 := hfs 2 _ rfl
    have g3 : DataW.trod enc Tryd.prog W 0 sp b k 3 (([c0, c1, c2, c3, c4, c5].drop 3).take (Tryd.prog.cellsOf 3)) = some y3 := hfs 3 _ rfl
    have g4 : DataW.trod enc Tryd.prog W 0 sp b k 23 (([c0, c1, c2, c3, c4, c5].drop 4).take (Tryd.prog.cellsOf 23)) = some y4 := hfs 4 _ rfl
    have g5 : DataW.trod enc Tryd.prog W 0 sp b k 4 (([c0, c1, c2, c3, c4, c5].drop 5).take (Tryd.prog.cellsOf 4)) = some y5 := hfs 5 _ rfl
    rw [ti] at g0 g2 g3
    rw [tl] at g1 g4
    rw [tb] at g5
    obtain ⟨n0, q0, _, w0⟩ := DataW.trod_int Tryd.underlying3 g0
    obtain ⟨n2, q2, _, w2⟩ := DataW.trod_int Tryd.underlying3 g2
    obtain ⟨n3, q3, _, w3⟩ := DataW.trod_int Tryd.underlying3 g3
    obtain ⟨n5, q5, _⟩ := DataW.trod_bool Tryd.underlying4 g5
    obtain ⟨a1, l1, e1, lab, q1, hl, _⟩ := ints_of_trod (v := c1) g1
    obtain ⟨a4, l4, e4, rep, q4, hr, _⟩ := ints_of_trod (v := c4) g4
    refine ⟨n0, ⟨a1, l1, e1⟩, n2, n3, ⟨a4, l4, e4⟩, n5, lab, rep, ?_, hl, hr⟩
    rw [(List.cons.inj q0).1, (List.cons.inj q2).1, (List.cons.inj q3).1, (List.cons.inj q5).1, q1, q4]
    rfl
set_option maxRecDepth 100000 in
theorem stp14_cells {H : Type} {enc : TypeId × Value → H} {W : World} {sp : Nat → Bool} {b : Bool} {fuel : Nat} {cs : List Value} {x : DataW H × List MemPlace} (h9 : cs.length = 9)
    (hf : DataW.trod enc Tryd.prog W 0 sp b fuel 60 cs = some x) : ∃ s : St14, cs = stR14 s ∧ (∃ ls, IsC intR 1 W s.L.v ls) ∧ ∃ rs, IsC intR 1 W s.R.v rs := by
  obtain ⟨xs, k, _, _, _, hxl, hfs⟩ := DataW.trod_struct Tryd.underlying60 hf
  have ti : Tryd.prog.cellsOf 3 = 1 := by kernel_rfl
  have ts : Tryd.prog.cellsOf 9 = 1 := by kernel_rfl
  have th : Tryd.prog.cellsOf 25 = 6 := by kernel_rfl
  match xs, hxl, cs, h9 with
  | [y0, y1, y2, y3], _, [c0, c1, c2, d0, d1, d2, d3, d4, d5], _ =>
    have g0 : DataW.trod enc Tryd.prog W 0 sp b k 3 (([c0, c1, c2, d0, d1, d2, d3, d4, d5].drop 0).take (Tryd.prog.cellsOf 3)) = some y0 := hfs 0 _ rfl
    have g1 : DataW.trod enc Tryd.prog W 0 sp b k 3 (([c0, c1, c2, d0, d1, d2, d3, d4, d5].drop 1).take (Tryd.prog.cellsOf 3)) = some y1 := hfs 1 _ rfl
    have g2 : DataW.trod enc Tryd.prog W 0 sp b k 9 (([c0, c1, c2, d0, d1, d2, d3, d4, d5].drop 2).take (Tryd.prog.cellsOf 9)) = some y2 := hfs 2 _ rfl
    have g3 : DataW.trod enc Tryd.prog W 0 sp b k 25 (([c0, c1, c2, d0, d1, d2, d3, d4, d5].drop 3).take (Tryd.prog.cellsOf 25)) = some y3 := hfs 3 _ rfl
    rw [ti] at g0 g1
    rw [ts] at g2
    rw [th] at g3
    obtain ⟨n0, q0, _, w0⟩ := DataW.trod_int Tryd.underlying3 g0
    obtain ⟨n1, q1, _, w1⟩ := DataW.trod_int Tryd.underlying3 g1
    obtain ⟨n2, q2, _, w2⟩ := DataW.trod_string Tryd.underlying9 g2
    obtain ⟨o, L, p, q, R, pp, lab, rep, e3, hl, hr⟩ := hop_cells (cs := [d0, d1, d2, d3, d4, d5]) rfl g3
    refine ⟨⟨n0, n1, n2, o, L, p, q, R, pp⟩, ?_, ⟨lab, hl⟩, rep, hr⟩
    show [c0, c1, c2] ++ [d0, d1, d2, d3, d4, d5] = _
    rw [e3, (List.cons.inj q0).1, (List.cons.inj q1).1, (List.cons.inj q2).1]
    rfl
set_option maxRecDepth 100000 in
theorem steps14_of_reads {H : Type} {enc : TypeId × Value → H} {W : World} {fuel : Nat} {a : Option Addr} {len cap : Nat} {x : DataW H × List MemPlace} {sp : Nat → Bool} {b : Bool}
    (hf : DataW.trod enc Tryd.prog W 0 sp b fuel 22 [Value.slice a len cap] = some x) : ∃ l : List St14, S14 W (.slice a len cap) l := by
  haveI : Inhabited St14 := ⟨st0⟩
  obtain ⟨l, h, h2⟩ := rows_of_reads stR14 9 (by decide) (fun s => (∃ ls, IsC intR 1 W s.L.v ls) ∧ ∃ rs, IsC intR 1 W s.R.v rs) Tryd.underlying22 (by kernel_rfl) (fun k cs y h1 hy => stp14_cells h1 hy) hf
  exact ⟨l, h, h2⟩
theorem hop_of_reads {H : Type} {enc : TypeId × Value → H} {W : World} {r : Reach} {b0 : Nat} {sp : Nat → Bool} {held : Bool} {v : Value} {d : DataW H} {p : List MemPlace} (hv : Value.okWide Tryd.prog W r b0 25 v) (h : DataW.Trod enc Tryd.prog W 0 sp held 25 v d p) :
    ∃ (o : Int) (L : Ls) (p q : Int) (R : Ls) (pp : Bool) (lab rep : List Int), v = .agg (hopR o L.v p q R.v pp).toArray ∧ IsC intR 1 W L.v lab ∧ IsC intR 1 W R.v rep := by
  obtain ⟨cs, rfl, hsz⟩ := okWide_struct Tryd.underlying25 hv
  obtain ⟨fuel, hf⟩ := h
  have h6 : cs.toList.length = 6 := by rw [Array.length_toList, hsz]; kernel_rfl
  obtain ⟨o, L, p, q, R, pp, lab, rep, e, hl, hr⟩ := hop_cells h6 hf
  refine ⟨o, L, p, q, R, pp, lab, rep, ?_, hl, hr⟩
  rw [← e]
end Go.Proofs.YtoliijajhikhgaaDoor
