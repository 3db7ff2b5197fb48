/- A script that came in: a slice of steps, as a list. -/
import Derived.Test.YtgimcapcnidjjaaLiftY
import Derived.Test.YtgimcapcnidjjaaStc
namespace Go.Proofs.Ytgimcapcnidjjaa
open Go Go.ChangeShapes Go.WideShapes Go.RowKit

structure Stp where
  k : Int
  p : Pfx
  v : Int
def stF (s : Stp) : List Value := .int .i64 s.k :: (s.p.row ++ [.int .i64 s.v])
set_option maxRecDepth 100000 in
theorem pfx_cells {H : Type} {enc : TypeId × Value → H} {W : World} {base : Nat} {sp : Nat → Bool} {held : Bool} {fuel : Nat} {cs : List Value} {x : DataW H × List MemPlace} (h18 : cs.length = 18)
    (hf : DataW.trod enc Try.prog W base sp held fuel 25 cs = some x) : ∃ q : Pfx, cs = q.row ∧ q.addr.length = 16 := by
  obtain ⟨xs, n, _, _, _, hxl, hfs⟩ := DataW.trod_struct Try.underlying25 hf
  have tb : Try.prog.cellsOf 4 = 1 := by kernel_rfl
  have ti : Try.prog.cellsOf 3 = 1 := by kernel_rfl
  have t4 : Try.prog.cellsOf 23 = 16 := by kernel_rfl
  match cs, h18, xs, hxl with
  | c0 :: rest, hr, [y0, y1, y2], _ =>
    have hr17 : rest.length = 17 := by simpa using hr
    have g0 : DataW.trod enc Try.prog W base sp held n 4 (List.take (Try.prog.cellsOf 4) _) = some y0 := hfs 0 _ rfl
    have g1 : DataW.trod enc Try.prog W base sp held n 23 (List.take (Try.prog.cellsOf 23) rest) = some y1 := hfs 1 _ rfl
    have g2 : DataW.trod enc Try.prog W base sp held n 3 (List.take (Try.prog.cellsOf 3) (rest.drop 16)) = some y2 := hfs 2 _ rfl
    rw [tb] at g0
    rw [t4] at g1
    rw [ti] at g2
    obtain ⟨b, e0, _⟩ := DataW.trod_bool Try.underlying4 g0
    obtain ⟨l, hl, e1⟩ := trod_arr (by rw [List.length_take, hr17]; rfl) g1
    obtain ⟨len, e2, _, wl⟩ := DataW.trod_int Try.underlying3 g2
    have f0 : c0 = _ := (List.cons.inj e0).1
    have er : rest = byteVals l ++ [.int .i64 len] := by
      rw [← e1, ← e2, List.take_of_length_le (l := rest.drop 16) (by rw [List.length_drop, hr17]; omega), List.take_append_drop]
    refine ⟨⟨b, l, len⟩, ?_, hl⟩
    unfold Pfx.row
    rw [f0, er]
theorem stF_len {s : Stp} (h : s.p.addr.length = 16) : (stF s).length = 20 := by
  unfold stF Pfx.row
  simp [byteVals_length, h]
set_option maxRecDepth 100000 in
theorem steps_of_reads {H : Type} {enc : TypeId × Value → H} {W : World} {fuel : Nat} {a : Option Addr} {len cap : Nat} {x : DataW H × List MemPlace} {sp : Nat → Bool} {b : Bool}
    (hf : DataW.trod enc Try.prog W 0 sp b fuel 22 [Value.slice a len cap] = some x) : ∃ l : List Stp, IsC stF 20 W (.slice a len cap) l ∧ ∀ s ∈ l, s.p.addr.length = 16 := by
  rcases Go.Deep.open_slice Try.underlying22 hf with ⟨hcs, _⟩ | ⟨ad, len', cap', m, n, D, Pl, hcs, _, hl, hm, hmm, hxx, hx⟩
  · simp only [List.cons.injEq, and_true] at hcs
    cases hcs
    exact ⟨[], IsC.nil W, fun _ h => by cases h⟩
  · simp only [List.cons.injEq, and_true] at hcs
    cases hcs
    have hlm : len ≤ m := by rw [hmm]; split <;> omega
    have ce : Try.prog.cellsOf 36 = 20 := by kernel_rfl
    have each : ∀ i, i < len → ∃ s : Stp, s.p.addr.length = 16 ∧ ∀ j v, (stF s)[j]? = some v → W.cell? (ad.add (i * 20 + j)) = some v := by
      intro i hi
      obtain ⟨cs', h1, h2⟩ := hx i (by omega)
      rw [ce] at h1
      obtain ⟨_, hlen, hcell⟩ := World.cells?_some h1
      obtain ⟨xs, k, _, _, _, hxl, hfs⟩ := DataW.trod_struct Try.underlying36 h2
      have ti : Try.prog.cellsOf 3 = 1 := by kernel_rfl
      have tp : Try.prog.cellsOf 25 = 18 := by kernel_rfl
      match xs, hxl, cs', hlen with
      | [y0, y1, y2], _, c0 :: rest, hlen =>
        have hr : rest.length = 19 := by simpa using hlen
        have g0 : DataW.trod enc Try.prog W 0 sp b k 3 (((c0 :: rest).drop 0).take (Try.prog.cellsOf 3)) = some y0 := hfs 0 _ rfl
        have g1 : DataW.trod enc Try.prog W 0 sp b k 25 (((c0 :: rest).drop 1).take (Try.prog.cellsOf 25)) = some y1 := hfs 1 _ rfl
        have g2 : DataW.trod enc Try.prog W 0 sp b k 3 (((c0 :: rest).drop 19).take (Try.prog.cellsOf 3)) = some y2 := hfs 2 _ rfl
        rw [ti] at g0 g2
        rw [tp] at g1
        simp only [List.drop_zero, List.drop_succ_cons] at g0 g1 g2
        obtain ⟨n0, q0, _, w0⟩ := DataW.trod_int Try.underlying3 g0
        obtain ⟨q, q1, q16⟩ := pfx_cells (by rw [List.length_take, hr]; rfl) g1
        obtain ⟨n2, q2, _, w2⟩ := DataW.trod_int Try.underlying3 g2
        have f0 : c0 = .int .i64 n0 := (List.cons.inj q0).1
        have er : rest = q.row ++ [.int .i64 n2] := by
          rw [← q1, ← q2, List.take_of_length_le (l := rest.drop 18) (by rw [List.length_drop, hr]; omega), List.take_append_drop]
        refine ⟨⟨n0, q, n2⟩, q16, fun j v hv => ?_⟩
        have hj : j < 20 := by have := (List.getElem?_eq_some_iff.1 hv).1; rw [stF_len q16] at this; exact this
        have e0 := hcell j (by omega)
        rw [Go.Deep.add_add] at e0
        rw [e0, ← hv]
        unfold stF
        rw [f0, er]
    haveI : Inhabited Stp := ⟨⟨0, ⟨false, [], 0⟩, 0⟩⟩
    obtain ⟨E, hE⟩ := Go.Deep.choose_lt each
    have hll : ((List.range len).map E).length = len := by simp
    have hok : ∀ e ∈ (List.range len).map E, e.p.addr.length = 16 := fun e he => by
      obtain ⟨i, hi, rfl⟩ := List.mem_map.1 he
      exact (hE i (List.mem_range.1 hi)).1
    have hfl : ∀ e ∈ (List.range len).map E, (stF e).length = 20 := fun e he => stF_len (hok e he)
    refine ⟨(List.range len).map E, ⟨hfl, some ad, cap, by rw [hll], by rw [hll]; exact hl, hm, fun hp => ?_⟩, hok⟩
    rw [hll] at hp
    have h0 := (hE 0 hp).2 0 _ rfl
    have hspot : ad.spot = none := by simpa [Addr.add] using World.cell?_spot h0
    obtain ⟨bb, off, s⟩ := ad
    simp only at hspot
    subst hspot
    refine ⟨bb, off, rfl, ?_, fun j v hj => ?_⟩
    · have := World.block_lt_of_cell? _ _ h0
      rwa [plain_add] at this
    · have hjl : j < len * 20 := by
        have := (List.getElem?_eq_some_iff.1 hj).1
        rw [cflat_length _ hfl, hll] at this
        exact this
      have hi : j / 20 < len := by omega
      have hje : j / 20 * 20 + j % 20 = j := by omega
      rw [← hje, flat_get _ hfl (j / 20) (j % 20) (E (j / 20)) (by rw [List.getElem?_map, List.getElem?_range hi]; rfl) (by omega)] at hj
      have := (hE (j / 20) hi).2 (j % 20) v hj
      rw [plain_add, hje] at this
      exact this
end Go.Proofs.Ytgimcapcnidjjaa
