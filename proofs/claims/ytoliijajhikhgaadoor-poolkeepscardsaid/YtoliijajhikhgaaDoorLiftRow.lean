/- Slices of anything that came in, as lists: one law for any kind of thing of c cells; rows of 16-bit numbers, rows of ints. -/
import Derived.Test.YtoliijajhikhgaaDoorLiftP
import Derived.Test.YtoliijajhikhgaaDoorStc
namespace Go.Proofs.YtoliijajhikhgaaDoor
open Go Go.ChangeShapes Go.WideShapes Go.RowKit

set_option maxRecDepth 100000 in
theorem rows_of_reads {α : Type} (f : α → List Value) (c : Nat) (hc : 0 < c) (Q : α → Prop) {t e : TypeId} (ht : Tryd.prog.underlying t = some (.slice e)) (he : Tryd.prog.cellsOf e = c) [hI : Inhabited α]
    {H : Type} {enc : TypeId × Value → H} {W : World} {fuel : Nat} {a : Option Addr} {len cap : Nat} {x : DataW H × List MemPlace} {sp : Nat → Bool} {b : Bool}
    (hcell : ∀ (k : Nat) (cs : List Value) (y : DataW H × List MemPlace), cs.length = c → DataW.trod enc Tryd.prog W 0 sp b k e cs = some y → ∃ s, cs = f s ∧ Q s)
    (hf : DataW.trod enc Tryd.prog W 0 sp b fuel t [Value.slice a len cap] = some x) : ∃ l : List α, IsC f c W (.slice a len cap) l ∧ ∀ s ∈ l, Q s := by
  rcases Go.Deep.open_slice ht hf with ⟨hcs, _⟩ | ⟨ad, len', cap', m, n, D, Pl, hcs, _, hl, hm, hmm, hxx, hx⟩
  · simp only [List.cons.injEq, and_true] at hcs
    cases hcs
    exact ⟨[], IsC.nil W, fun _ h => by cases h⟩
  · simp only [List.cons.injEq, and_true] at hcs
    cases hcs
    have hlm : len ≤ m := by rw [hmm]; split <;> omega
    have each : ∀ i, i < len → ∃ s : α, ((f s).length = c ∧ Q s) ∧ ∀ j v, (f s)[j]? = some v → W.cell? (ad.add (i * c + j)) = some v := by
      intro i hi
      obtain ⟨cs', h1, h2⟩ := hx i (by omega)
      rw [he] at h1
      obtain ⟨_, hlen, hcl⟩ := World.cells?_some h1
      obtain ⟨s, hs, hq⟩ := hcell _ cs' _ hlen h2
      refine ⟨s, ⟨by rw [← hs]; exact hlen, hq⟩, fun j v hv => ?_⟩
      have hj : j < c := by rw [← hlen, hs]; exact (List.getElem?_eq_some_iff.1 hv).1
      have e0 := hcl j (by omega)
      rw [Go.Deep.add_add] at e0
      rw [e0, ← hv, hs]
    obtain ⟨E, hE⟩ := Go.Deep.choose_lt each
    have hll : ((List.range len).map E).length = len := by simp
    have hmem : ∀ s ∈ (List.range len).map E, (f s).length = c ∧ Q s := by
      intro s hs
      obtain ⟨i, hi, rfl⟩ := List.mem_map.1 hs
      exact (hE i (List.mem_range.1 hi)).1
    have hfl : ∀ s ∈ (List.range len).map E, (f s).length = c := fun s hs => (hmem s hs).1
    refine ⟨(List.range len).map E, ⟨hfl, some ad, cap, by rw [hll], by rw [hll]; exact hl, hm, fun hp => ?_⟩, fun s hs => (hmem s hs).2⟩
    rw [hll] at hp
    obtain ⟨v0, hv0⟩ : ∃ v0, (f (E 0))[0]? = some v0 := ⟨_, List.getElem?_eq_getElem (by rw [(hE 0 hp).1.1]; exact hc)⟩
    have h0 := (hE 0 hp).2 0 _ hv0
    have hspot : ad.spot = none := by simpa [Addr.add] using World.cell?_spot h0
    obtain ⟨bb, off, s⟩ := ad
    simp only at hspot
    subst hspot
    refine ⟨bb, off, rfl, ?_, fun j v hj => ?_⟩
    · have := World.block_lt_of_cell? _ _ h0
      rwa [plain_add] at this
    · have hjl : j < len * c := by
        have := (List.getElem?_eq_some_iff.1 hj).1
        rw [cflat_length _ hfl, hll] at this
        exact this
      have hi : j / c < len := (Nat.div_lt_iff_lt_mul hc).2 hjl
      have hje : j / c * c + j % c = j := by rw [Nat.mul_comm]; exact Nat.div_add_mod j c
      rw [← hje, flat_get _ hfl (j / c) (j % c) (E (j / c)) (by rw [List.getElem?_map, List.getElem?_range hi]; rfl) (Nat.mod_lt _ hc)] at hj
      have := (hE (j / c) hi).2 (j % c) v hj
      rw [plain_add, hje] at this
      exact this
/-- rows of 16-bit numbers -/
def u16R (n : Nat) : List Value := [.int .u16 (n : Int)]
/-- rows of ints -/
def intR (n : Int) : List Value := [.int .i64 n]
set_option maxRecDepth 100000 in
theorem ints_of_reads {H : Type} {enc : TypeId × Value → H} {W : World} {fuel : Nat} {a : Option Addr} {len cap : Nat} {x : DataW H × List MemPlace} {sp : Nat → Bool} {b : Bool} (hf : DataW.trod enc Tryd.prog W 0 sp b fuel 23 [Value.slice a len cap] = some x) : ∃ l : List Int, IsC intR 1 W (.slice a len cap) l ∧ ∀ n ∈ l, -9223372036854775808 ≤ n ∧ n ≤ 9223372036854775807 := by
  refine rows_of_reads intR 1 (by decide) (fun n => -9223372036854775808 ≤ n ∧ n ≤ 9223372036854775807) Tryd.underlying23 (by kernel_rfl) (fun k cs y h1 hy => ?_) hf
  obtain ⟨n, q, _, w⟩ := DataW.trod_int Tryd.underlying3 hy
  exact ⟨n, q, bounds_i64 w⟩
end Go.Proofs.YtoliijajhikhgaaDoor
