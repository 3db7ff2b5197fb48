/- Rows of bytes in memory, as lists: what the walks of this seat are told of a slice of bytes. No conditions of its own. -/
import Derived.Test.YtoliijajhikhgaaDoorMath
import Derived.WalkKit
import Derived.WalkLawsBesides
import Derived.WalkSpells
import Derived.Laws.CopyOwn
import Derived.Laws.BytesArg
import Derived.Lib.Hide
namespace Go.Proofs.YtoliijajhikhgaaDoor
open Go Go.RowKit

/-- v is a slice whose elements are the bytes l, in the world w. -/
def IsB (w : World) (v : Value) (l : List UInt8) : Prop :=
  ∃ a cap, v = .slice a l.length cap ∧ l.length ≤ cap ∧ cap ≤ maxLen ∧
    (0 < l.length → ∃ b off, a = some ⟨b, off, none⟩ ∧ b < w.heap.size ∧ ∀ i, i < l.length → w.cell? ⟨b, off + i, none⟩ = some (.int .u8 (byteAt l i)))

theorem IsB.nil (w : World) : IsB w (.slice none 0 0) [] := ⟨none, 0, rfl, by simp, by simp [maxLen], fun h => by simp at h⟩

/-- What reads so reads so behind whatever has turned no old block. -/
theorem IsB.below {w w' : World} {v : Value} {l : List UInt8} (h : IsB w v l) (hb : Below w.heap.size w w') : IsB w' v l := by
  obtain ⟨a, cap, rfl, h1, h2, h3⟩ := h
  refine ⟨a, cap, rfl, h1, h2, fun hp => ?_⟩
  obtain ⟨b, off, rfl, hlt, hc⟩ := h3 hp
  exact ⟨b, off, rfl, Nat.lt_of_lt_of_le hlt hb.size, fun i hi => (hb.cell (p := ⟨b, off + i, none⟩) hlt).trans (hc i hi)⟩


/-- A piece of a row. -/
theorem IsB.cut {w : World} {a : Option Addr} {l : List UInt8} {cap at' size : Nat} (h : IsB w (.slice a l.length cap) l) (h1 : at' + size ≤ l.length) :
    IsB w (.slice (if at' + size = at' then a else a.map (·.add at')) size size) ((l.drop at').take size) := by
  obtain ⟨a2, cap2, he, h2, h3, h4⟩ := h
  simp only [Value.slice.injEq] at he
  obtain ⟨rfl, _, rfl⟩ := he
  have hl : ((l.drop at').take size).length = size := by simp; omega
  refine ⟨(if at' + size = at' then a else a.map (·.add at')), size, by rw [hl], by omega, by unfold maxLen at *; omega, fun hp => ?_⟩
  rw [hl] at hp
  obtain ⟨b, off, rfl, hlt, hc⟩ := h4 (by omega)
  refine ⟨b, off + at', by rw [if_neg (by omega)]; simp [Addr.add], hlt, fun i hi => ?_⟩
  rw [hl] at hi
  rw [byteAt_take _ _ _ hi, byteAt_drop, Nat.add_assoc]
  exact hc _ (by omega)

/-- Bytes as the cells of a row. -/
def byteVals (l : List UInt8) : List Value := l.map fun b => Value.int .u8 (b.toNat : Int)
theorem byteVals_length (l : List UInt8) : (byteVals l).length = l.length := by simp [byteVals]
theorem byteVals_oneCell (l : List UInt8) : ∀ v ∈ byteVals l, v.oneCell' = true := by
  intro v hv
  simp only [byteVals, List.mem_map] at hv
  obtain ⟨b, _, rfl⟩ := hv
  rfl
theorem byteVals_getElem? (l : List UInt8) (i : Nat) (h : i < l.length) : (byteVals l)[i]? = some (.int .u8 (byteAt l i)) := by
  simp [byteVals, byteAt, List.getElem?_eq_getElem h]

/-- A block that holds just these bytes. -/
theorem IsB.of_row {w : World} {g : Nat} {l : List UInt8} {t : TypeId} {z : Nat × Nat} (h : w.heap[g]? = some (.cells (byteVals l).toArray t z)) (hm : l.length ≤ maxLen) :
    IsB w (.slice (some ⟨g, 0, none⟩) l.length l.length) l := by
  refine ⟨some ⟨g, 0, none⟩, l.length, rfl, Nat.le_refl _, hm, fun _ => ⟨g, 0, rfl, (Array.getElem?_eq_some_iff.1 h).1, fun i hi => ?_⟩⟩
  have := byteVals_getElem? l i hi
  simp [World.cell?, h, this]

theorem plain_add (b o j : Nat) : (⟨b, o, none⟩ : Addr).add j = ⟨b, o + j, none⟩ := by unfold Addr.add; split <;> simp_all

theorem IsB.cells {w : World} {a : Option Addr} {l : List UInt8} {n cap : Nat} (h : IsB w (.slice a n cap) l) :
    n = l.length ∧ l.length ≤ cap ∧ cap ≤ maxLen ∧ (0 < l.length → ∃ ad, a = some ad ∧ ad.block < w.heap.size ∧ ∀ j v, (byteVals l)[j]? = some v → w.cell? (ad.add j) = some v) := by
  obtain ⟨a2, cap2, he, h1, h2, h3⟩ := h
  simp only [Value.slice.injEq] at he
  obtain ⟨rfl, rfl, rfl⟩ := he
  refine ⟨rfl, h1, h2, fun hp => ?_⟩
  obtain ⟨b, off, rfl, hlt, hc⟩ := h3 hp
  refine ⟨_, rfl, hlt, fun j v hj => ?_⟩
  have hjl : j < l.length := by
    rcases Nat.lt_or_ge j l.length with h | h
    · exact h
    · rw [List.getElem?_eq_none (by rw [byteVals_length]; exact h)] at hj; cases hj
  rw [byteVals_getElem? l j hjl] at hj
  cases hj
  have := hc j hjl
  rw [plain_add]
  exact this

/-- Block g is a row of just these bytes, that may be written. -/
def RowIs (w : World) (g : Nat) (c : List UInt8) : Prop := w.heap[g]? = some (.cells (byteVals c).toArray 5 (0, 0))
theorem RowIs.isB {w : World} {g : Nat} {c : List UInt8} (h : RowIs w g c) (hm : c.length ≤ maxLen) : IsB w (.slice (some ⟨g, 0, none⟩) c.length c.length) c := IsB.of_row h hm
theorem RowIs.cell {w : World} {g : Nat} {c : List UInt8} (h : RowIs w g c) (i : Nat) (hi : i < c.length) : w.cell? ⟨g, i, none⟩ = some (.int .u8 (byteAt c i)) := by
  rw [cell_of_row w g i _ _ _ h]
  simpa using byteVals_getElem? c i hi
theorem RowIs.frozen {w : World} {g : Nat} {c : List UInt8} (h : RowIs w g c) (i : Nat) : w.frozen? ⟨g, i, none⟩ = false := frozen_of_row w g i _ _ h
theorem RowIs.lt {w : World} {g : Nat} {c : List UInt8} (h : RowIs w g c) : g < w.heap.size := (Array.getElem?_eq_some_iff.1 h).1
theorem byteVals_set (c : List UInt8) (i : Nat) (b : UInt8) : (byteVals c).set i (.int .u8 (b.toNat : Int)) = byteVals (c.set i b) := by
  simp [byteVals, List.map_set]
theorem RowIs.store {w : World} {g : Nat} {c : List UInt8} (h : RowIs w g c) (i : Nat) (x : Int) (b : UInt8) (hx : x = (b.toNat : Int)) : RowIs (w.setCell ⟨g, i, none⟩ (.int .u8 x)) g (c.set i b) := by
  subst hx
  unfold RowIs
  rw [heap_setCell_same w g i _ _ _ h, ← byteVals_set]
  simp
theorem RowIs.below {w w' : World} {g : Nat} {c : List UInt8} (h : RowIs w g c) (hb : Below w.heap.size w w') : RowIs w' g c := by
  unfold RowIs
  rw [hb.block g h.lt]
  exact h

/-- What the call's own row holds. -/
theorem IsB.of_owned {w : World} {base : Nat} {e : TypeId} {g n cap : Nat} {l : List UInt8} (h : w.ownsRow base e 1 (.slice (some ⟨g, 0, none⟩) n cap) n (byteVals l)) :
    IsB w (.slice (some ⟨g, 0, none⟩) n cap) l := by
  have hn : n = l.length := by have := h.1; rw [byteVals_length] at this; omega
  subst hn
  obtain ⟨_, ⟨h1, _⟩ | ⟨g2, cap2, cur, he, _, hg, h3, h4, hc, hx⟩⟩ := h
  · cases h1
  · simp only [Value.slice.injEq, Option.some.injEq, Addr.mk.injEq, and_true, true_and] at he
    obtain ⟨rfl, rfl⟩ := he
    refine ⟨_, _, rfl, h3, h4, fun _ => ⟨g, 0, rfl, (Array.getElem?_eq_some_iff.1 hg).1, fun i hi => ?_⟩⟩
    rw [cell_of_row w g (0 + i) cur e _ hg, ← byteVals_getElem? l i hi, ← hx, List.getElem?_take, if_pos (by omega)]
    simp

/-- 'string(b)'. -/
theorem IsB.conv {P : Program} {w : World} {a : Option Addr} {n cap : Nat} {l : List UInt8} (h : IsB w (.slice a n cap) l) {src dst e : TypeId} (hs : P.underlying src = some (.slice e))
    (he : P.underlying e = some (.int .u8)) (hd : P.underlying dst = some .string) : (convert src dst (.slice a n cap)).run P w = .ok (.string ⟨l.toArray⟩) w := by
  obtain ⟨rfl, h1, h2, h3⟩ := h.cells
  rcases a with _ | ad
  · have hl : l = [] := by
      rcases l with _ | ⟨b, l⟩
      · rfl
      · obtain ⟨ad, h4, _⟩ := h3 (by simp); cases h4
    subst hl
    rw [run_convert_bytes_nil w src e hs he _ _ dst hd]
    rfl
  · have hl : (loadCells ad l.length).run P w = .ok (byteVals l).toArray w := by
      have := run_loadCells_list (P := P) w ad (byteVals l) (fun j v hj => by
        have hjl : 0 < l.length := by
          rcases l with _ | ⟨b, l⟩
          · simp [byteVals] at hj
          · simp
        obtain ⟨ad2, h4, _, h5⟩ := h3 hjl
        cases h4
        exact h5 j v hj)
      simpa [byteVals_length] using this
    have e1 : byteVals l = (l.map fun b => (b.toNat : Int)).map (Value.int .u8) := by simp [byteVals]
    rw [e1] at hl
    rw [run_convert_bytes_string w src dst e _ l.length cap hs he hd, run_bytesToString w _ l.length cap _ hl, foldl_push_bytes]
    have e2 : ((l.map fun b => (b.toNat : Int)).map fun n => UInt8.ofNat n.toNat) = l := by
      rw [List.map_map]
      conv => rhs; rw [← List.map_id l]
      refine List.map_congr_left fun b _ => ?_
      simp
    rw [e2]
    simp [ByteArray.empty, ByteArray.emptyWithCapacity]
    rfl
end Go.Proofs.YtoliijajhikhgaaDoor
