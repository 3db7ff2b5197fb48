/- Rows of bytes that lie out of a block; worlds that differ in one block alone; copy into a known row. -/
import Derived.Test.YtemocbcibnccpaaCat1
import Derived.Test.YtemocbcibnccpaaAwake
import Derived.Laws.IdiomStrings
namespace Go.Proofs.Ytemocbcibnccpaa
open Go Go.RowKit

/-- v is a slice of the bytes l, none of which lies in block g. -/
def IsX (g : Nat) (w : World) (v : Value) (l : List UInt8) : Prop :=
  ∃ a cap, v = .slice a l.length cap ∧ l.length ≤ cap ∧ cap ≤ maxLen ∧
    (0 < l.length → ∃ b off, a = some ⟨b, off, none⟩ ∧ b ≠ g ∧ b < w.heap.size ∧ ∀ i, i < l.length → w.cell? ⟨b, off + i, none⟩ = some (.int .u8 (byteAt l i)))
theorem IsX.isB {g : Nat} {w : World} {v : Value} {l : List UInt8} (h : IsX g w v l) : IsB w v l := by
  obtain ⟨a, cap, h0, h1, h2, h3⟩ := h
  refine ⟨a, cap, h0, h1, h2, fun hp => ?_⟩
  obtain ⟨b, off, h4, _, h5, h6⟩ := h3 hp
  exact ⟨b, off, h4, h5, h6⟩
/-- All blocks but g are as they were. -/
structure But (g : Nat) (w w' : World) : Prop where
  os : w'.os = w.os
  tape : w'.tape = w.tape
  output : w'.output = w.output
  size : w.heap.size ≤ w'.heap.size
  block : ∀ k, k < w.heap.size → k ≠ g → w'.heap[k]? = w.heap[k]?
theorem But.refl (g : Nat) (w : World) : But g w w := ⟨rfl, rfl, rfl, Nat.le_refl _, fun _ _ _ => rfl⟩
theorem But.of_below {g : Nat} {w w' : World} (h : Below w.heap.size w w') : But g w w' := ⟨h.os, h.tape, h.output, h.size, fun k hk _ => h.block k hk⟩
theorem But.setRow (g : Nat) (w : World) (cs : Array Value) : But g w (w.setRow g cs) := ⟨rfl, rfl, rfl, by simp, fun k _ hk => setRow_other w g k cs hk⟩
theorem But.trans {g : Nat} {a b c : World} (h : But g a b) (k : But g b c) : But g a c :=
  ⟨k.os.trans h.os, k.tape.trans h.tape, k.output.trans h.output, Nat.le_trans h.size k.size, fun i hi hg => (k.block i (Nat.lt_of_lt_of_le hi h.size) hg).trans (h.block i hi hg)⟩
theorem But.below {g : Nat} {w w' : World} {B : Nat} {w0 : World} (h : But g w w') (hb : Below B w0 w) (hg : B ≤ g) (hs : B ≤ w.heap.size) : Below B w0 w' :=
  hb.trans ⟨h.os, h.tape, h.output, h.size, fun k hk => h.block k (by omega) (by omega)⟩
theorem IsX.but {g : Nat} {w w' : World} {v : Value} {l : List UInt8} (h : IsX g w v l) (hb : But g w w') : IsX g w' v l := by
  obtain ⟨a, cap, rfl, h1, h2, h3⟩ := h
  refine ⟨a, cap, rfl, h1, h2, fun hp => ?_⟩
  obtain ⟨b, off, rfl, hn, hlt, hc⟩ := h3 hp
  refine ⟨b, off, rfl, hn, Nat.lt_of_lt_of_le hlt hb.size, fun i hi => ?_⟩
  rw [World.cell?_of_block (w := w) (hb.block b hlt hn)]
  exact hc i hi
/-- A row of its own in block b. -/
theorem IsX.of_row {g b : Nat} {w : World} {l : List UInt8} {t : TypeId} {z : Nat × Nat} (h : w.heap[b]? = some (.cells (byteVals l).toArray t z)) (hm : l.length ≤ maxLen) (hn : b ≠ g) : IsX g w (.slice (some ⟨b, 0, none⟩) l.length l.length) l := by
  refine ⟨some ⟨b, 0, none⟩, l.length, rfl, Nat.le_refl _, hm, fun _ => ⟨b, 0, rfl, hn, (Array.getElem?_eq_some_iff.1 h).1, fun i hi => ?_⟩⟩
  have := byteVals_getElem? l i hi
  simp [World.cell?, h, this]

/-- A row of rows, all of it out of block g. -/
def RowsX (g : Nat) (w : World) (v : Value) (ls : List (List UInt8)) : Prop :=
  ∃ a cap, v = .slice a ls.length cap ∧ ls.length ≤ cap ∧ cap ≤ maxLen ∧
    (0 < ls.length → ∃ b off, a = some ⟨b, off, none⟩ ∧ b ≠ g ∧ b < w.heap.size ∧ ∀ i (h : i < ls.length), ∃ ai ci, w.cell? ⟨b, off + i, none⟩ = some (.slice ai (ls[i]).length ci) ∧ IsX g w (.slice ai (ls[i]).length ci) ls[i])
theorem RowsX.but {g : Nat} {w w' : World} {v : Value} {ls : List (List UInt8)} (h : RowsX g w v ls) (hb : But g w w') : RowsX g w' v ls := by
  obtain ⟨a, cap, rfl, h1, h2, h3⟩ := h
  refine ⟨a, cap, rfl, h1, h2, fun hp => ?_⟩
  obtain ⟨b, off, rfl, hn, hlt, hc⟩ := h3 hp
  refine ⟨b, off, rfl, hn, Nat.lt_of_lt_of_le hlt hb.size, fun i hi => ?_⟩
  obtain ⟨ai, ci, h4, h5⟩ := hc i hi
  exact ⟨ai, ci, by rw [World.cell?_of_block (w := w) (hb.block b hlt hn)]; exact h4, h5.but hb⟩
theorem rowsX_built (g : Nat) (W : World) (vs : List Value) (ls : List (List UInt8)) (cs : Array Value) (hcs : cs = vs.toArray) (n : Nat) (hn : n = ls.length) (hl : vs.length = ls.length) (hm : ls.length ≤ 1000) (hgl : g < W.heap.size)
    (h : ∀ i (h1 : i < vs.length) (h2 : i < ls.length), IsX g W vs[i] ls[i]) : RowsX g (W.alloc (.cells cs 22)) (.slice (some ⟨W.heap.size, 0, none⟩) n n) ls := by
  subst hcs hn
  refine ⟨_, _, rfl, Nat.le_refl _, by unfold maxLen; omega, fun _ => ⟨W.heap.size, 0, rfl, by omega, by simp, fun i hi => ?_⟩⟩
  have hb := h i (by omega) hi
  obtain ⟨a, cap, he, _⟩ := id hb
  refine ⟨a, cap, ?_, ?_⟩
  · rw [cell_of_row _ W.heap.size (0 + i) _ _ _ (heap_alloc_new W _)]
    simp [show i < vs.length by omega, he]
  · rw [← he]
    exact hb.but (But.of_below ((Below.refl _ _).alloc (Nat.le_refl _) _))

theorem wpList_copy_set {P : Program} {w : World} {ops : Array Oper} {rest : List Oper} {o : Oper} {a : Act} {Q : Exit → Act → World → Prop} (hgd : o.guard = none) (d s : Operand) (dT sT : TypeId)
    (ho : o.op = .call { callee := .builtin .copy, args := #[d, s], argTypes := #[dT, sT] }) (elem : TypeId) (hu : P.underlying dT = some (.slice elem)) (hsz : (P.info? elem).map (·.size) = some 1)
    (dp sp : Option Addr) (dLen dCap sLen sCap : Nat) (hd : a.eval d = .slice dp dLen dCap) (hs : a.eval s = .slice sp sLen sCap)
    (g off : Nat) (cur : List Value) (t : TypeId) (hg : w.heap[g]? = some (.cells cur.toArray t (0, 0))) (cs : List Value) (hn : cs.length = Nat.min sLen dLen)
    (hpos : 0 < cs.length → dp = some ⟨g, off, none⟩ ∧ ∃ ad, sp = some ad ∧ ∀ j v, cs[j]? = some v → w.cell? (ad.add j) = some v)
    (hfit : off + cs.length ≤ cur.length) (h1 : ∀ v ∈ cs, v.oneCell' = true)
    (h : wpList P ops Q rest (a.put o.dst (goInt cs.length)) (w.setRow g (splice cur off cs).toArray)) :
    wpList P ops Q (o :: rest) a w := by
  by_cases h0 : cs.length = 0
  · obtain rfl : cs = [] := List.eq_nil_of_length_eq_zero h0
    refine wpList_copy_nothing hgd d s dT sT ho elem hu hsz dp sp dLen dCap sLen sCap hd hs (by simpa using hn.symm) ?_
    rw [show (splice cur off []).toArray = cur.toArray by simp [splice], setRow_self w g _ t _ hg] at h
    exact h
  · obtain ⟨rfl, ad, rfl, hsrc⟩ := hpos (by omega)
    refine wpList_copy_own hgd d s dT sT ho elem hu hsz g off dLen dCap ad sLen sCap hd hs cur.toArray t hg cs hn hsrc (by simpa using hfit) h1 ?_
    simpa [splice] using h
theorem conv_x (g : Nat) (w : World) (l : List UInt8) (hm : l.length ≤ 1000000) (hg : g < w.heap.size) : ∃ v w', (convert 9 22 (.string ⟨l.toArray⟩)).run Try.prog w = .ok v w' ∧ IsX g w' v l ∧ Below w.heap.size w w' := by
  have h := run_bytes_of_string (P := Try.prog) w 9 22 5 ⟨l.toArray⟩ Try.underlying9 Try.underlying22 Try.underlying5
  have hs : (⟨l.toArray⟩ : ByteArray).size = l.length := by simp [ByteArray.size]
  rw [hs] at h
  have hG := grownCap_ge w l.length 0 5
  have hG63 := grownCap_le_maxLen w l.length 0 5 (by unfold maxLen; omega)
  refine ⟨_, _, h, ⟨_, _, rfl, hG, hG63, fun hp => ⟨w.heap.size, 0, rfl, by omega, by simp, fun i hi => ?_⟩⟩, (Below.refl _ _).drew.alloc (Nat.le_refl _) _⟩
  rw [cell_of_row _ w.heap.size (0 + i) _ _ _ (heap_alloc_new w.drew _), Nat.zero_add, bytesRow_at _ _ _ (by simpa using hi)]
  simp [byteAt, List.getD, hi]
theorem isX_built (g : Nat) (W : World) (l : List UInt8) (cs : Array Value) (hcs : cs = (byteVals l).toArray) (n : Nat) (hn : n = l.length) (hm : l.length ≤ 1000) (hg : g < W.heap.size) : IsX g (W.alloc (.cells cs 5)) (.slice (some ⟨W.heap.size, 0, none⟩) n n) l := by
  subst hcs hn
  exact IsX.of_row (heap_alloc_new W _) (by unfold maxLen; omega) (by omega)
/-- A row longer than a block lies in another one. -/
theorem isX_of_long {w : World} {v : Value} {l : List UInt8} {g : Nat} {cs : Array Value} {t : TypeId} {z : Nat × Nat} (h : IsB w v l) (hg : w.heap[g]? = some (.cells cs t z)) (hs : cs.size < l.length) : IsX g w v l := by
  obtain ⟨a, cap, rfl, h1, h2, h3⟩ := h
  refine ⟨a, cap, rfl, h1, h2, fun hp => ?_⟩
  obtain ⟨b, off, rfl, hlt, hc⟩ := h3 hp
  refine ⟨b, off, rfl, ?_, hlt, hc⟩
  intro hb
  subst hb
  have := hc cs.size hs
  rw [cell_of_row w b (off + cs.size) _ _ _ hg, Array.getElem?_eq_none (by omega)] at this
  cases this
theorem But.setCell (g i : Nat) (w : World) (v : Value) : But g w (w.setCell ⟨g, i, none⟩ v) :=
  ⟨rfl, rfl, rfl, by simp, fun k _ hk => Below.heap_setCell w ⟨g, i, none⟩ v k hk⟩
end Go.Proofs.Ytemocbcibnccpaa
