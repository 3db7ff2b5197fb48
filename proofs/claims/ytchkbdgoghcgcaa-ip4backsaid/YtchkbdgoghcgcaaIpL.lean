/- Package ip4: lay. Proved: what it writes into the row that it is given. -/
import Derived.Test.YtchkbdgoghcgcaaIpW
namespace Go.Proofs.Ytchkbdgoghcgcaa
open Go Go.RowKit

/-- v is a slice of the bytes l, none of which lies in block g. -/
def IsX (g : Nat) (w : World) (v : Value) (l : List UInt8) : Prop :=
  ∃ a cap, v = .slice a l.length cap ∧ l.length ≤ cap ∧ cap ≤ maxLen ∧
    (0 < l.length → ∃ b off, a = some ⟨b, off, none⟩ ∧ b ≠ g ∧ b < w.heap.size ∧ ∀ i, i < l.length → w.cell? ⟨b, off + i, none⟩ = some (.int .u8 (byteAt l i)))
theorem IsX.isB {g : Nat} {w : World} {v : Value} {l : List UInt8} (h : IsX g w v l) : IsB w v l := by
  obtain ⟨a, cap, h0, h1, h2, h3⟩ := h
  refine ⟨a, cap, h0, h1, h2, fun hp => ?_⟩
  obtain ⟨b, off, h4, _, h5, h6⟩ := h3 hp
  exact ⟨b, off, h4, h5, h6⟩
/-- All blocks but g are as they were. -/
structure But (g : Nat) (w w' : World) : Prop where
  os : w'.os = w.os
  tape : w'.tape = w.tape
  output : w'.output = w.output
  size : w.heap.size ≤ w'.heap.size
  block : ∀ k, k < w.heap.size → k ≠ g → w'.heap[k]? = w.heap[k]?
theorem But.refl (g : Nat) (w : World) : But g w w := ⟨rfl, rfl, rfl, Nat.le_refl _, fun _ _ _ => rfl⟩
theorem But.of_below {g : Nat} {w w' : World} (h : Below w.heap.size w w') : But g w w' := ⟨h.os, h.tape, h.output, h.size, fun k hk _ => h.block k hk⟩
theorem But.setRow (g : Nat) (w : World) (cs : Array Value) : But g w (w.setRow g cs) := ⟨rfl, rfl, rfl, by simp, fun k _ hk => setRow_other w g k cs hk⟩
theorem But.trans {g : Nat} {a b c : World} (h : But g a b) (k : But g b c) : But g a c :=
  ⟨k.os.trans h.os, k.tape.trans h.tape, k.output.trans h.output, Nat.le_trans h.size k.size, fun i hi hg => (k.block i (Nat.lt_of_lt_of_le hi h.size) hg).trans (h.block i hi hg)⟩
theorem But.below {g : Nat} {w w' : World} {B : Nat} {w0 : World} (h : But g w w') (hb : Below B w0 w) (hg : B ≤ g) (hs : B ≤ w.heap.size) : Below B w0 w' :=
  hb.trans ⟨h.os, h.tape, h.output, h.size, fun k hk => h.block k (by omega) (by omega)⟩
theorem IsX.but {g : Nat} {w w' : World} {v : Value} {l : List UInt8} (h : IsX g w v l) (hb : But g w w') : IsX g w' v l := by
  obtain ⟨a, cap, rfl, h1, h2, h3⟩ := h
  refine ⟨a, cap, rfl, h1, h2, fun hp => ?_⟩
  obtain ⟨b, off, rfl, hn, hlt, hc⟩ := h3 hp
  refine ⟨b, off, rfl, hn, Nat.lt_of_lt_of_le hlt hb.size, fun i hi => ?_⟩
  rw [World.cell?_of_block (w := w) (hb.block b hlt hn)]
  exact hc i hi
/-- A row of its own in block b. -/
theorem IsX.of_row {g b : Nat} {w : World} {l : List UInt8} {t : TypeId} {z : Nat × Nat} (h : w.heap[b]? = some (.cells (byteVals l).toArray t z)) (hm : l.length ≤ maxLen) (hn : b ≠ g) : IsX g w (.slice (some ⟨b, 0, none⟩) l.length l.length) l := by
  refine ⟨some ⟨b, 0, none⟩, l.length, rfl, Nat.le_refl _, hm, fun _ => ⟨b, 0, rfl, hn, (Array.getElem?_eq_some_iff.1 h).1, fun i hi => ?_⟩⟩
  have := byteVals_getElem? l i hi
  simp [World.cell?, h, this]

/-- A row of rows, all of it out of block g. -/
def RowsX (g : Nat) (w : World) (v : Value) (ls : List (List UInt8)) : Prop :=
  ∃ a cap, v = .slice a ls.length cap ∧ ls.length ≤ cap ∧ cap ≤ maxLen ∧
    (0 < ls.length → ∃ b off, a = some ⟨b, off, none⟩ ∧ b ≠ g ∧ b < w.heap.size ∧ ∀ i (h : i < ls.length), ∃ ai ci, w.cell? ⟨b, off + i, none⟩ = some (.slice ai (ls[i]).length ci) ∧ IsX g w (.slice ai (ls[i]).length ci) ls[i])
theorem RowsX.but {g : Nat} {w w' : World} {v : Value} {ls : List (List UInt8)} (h : RowsX g w v ls) (hb : But g w w') : RowsX g w' v ls := by
  obtain ⟨a, cap, rfl, h1, h2, h3⟩ := h
  refine ⟨a, cap, rfl, h1, h2, fun hp => ?_⟩
  obtain ⟨b, off, rfl, hn, hlt, hc⟩ := h3 hp
  refine ⟨b, off, rfl, hn, Nat.lt_of_lt_of_le hlt hb.size, fun i hi => ?_⟩
  obtain ⟨ai, ci, h4, h5⟩ := hc i hi
  exact ⟨ai, ci, by rw [World.cell?_of_block (w := w) (hb.block b hlt hn)]; exact h4, h5.but hb⟩
theorem rowsX_built (g : Nat) (W : World) (vs : List Value) (ls : List (List UInt8)) (cs : Array Value) (hcs : cs = vs.toArray) (n : Nat) (hn : n = ls.length) (hl : vs.length = ls.length) (hm : ls.length ≤ 1000) (hgl : g < W.heap.size)
    (h : ∀ i (h1 : i < vs.length) (h2 : i < ls.length), IsX g W vs[i] ls[i]) : RowsX g (W.alloc (.cells cs 22)) (.slice (some ⟨W.heap.size, 0, none⟩) n n) ls := by
  subst hcs hn
  refine ⟨_, _, rfl, Nat.le_refl _, by unfold maxLen; omega, fun _ => ⟨W.heap.size, 0, rfl, by omega, by simp, fun i hi => ?_⟩⟩
  have hb := h i (by omega) hi
  obtain ⟨a, cap, he, _⟩ := id hb
  refine ⟨a, cap, ?_, ?_⟩
  · rw [cell_of_row _ W.heap.size (0 + i) _ _ _ (heap_alloc_new W _)]
    simp [show i < vs.length by omega, he]
  · rw [← he]
    exact hb.but (But.of_below ((Below.refl _ _).alloc (Nat.le_refl _) _))

theorem wpList_copy_set {P : Program} {w : World} {ops : Array Oper} {rest : List Oper} {o : Oper} {a : Act} {Q : Exit → Act → World → Prop} (hgd : o.guard = none) (d s : Operand) (dT sT : TypeId)
    (ho : o.op = .call { callee := .builtin .copy, args := #[d, s], argTypes := #[dT, sT] }) (elem : TypeId) (hu : P.underlying dT = some (.slice elem)) (hsz : (P.info? elem).map (·.size) = some 1)
    (dp sp : Option Addr) (dLen dCap sLen sCap : Nat) (hd : a.eval d = .slice dp dLen dCap) (hs : a.eval s = .slice sp sLen sCap)
    (g off : Nat) (cur : List Value) (t : TypeId) (hg : w.heap[g]? = some (.cells cur.toArray t (0, 0))) (cs : List Value) (hn : cs.length = Nat.min sLen dLen)
    (hpos : 0 < cs.length → dp = some ⟨g, off, none⟩ ∧ ∃ ad, sp = some ad ∧ ∀ j v, cs[j]? = some v → w.cell? (ad.add j) = some v)
    (hfit : off + cs.length ≤ cur.length) (h1 : ∀ v ∈ cs, v.oneCell' = true)
    (h : wpList P ops Q rest (a.put o.dst (goInt cs.length)) (w.setRow g (splice cur off cs).toArray)) :
    wpList P ops Q (o :: rest) a w := by
  by_cases h0 : cs.length = 0
  · obtain rfl : cs = [] := List.eq_nil_of_length_eq_zero h0
    refine wpList_copy_nothing hgd d s dT sT ho elem hu hsz dp sp dLen dCap sLen sCap hd hs (by simpa using hn.symm) ?_
    rw [show (splice cur off []).toArray = cur.toArray by simp [splice], setRow_self w g _ t _ hg] at h
    exact h
  · obtain ⟨rfl, ad, rfl, hsrc⟩ := hpos (by omega)
    refine wpList_copy_own hgd d s dT sT ho elem hu hsz g off dLen dCap ad sLen sCap hd hs cur.toArray t hg cs hn hsrc (by simpa using hfit) h1 ?_
    simpa [splice] using h

theorem splice_lay (pre row c : List UInt8) :
    splice (byteVals (pre ++ c.drop pre.length)) pre.length (byteVals row) = byteVals (pre ++ row ++ c.drop (pre.length + row.length)) := by
  have e1 : byteVals (pre ++ c.drop pre.length) = byteVals pre ++ byteVals (c.drop pre.length) := by simp [byteVals]
  have e2 : (byteVals pre).length = pre.length := byteVals_length pre
  have e3 : (byteVals row).length = row.length := byteVals_length row
  unfold splice
  rw [e1, ← e2, List.take_left, List.drop_append, List.drop_eq_nil_of_le (by omega), List.nil_append, e3]
  have e4 : (byteVals pre).length + row.length - (byteVals pre).length = row.length := by omega
  rw [e4]
  simp [byteVals]

set_option maxHeartbeats 2000000 in
theorem lay_any (g : Nat) (c : List UInt8) (n : Nat) (v : Value) (ls : List (List UInt8)) (w : World) (t : TypeId) (hg : w.heap[g]? = some (.cells (byteVals c).toArray t (0, 0))) (hr : RowsX g w v ls) (hn : ls.flatten.length = n) (hc : n ≤ c.length) (_hc2 : c.length ≤ 1000) :
    Calls Try.prog 42 #[.slice (some ⟨g, 0, none⟩) n c.length, v] w fun r w' => r = .returned (.tuple #[]) ∧ w' = w.setRow g (byteVals (ls.flatten ++ c.drop n)).toArray := by
  obtain ⟨a, cap, rfl, h1, h2, h3⟩ := id hr
  have hlen : ls.length ≤ maxLen := Nat.le_trans h1 h2
  unfold maxLen at hlen
  have HR := Lib.hid hr
  have H3 := Lib.hid h3
  have HG := Lib.hid hg
  clear hr h3 hg h2
  generalize hC : c.length = C at *
  have HN := Lib.hid hn
  have HC := Lib.hid hC
  clear hn hC
  go_enter Try.func42, Try.ntmps42
  go_wp2
  go_loopw [0, 5, 8] (fun s _ i wr => ∃ k : Nat, k ≤ ls.length ∧ i = .int .i64 k ∧ (∃ ad, s = .slice ad (n - (ls.take k).flatten.length) (C - (ls.take k).flatten.length) ∧ ((ls.take k).flatten.length < C → ad = some ⟨g, (ls.take k).flatten.length, none⟩)) ∧ wr = w.setRow g (byteVals ((ls.take k).flatten ++ c.drop (ls.take k).flatten.length)).toArray) (fun _ _ i _ => ls.length - (intOf i).toNat)
  case atStart => exact ⟨0, Nat.zero_le _, rfl, ⟨_, rfl, fun _ => rfl⟩, by simp; exact (setRow_self w g _ t _ HG.out).symm⟩
  case round =>
    obtain ⟨k, hk, rfl, ⟨ad, rfl, had⟩, rfl⟩ := hrel
    by_cases hlt : k < ls.length
    · obtain ⟨b, off, rfl, hbn, hbl, hcs⟩ := H3.out (by omega)
      obtain ⟨ai, ci, hci, hB⟩ := hcs k hlt
      have HF := Lib.hid (flat_take_succ ls k hlt)
      have HL := Lib.hid (flat_len_get ls k hlt)
      generalize (ls.take k).flatten = pre at *
      generalize hrow : ls[k] = row at *
      have hle : pre.length + row.length ≤ n := by have := HL.out; have := HN.out; omega
      have hck : (w.setRow g (byteVals (pre ++ c.drop pre.length)).toArray).cell? ⟨b, off + k, none⟩ = some (.slice ai row.length ci) := (cell_setRow_other w g _ _ hbn).trans hci
      have hBs := (hB.but (But.setRow g w (byteVals (pre ++ c.drop pre.length)).toArray)).isB.cells.2.2.2
      have HS := Lib.hid (splice_lay pre row c)
      have HG2 := Lib.hid (setRow_heap w g _ (byteVals (pre ++ c.drop pre.length)).toArray t _ HG.out)
      have HP : Hid (0 < (byteVals row).length → ad = some ⟨g, pre.length, none⟩ ∧ ∃ x, ai = some x ∧ ∀ j v, (byteVals row)[j]? = some v → (w.setRow g (byteVals (pre ++ c.drop pre.length)).toArray).cell? (x.add j) = some v) := fun hp => by
        rw [byteVals_length] at hp
        obtain ⟨x, h4, _, h5⟩ := hBs hp
        exact ⟨had (by omega), x, h4, h5⟩
      have HQ : Hid ((byteVals row).length = Nat.min row.length (n - pre.length)) := by
        show (byteVals row).length = Nat.min row.length (n - pre.length)
        rw [byteVals_length]; exact (Nat.min_eq_left (by omega)).symm
      have HT : Hid (pre.length + (byteVals row).length ≤ (byteVals (pre ++ c.drop pre.length)).length) := by
        show pre.length + (byteVals row).length ≤ (byteVals (pre ++ c.drop pre.length)).length
        rw [byteVals_length, byteVals_length, List.length_append, List.length_drop]
        have := HC.out
        omega
      have HD : Hid (byteVals ((pre ++ row) ++ c.drop (pre ++ row).length) = byteVals (pre ++ row ++ c.drop (pre.length + row.length))) := by
        show byteVals ((pre ++ row) ++ c.drop (pre ++ row).length) = byteVals (pre ++ row ++ c.drop (pre.length + row.length))
        rw [List.length_append]
      have HW := Lib.hid (setRow_setRow w g (byteVals (pre ++ c.drop pre.length)).toArray (byteVals (pre ++ row ++ c.drop (pre.length + row.length))).toArray)
      have HO := Lib.hid (byteVals_oneCell row)
      have hV := byteVals_length row
      have HA := Lib.hid had
      clear hcs hB hBs hci hrow had
      generalize (w.setRow g (byteVals (pre ++ c.drop pre.length)).toArray) = w1 at *
      generalize byteVals row = rv at *
      generalize byteVals (pre ++ c.drop pre.length) = cv at *
      have HE : Hid ((pre ++ row).length = pre.length + row.length) := List.length_append
      generalize byteVals (pre ++ row ++ c.drop (pre.length + row.length)) = dv at *
      generalize hpre : pre.length = Pn at *
      generalize hrow : row.length = Rn at *
      clear hrow hpre HL
      go_wp2_with (refine wpList_copy_set rfl (.tmp 13) (.tmp 14) 22 22 rfl 5 Try.underlying22 size5 _ _ _ _ _ _ rfl rfl g Pn cv t HG2.out rv HQ.out HP.out HT.out HO.out ?_)
      go_roundw
      case rel =>
        refine ⟨k + 1, by omega, by go_num, ?_, ?_⟩
        · rw [HF.out, HE.out]
          refine ⟨_, by rw [Nat.sub_sub, Nat.sub_sub], fun hp => ?_⟩
          have := HA.out (by omega)
          subst this
          rw [if_neg (by omega), Option.map_some, plain_add]
        · rw [HS.out, HW.out, HF.out, HD.out]
      case measure => simp [intOf]; omega
    · have hkl : k = ls.length := by omega
      subst hkl
      rw [List.take_length, HN.out]
      clear had
      go_wp2
      refine bodyPost_end (results_none rfl _ _ _) rfl ?_
      exact ⟨rfl, rfl⟩
end Go.Proofs.Ytchkbdgoghcgcaa
