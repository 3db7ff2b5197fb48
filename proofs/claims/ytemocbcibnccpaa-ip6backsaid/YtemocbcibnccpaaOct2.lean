/- fresh, fits, digit of package octet. -/
import Derived.Test.YtemocbcibnccpaaOct1
namespace Go.Proofs.Ytemocbcibnccpaa
open Go Go.RowKit

theorem info5 : (Try.prog.info? 5).map (fun i => (i.zero, i.size, i.bytes)) = some (some (.int .u8 0), 1, 1) := by kernel_rfl
theorem size5 : (Try.prog.info? 5).map (·.size) = some 1 := by kernel_rfl

theorem splice_all {α : Type} (L cs : List α) (h : L.length = cs.length) : splice L 0 cs = cs := by
  unfold splice
  rw [List.take_zero, List.nil_append, Nat.zero_add, ← h, List.drop_length, List.append_nil]

theorem row_of_owned {w : World} {base g n : Nat} {e : TypeId} {xs : List Value} (h : w.ownsRow base e 1 (.slice (some ⟨g, 0, none⟩) n n) n xs) :
    w.heap[g]? = some (.cells xs.toArray e (0, 0)) := by
  obtain ⟨_, ⟨h1, _⟩ | ⟨g2, cap, cur, he, _, hg, _, _, hc, hx⟩⟩ := h
  · cases h1
  · simp only [Value.slice.injEq, Option.some.injEq, Addr.mk.injEq, and_true, true_and] at he
    obtain ⟨rfl, rfl⟩ := he
    rw [hg]
    congr 2
    rw [← hx, List.take_of_length_le (by simp; omega)]

set_option maxHeartbeats 400000 in
theorem fresh_any (a : Option Addr) (n cap : Nat) (l : List UInt8) (w : World) (hv : IsB w (.slice a n cap) l) (hlim : l.length ≤ 1000000) :
    Calls Try.prog 29 #[.slice a n cap] w fun e w' => e = .returned (.slice (some ⟨w.heap.size, 0, none⟩) l.length l.length) ∧ w'.heap[w.heap.size]? = some (.cells (byteVals l).toArray 5 (0, 0)) ∧ Below w.heap.size w w' := by
  obtain ⟨rfl, h1, h2, h3⟩ := hv.cells
  have hm : l.length ≤ maxLen := Nat.le_trans h1 h2
  obtain ⟨i0, hi, hz0, hz1, hz2⟩ := info_parts info5
  obtain ⟨cs, hcs⟩ : ∃ cs, cs = byteVals l := ⟨_, rfl⟩
  have hcl : cs.length = l.length := by rw [hcs, byteVals_length]
  have hc1 : ∀ v ∈ cs, v.oneCell' = true := by rw [hcs]; exact byteVals_oneCell l
  have h3' : 0 < cs.length → ∃ ad, a = some ad ∧ ad.block < w.heap.size ∧ ∀ j v, cs[j]? = some v → w.cell? (ad.add j) = some v := by rw [hcl, hcs]; exact h3
  have HC := Lib.hid hcs
  have H3 := Lib.hid h3'
  have HL := Lib.hid hcl
  clear hcs h3 h3' hcl hv
  go_enter Try.func29, Try.ntmps29
  go_wp2_with (at_make; refine wpList_make_full _ rfl (.tmp 5) (.tmp 5) 22 rfl w.heap.size 5 i0 (.int .u8 0) 1 Try.underlying22 hi hz0 hz1 .i64 .i64 _ _ l.length rfl rfl rfl rfl (by rw [hz2]; omega) hm (Nat.le_refl _) ?_; intro w1 ho hg; refine Hid.out ?_)
  refine Lib.hid ?_
  have hrow := row_of_owned ho
  have hb1 : Below w.heap.size w w1 := (Below.refl _ _).grown hg (Nat.le_refl _) (fun k h => by cases h)
  have H1 := Lib.hid hrow
  clear hrow ho hg
  generalize hZ : (madeCells (Value.int IntKind.u8 0).cells (l.length * 1)).toList = Z at H1
  have hZl : Z.length = l.length := by rw [← hZ]; simp [size_madeCells]
  have HZ := Lib.hid hZl
  clear hZ hZl
  have hn : cs.length = Nat.min l.length l.length := by rw [HL.out]; simp
  have HN := Lib.hid hn
  clear hn
  have hpos : 0 < cs.length → some (⟨w.heap.size, 0, none⟩ : Addr) = some ⟨w.heap.size, 0, none⟩ ∧ ∃ ad, a = some ad ∧ ∀ j v, cs[j]? = some v → w1.cell? (ad.add j) = some v := by
    intro hp
    obtain ⟨ad, h4, h5, h6⟩ := H3.out hp
    refine ⟨rfl, ad, h4, fun j v hj => ?_⟩
    rw [hb1.cell (p := ad.add j) (by unfold Addr.add; split <;> exact h5)]
    exact h6 j v hj
  have HP := Lib.hid hpos
  clear hpos
  go_wp2_with (refine wpList_copy_splice rfl (.tmp 7) (.tmp 8) 22 22 rfl 5 Try.underlying22 size5 _ _ _ _ _ _ rfl rfl w.heap.size 0 Z 5 H1.out cs HN.out HP.out (by rw [HL.out, HZ.out]; omega) hc1 w.heap.size w hb1 (Nat.le_refl _) ?_; intro w2 hr2 hb2)
  go_ret
  refine ⟨rfl, ?_, hb2⟩
  have := hr2.out
  rw [splice_all Z cs (by rw [HL.out, HZ.out])] at this
  rw [this, HC.out]

end Go.Proofs.Ytemocbcibnccpaa
