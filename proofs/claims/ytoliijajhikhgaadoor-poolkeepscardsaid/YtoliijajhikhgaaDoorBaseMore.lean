/- More on rows of bytes: pieces of them. -/
import Derived.Test.YtoliijajhikhgaaDoorBase
namespace Go.Proofs.YtoliijajhikhgaaDoor
open Go Go.RowKit

theorem IsB.head {w : World} {a : Option Addr} {n cap : Nat} {l : List UInt8} (h : IsB w (.slice a n cap) l) {k : Nat} (hk : k ≤ l.length) : IsB w (.slice a k cap) (l.take k) := by
  obtain ⟨a2, cap2, he, h1, h2, h3⟩ := h
  simp only [Value.slice.injEq] at he
  obtain ⟨rfl, rfl, rfl⟩ := he
  have hl : (l.take k).length = k := by simp; omega
  refine ⟨a, cap, by rw [hl], by omega, h2, fun hp => ?_⟩
  rw [hl] at hp
  obtain ⟨b, off, rfl, hlt, hc⟩ := h3 (by omega)
  exact ⟨b, off, rfl, hlt, fun i hi => by rw [hl] at hi; rw [byteAt_take _ _ _ hi]; exact hc i (by omega)⟩
theorem IsB.tail {w : World} {a : Option Addr} {n cap : Nat} {l : List UInt8} (h : IsB w (.slice a n cap) l) {k : Nat} (hk : k ≤ l.length) :
    IsB w (.slice (if cap = k then a else a.map (·.add k)) (n - k) (cap - k)) (l.drop k) := by
  obtain ⟨a2, cap2, he, h1, h2, h3⟩ := h
  simp only [Value.slice.injEq] at he
  obtain ⟨rfl, rfl, rfl⟩ := he
  have hl : (l.drop k).length = l.length - k := by simp
  refine ⟨(if cap = k then a else a.map (·.add k)), cap - k, by rw [hl], by omega, by unfold maxLen at *; omega, fun hp => ?_⟩
  rw [hl] at hp
  obtain ⟨b, off, rfl, hlt, hc⟩ := h3 (by omega)
  refine ⟨b, off + k, by rw [if_neg (by omega)]; simp [plain_add], hlt, fun i hi => ?_⟩
  rw [hl] at hi
  rw [byteAt_drop, Nat.add_assoc]
  exact hc _ (by omega)
theorem IsB.drewN {w : World} {v : Value} {l : List UInt8} (h : IsB w v l) (q : Nat) : IsB (w.drewN q) v l := h.below ⟨rfl, rfl, rfl, Nat.le_refl _, fun _ _ => rfl⟩
theorem wpList_wanted {P : Program} {ops : Array Oper} {rest : List Oper} {o : Oper} {a : Act} {w : World} {Q : Exit → Act → World → Prop} (hw : Region.wanted o (yielded ops a.tmps) = true) (h : ∀ K : Act → World → Prop, (∀ a w, wpList P ops Q rest a w → K a w) → o.wp P a w K Q) : wpList P ops Q (o :: rest) a w :=
  wpList_step fun K hK => by rw [if_pos hw]; exact h K hK
end Go.Proofs.YtoliijajhikhgaaDoor
