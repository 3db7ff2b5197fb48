/- 'append(s, x...)', s the call's own row, x a slice of entries (or bytes) as a list: one law for nil, empty and other slices. -/
import Derived.Test.YtljpndkgfjndbaaEnt5
import Derived.Test.YtljpndkgfjndbaaCat1
namespace Go.Proofs.Ytljpndkgfjndbaa
open Go Go.RowKit

theorem entVals_append (a b : List Ent) : entVals (a ++ b) = entVals a ++ entVals b := by simp [entVals]
theorem entVals_one (l : List Ent) : ∀ u ∈ entVals l, u.oneCell' = true := by
  intro u hu
  obtain ⟨e, _, he⟩ := List.mem_flatMap.1 hu
  exact four_one e u he
/-- The cells of a slice of entries. -/
theorem IsE.vals {w : World} {a : Option Addr} {l : List Ent} {n cap : Nat} (h : IsE w (.slice a n cap) l) (hp : 0 < l.length) : ∃ b off, a = some ⟨b, off, none⟩ ∧ ∀ j u, (entVals l)[j]? = some u → w.cell? ((⟨b, off, none⟩ : Addr).add j) = some u := by
  obtain ⟨-, -, -, -, hc⟩ := h.cells
  obtain ⟨b, off, rfl, _, hc⟩ := hc hp
  refine ⟨b, off, rfl, fun j u hj => ?_⟩
  have hjl : j < l.length * 4 := by rw [← entVals_length]; exact (List.getElem?_eq_some_iff.1 hj).1
  have hi : j / 4 < l.length := by omega
  obtain ⟨e, he⟩ : ∃ e, l[j / 4]? = some e := ⟨l[j / 4], by simp [hi]⟩
  have hg := entVals_get l (j / 4) (j % 4) e he (by omega)
  rw [show j / 4 * 4 + j % 4 = j by omega, hj] at hg
  obtain ⟨c0, c1, c2, c3⟩ := hc _ e he
  rw [plain_add]
  have h4 : j % 4 = 0 ∨ j % 4 = 1 ∨ j % 4 = 2 ∨ j % 4 = 3 := by omega
  rcases h4 with h | h | h | h
  · rw [h] at hg; rw [show off + j = off + j / 4 * 4 by omega, c0]; exact hg.symm
  · rw [h] at hg; rw [show off + j = off + j / 4 * 4 + 1 by omega, c1]; exact hg.symm
  · rw [h] at hg; rw [show off + j = off + j / 4 * 4 + 2 by omega, c2]; exact hg.symm
  · rw [h] at hg; rw [show off + j = off + j / 4 * 4 + 3 by omega, c3]; exact hg.symm

theorem append_ents {w : World} {ops : Array Oper} {rest : List Oper} {o : Oper} {a : Act} {Q : Exit → Act → World → Prop} (hgd : o.guard = none) (s x : Operand)
    (ho : o.op = .call { callee := .builtin .append, args := #[s, x], argTypes := #[34, 34] })
    (base : Nat) (v : Value) (n : Nat) (xs : List Value) (hs : a.eval s = v) (hown : w.ownsRow base 23 4 v n xs)
    (b : Option Addr) (m c : Nat) (l : List Ent) (hx : a.eval x = .slice b m c) (hl : IsE w (.slice b m c) l) (h1 : n + l.length ≤ 1000000) (hbase : base ≤ w.heap.size)
    (h : ∀ v' w', w'.ownsRow base 23 4 v' (n + l.length) (xs ++ entVals l) → w.grownBy w' v.ownBlock → wpList Try.prog ops Q rest (a.put o.dst v') w') : wpList Try.prog ops Q (o :: rest) a w := by
  obtain ⟨i0, hi, hz0, hz1, hz2⟩ := info_parts info23
  obtain ⟨rfl, -⟩ := hl.cells
  rcases b with _ | ad
  · have he : l = [] := by
      rcases l with _ | ⟨e, l⟩
      · rfl
      · obtain ⟨_, _, h4, _⟩ := hl.vals (by simp); cases h4
    subst he
    refine wpList_append_none_any hgd s x _ ho base _ i0 4 Try.underlying34 hi v n xs hs hown c hx ?_
    exact h v w (by simpa [entVals] using hown) ⟨rfl, rfl, rfl, Nat.le_refl _, fun _ _ _ => rfl⟩
  · refine wpList_append_own _ hgd s x _ ho base _ i0 _ 4 16 Try.underlying34 hi hz0 hz1 hz2 rfl (by decide) v n xs hs hown ad l.length c (entVals l) hx (entVals_length l) ?_ (entVals_one l) (by unfold maxLen; omega) (by omega) hbase (fun v' w' h1 h2 _ => h v' w' h1 h2)
    intro j u hj
    have hjl : j < l.length * 4 := by rw [← entVals_length]; exact (List.getElem?_eq_some_iff.1 hj).1
    obtain ⟨b, off, h4, h5⟩ := hl.vals (by omega)
    cases h4
    exact h5 j u hj

theorem append_bytes {w : World} {ops : Array Oper} {rest : List Oper} {o : Oper} {a : Act} {Q : Exit → Act → World → Prop} (hgd : o.guard = none) (s x : Operand)
    (ho : o.op = .call { callee := .builtin .append, args := #[s, x], argTypes := #[24, 24] })
    (base : Nat) (v : Value) (n : Nat) (l0 : List UInt8) (hs : a.eval s = v) (hown : w.ownsRow base 5 1 v n (byteVals l0))
    (b : Option Addr) (m c : Nat) (l : List UInt8) (hx : a.eval x = .slice b m c) (hl : IsB w (.slice b m c) l) (h1 : n + l.length ≤ 1000000) (hbase : base ≤ w.heap.size)
    (h : ∀ v' w', w'.ownsRow base 5 1 v' (n + l.length) (byteVals (l0 ++ l)) → w.grownBy w' v.ownBlock → wpList Try.prog ops Q rest (a.put o.dst v') w') : wpList Try.prog ops Q (o :: rest) a w := by
  obtain ⟨i0, hi, hz0, hz1, hz2⟩ := info_parts info5
  obtain ⟨rfl, -, -, hcs⟩ := hl.cells
  rcases b with _ | ad
  · have he : l = [] := by
      rcases l with _ | ⟨e, l⟩
      · rfl
      · obtain ⟨_, h4, _⟩ := hcs (by simp); cases h4
    subst he
    refine wpList_append_none_any hgd s x _ ho base _ i0 1 Try.underlying24 hi v n _ hs hown c hx ?_
    exact h v w (by simpa using hown) ⟨rfl, rfl, rfl, Nat.le_refl _, fun _ _ _ => rfl⟩
  · refine wpList_append_own _ hgd s x _ ho base _ i0 _ 1 1 Try.underlying24 hi hz0 hz1 hz2 rfl (by decide) v n _ hs hown ad l.length c (byteVals l) hx (by rw [byteVals_length, Nat.mul_one]) ?_ (byteVals_oneCell l) (by unfold maxLen; omega) (by omega) hbase (fun v' w' h1 h2 _ => h v' w' (by rw [byteVals_append]; exact h1) h2)
    intro j u hj
    have hjl : j < (byteVals l).length := (List.getElem?_eq_some_iff.1 hj).1
    rw [byteVals_length] at hjl
    obtain ⟨ad2, h4, _, h5⟩ := hcs (by omega)
    cases h4
    exact h5 j u hj
end Go.Proofs.Ytljpndkgfjndbaa
