/- append onto a row of the call's own: a slice of things of c cells each, known by its cells. -/
import Derived.Test.YtoliijajhikhgaaDoorStc
import Derived.Test.YtoliijajhikhgaaDoorBox
import Derived.Test.YtoliijajhikhgaaDoorLiftRow
namespace Go.Proofs.YtoliijajhikhgaaDoor
open Go Go.RowKit

theorem append_cs {α : Type} {f : α → List Value} {c : Nat} {P : Program} {w : World} {ops : Array Oper} {rest : List Oper} {o : Oper} {a : Act} {Q : Exit → Act → World → Prop} (hgd : o.guard = none) (s x : Operand) (t e : TypeId)
    (ho : o.op = .call { callee := .builtin .append, args := #[s, x], argTypes := #[t, t] }) (z : Value) (bytes : Nat) (ht : P.underlying t = some (.slice e)) (hi : (P.info? e).map (fun i => (i.zero, i.size, i.bytes)) = some (some z, c, bytes)) (hzs : z.cells.size = c) (hc : 0 < c) (hby : bytes ≤ 1000)
    (base : Nat) (v : Value) (n : Nat) (xs : List Value) (hs : a.eval s = v) (hown : w.ownsRow base e c v n xs) (b : Option Addr) (m k : Nat) (l : List α) (hx : a.eval x = .slice b m k) (hl : IsC f c w (.slice b m k) l) (h1 : ∀ u ∈ l.flatMap f, u.oneCell' = true) (hn : n + l.length ≤ 1000000) (hbase : base ≤ w.heap.size)
    (h : ∀ v' w', w'.ownsRow base e c v' (n + l.length) (xs ++ l.flatMap f) → w.grownBy w' v.ownBlock → wpList P ops Q rest (a.put o.dst v') w') : wpList P ops Q (o :: rest) a w := by
  obtain ⟨i0, hi, hz0, hz1, hz2⟩ := info_parts hi
  obtain ⟨rfl, h2, h3, h4⟩ := hl.shape
  rcases b with _ | ad
  · have he : l = [] := by
      rcases l with _ | ⟨y, l⟩
      · rfl
      · obtain ⟨_, _, e, _⟩ := h4 (by simp)
        cases e
    subst he
    refine wpList_append_none_any hgd s x _ ho base _ i0 c ht hi v n xs hs hown k hx ?_
    exact h v w (by simpa using hown) ⟨rfl, rfl, rfl, Nat.le_refl _, fun _ _ _ => rfl⟩
  · refine wpList_append_own _ hgd s x t ho base e i0 z c bytes ht hi hz0 hz1 hz2 hzs hc v n xs hs hown ad l.length k (l.flatMap f) hx ?_ ?_ h1 ?_ ?_ hbase (fun v' w' q1 q2 _ => h v' w' q1 q2)
    · rw [cflat_length l hl.1]
    · intro j u hj
      rcases l with _ | ⟨y, l⟩
      · simp at hj
      · obtain ⟨b, q, e, _, h5⟩ := h4 (by simp)
        cases e
        have q5 := h5 j u hj
        unfold Addr.add
        split
        · rename_i e0; subst e0; simpa using q5
        · exact q5
    · unfold maxLen; omega
    · have : (n + l.length) * bytes ≤ 1000000 * 1000 := Nat.mul_le_mul hn hby
      omega
theorem own_ne_bx {w : World} {base : Nat} {e t : TypeId} {c n b : Nat} {v : Value} {xs l : List Value} (h : w.ownsRow base e c v n xs) (hb : Bx w b t l) (hne : e ≠ t) : v.ownBlock ≠ some b := fun q => by
  obtain ⟨cur, hc⟩ := own_type h b q
  unfold Bx at hb
  rw [hc] at hb
  have h3 := Option.some.inj hb
  injection h3 with _ h4
  exact hne h4
end Go.Proofs.YtoliijajhikhgaaDoor
