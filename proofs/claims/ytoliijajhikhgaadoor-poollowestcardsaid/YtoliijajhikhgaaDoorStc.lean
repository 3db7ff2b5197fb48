/- Slices of things of several cells each, as lists; rows that a call owns. Of no program's own types. -/
import Derived.Test.YtoliijajhikhgaaDoorBaseMore
import Derived.Laws.OwnMore
import Derived.Laws.AppendOwnNone
import Derived.Deep.MidRow
import Derived.Laws.CopyRow
namespace Go.Proofs.YtoliijajhikhgaaDoor
open Go Go.RowKit

/-- 'append(s, x...)', x an empty slice of no array, s the call's own. -/
theorem wpList_append_none_any {P : Program} {w : World} {ops : Array Oper} {rest : List Oper} {o : Oper} {a : Act} {Q : Exit → Act → World → Prop} (hgd : o.guard = none) (s x : Operand) (t : TypeId)
    (ho : o.op = .call { callee := .builtin .append, args := #[s, x], argTypes := #[t, t] })
    (base : Nat) (e : TypeId) (i : TypeInfo) (size : Nat) (ht : P.underlying t = some (.slice e)) (hi : P.info? e = some i)
    (v : Value) (n : Nat) (xs : List Value) (hs : a.eval s = v) (hown : w.ownsRow base e size v n xs) (c : Nat) (hx : a.eval x = .slice none 0 c)
    (h : wpList P ops Q rest (a.put o.dst v) w) : wpList P ops Q (o :: rest) a w := by
  refine wpList_plain hgd fun K hK => ?_
  have hrun : ∀ ty, (Builtin.append_ #[t, t] ty #[v, .slice none 0 c]).run P w = .ok v w := by
    intro ty
    rcases hown.2 with ⟨rfl, rfl⟩ | ⟨g, cap, cur, rfl, _, _, hnc, _⟩
    · simp [Builtin.append_, run_underlying ht, sizeOf, typeInfo, hi, Builtin.lenOf, Builtin.firstCells]
    · simp [Builtin.append_, run_underlying ht, sizeOf, typeInfo, hi, Builtin.lenOf, Builtin.firstCells, hnc, storeCells]
  unfold Oper.wp
  simp [execOp, ho, resolve, invoke, builtin, hs, hx, hrun, Result.andThen]
  exact hK _ _ h
theorem owned_low {w : World} {base : Nat} {e : TypeId} {size : Nat} {v : Value} {n : Nat} {xs : List Value} (h : w.ownsRow base e size v n xs) : ∀ k, v.ownBlock = some k → base ≤ k := by
  rcases h.2 with ⟨rfl, rfl⟩ | ⟨g, cap, cur, rfl, hg, _⟩
  · intro k hk; cases hk
  · intro k hk; cases hk; exact hg
theorem own_below {w w' : World} {base : Nat} {e : TypeId} {size : Nat} {v : Value} {n : Nat} {xs : List Value} (h : w.ownsRow base e size v n xs) (hb : Below w.heap.size w w') : w'.ownsRow base e size v n xs := by
  refine ⟨h.1, ?_⟩
  rcases h.2 with h0 | ⟨g, cap, cur, h1, h2, hg, h3⟩
  · exact .inl h0
  · exact .inr ⟨g, cap, cur, h1, h2, (hb.block g (Array.getElem?_eq_some_iff.1 hg).1).trans hg, h3⟩
theorem own_mono {w : World} {base base' : Nat} {e : TypeId} {size : Nat} {v : Value} {n : Nat} {xs : List Value} (h : w.ownsRow base e size v n xs) (hb : base' ≤ base) : w.ownsRow base' e size v n xs := by
  refine ⟨h.1, ?_⟩
  rcases h.2 with h0 | ⟨g, cap, cur, h1, h2, h3⟩
  · exact .inl h0
  · exact .inr ⟨g, cap, cur, h1, Nat.le_trans hb h2, h3⟩
theorem own_form {w : World} {base : Nat} {e : TypeId} {size : Nat} {v : Value} {n : Nat} {xs : List Value} (h : w.ownsRow base e size v n xs) (hn : 0 < n) : ∃ g cap, v = .slice (some ⟨g, 0, none⟩) n cap ∧ base ≤ g ∧ g < w.heap.size := by
  rcases h.2 with ⟨_, h0⟩ | ⟨g, cap, cur, h1, h2, h3, _⟩
  · omega
  · exact ⟨g, cap, h1, h2, (Array.getElem?_eq_some_iff.1 h3).1⟩
/-- It is as it was where its own block is. -/
theorem own_other {w w' : World} {base : Nat} {e : TypeId} {size : Nat} {v : Value} {n : Nat} {xs : List Value} (h : w.ownsRow base e size v n xs) (hb : ∀ k, k < w.heap.size → base ≤ k → w'.heap[k]? = w.heap[k]?) : w'.ownsRow base e size v n xs := by
  refine ⟨h.1, ?_⟩
  rcases h.2 with h0 | ⟨g, cap, cur, h1, h2, hg, h3⟩
  · exact .inl h0
  · exact .inr ⟨g, cap, cur, h1, h2, (hb g (Array.getElem?_eq_some_iff.1 hg).1 h2).trans hg, h3⟩
/-! The cells of a list of things, c each. -/
section
variable {α : Type} {f : α → List Value} {c : Nat}
theorem cflat_length : ∀ (l : List α), (∀ x ∈ l, (f x).length = c) → (l.flatMap f).length = l.length * c
  | [], _ => by simp
  | x :: l, h => by
    rw [List.flatMap_cons, List.length_append, h x (by simp), cflat_length l (fun y hy => h y (by simp [hy])), List.length_cons, Nat.succ_mul]
    omega
theorem flat_get : ∀ (l : List α), (∀ x ∈ l, (f x).length = c) → ∀ (i j : Nat) (x : α), l[i]? = some x → j < c → (l.flatMap f)[i * c + j]? = (f x)[j]?
  | [], _, i, j, x, hx, _ => by simp at hx
  | y :: l, h, 0, j, x, hx, hj => by
    cases hx
    rw [List.flatMap_cons, Nat.zero_mul, Nat.zero_add, List.getElem?_append_left (by rw [h _ (by simp)]; exact hj)]
  | y :: l, h, i + 1, j, x, hx, hj => by
    have hy := h y (by simp)
    have ih := flat_get l (fun z hz => h z (by simp [hz])) i j x (by simpa using hx) hj
    rw [List.flatMap_cons, List.getElem?_append_right (by rw [hy, Nat.succ_mul]; omega), hy, show (i + 1) * c + j - c = i * c + j by rw [Nat.succ_mul]; omega]
    exact ih
theorem flat_take : ∀ (l : List α), (∀ x ∈ l, (f x).length = c) → ∀ i : Nat, (l.flatMap f).take (i * c) = (l.take i).flatMap f
  | [], _, i => by simp
  | y :: l, h, 0 => by simp
  | y :: l, h, i + 1 => by
    have hy := h y (by simp)
    have ih := flat_take l (fun z hz => h z (by simp [hz])) i
    rw [List.flatMap_cons, List.take_succ_cons, List.flatMap_cons, ← ih, List.take_append, hy, List.take_of_length_le (by rw [hy, Nat.succ_mul]; omega), show (i + 1) * c - c = i * c by rw [Nat.succ_mul]; omega]
theorem flat_drop : ∀ (l : List α), (∀ x ∈ l, (f x).length = c) → ∀ i : Nat, (l.flatMap f).drop (i * c) = (l.drop i).flatMap f
  | [], _, i => by simp
  | y :: l, h, 0 => by simp
  | y :: l, h, i + 1 => by
    have hy := h y (by simp)
    have ih := flat_drop l (fun z hz => h z (by simp [hz])) i
    rw [List.flatMap_cons, List.drop_succ_cons, ← ih, List.drop_append, hy, List.drop_of_length_le (by rw [hy, Nat.succ_mul]; omega), List.nil_append, show (i + 1) * c - c = i * c by rw [Nat.succ_mul]; omega]
/-- One cell of one thing is written. -/
theorem flat_set : ∀ (l : List α), (∀ x ∈ l, (f x).length = c) → ∀ (i j : Nat) (x y : α) (v : Value), l[i]? = some x → j < c → f y = (f x).set j v → (l.flatMap f).set (i * c + j) v = (l.set i y).flatMap f
  | [], _, i, j, x, y, v, hx, _, _ => by simp at hx
  | z :: l, h, 0, j, x, y, v, hx, hj, hy => by
    cases hx
    rw [List.flatMap_cons, List.set_cons_zero, List.flatMap_cons, Nat.zero_mul, Nat.zero_add, List.set_append_left _ _ (by rw [h _ (by simp)]; exact hj), hy]
  | z :: l, h, i + 1, j, x, y, v, hx, hj, hy => by
    have hz := h z (by simp)
    have ih := flat_set l (fun u hu => h u (by simp [hu])) i j x y v (by simpa using hx) hj hy
    rw [List.flatMap_cons, List.set_cons_succ, List.flatMap_cons, ← ih, List.set_append_right _ _ (by rw [hz, Nat.succ_mul]; omega), hz, show (i + 1) * c + j - c = i * c + j by rw [Nat.succ_mul]; omega]
/-- One thing is written whole. -/
theorem flat_put (l : List α) (h : ∀ x ∈ l, (f x).length = c) (i : Nat) (hi : i < l.length) (y : α) : (l.flatMap f).take (i * c) ++ f y ++ (l.flatMap f).drop (i * c + c) = (l.set i y).flatMap f := by
  rw [flat_take l h i, show i * c + c = (i + 1) * c by rw [Nat.succ_mul], flat_drop l h (i + 1), List.set_eq_take_append_cons_drop, if_pos hi, List.flatMap_append, List.flatMap_cons, List.append_assoc]
/-- A thing's own cells. -/
theorem flat_range {w : World} {b k : Nat} {l : List α} (h : ∀ x ∈ l, (f x).length = c) (hr : w.rangeAt b k (l.flatMap f)) (i : Nat) (x : α) (hx : l[i]? = some x) : w.rangeAt b (k + i * c) (f x) := by
  intro j v hj
  have hm : x ∈ l := List.mem_of_getElem? hx
  have hjc : j < c := by rw [← h x hm]; exact (List.getElem?_eq_some_iff.1 hj).1
  have := hr (i * c + j) v (by rw [flat_get l h i j x hx hjc]; exact hj)
  rw [← Nat.add_assoc] at this
  exact this

/-- A slice of things of c cells each, as a list. -/
def IsC (f : α → List Value) (c : Nat) (w : World) (v : Value) (l : List α) : Prop :=
  (∀ x ∈ l, (f x).length = c) ∧ ∃ a cap, v = .slice a l.length cap ∧ l.length ≤ cap ∧ cap ≤ maxLen ∧ (0 < l.length → ∃ b k, a = some ⟨b, k, none⟩ ∧ b < w.heap.size ∧ w.rangeAt b k (l.flatMap f))
theorem IsC.nil (w : World) : IsC f c w (.slice none 0 0) [] := ⟨(fun _ h => by cases h), none, 0, rfl, by simp, by simp [maxLen], fun h => by simp at h⟩
theorem IsC.below {w w' : World} {v : Value} {l : List α} (h : IsC f c w v l) (hb : Below w.heap.size w w') : IsC f c w' v l := by
  obtain ⟨h0, a, cap, rfl, h1, h2, h3⟩ := h
  refine ⟨h0, a, cap, rfl, h1, h2, fun hp => ?_⟩
  obtain ⟨b, k, rfl, hlt, hc⟩ := h3 hp
  exact ⟨b, k, rfl, Nat.lt_of_lt_of_le hlt hb.size, fun j v hj => (hb.cell (p := ⟨b, k + j, none⟩) hlt).trans (hc j v hj)⟩
theorem IsC.shape {w : World} {a : Option Addr} {n cap : Nat} {l : List α} (h : IsC f c w (.slice a n cap) l) : n = l.length ∧ l.length ≤ cap ∧ cap ≤ maxLen ∧ (0 < l.length → ∃ b k, a = some ⟨b, k, none⟩ ∧ b < w.heap.size ∧ w.rangeAt b k (l.flatMap f)) := by
  obtain ⟨_, a2, cap2, he, h1, h2, h3⟩ := h
  simp only [Value.slice.injEq] at he
  obtain ⟨rfl, rfl, rfl⟩ := he
  exact ⟨rfl, h1, h2, h3⟩
/-- The first ones of a slice. -/
theorem IsC.take {w : World} {a : Option Addr} {n cap : Nat} {l : List α} (h : IsC f c w (.slice a n cap) l) (j : Nat) (hj : j ≤ l.length) : IsC f c w (.slice a j cap) (l.take j) := by
  obtain ⟨rfl, h1, h2, h3⟩ := h.shape
  have hl : (l.take j).length = j := by rw [List.length_take]; omega
  refine ⟨fun x hx => h.1 x (List.mem_of_mem_take hx), a, cap, by rw [hl], by omega, h2, fun hp => ?_⟩
  obtain ⟨b, k, rfl, hlt, hc⟩ := h3 (by omega)
  refine ⟨b, k, rfl, hlt, fun i v hi => hc i v ?_⟩
  rw [← flat_take l h.1 j, List.getElem?_take] at hi
  split at hi
  · exact hi
  · cases hi
/-- The last ones of a slice. -/
theorem IsC.drop {w : World} {b k n cap : Nat} {l : List α} (h : IsC f c w (.slice (some ⟨b, k, none⟩) n cap) l) (j : Nat) (hj : j ≤ l.length) : IsC f c w (.slice (some ⟨b, k + j * c, none⟩) (n - j) (cap - j)) (l.drop j) := by
  obtain ⟨rfl, h1, h2, h3⟩ := h.shape
  have hl : (l.drop j).length = l.length - j := List.length_drop
  refine ⟨fun x hx => h.1 x (List.mem_of_mem_drop hx), _, cap - j, by rw [hl], by omega, by omega, fun hp => ?_⟩
  obtain ⟨b2, k2, he, hlt, hc⟩ := h3 (by omega)
  cases he
  refine ⟨b, k + j * c, rfl, hlt, fun i v hi => ?_⟩
  rw [← flat_drop l h.1 j, List.getElem?_drop] at hi
  have := hc (j * c + i) v hi
  rw [← Nat.add_assoc] at this
  exact this
/-- The call's own row, as a slice. -/
theorem IsC.of_owned {w : World} {base : Nat} {e : TypeId} {v : Value} {l : List α} (h0 : ∀ x ∈ l, (f x).length = c) (h : w.ownsRow base e c v l.length (l.flatMap f)) : IsC f c w v l := by
  rcases h.2 with ⟨rfl, hn⟩ | ⟨g, cap, cur, rfl, _, hg, h1, h2, _, ht⟩
  · obtain rfl : l = [] := List.eq_nil_of_length_eq_zero hn
    exact IsC.nil w
  · refine ⟨h0, _, cap, rfl, h1, h2, fun _ => ⟨g, 0, rfl, (Array.getElem?_eq_some_iff.1 hg).1, fun j v hj => ?_⟩⟩
    rw [Nat.zero_add, cell_of_row w g j _ _ _ hg]
    rw [← ht, List.getElem?_take] at hj
    split at hj
    · simpa using hj
    · cases hj
/-- 'append(s, x...)': s the call's own row, x a slice of such things. -/
theorem append_flat {P : Program} {w : World} {ops : Array Oper} {rest : List Oper} {o : Oper} {a : Act} {Q : Exit → Act → World → Prop} (hgd : o.guard = none) (s x : Operand) (t : TypeId)
    (ho : o.op = .call { callee := .builtin .append, args := #[s, x], argTypes := #[t, t] })
    (base : Nat) (e : TypeId) (i : TypeInfo) (z : Value) (bytes : Nat) (ht : P.underlying t = some (.slice e)) (hi : P.info? e = some i) (hz : i.zero = some z)
    (hsize : i.size = c) (hby : i.bytes = bytes) (hzs : z.cells.size = c) (hsz : 0 < c) (hb4 : bytes ≤ 100000)
    (v : Value) (n : Nat) (xs : List Value) (hs : a.eval s = v) (hown : w.ownsRow base e c v n xs)
    (b : Option Addr) (m cap : Nat) (l : List α) (hx : a.eval x = .slice b m cap) (hl : IsC f c w (.slice b m cap) l) (h1 : ∀ y ∈ l, ∀ u ∈ f y, u.oneCell' = true) (hlim : n + l.length ≤ 1000000) (hbase : base ≤ w.heap.size)
    (h : ∀ v' w', w'.ownsRow base e c v' (n + l.length) (xs ++ l.flatMap f) → w.grownBy w' v.ownBlock → wpList P ops Q rest (a.put o.dst v') w') : wpList P ops Q (o :: rest) a w := by
  obtain ⟨rfl, _, _, hc⟩ := hl.shape
  rcases b with _ | ad
  · have he : l = [] := by
      rcases l with _ | ⟨y, l⟩
      · rfl
      · obtain ⟨_, _, h4, _⟩ := hc (by simp); cases h4
    subst he
    refine wpList_append_none_any hgd s x t ho base e i c ht hi v n xs hs hown cap hx ?_
    exact h v w (by simpa using hown) ⟨rfl, rfl, rfl, Nat.le_refl _, fun _ _ _ => rfl⟩
  · refine wpList_append_own w hgd s x t ho base e i z c bytes ht hi hz hsize hby hzs hsz v n xs hs hown ad l.length cap (l.flatMap f) hx (cflat_length l hl.1) ?_ ?_ (by unfold maxLen; omega) (Nat.le_trans (Nat.mul_le_mul hlim hb4) (by decide)) hbase (fun v' w' h1 h2 _ => h v' w' h1 h2)
    · intro j u hj
      have hp : 0 < l.length := by
        rcases l with _ | ⟨y, l⟩
        · simp at hj
        · simp
      obtain ⟨b, k, h4, _, h5⟩ := hc hp
      cases h4
      have e2 : (⟨b, k, none⟩ : Addr).add j = ⟨b, k + j, none⟩ := by unfold Addr.add; split <;> simp_all
      rw [e2]
      exact h5 j u hj
    · intro u hu
      obtain ⟨y, hy, hu⟩ := List.mem_flatMap.1 hu
      exact h1 y hy u hu
end
end Go.Proofs.YtoliijajhikhgaaDoor
