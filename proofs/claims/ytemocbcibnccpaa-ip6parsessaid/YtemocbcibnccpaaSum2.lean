/- Package sum: sized, Pseudo. Proved: what each returns, for every argument of its type (addresses of at most a thousand bytes). -/
import Derived.Test.YtemocbcibnccpaaCat1
import Derived.Test.YtemocbcibnccpaaOct4
import Derived.Test.YtemocbcibnccpaaAwake
namespace Go.Proofs.Ytemocbcibnccpaa
open Go Go.RowKit

/-- A row of rows that was just built. -/
theorem isRows_built (W : World) (vs : List Value) (ls : List (List UInt8)) (cs : Array Value) (hcs : cs = vs.toArray) (n : Nat) (hn : n = ls.length) (hl : vs.length = ls.length) (hm : ls.length ≤ 1000)
    (h : ∀ i (h1 : i < vs.length) (h2 : i < ls.length), IsB W vs[i] ls[i]) : IsRows (W.alloc (.cells cs 22)) (.slice (some ⟨W.heap.size, 0, none⟩) n n) ls := by
  subst hcs hn
  refine ⟨_, _, rfl, Nat.le_refl _, by unfold maxLen; omega, fun _ => ⟨W.heap.size, 0, rfl, by simp, fun i hi => ?_⟩⟩
  have hb := h i (by omega) hi
  obtain ⟨a, cap, he, _⟩ := id hb
  refine ⟨a, cap, ?_, ?_⟩
  · rw [cell_of_row _ W.heap.size (0 + i) _ _ _ (heap_alloc_new W _)]
    simp [show i < vs.length by omega, he]
  · rw [← he]
    exact hb.below ((Below.refl _ _).alloc (Nat.le_refl _) _)
theorem rows_one (W : World) (g : Nat) (hg : g = W.heap.size) (v1 : Value) (l1 : List UInt8) (h1 : IsB W v1 l1) : IsRows (W.alloc (.cells #[v1] 22)) (.slice (some ⟨g, 0, none⟩) 1 1) [l1] :=
  hg ▸ isRows_built W [v1] [l1] _ rfl 1 rfl rfl (by simp) fun i hi _ => by
    match i, hi with
    | 0, _ => exact h1
theorem rows_two (W : World) (g : Nat) (hg : g = W.heap.size) (v1 v2 : Value) (l1 l2 : List UInt8) (h1 : IsB W v1 l1) (h2 : IsB W v2 l2) : IsRows (W.alloc (.cells #[v1, v2] 22)) (.slice (some ⟨g, 0, none⟩) 2 2) [l1, l2] :=
  hg ▸ isRows_built W [v1, v2] [l1, l2] _ rfl 2 rfl rfl (by simp) fun i hi _ => by
    match i, hi with
    | 0, _ => exact h1
    | 1, _ => exact h2
theorem rows_three (W : World) (g : Nat) (hg : g = W.heap.size) (v1 v2 v3 : Value) (l1 l2 l3 : List UInt8) (h1 : IsB W v1 l1) (h2 : IsB W v2 l2) (h3 : IsB W v3 l3) : IsRows (W.alloc (.cells #[v1, v2, v3] 22)) (.slice (some ⟨g, 0, none⟩) 3 3) [l1, l2, l3] :=
  hg ▸ isRows_built W [v1, v2, v3] [l1, l2, l3] _ rfl 3 rfl rfl (by simp) fun i hi _ => by
    match i, hi with
    | 0, _ => exact h1
    | 1, _ => exact h2
    | 2, _ => exact h3

def sizedL (t s z : Int) (l : List UInt8) : List UInt8 := if z < 0 then [] else putL l t s z.toNat

/-- What stands ahead of a message. -/
def pseudoL (s d : List UInt8) (p : UInt8) (z : Int) : List UInt8 :=
  if s.length = 4 ∧ d.length = 4 then sizedL 10 2 z (s ++ (d ++ [0, p, 0, 0]))
  else if s.length = 16 ∧ d.length = 16 then sizedL 32 4 z (s ++ (d ++ [0, 0, 0, 0, 0, 0, 0, p])) else []

end Go.Proofs.Ytemocbcibnccpaa
