/- Slices of entries in memory, as lists. No conditions of its own. -/
import Derived.Test.YtljpndkgfjndbaaEnt1
namespace Go.Proofs.Ytljpndkgfjndbaa
open Go Go.RowKit

/-- v is a slice whose elements are the entries l, in the world w. -/
def IsE (w : World) (v : Value) (l : List Ent) : Prop :=
  ∃ a cap, v = .slice a l.length cap ∧ l.length ≤ cap ∧ cap ≤ maxLen ∧ (∀ e ∈ l, e.ok) ∧
    (0 < l.length → ∃ b off, a = some ⟨b, off, none⟩ ∧ b < w.heap.size ∧ ∀ i e, l[i]? = some e →
      w.cell? ⟨b, off + i * 4, none⟩ = some (.int .i64 e.L) ∧ w.cell? ⟨b, off + i * 4 + 1, none⟩ = some (.int .u8 e.C) ∧ w.cell? ⟨b, off + i * 4 + 2, none⟩ = some (.bool e.B) ∧ w.cell? ⟨b, off + i * 4 + 3, none⟩ = some (.int .u8 e.T))

theorem IsE.nil (w : World) : IsE w (.slice none 0 0) [] := ⟨none, 0, rfl, by simp, by simp [maxLen], fun _ h => by simp at h, fun h => by simp at h⟩

theorem IsE.below {w w' : World} {v : Value} {l : List Ent} (h : IsE w v l) (hb : Below w.heap.size w w') : IsE w' v l := by
  obtain ⟨a, cap, rfl, h1, h2, h0, h3⟩ := h
  refine ⟨a, cap, rfl, h1, h2, h0, fun hp => ?_⟩
  obtain ⟨b, off, rfl, hlt, hc⟩ := h3 hp
  refine ⟨b, off, rfl, Nat.lt_of_lt_of_le hlt hb.size, fun i e hi => ?_⟩
  obtain ⟨c0, c1, c2, c3⟩ := hc i e hi
  exact ⟨(hb.cell (p := ⟨b, _, none⟩) hlt).trans c0, (hb.cell (p := ⟨b, _, none⟩) hlt).trans c1, (hb.cell (p := ⟨b, _, none⟩) hlt).trans c2, (hb.cell (p := ⟨b, _, none⟩) hlt).trans c3⟩

theorem IsE.cells {w : World} {a : Option Addr} {l : List Ent} {n cap : Nat} (h : IsE w (.slice a n cap) l) :
    n = l.length ∧ l.length ≤ cap ∧ cap ≤ maxLen ∧ (∀ e ∈ l, e.ok) ∧ (0 < l.length → ∃ b off, a = some ⟨b, off, none⟩ ∧ b < w.heap.size ∧ ∀ i e, l[i]? = some e →
      w.cell? ⟨b, off + i * 4, none⟩ = some (.int .i64 e.L) ∧ w.cell? ⟨b, off + i * 4 + 1, none⟩ = some (.int .u8 e.C) ∧ w.cell? ⟨b, off + i * 4 + 2, none⟩ = some (.bool e.B) ∧ w.cell? ⟨b, off + i * 4 + 3, none⟩ = some (.int .u8 e.T)) := by
  obtain ⟨a2, cap2, he, h1, h2, h0, h3⟩ := h
  simp only [Value.slice.injEq] at he
  obtain ⟨rfl, rfl, rfl⟩ := he
  exact ⟨rfl, h1, h2, h0, h3⟩

/-- Are they the same, but for Bottom? -/
def alikeE (a b : Ent) : Bool := decide (a.L = b.L ∧ a.C = b.C ∧ a.T = b.T)
/-- Are they the same? -/
def exactE (a b : Ent) : Bool := decide (a.L = b.L ∧ a.C = b.C ∧ a.B = b.B ∧ a.T = b.T)
def allE (p : Ent → Ent → Bool) : List Ent → List Ent → Bool
  | [], [] => true
  | a :: l, b :: m => p a b && allE p l m
  | _, _ => false
theorem allE_length {p : Ent → Ent → Bool} : ∀ {l m : List Ent}, l.length ≠ m.length → allE p l m = false
  | [], [], h => by simp at h
  | [], _ :: _, _ => rfl
  | _ :: _, [], _ => rfl
  | a :: l, b :: m, h => by
    have h1 : allE p l m = false := allE_length (l := l) (m := m) (by simp at h; exact h)
    show (p a b && allE p l m) = false
    rw [h1]
    simp
theorem allE_drop {p : Ent → Ent → Bool} : ∀ {l m : List Ent} (k : Nat) {x y : Ent}, l[k]? = some x → m[k]? = some y → allE p (l.drop k) (m.drop k) = (p x y && allE p (l.drop (k + 1)) (m.drop (k + 1)))
  | a :: l, b :: m, 0, x, y, hx, hy => by
    simp at hx hy
    subst hx hy
    rfl
  | a :: l, b :: m, k + 1, x, y, hx, hy => by
    simp at hx hy
    simpa using allE_drop (p := p) (l := l) (m := m) k hx hy
  | [], _, k, _, _, hx, _ => by simp at hx
  | _ :: _, [], k, _, _, _, hy => by simp at hy

set_option maxHeartbeats 1000000 in
theorem alike_any (x y : Ent) (w : World) : Calls Try.prog 26 #[x.val, y.val] w fun r w' => r = .returned (.bool (alikeE x y)) ∧ Below w.heap.size w w' := by
  obtain ⟨L, C, B, T⟩ := x
  obtain ⟨L', C', B', T'⟩ := y
  unfold Ent.val alikeE
  simp only
  go_enter Try.func26, Try.ntmps26
  go_wp2
  all_goals
    go_ret
    exact ⟨ret_bool (by simp [*]), ((Below.refl _ _).alloc (Nat.le_refl _) _).alloc (by simp) _⟩
end Go.Proofs.Ytljpndkgfjndbaa
