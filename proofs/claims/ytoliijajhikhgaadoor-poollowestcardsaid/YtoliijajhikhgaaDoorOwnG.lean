/- Rows of the program's own, of things of c cells each: read and written in place. -/
import Derived.Test.YtoliijajhikhgaaDoorMid
import Derived.Test.YtoliijajhikhgaaDoorRws
namespace Go.Proofs.YtoliijajhikhgaaDoor
open Go Go.RowKit

theorem ownG_setCells {base : Nat} {e : TypeId} {size : Nat} {g n cap : Nat} : ∀ (vs : List Value) (w : World) (xs : List Value) (j : Nat), w.ownsRow base e size (.slice (some ⟨g, 0, none⟩) n cap) n xs → j + vs.length ≤ xs.length →
    (w.setCells g j vs).ownsRow base e size (.slice (some ⟨g, 0, none⟩) n cap) n (xs.take j ++ vs ++ xs.drop (j + vs.length))
  | [], w, xs, j, h, _ => by simpa [World.setCells] using h
  | v :: vs, w, xs, j, h, hj => by
    have hj2 : j < xs.length := by simp at hj; omega
    have := ownG_setCells vs (w.setCell ⟨g, j, none⟩ v) (xs.set j v) (j + 1) (h.stored j v).1 (by simp at hj ⊢; omega)
    rw [World.setCells]
    have e : (xs.set j v).take (j + 1) ++ vs ++ (xs.set j v).drop (j + 1 + vs.length) = xs.take j ++ (v :: vs) ++ xs.drop (j + (v :: vs).length) := by
      rw [List.drop_set_of_lt (by omega), List.take_set, List.take_succ_eq_append_getElem hj2, List.set_append_right _ _ (by simp; omega)]
      simp [Nat.min_eq_left (Nat.le_of_lt hj2), Nat.add_assoc, Nat.add_comm 1]
    rw [e] at this
    exact this
section
variable {α : Type} {f : α → List Value} {c : Nat} {w : World} {base g n cap : Nat} {e : TypeId} {M : List α}
theorem ownG_there (h : w.ownsRow base e c (.slice (some ⟨g, 0, none⟩) n cap) M.length (M.flatMap f)) (hf : ∀ x ∈ M, (f x).length = c) (i : Nat) (hi : i < M.length) : w.there g (i * c) c := by
  rcases h.2 with ⟨e0, _⟩ | ⟨g', cap', cur, e0, _, hg, _, _, hsz, ht⟩
  · cases e0
  · cases e0
    have hl := cflat_length M hf
    have : (cur.toList.take (M.length * c)).length = M.length * c := by rw [ht, hl]
    rw [List.length_take] at this
    have hcs : M.length * c ≤ cur.size := by
      have h1 := Nat.min_le_right (M.length * c) cur.toList.length
      rw [this, Array.length_toList] at h1
      exact h1
    intro j hj
    have hm : (i + 1) * c ≤ M.length * c := Nat.mul_le_mul_right c hi
    rw [Nat.succ_mul] at hm
    have hlt : i * c + j < cur.size := by omega
    exact ⟨by rw [cell_of_row w g _ _ _ _ hg]; simp [hlt], frozen_of_row w g _ _ _ hg⟩
theorem ownG_range (h : w.ownsRow base e c (.slice (some ⟨g, 0, none⟩) n cap) M.length (M.flatMap f)) (hf : ∀ x ∈ M, (f x).length = c) (i : Nat) (x : α) (hx : M[i]? = some x) : w.rangeAt g (i * c) (f x) := by
  rcases h.2 with ⟨e0, _⟩ | ⟨g', cap', cur, e0, _, hg, _, _, hsz, ht⟩
  · cases e0
  · cases e0
    have hr : w.rangeAt g 0 (M.flatMap f) := fun j v hj => by
      rw [Nat.zero_add, cell_of_row w g j _ _ _ hg]
      rw [← ht, List.getElem?_take] at hj
      split at hj
      · simpa using hj
      · cases hj
    have := flat_range hf hr i x hx
    rwa [Nat.zero_add] at this
theorem ownG_len (h : w.ownsRow base e c (.slice (some ⟨g, 0, none⟩) n cap) M.length (M.flatMap f)) : n = M.length ∧ M.length ≤ cap ∧ cap ≤ maxLen := by
  rcases h.2 with ⟨e0, _⟩ | ⟨g', cap', cur, e0, _, _, h3, h4, _⟩
  · cases e0
  · cases e0
    exact ⟨rfl, h3, h4⟩
theorem ownG_put (h : w.ownsRow base e c (.slice (some ⟨g, 0, none⟩) n cap) M.length (M.flatMap f)) (hf : ∀ x ∈ M, (f x).length = c) (i : Nat) (hi : i < M.length) (y : α) (hy : (f y).length = c) :
    (w.setCells g (i * c) (f y)).ownsRow base e c (.slice (some ⟨g, 0, none⟩) n cap) M.length ((M.set i y).flatMap f) := by
  obtain rfl := (ownG_len h).1
  have hm : (i + 1) * c ≤ M.length * c := Nat.mul_le_mul_right c hi
  rw [Nat.succ_mul] at hm
  have := ownG_setCells (f y) w (M.flatMap f) (i * c) h (by rw [cflat_length M hf, hy]; omega)
  rwa [hy, flat_put M hf i hi y] at this
theorem ownG_cell (h : w.ownsRow base e c (.slice (some ⟨g, 0, none⟩) n cap) M.length (M.flatMap f)) (hf : ∀ x ∈ M, (f x).length = c) (i j : Nat) (x y : α) (hx : M[i]? = some x) (hj : j < c) (v : Value) (hy : f y = (f x).set j v) :
    (w.setCell ⟨g, i * c + j, none⟩ v).ownsRow base e c (.slice (some ⟨g, 0, none⟩) n cap) M.length ((M.set i y).flatMap f) := by
  obtain rfl := (ownG_len h).1
  have := (h.stored (i * c + j) v).1
  rwa [flat_set M hf i j x y v hx hj hy] at this
theorem ownG_form {v : Value} (h : w.ownsRow base e c v M.length (M.flatMap f)) (hp : 0 < M.length) : ∃ g cap, v = .slice (some ⟨g, 0, none⟩) M.length cap := by
  rcases h.2 with ⟨_, e0⟩ | ⟨g', cap', cur, e0, _⟩
  · omega
  · exact ⟨_, _, e0⟩
theorem ownG_low {v : Value} {xs : List Value} (h : w.ownsRow base e c v n xs) : ∀ k, v.ownBlock = some k → base ≤ k ∧ k < w.heap.size := h.lt
theorem ownG_other {v : Value} {xs : List Value} {b : Nat} (h : w.ownsRow base e c v n xs) (hb : v.ownBlock ≠ some b) (N : List Value) (k : Nat) : (w.setCells b k N).ownsRow base e c v n xs :=
  own_kp h (kpo_setCells (O := fun x => x = b) rfl N k w) (fun q hq e => hb (by rw [hq, e]))
theorem ownG_otherC {v : Value} {xs : List Value} {b : Nat} (h : w.ownsRow base e c v n xs) (hb : v.ownBlock ≠ some b) (i : Nat) (u : Value) : (w.setCell ⟨b, i, none⟩ u).ownsRow base e c v n xs :=
  own_kp h (KpO.set (O := fun x => x = b) w b i u rfl) (fun q hq e => hb (by rw [hq, e]))
end
end Go.Proofs.YtoliijajhikhgaaDoor
